import PyProof.Rows.All
import Wide.All
import OpenK.AllK
import Wide.FinOn
import Lean
import PyProof.EqAt
import PyProof.EqKinds
import PyProof.TupleCall
import PySem.Syntax
import KE.BitLaws
import PyProof.Rows.ZipGen
import PyProof.EnumMake
import PyProof.EnumFor
import PyProof.Rows.EnumRows
import PyProof.DictValues
import KE.KSortTup
import PyProof.Rows.SetFrom
import PyProof.WalksMore
import PyProof.FactsAll.set
import PyProof.ForAny
import PyProof.CollectWalk
import PyProof.ListRange
import PyProof.Rows.SortShell
import PyProof.TupleKey
import PyProof.IsRules
import PyProof.AttrMissHeap
import PyProof.ExcClass3
import PyProof.ExcInit
import PyProof.InstStoreFacts
import PyProof.InstLoad
import PyProof.ExcArgsOwn
import PyProof.ExcAttrAll.ValueError
import PyProof.StationsW
import KE.KDictList
import PyProof.MaxThree
import PyProof.Rows.SortRuns
import PyProof.Rows.SeqRoads
import PyProof.FactsAll.range_1
import PySem.Challenge.RW_lamprota_k15_steady_spans
noncomputable section
local macro_rules | `(tactic| simp! [$ls,*] $[$l:location]?) => `(tactic| simp only [$ls,*] $[$l]?)
open PySem renaming wpAny_bind -> AA, wpAny_pure -> AC, wpAny_call_entry -> BI, wpAny_callSpecial?_slot -> BM, wpAny_newObj_type -> BN, wpAny_holding -> BV, wpAny_setField_rec -> BW, sizeLine_eq -> CB, wpAny_setState_of -> CF, wpAny_seqItems -> CN, mem_of_lookup -> CQ, wpAny_field -> CT, wpAny_truthy_bool -> DF, codeAny_builtin -> DK, wpAny_Call_Name_kw -> DM, wpAny_mono -> DV, wpAny_setEntries_of -> ED, wpAny_forIn_list -> EG, wpAny_askSetting -> EJ, codeAny_mono -> EK, wpAny_loadPart' -> EL, wpAny_attempt -> FI, wpAny_passesOwn -> FM, tupleKind_room_in1 -> FS, wpAny_rule -> FV, richCompare_meets_room -> Gt, wpAny_typeOf -> GB, wpAny_storeSet_of -> GH, isSubtype_type -> GI, call_meets -> GP, wpAny_isInstance -> GS, plainId_quiet -> GY, wpAny_updateSeq_pair -> GZ, wpAny_pyIter_tuple -> HR, wpAny_fieldsOf -> HV, wpAny_pyIter_list -> IB, wpAny_of_eq -> IC, wpAny_pyIter_slot -> ID, wpAny_onRaise -> II, wpAny_newList -> IK, noFill_tuple_add -> IM, putSet_of -> IR, codeAny_of_tree -> JJ
open PySem.Heap renaming get?_push_of_some -> AB, get?_push_size -> AI, lt_size -> AJ, size_push -> CM, get?_update_ne -> CS, get?_update_self -> CV, get?_update_other -> IX
open List renaming getElem?_eq_getElem -> AD, size_toArray -> AE, mem_cons_of_mem -> AF, length_map -> AG, prefix_refl -> AK, getElem?_eq_some_iff -> AL, mem_cons_self -> AM, mem_cons -> AN, map_cons -> AO, length_cons -> AT, getElem?_append_left -> AV, all_eq_true -> AW, length_append -> AY, pairwise_cons -> BA, mem_append -> BB, not_mem_nil -> BD, mem_singleton -> BF, mem_map -> BJ, getD_eq_getElem?_getD -> BK, getElem?_map -> BL, mem_append_right -> BP, length_nil -> BQ, map_map -> BU, all_cons -> BX, map_nil -> CC, map_append -> CD, nil_prefix -> CH, mem_range -> CK, mem_of_getElem? -> CL, getElem_mem -> CO, any_cons -> CW, zip_cons_cons -> CZ, getElem?_set_ne -> Da, mem_iff_getElem -> Db, getElem?_append_right -> DG, take_of_length_le -> DH, map_congr_left -> DJ, all_map -> DN, getElem?_replicate -> DO, replicate_succ -> DP, getElem?_set_self -> DR, any_eq_true -> DU, getElem?_eq_none -> DX, pairwise_iff_getElem -> DY, mem_append_left -> Ev, length_take -> EE, lookup_cons -> EH, foldl_cons -> EM, find?_cons -> EN, length_singleton -> ES, take_append_drop -> EV, flatten_cons -> EW, ext_getElem? -> EX, length_range -> EY, getElem_of_mem -> FF, filterMap_cons_some -> FK, map_take -> FL, nodup_cons -> FN, forIn_cons -> FO, zip_nil_right -> FR, set_cons_succ -> FT, lookup_append -> FU, eraseIdx_cons_succ -> FX, length_eq_zero_iff -> FZ, length_eraseIdx_le -> Go, range_succ_eq_map -> GD, pairwise_lt_range -> GG, drop_eq_nil_of_le -> GK, eraseIdxIfInBounds_toArray -> GM, length_drop -> GO, cons_append -> GQ, countP_cons -> GW, pairwise_append -> HA, mem_filter -> HB, of_mem_zip -> HC, filterMap_cons -> HI, toList_toArray -> HJ, mem_filterMap -> HN, set_cons_zero -> HQ, drop_eq_getElem_cons -> HY, getElem?_zip_eq_some -> HZ, zip_nil_left -> If, append_assoc -> Ix, pairwise_map -> IE, any_eq_false -> IF, take_add_one -> IG, getElem?_take_of_lt -> IH, map_drop -> IL, getElem?_cons_zero -> IU, getElem?_cons_succ -> IV, append_nil -> JD, length_set -> JE, nil_append -> JH, length_replicate -> JK, dropLast_eq_take -> JL, getElem?_toArray -> JM, countP_mono_left -> JN, perm_append_comm -> JS, take_eq_take_iff -> JT, forIn_nil -> JV
open Nat renaming le_refl -> AH, ne_of_lt -> AR, lt_of_lt_of_le -> AS, le_trans -> CI, ne_of_gt -> CJ, zero_le -> CU, lt_irrefl -> DE, le_of_lt -> DZ, lt_succ_of_lt -> EB, lt_or_ge -> FB, le_succ -> FY, le_of_lt_succ -> GJ, lt_succ_self -> GR, le_add_right -> GU, mod_lt -> HU, eq_or_lt_of_le -> HW, succ_pos -> JC, not_lt -> KC
open Bool renaming false_eq_true -> AQ, false_ne_true -> AU, and_eq_true -> AX, not_true -> ER, beq_eq_decide_eq -> EU, not_false -> HX, and_false -> JW
open Array renaming length_toList -> AZ, getElem?_eq_getElem -> BS, getElem?_eq_some_iff -> DI, getElem?_toList -> ET, getElem?_setIfInBounds -> HH, getD_eq_getD_getElem? -> HL, perm_iff_toList_perm -> HS, getElem?_eq_none -> JB, toArray_toList -> JX
open PySem.F renaming called_set -> BC, slot_tuple_iterator_next -> DW, args_tuple_add_2 -> FH, entry_tuple_add -> FW, slot_tuple_add -> GA, plainAttrs_list -> GF, slot_dict_get -> GN, slot_dict_valueiterator_iter -> GV, args_tuple_iterator_next_1 -> HE, slot_zip_next -> HF, entry_tuple_iterator_next -> HK, slot_dict_values -> IJ, args_dict_get_3 -> IN, plainAttrs_dict -> IP, entry_type_call -> IS, plain_list_iadd -> IT, entry_dict_get -> IY, typeCall_set_1 -> IZ, entry_set_init -> JA, slot_list_pop -> JF, plain_set_new -> JP, slot_set_iter -> JQ
open Int renaming toNat_natCast -> BH, emod_lt_of_pos -> CG, emod_nonneg -> CY, le_refl -> EZ, fdiv_eq_ediv_of_nonneg -> HP
open Option.some renaming injEq -> BO, inj -> BY
open PySem.W renaming mg_none_of -> BR, kia_one -> EO, cellsFrom_some -> IW
open Classical renaming not_not -> BZ, byContradiction -> CP
open PyProof.Rows renaming slot_tuple_getitem -> CA, callWith_type1 -> DB, callWith_builtin1 -> EF, boot_sorted -> FJ, get?_update_seq -> FP, entry_list_sort -> JI, boot_set -> JR
open PySem.Around renaming under_plainId -> Do
open PyProof.Rows.F renaming plain_set_update_loop -> DA, entry_set_update_loop -> EI
open PySem.Paired renaming length -> DC
open PySem.Calls renaming spliced_cons -> DL, spliced_nil -> EA, call_function_entry -> FC, callWith_builtin -> GC, Name_function_global -> HM, evalArgs_plain -> JU
open PySem.Heap.SameBut renaming update -> DQ, refl -> KF
open Option renaming map_eq_some_iff -> DS, bind_some -> DT, isSome_iff_exists -> EC, getD_some -> FA, bind_eq_bind -> FE, pure_def -> HG, isSome_map -> IA, map_some -> JG
open PySem.AutoSeq1 renaming sub_tuple_tuple -> FG
open Prod.mk renaming injEq -> GX
open List.Pairwise renaming filterMap -> IQ
open PySem.W.Looks renaming of_pure -> JO
open PySem.Moved renaming eq_with -> JY
open PySem.SeqAt.EqAt renaming int_str -> JZ, str_int -> KA, int_int -> KB
open List.Perm renaming cons_inv -> KE
open PySem.IsTupleKey renaming typeIs -> KG
set_option Elab.async false
set_option linter.all false
set_option maxRecDepth 100000
namespace L2
open PySem PySem.Spec PyProof.Rows
noncomputable abbrev Key:=Sum Int Str
noncomputable def Bp:Key->Value->Bool
 |.inl k,v=>Value.isInt k v
 |.inr x,v=>Value.isStrOf x v
noncomputable def X8(w:World):Key->Int
 |.inl k=>hashInt k
 |.inr x=>hashStr w x
theorem cc:∀{k:Key} {v:Value},Bp k v=true->(∃i t,k=Sum.inl i/\v=Value.int i t)\/(∃x t,k=Sum.inr x/\v=Value.str x t)
 |.inl i,v,h=>by
  obtain⟨t,e⟩:=Value.isInt_shape (k:=i) (v:=v) h
  exact .inl ⟨i,t,rfl,e⟩
 |.inr x,v,h=>by
  obtain⟨t,e⟩:=Value.isStrOf_shape (x:=x) (v:=v) h
  exact .inr ⟨x,t,rfl,e⟩
theorem C7(i:Int)(t:Tok):Bp (.inl i) (.int i t)=true:=by simp[Bp,Value.isInt]
theorem C8(x:Str)(t:Tok):Bp (.inr x) (.str x t)=true:=by simp[Bp,Value.isStrOf]
theorem O9(a b:Int):decide ((Sum.inl a:Key)=Sum.inl b)=(a==b):=by
 by_cases e:a=b
 ·subst e;simp
 ·have h:¬(Sum.inl a:Key)=Sum.inl b:=λq=>e (Sum.inl.inj q)
  rw[decide_eq_false h]
  exact(beq_eq_false_iff_ne.mpr e).symm
theorem Pa(a b:Str):decide ((Sum.inr a:Key)=Sum.inr b)=decide (a=b):=by
 by_cases e:a=b
 ·subst e;simp
 ·have h:¬(Sum.inr a:Key)=Sum.inr b:=λq=>e (Sum.inr.inj q)
  rw[decide_eq_false h,decide_eq_false e]
theorem Pb(a:Int)(b:Str):decide ((Sum.inl a:Key)=Sum.inr b)=false:=decide_eq_false (λq=>nomatch q)
theorem Pc(a:Str)(b:Int):decide ((Sum.inr a:Key)=Sum.inl b)=false:=decide_eq_false (λq=>nomatch q)
noncomputable def br(prog:Program)(w:World):PySem.KeyKind prog w Key where
 is:=Bp
 hash:=X8 w
 inj:=λv a b ha hb=>by
  rcases cc ha with⟨i,t,rfl,rfl⟩ | ⟨x,t,rfl,rfl⟩
  ·rcases cc hb with⟨j,u,rfl,e⟩ | ⟨y,u,rfl,e⟩
   ·injection e with e1 _;rw[e1]
   ·exact nomatch e
  ·rcases cc hb with⟨j,u,rfl,e⟩ | ⟨y,u,rfl,e⟩
   ·exact nomatch e
   ·injection e with e1 _;rw[e1]
 byValue:=λk v h=>by
  rcases cc h with⟨i,t,rfl,rfl⟩ | ⟨x,t,rfl,rfl⟩<;>rfl
 pyHash:=λhv h=>by
  rcases cc hv with⟨i,t,rfl,rfl⟩ | ⟨x,t,rfl,rfl⟩
  ·exact wpAny_pyHash_int h
  ·exact wpAny_pyHash_str h
 eqBool:=λhu hv h=>by
  rcases cc hu with⟨i,t,rfl,rfl⟩ | ⟨x,t,rfl,rfl⟩
  ·rcases cc hv with⟨j,u,rfl,rfl⟩ | ⟨y,u,rfl,rfl⟩
   ·rw[O9]at h;exact wpAny_eqBool_int h
   ·rw[Pb]at h;exact JZ i t y u _ _ _ _ h
  ·rcases cc hv with⟨j,u,rfl,rfl⟩ | ⟨y,u,rfl,rfl⟩
   ·rw[Pc]at h;exact KA x t j u _ _ _ _ h
   ·rw[Pa]at h;exact wpAny_eqBool_str h
 «strs»:=λk x t v h=>by
  rcases cc h with⟨i,u,rfl,e⟩ | ⟨y,u,rfl,e⟩
  ·exact nomatch e
  ·injection e with e1 _
   subst e1
   cases v<;>rfl
theorem xm(prog:Program)(w:World)(i:Int)(t:Tok):(br prog w).is (.inl i) (.int i t)=true:=C7 i t
theorem xn(prog:Program)(w:World)(x:Str)(t:Tok):(br prog w).is (.inr x) (.str x t)=true:=C8 x t
inductive V where
 |non | bl (b:Bool) | int (i:Int) | str (x:Str) | byt (b:Array UInt8) | flt (b:UInt64) | ref (a:Addr) | ty (n:String)
 deriving DecidableEq
noncomputable def RelV:V->Value->Prop
 |.non,u=>u=Value.none
 |.bl b,u=>u=Value.bool b
 |.int i,u=>∃t,u=Value.int i t
 |.str x,u=>∃t,u=Value.str x t
 |.byt b,u=>∃t,u=Value.bytes b t
 |.flt b,u=>∃t,u=Value.float b t
 |.ref a,u=>u=Value.ref a
 |.ty n,u=>u=Value.type n
noncomputable abbrev bo:List V->List Value->Prop:=Paired RelV
theorem bo.length{xs:List V}{us:List Value}(r:bo xs us):xs.length=us.length:=DC r
theorem bo.get:∀{xs:List V} {us:List Value} {i:Nat} {x:V},bo xs us->xs[i]? = some x->∃u,us[i]? = some u/\RelV x u
 |_,_,_,_,.nil,e=>by simp at e
 |_,_,0,_,.cons r _,e=>by simp at e;subst e;exact⟨_,rfl,r⟩
 |_,_,i+1,x,.cons _ t,e=>by
  obtain⟨u,h1,h2⟩:=bo.get (i:=i) (x:=x) t (by simpa using e)
  exact⟨u,by simpa using h1,h2⟩
theorem bo.set{x:V}{u:Value}(r:RelV x u):∀{xs:List V} {us:List Value} (i:Nat),bo xs us->bo (xs.set i x) (us.set i u)
 |_,_,_,.nil=>.nil
 |_,_,0,.cons _ t=>.cons r t
 |_,_,i+1,.cons q t=>.cons q (bo.set r i t)
theorem bo.append:∀{xs ys:List V} {us ws:List Value},bo xs us->bo ys ws->bo (xs++ys) (us++ws)
 |_,_,_,_,.nil,s=>s
 |_,_,_,_,.cons r t,s=>.cons r (bo.append t s)
theorem bo.take:∀{xs:List V} {us:List Value} (n:Nat),bo xs us->bo (xs.take n) (us.take n)
 |_,_,0,_=>.nil
 |_,_,_+1,.nil=>.nil
 |_,_,n+1,.cons r t=>.cons r (bo.take n t)
theorem bo.drop:∀{xs:List V} {us:List Value} (n:Nat),bo xs us->bo (xs.drop n) (us.drop n)
 |_,_,0,r=>r
 |_,_,_+1,.nil=>.nil
 |_,_,n+1,.cons _ t=>bo.drop n t
noncomputable def J5:Option V->Option Value->Prop
 |some v,some u=>RelV v u
 |none,none=>True
 |_,_=>False
noncomputable def KV{κ:Type}:List (κ×V)->List (κ×Value)->Prop:=Paired fun(p:κ×V) (q:κ×Value)=>p.1=q.1/\RelV p.2 q.2
noncomputable def kV:Key->V
 |.inl i=>.int i
 |.inr x=>.str x
inductive HO where
 /-- a list -/
 |lst (xs:List V)
 /-- a tuple (never changes) -/
 |tup (xs:List V)
 /-- a dict whose keys are ints and texts;one whose keys are tuples of ints and texts (the empty one is both) -/
 |dK (kvs:List (Key×V)) | dT (kvs:List (List Key×V))
 /-- a set of ints: its members,its size -/
 |set (S:Int->Bool) (n:Nat)
 /-- an instance of the class at C,its dict at dx,its attributes -/
 |ins (C dx:Addr) (fs:List (Str×V))
 /-- the dict of the instance at x -/
 |own (x:Addr)
 /-- the dict of an exception -/
 |xd (fs:List (Str×V))
 /-- a bound method,f of x -/
 |met (f x:Addr)
 /-- a range object lo,lo+1,.. below hi -/
 |rng (lo hi:Int)
 /-- a thing that is known to the object (the script;a dict while a loop walks it): read,never written while it is so -/
 |frz (o:Obj) (u:HO)
 /-- a code object's table -/
 |tbl (ps:Array Value)
 /-- any other thing,by what is true of its one object (a def of one's own: SetO a S n:=HO.ext λh=>..) -/
 |ext (φ:Heap->Prop)
noncomputable abbrev Hp:=Addr->Option HO
noncomputable def upd(H:Hp)(a:Addr)(o:HO):Hp:=λb=>if b=a then some o else H b
theorem ax{H:Hp}{a:Addr}{o:HO}:upd H a o a=some o:=by unfold upd;rw[if_pos rfl]
theorem ao{H:Hp}{a b:Addr}{o:HO}(h:b≠a):upd H a o b=H b:=by unfold upd;rw[if_neg h]
theorem C9{H:Hp}{a:Addr}{o u:HO}:upd (upd H a o) a u=upd H a u:=by
 funext b;unfold upd;split<;>rfl
theorem j6{H:Hp}{a b:Addr}{o u:HO}(h:H a=some o)(h':H b=some u)(d:o≠u):a≠b:=by
 intro e;subst e;rw[h]at h';exact d (BY h')
theorem bh{H:Hp}{a b:Addr}{o:HO}(h:H a=some o)(h':H b=none):a≠b:=by
 intro e;subst e;rw[h]at h';cases h'
noncomputable def mn(h:Heap)(a:Addr)(items:Array Value):Prop:=∃o,h.get? a=some o/\o.cls=.type "tuple"/\o.dict=none/\∃n,o.data=.seq items n
theorem mn.tup{h:Heap}{a:Addr}{items:Array Value}(x:mn h a items):IsTup h a items:=let ⟨o,e,c,_,d⟩:=x;⟨o,e,c,d⟩
theorem mn.new(h:Heap)(items:Array Value):mn (h.push {cls:=.type "tuple",data:=.seq items}) h.objs.size items:=⟨_,AI _ rfl,rfl,rfl,_,rfl⟩
section
variable(P:Program)(w:World)
noncomputable def gj(H:Hp)(h:Heap)(a:Addr):HO->Prop
 |.lst xs=>xs.length<=sizeLine/\∃(its:List Value) (n:Nat),bo xs its/\h.get? a=some {cls:=.type "list",data:=.seq its.toArray n}
 |.tup xs=>xs.length<=sizeLine/\∃its:List Value,bo xs its/\mn h a its.toArray
 |.dK kvs=>kvs.length<=sizeLine/\(a==sysModules)=false/\∃vs,KV kvs vs/\h.DictOf (br P w) a vs
 |.dT kvs=>kvs.length<=sizeLine/\(a==sysModules)=false/\∃xs:List (List Key×Addr×Value),
   Paired (fun(p:List Key×V) (q:List Key×Addr×Value)=>p.1=q.1/\H q.2.1=some (.tup (p.1.map kV))/\RelV p.2 q.2.2) kvs xs /\
   ∃o es ep,h.get? a=some o/\o.ExactDict/\o.data=.dict es ep/\es.toList=xs.map (entryOfKey (tupleKind (br P w)))/\(xs.map (·.1)).Nodup
 |.set S n=>h.SetOf (intKind P w) a S n
 |.ins C dx fs=>H dx=some (.own a)/\fs.length<=1000/\dx≠a/\h.get? a=some (PySem.W.instObj C dx) /\
   ∃mA,h.Ns1 dx mA/\(∀f,J5 (fs.lookup f) (mA f))/\PySem.Within mA (fs.map (·.1))
 |.own _=>∃o,h.get? a=some o
 |.xd fs=>∃mA,h.Ns1 a mA/\∀f,J5 (fs.lookup f) (mA f)
 |.rng lo hi=>∃t u v,h.get? a=some {cls:=.type "range",data:=.fields #[.int lo t,.int hi u,.int 1 v]}
 |.frz o u=>h.get? a=some o/\gj H h a u
 |.tbl ps=>h.get? a=some {cls:=.none,data:=.fields ps}
 |.met f x=>h.get? a=some (PySem.W.methodObj (.ref f) (.ref x))
 |.ext φ=>φ h/\(∃o,h.get? a=some o)/\∀h1 h2:Heap,φ h1->(∀o,h1.get? a=some o->h2.get? a=some o)->φ h2
noncomputable def HOk(H:Hp)(h:Heap):Prop:=∀a o,H a=some o->gj P w H h a o
end
section
variable{P:Program}{w:World}{H H' : Hp}{h h' : Heap}{a:Addr}{o:HO}
theorem gj.lt(x:gj P w H h a o):a<h.objs.size:=by
 cases o with
 |lst xs=>obtain⟨_,_,_,_,e⟩:=x;exact AJ e
 |tup xs=>obtain⟨_,_,_,p⟩:=x;exact p.tup.lt
 |dK kvs=>obtain⟨_,_,_,_,o,_,_,e,_⟩:=x;exact AJ e
 |dT kvs=>obtain⟨_,_,_,_,o,_,_,e,_⟩:=x;exact AJ e
 |set S n=>obtain⟨o,_,_,_,e,_⟩:=x;exact AJ e
 |ins C dx fs=>obtain⟨_,_,_,e,_⟩:=x;exact AJ e
 |own y=>obtain⟨_,e⟩:=x;exact AJ e
 |xd fs=>obtain⟨_,⟨_,_,_,e,_⟩,_⟩:=x;exact AJ e
 |rng lo hi=>obtain⟨_,_,_,e⟩:=x;exact AJ e
 |frz ob u=>obtain⟨e,_⟩:=x;exact AJ e
 |tbl ps=>exact AJ (show h.get? a=some _ from x)
 |met f y=>exact AJ (show h.get? a=some _ from x)
 |ext φ=>obtain⟨_,⟨_,e⟩,_⟩:=x;exact AJ e
theorem Paired.mapP{α β:Type}{F G:α->β->Prop}:∀{l₁:List α} {l₂:List β},Paired F l₁ l₂->(∀a b,F a b->G a b)->Paired G l₁ l₂
 |_,_,.nil,_=>.nil
 |_,_,.cons r t,f=>.cons (f _ _ r) (Paired.mapP t f)
theorem gj.stay (x:gj P w H h a o) (k:∀b u,(b=a\/H b=some (.own a))->h.get? b=some u->h'.get? b=some u)
  (ho:∀b,H b=some (.own a)->H' b=some (.own a)) (ht:∀b xs,H b=some (.tup xs)->H' b=some (.tup xs)):gj P w H' h' a o:=by
 induction o with
 |lst xs=>obtain⟨z,its,n,r,e⟩:=x;exact⟨z,its,n,r,k _ _ (.inl rfl) e⟩
 |tup xs=>obtain⟨z,its,r,ob,e,c⟩:=x;exact⟨z,its,r,ob,k _ _ (.inl rfl) e,c⟩
 |dK kvs=>obtain⟨z,y,vs,r,ob,es,ep,e,c⟩:=x;exact⟨z,y,vs,r,ob,es,ep,k _ _ (.inl rfl) e,c⟩
 |dT kvs =>
  obtain⟨z,y,xs,r,ob,es,ep,e,c⟩:=x
  exact⟨z,y,xs,Paired.mapP r λp q z=>⟨z.1,ht _ _ z.2.1,z.2.2⟩,ob,es,ep,k _ _ (.inl rfl) e,c⟩
 |set S n=>obtain⟨ob,es,ep,t,e,c⟩:=x;exact⟨ob,es,ep,t,k _ _ (.inl rfl) e,c⟩
 |ins C dx fs =>
  obtain⟨d,z,ne,e,mA,⟨od,es,ep,e2,c⟩,r⟩:=x
  exact⟨ho _ d,z,ne,k _ _ (.inl rfl) e,mA,⟨od,es,ep,k _ _ (.inr d) e2,c⟩,r⟩
 |own y=>obtain⟨ob,e⟩:=x;exact⟨ob,k _ _ (.inl rfl) e⟩
 |xd fs=>obtain⟨mA,⟨od,es,ep,e,c⟩,r⟩:=x;exact⟨mA,⟨od,es,ep,k _ _ (.inl rfl) e,c⟩,r⟩
 |rng lo hi=>obtain⟨t,u,v,e⟩:=x;exact⟨t,u,v,k _ _ (.inl rfl) e⟩
 |frz ob u ih=>obtain⟨e,q⟩:=x;exact⟨k _ _ (.inl rfl) e,ih q⟩
 |tbl ps =>
  have e:h.get? a=some {cls:=.none,data:=.fields ps}:=x
  show h'.get? a=some {cls:=.none,data:=.fields ps}
  exact k a _ (.inl rfl) e
 |met f y =>
  have e:h.get? a=some (PySem.W.methodObj (.ref f) (.ref y)):=x
  show h'.get? a=some (PySem.W.methodObj (.ref f) (.ref y))
  exact k a _ (.inl rfl) e
 |ext φ=>obtain⟨p,⟨o,e⟩,st⟩:=x;exact⟨st _ _ p λo q=>k _ _ (.inl rfl) q,⟨o,k _ _ (.inl rfl) e⟩,st⟩
theorem HOk.lt(x:HOk P w H h)(e:H a=some o):a<h.objs.size:=(x a o e).lt
theorem HOk.fresh(x:HOk P w H h)(e:h.objs.size<=a):H a=none:=by
 cases q:H a with
 |none=>rfl
 |some u=>exact absurd (AS (x.lt q) e) (DE _)
theorem HOk.kept(x:HOk P w H h)(k:∀b u,h.get? b=some u->h'.get? b=some u):HOk P w H h':=λa o e =>
 (x a o e).stay (λb u _ q=>k b u q) (λ_ q=>q) λ_ _ q=>q
theorem HOk.laid(x:HOk P w H h)(k:∀b u,h.get? b=some u->h'.get? b=some u)(hp:h.objs.size<=a)(new:gj P w (upd H a o) h' a o):HOk P w (upd H a o) h':=λb u e=>by
 have hn:=x.fresh hp
 by_cases hb:b=a
 ·subst hb;rw[ax]at e;cases e;exact new
 ·rw[ao hb]at e
  exact(x b u e).stay (λc v _ q=>k c v q) (λc q=>by rw[ao (bh q hn)];exact q) λc xs q=>by rw[ao (bh q hn)];exact q
end
noncomputable def Rd(H:Hp)(a:Addr)(u:HO):Prop:=H a=some u\/∃o,H a=some (.frz o u)
theorem Rd.ok{P:Program}{w:World}{H:Hp}{h:Heap}{a:Addr}{u:HO}(r:Rd H a u)(x:HOk P w H h):gj P w H h a u:=by
 rcases r with r | ⟨o,r⟩
 ·exact x a u r
 ·obtain⟨_,q⟩:=x a _ r
  exact q
noncomputable def Mut:Option HO->Prop
 |some (.lst _)=>True
 |some (.dK _)=>True
 |some (.dT _)=>True
 |some (.set _ _)=>True
 |some (.ins _ _ _)=>True
 |some (.ext _)=>True
 |_=>False
section
variable{P:Program}{w:World}{H:Hp}{h h' : Heap}{x e:Addr}{o' : HO}
theorem HOk.write (ok:HOk P w H h) (mu:Mut (H x)) (he:e=x\/H e=some (.own x)) (k:∀b u,b≠e->h.get? b=some u->h'.get? b=some u) (heo:∃u,h'.get? e=some u)
  (new:gj P w (upd H x o') h' x o'):HOk P w (upd H x o') h':=λb u q=>by
 have nown:∀c y,H c=some (.own y)->c≠x:=λc y r z=>by subst z;rw[r]at mu;exact mu
 have ntup:∀c xs,H c=some (.tup xs)->c≠x:=λc xs r z=>by subst z;rw[r]at mu;exact mu
 by_cases hb:b=x
 ·subst hb;rw[ax]at q;cases q;exact new
 ·rw[ao hb]at q
  by_cases hbe:b=e
  ·have q':H b=some (.own x):=by
    rcases he with z | z
    ·exact absurd (hbe.trans z) hb
    ·rw[hbe];exact z
   rw[q]at q';cases q'
   obtain⟨v,hv⟩:=heo
   exact⟨v,by rw[hbe];exact hv⟩
  ·refine(ok b u q).stay (λc v hc r=>k c v ?_ r) (λc r=>by rw[ao (nown c b r)];exact r) λc xs r=>by rw[ao (ntup c xs r)];exact r
   rcases hc with rfl | hc
   ·exact hbe
   ·rintro rfl
    rcases he with z | z
    ·exact nown c b hc z
    ·rw[hc]at z;cases z;exact hb rfl
end
structure Un (fs ex:List Addr) (H H':Hp) (h h':Heap):Prop where
 keep:∀b o,h.get? b=some o->H b=none->b∉fs->b∉ex->h'.get? b=some o
 slot:∀b o,h.get? b=some o->H b=none->b∈fs->b∉ex->∃sl,h'.get? b=some {o with slots:=sl}
 free:∀b o,h.get? b=some o->H b=none->b∉ex->H' b=none
 there:∀b o,h.get? b=some o->b∉ex->∃o',h'.get? b=some o'
 tups:∀b xs,H b=some (.tup xs)->H' b=some (.tup xs)
 frzs:∀b o u,H b=some (.frz o u)->H' b=some (.frz o u)
 tbls:∀b ps,H b=some (.tbl ps)->∃more,H' b=some (.tbl (ps++more))
section
variable{fs fs' ex ex' : List Addr}{H H1 H2:Hp}{h h1 h2 h' : Heap}{a x e:Addr}{o:HO}
theorem Un.any(u:Un fs ex H H1 h h1){b:Addr}{ob:Obj}(q:h.get? b=some ob)(n:H b=none)(hx:b∉ex):∃sl,h1.get? b=some {ob with slots:=sl}:=by
 by_cases hb:b∈fs
 ·exact u.slot b ob q n hb hx
 ·exact⟨ob.slots,u.keep b ob q n hb hx⟩
theorem Un.kept(k:∀b u,h.get? b=some u->h'.get? b=some u):Un fs ex H H h h' :=
 ⟨λb ob q _ _ _=>k b ob q,λb ob q _ _ _=>⟨ob.slots,k b ob q⟩,λ_ _ _ n _=>n,λb ob q _=>⟨ob,k b ob q⟩,λ_ _ q=>q,λ_ _ _ q=>q,λ_ ps q=>⟨#[],by rw[q];simp⟩⟩
theorem Un.refl:Un fs ex H H h h:=Un.kept λ_ _ q=>q
theorem Un.laid(k:∀b u,h.get? b=some u->h'.get? b=some u)(hp:h.objs.size<=a)(hn:H a=none):Un fs ex H (upd H a o) h h' where
 keep:=λb u q _ _ _=>k b u q
 slot:=λb u q _ _ _=>⟨u.slots,k b u q⟩
 free:=λb u q n _=>by rw[ao (AR (AS (AJ q) hp))];exact n
 there:=λb u q _=>⟨u,k b u q⟩
 tups:=λb xs q=>by rw[ao (bh q hn)];exact q
 frzs:=λb u xs q=>by rw[ao (bh q hn)];exact q
 tbls:=λb ps q=>⟨#[],by rw[ao (bh q hn),q];simp⟩
theorem Un.write(mu:Mut (H x))(he:e=x\/H e=some (.own x))(k:∀b u,b≠e->h.get? b=some u->h'.get? b=some u)(heo:∃u,h'.get? e=some u):Un fs ex H (upd H x o) h h':=by
 have hx:∀b,H b=none->b≠x:=λb n z=>by subst z;rw[n]at mu;exact mu
 have hb:∀b,H b=none->b≠e:=λb n z=>by
  subst z
  rcases he with r | r
  ·exact hx b n r
  ·rw[n]at r;cases r
 have hm:∀b u,H b=some u->¬Mut (some u)->b≠x:=λb u q nm z=>by subst z;rw[q]at mu;exact nm mu
 refine⟨λb u q n _ _=>k b u (hb b n) q,λb u q n _ _=>⟨u.slots,k b u (hb b n) q⟩,λb u q n _=>by rw[ao (hx b n)];exact n,λb u q _=>?_,
  λb xs q=>by rw[ao (hm b _ q λz=>z)];exact q,λb u xs q=>by rw[ao (hm b _ q λz=>z)];exact q,λb ps q=>⟨#[],by rw[ao (hm b _ q λz=>z),q];simp⟩⟩
 by_cases hbe:b=e
 ·subst hbe;exact heo
 ·exact⟨u,k b u hbe q⟩
end
noncomputable def trk(h:Heap)(H:Hp):List Addr:=(List.range h.objs.size).filter λa=>(H a).isSome
noncomputable def Hg(h:Heap)(H:Hp):Heap:=PySem.W.hideAll h (trk h H)
theorem Dc(h:Heap)(H:Hp):(Hg h H).objs.size=h.objs.size:=PySem.W.hideAll_size _ _
theorem Hh{h:Heap}{H:Hp}{b:Addr}{o:Obj}(e:h.get? b=some o)(n:H b=none):(Hg h H).get? b=some o :=
 PySem.W.hideAll_get _ e λhm=>by
  have q:(H b).isSome=true:=(HB.mp hm).2
  rw[n]at q;simp at q
theorem Mh{h:Heap}{H:Hp}{b:Addr}{o:Obj}(e:(Hg h H).get? b=some o):h.get? b=some o/\H b=none:=by
 have e':h.get? b=some o:=PySem.W.of_hideAll (trk h H) e
 refine⟨e',?_⟩
 cases q:H b with
 |none=>rfl
 |some x =>
  have hm:b∈trk h H:=HB.mpr ⟨CK.mpr (AJ e'),by simp[q]⟩
  have z:(Hg h H).get? b=none:=PySem.W.hideAll_none (trk h H) hm
  rw[z]at e;cases e
noncomputable def Mi(g h:Heap)(L:Addr):List (Addr×Obj):=(List.range h.objs.size).filterMap λa=>if a=L\/(g.get? a).isSome=true then none else(h.get? a).map λo=>(a,o)
noncomputable def rest(g h:Heap)(L d:Addr):List (Addr×Obj):=(Mi g h L).filter λp=>decide (p.1≠d)
structure Mod (K:PySem.W.Frag) (mg:Str->Option Value) (base:Heap):Prop where
 kin:K.In base
 glob:base.Ns mainGlobals mg
 blt:∃mb,base.Ns builtinsNs mb/\∀x:Str,x≠"__name__"->mb x=bootBuiltins x
 nolimit:base.NoLimit
structure Cx where
 prog:Program
 w:World
 K:PySem.W.Frag
 mg:Str->Option Value
 base:Heap
 A:Around
 N:List Str
 s₀:Shared
 H₀:Hp
 env:Env
 outer:List Env
 stack:List Env
 ex:List Addr
 fn:Str->Bool
 calm:Bool
 pn:List (Addr×Obj)
 xe:Value->Shared->Prop
noncomputable def frs(l:List Env):List Addr:=l.filterMap (·.frame)
noncomputable abbrev Cx.fs(X:Cx):List Addr:=frs X.outer
noncomputable def Vis(sc:Scope)(x:Str):Prop:=sc.names.lookup x=some .local\/sc.names.lookup x=some .cell\/sc.names.lookup x=some .free
noncomputable def Loc(sc:Scope)(x:Str):Prop:=sc.names.lookup x=some .local\/sc.names.lookup x=some .cell
noncomputable def Look(env:Env)(h:Heap)(m:Str->Option Value)(x:Str)(u:Value):Prop :=
 (env.kindOf x=some .local/\m x=some u)\/((env.kindOf x=some .cell\/env.kindOf x=some .free)/\∃c,env.cells.lookup x=some c/\h.IsCell c (some u))
structure Cx.Ok (X:Cx):Prop where
 mod:Mod X.K X.mg X.base
 kind:X.env.scope.kind=.function
 glob:X.env.globals=mainGlobals
 blt:X.env.builtins=builtinsNs
 above:X.s₀.heap.objs.size<=X.env.locals
 inj:∀x y c,X.env.cells.lookup x=some c->X.env.cells.lookup y=some c->x=y
 has:∀x,(X.env.kindOf x=some .cell\/X.env.kindOf x=some .free)->∃c,X.env.cells.lookup x=some c
 cab:∀x c,X.fn x=true->X.env.cells.lookup x=some c->X.s₀.heap.objs.size<=c
 hd:X.calm=true->X.A.handled=none
 frames:X.A.frames=some X.stack
 stk:X.stack=X.outer\/(X.stack=X.env::X.outer/\X.env.frame=some X.env.locals)
 exf:∀b∈X.ex,b≠X.env.locals/\∀x c,X.env.cells.lookup x=some c->c≠b
 bs:∀b o,X.base.get? b=some o->X.s₀.heap.get? b=some o/\X.H₀ b=none
 bsz:X.base.objs.size<=X.s₀.heap.objs.size
 noex:∀b o,X.base.get? b=some o->b∉X.ex
 exfs:∀b∈X.ex,b∉X.fs
 funs:X.s₀.heap.FunFrames X.base X.outer
 frf:∀b∈X.fs,X.H₀ b=none
structure Inv (X:Cx) (pins:List (Addr×Obj)) (σ:List (Option V)) (H:Hp) (s:Shared):Prop where
 ok:X.Ok
 os:s.os=X.s₀.os
 bare:AllBare s.gens
 base:Un X.fs X.ex X.H₀ H X.s₀.heap s.heap
 loc:∃m,s.heap.Ns X.env.locals m/\∀(i:Nat) (x:Str) (v:V),X.N[i]? = some x->σ[i]? = some (some v)->Vis X.env.scope x->∃u,RelV v u/\Look X.env s.heap m x u
 cell:∀x c,X.env.cells.lookup x=some c->∃v,s.heap.IsCell c v
 free:H X.env.locals=none
 freeC:∀x c,X.env.cells.lookup x=some c->H c=none
 pin:∀p∈X.pn++pins,s.heap.get? p.1=some p.2/\H p.1=none/\p.1≠X.env.locals/\p.1∉X.fs/\∀v,p.2.data≠.cell v
 hok:HOk X.prog X.w H s.heap
 len:σ.length=X.N.length
section
variable{X:Cx}{pins:List (Addr × Obj)}{σ:List (Option V)}{H H' : Hp}{s:Shared}{h' : Heap}
theorem Cx.Ok.nofr(ok:X.Ok){b:Addr}{o:Obj}(e:X.base.get? b=some o):b∉X.fs:=λhb=>by
 have:=(ok.funs.mem hb).1
 rw[e]at this;cases this
theorem Inv.bs(I:Inv X pins σ H s):∀b o,X.base.get? b=some o->s.heap.get? b=some o/\H b=none:=λb o e =>
 ⟨I.base.keep b o (I.ok.bs b o e).1 (I.ok.bs b o e).2 (I.ok.nofr e) (I.ok.noex b o e),I.base.free b o (I.ok.bs b o e).1 (I.ok.bs b o e).2 (I.ok.noex b o e)⟩
theorem Inv.bk(I:Inv X pins σ H s):∀b o,X.base.get? b=some o->s.heap.get? b=some o:=λb o e=>(I.bs b o e).1
theorem Inv.mod(I:Inv X pins σ H s):Mod X.K X.mg X.base:=I.ok.mod
theorem Inv.kIn(I:Inv X pins σ H s):X.K.In s.heap:=I.ok.mod.kin.keeps I.bk
theorem Inv.fr(I:Inv X pins σ H s):∃m,Fr X.base X.env.locals s.heap m :=
 let ⟨m,hn,_⟩:=I.loc
 ⟨m,hn,I.bk,CI I.ok.bsz I.ok.above⟩
theorem Inv.lt(I:Inv X pins σ H s):X.env.locals<s.heap.objs.size:=let ⟨_,hn,_⟩:=I.loc;hn.lt
theorem Inv.sz(I:Inv X pins σ H s):X.s₀.heap.objs.size<=s.heap.objs.size:=CI I.ok.above (DZ I.lt)
theorem Inv.nofs(I:Inv X pins σ H s){a:Addr}(h:s.heap.objs.size<=a):a∉X.fs:=λhb=>by
 obtain⟨_,o,ho,_⟩:=I.ok.funs.mem hb
 exact absurd (AS (AJ ho) (CI I.sz h)) (DE _)
theorem Inv.cne(I:Inv X pins σ H s):∀x c,X.env.cells.lookup x=some c->c≠X.env.locals:=λx c e z=>by
 obtain⟨v,o,ho,hd⟩:=I.cell x c e
 obtain⟨m,⟨o',es,ep,ho',hd',_⟩,_⟩:=I.loc
 rw[z,ho']at ho;cases ho;rw[hd']at hd;cases hd
theorem Inv.funs(I:Inv X pins σ H s):s.heap.FunFrames X.base X.outer:=by
 have all:∀(l:List Env),(∀b∈frs l,b∈X.fs)->X.s₀.heap.FunFrames X.base l->s.heap.FunFrames X.base l:=by
  intro l
  induction l with
  |nil=>intro _ _;trivial
  |cons env r ih =>
   intro hs hl
   obtain⟨hk,⟨L,o,hf,hn,ho,hd⟩,hr⟩:=hl
   have hL:L∈X.fs:=hs L (by unfold frs;rw[HI,hf];exact AM)
   obtain⟨sl,e⟩:=I.base.slot L o ho (I.ok.frf L hL) hL λz=>I.ok.exfs L z hL
   exact⟨hk,⟨L,_,hf,hn,e,hd⟩,ih (λb hb=>hs b (by unfold frs;rw[HI,hf];exact AF _ hb)) hr⟩
 exact all X.outer (λ_ hb=>hb) I.ok.funs
theorem Inv.stack(I:Inv X pins σ H s):s.heap.FunFrames X.base X.stack:=by
 rcases I.ok.stk with e | ⟨e,hf⟩
 ·rw[e];exact I.funs
 ·rw[e]
  obtain⟨m,hn,_⟩:=I.loc
  refine .cons (by rw[I.ok.kind];decide) hf hn ?_ I.funs
  exact Heap.get?_none_of_le (CI I.ok.bsz I.ok.above)
theorem Inv.stkSub(I:Inv X pins σ H s):∀b∈frs X.stack,b∈X.env.locals::X.fs:=λb hb=>by
 rcases I.ok.stk with e | ⟨e,hf⟩
 ·rw[e]at hb;exact AF _ hb
 ·rw[e]at hb
  unfold frs at hb
  rw[HI,hf]at hb
  exact hb
theorem Inv.stkFree(I:Inv X pins σ H s):∀b∈frs X.stack,H b=none:=λb hb=>by
 rcases AN.mp (I.stkSub b hb)with e | hb
 ·rw[e];exact I.free
 ·obtain⟨_,o,ho,_⟩:=I.ok.funs.mem hb
  exact I.base.free b o ho (I.ok.frf b hb) λz=>I.ok.exfs b z hb
theorem Inv.step {g':Array GenState} {t':Nat} {d':Drawn} {ch:List Addr} (I:Inv X pins σ H s)
  (hch:∀b∈ch,(b∈X.ex\/X.s₀.heap.objs.size<=b)/\b≠X.env.locals/\(∀x c,X.env.cells.lookup x=some c->c≠b)/\∀p∈X.pn++pins,p.1≠b)
  (keep:∀b o,b≠X.env.locals->b∉X.fs->b∉ch->s.heap.get? b=some o->H b=none->h'.get? b=some o)
  (slot:∀b o,b≠X.env.locals->b∈X.fs->b∉ch->s.heap.get? b=some o->H b=none->∃sl,h'.get? b=some {o with slots:=sl}) (free:∀b o,b∉ch->s.heap.get? b=some o->H b=none->H' b=none)
  (there:∀b o,b∉ch->s.heap.get? b=some o->∃o',h'.get? b=some o')
  (tups:∀b xs,H b=some (.tup xs)->H' b=some (.tup xs)) (frzs:∀b o u,H b=some (.frz o u)->H' b=some (.frz o u)) (tbls:∀b ps,H b=some (.tbl ps)->∃more,H' b=some (.tbl (ps++more)))
  (ns:∀m,s.heap.Ns X.env.locals m->h'.Ns X.env.locals m) (hok:HOk X.prog X.w H' h') (hg:AllBare g') :
  Inv X pins σ H' {s with heap:=h',gens:=g',drawn:=d',toks:=t'}:=by
 have neL:∀b o,X.s₀.heap.get? b=some o->b≠X.env.locals:=λb o e=>AR (AS (AJ e) I.ok.above)
 have neC:∀b o,X.s₀.heap.get? b=some o->b∉X.ex->b∉ch:=λb o e hx hb=>by
  rcases(hch b hb).1 with z | z
  ·exact hx z
  ·exact absurd (AS (AJ e) z) (DE _)
 have cellK:∀x c,X.env.cells.lookup x=some c->∀v,s.heap.IsCell c v->h'.IsCell c v:=λx c e v ⟨o,ho,hd⟩=>by
  have nch:c∉ch:=λz=>(hch c z).2.2.1 x c e rfl
  by_cases hc:c∈X.fs
  ·obtain⟨sl,q⟩:=slot c o (I.cne x c e) hc nch ho (I.freeC x c e)
   exact⟨_,q,hd⟩
  ·exact⟨o,keep c o (I.cne x c e) hc nch ho (I.freeC x c e),hd⟩
 refine⟨I.ok,I.os,hg,⟨λb o e n hb hx=>?_,λb o e n hb hx=>?_,λb o e n hx=>?_,λb o e hx=>?_,λb xs e=>tups b xs (I.base.tups b xs e),λb o xs e=>frzs b o xs (I.base.frzs b o xs e),λb ps e=>?_⟩,?_,λx c e=>?_,?_,λx c e=>?_,λp hp=>?_,hok,I.len⟩
 ·exact keep b o (neL b o e) hb (neC b o e hx) (I.base.keep b o e n hb hx) (I.base.free b o e n hx)
 ·obtain⟨sl,e1⟩:=I.base.slot b o e n hb hx
  obtain⟨sl',e2⟩:=slot b _ (neL b o e) hb (neC b o e hx) e1 (I.base.free b o e n hx)
  exact⟨sl',e2⟩
 ·obtain⟨o',e1⟩:=I.base.there b o e hx
  exact free b o' (neC b o e hx) e1 (I.base.free b o e n hx)
 ·obtain⟨o',e1⟩:=I.base.there b o e hx
  exact there b o' (neC b o e hx) e1
 ·obtain⟨m1,e1⟩:=I.base.tbls b ps e
  obtain⟨m2,e2⟩:=tbls b _ e1
  exact⟨m1++m2,by rw[e2,Array.append_assoc]⟩
 ·obtain⟨m,hn,hl⟩:=I.loc
  refine⟨m,ns m hn,λi x v e1 e2 e3=>?_⟩
  obtain⟨u,r,l⟩:=hl i x v e1 e2 e3
  refine⟨u,r,?_⟩
  rcases l with l | ⟨k,c,e,z⟩
  ·exact .inl l
  ·exact .inr ⟨k,c,e,cellK x c e _ z⟩
 ·obtain⟨v,z⟩:=I.cell x c e
  exact⟨v,cellK x c e v z⟩
 ·obtain⟨m,⟨o,_,_,ho,_⟩,_⟩:=I.loc
  exact free _ o (λz=>(hch _ z).2.1 rfl) ho I.free
 ·obtain⟨v,o,ho,hd⟩:=I.cell x c e
  exact free c o (λz=>(hch c z).2.2.1 x c e rfl) ho (I.freeC x c e)
 ·obtain⟨e,n,ne,nf,d⟩:=I.pin p hp
  have nch:p.1∉ch:=λz=>(hch p.1 z).2.2.2 p hp rfl
  exact⟨keep p.1 p.2 ne nf nch e n,free p.1 p.2 nch e n,ne,nf,d⟩
theorem Inv.un{t':Nat}(I:Inv X pins σ H s)(u:Un X.fs [] H H' s.heap h')(hok:HOk X.prog X.w H' h'):Inv X pins σ H' {s with heap:=h',toks:=t'}:=by
 obtain⟨m,⟨o,es,ep,ho,r⟩,_⟩:=id I.loc
 obtain⟨sl,hL⟩:=u.any ho I.free (by simp)
 exact I.step (g':=s.gens) (d':=s.drawn) (ch:=[]) (λ_ z=>nomatch z) (λb o _ hb _ e n=>u.keep b o e n hb (by simp)) (λb o _ hb _ e n=>u.slot b o e n hb (by simp)) (λb o _ e n=>u.free b o e n (by simp)) (λb o _ e=>u.there b o e (by simp)) u.tups u.frzs u.tbls (λm' hm=>by
  obtain⟨o',es',ep',ho',r'⟩:=hm
  rw[ho]at ho';cases ho'
  exact⟨_,es',ep',hL,r'⟩) hok I.bare
theorem Inv.call {g':Array GenState} {t':Nat} {d':Drawn} {ch:List Addr} (I:Inv X pins σ H s) (u:Un (frs X.stack) ch H H' s.heap h') (hok:HOk X.prog X.w H' h') (hg:AllBare g')
  (hch:∀b∈ch,(b∈X.ex\/X.s₀.heap.objs.size<=b)/\b≠X.env.locals/\(∀x c,X.env.cells.lookup x=some c->c≠b)/\∀p∈X.pn++pins,p.1≠b) :
  Inv X pins σ H' {s with heap:=h',gens:=g',drawn:=d',toks:=t'}:=by
 obtain⟨m,⟨o,es,ep,ho,r⟩,_⟩:=id I.loc
 obtain⟨sl,hL⟩:=u.any ho I.free λz=>(hch _ z).2.1 rfl
 exact I.step (ch:=ch) hch (λb o hL hb hc e n=>u.keep b o e n (λz=>(AN.mp (I.stkSub b z)).elim hL hb) hc) (λb o _ _ hc e n=>u.any e n hc) (λb o hc e n=>u.free b o e n hc) (λb o hc e=>u.there b o e hc) u.tups u.frzs u.tbls (λm' hm=>by
  obtain⟨o',es',ep',ho',r'⟩:=hm
  rw[ho]at ho';cases ho'
  exact⟨_,es',ep',hL,r'⟩) hok hg
theorem Inv.turned {t':Nat} {it:Addr} (I:Inv X pins σ H s) (k:∀b o,b≠it->s.heap.get? b=some o->h'.get? b=some o) (hn:H it=none) (hL:it≠X.env.locals)
  (h1:it∈X.ex\/X.s₀.heap.objs.size<=it) (h2:∀x c,X.env.cells.lookup x=some c->c≠it) (h3:∀p∈X.pn++pins,p.1≠it):Inv X pins σ H {s with heap:=h',toks:=t'}:=by
 have nit:∀b u,H b=some u->b≠it:=λb u e z=>by rw[z,hn]at e;cases e
 refine I.step (g':=s.gens) (d':=s.drawn) (ch:=[it]) (λb hb=>?_) (λb o _ _ hc e _=>k b o (λz=>hc (by simp[z])) e) (λb o _ _ hc e _=>⟨o.slots,k b o (λz=>hc (by simp[z])) e⟩) (λ_ _ _ _ n=>n)
  (λb o hc e=>⟨o,k b o (λz=>hc (by simp[z])) e⟩) (λ_ _ e=>e) (λ_ _ _ e=>e) (λb ps e=>⟨#[],by rw[e];simp⟩) (λm hm=>?_) (λb u e=>?_) I.bare
 ·have e:b=it:=by simpa using hb
  subst e
  exact⟨h1,hL,h2,h3⟩
 ·obtain⟨o,es,ep,ho,r⟩:=hm
  exact⟨o,es,ep,k _ o (Ne.symm hL) ho,r⟩
 ·refine(I.hok b u e).stay (λc v hc q=>k c v ?_ q) (λ_ q=>q) λ_ _ q=>q
  rcases hc with z | z
  ·rw[z];exact nit b u e
  ·exact nit c _ z
theorem Inv.tok(I:Inv X pins σ H s)(t:Nat):Inv X pins σ H {s with toks:=t}:=I.un (h':=s.heap) (t':=t) Un.refl I.hok
theorem Inv.kept{t':Nat}(I:Inv X pins σ H s)(k:∀b u,s.heap.get? b=some u->h'.get? b=some u):Inv X pins σ H {s with heap:=h',toks:=t'}:=I.un (Un.kept k) (I.hok.kept k)
theorem Inv.laid{a:Addr}{o:HO}{t':Nat}(I:Inv X pins σ H s)(k:∀b u,s.heap.get? b=some u->h'.get? b=some u)(hp:s.heap.objs.size<=a)(new:gj X.prog X.w (upd H a o) h' a o) :
  Inv X pins σ (upd H a o) {s with heap:=h',toks:=t'}:=I.un (Un.laid k hp (I.hok.fresh hp)) (I.hok.laid k hp new)
theorem Inv.write {x e:Addr} {o:HO} {t':Nat} (I:Inv X pins σ H s) (mu:Mut (H x)) (he:e=x\/H e=some (.own x)) (k:∀b u,b≠e->s.heap.get? b=some u->h'.get? b=some u) (heo:∃u,h'.get? e=some u)
  (new:gj X.prog X.w (upd H x o) h' x o):Inv X pins σ (upd H x o) {s with heap:=h',toks:=t'}:=I.un (Un.write mu he k heo) (I.hok.write mu he k heo new)
theorem Inv.weak{σ':List (Option V)}(I:Inv X pins σ H s)(hl:σ'.length=σ.length)(w:∀(i:Nat) v,σ'[i]? = some (some v)->σ[i]? = some (some v)):Inv X pins σ' H s :=
 ⟨I.ok,I.os,I.bare,I.base,let ⟨m,hn,hl'⟩:=I.loc;⟨m,hn,λi x v e1 e2 e3=>hl' i x v e1 (w i v e2) e3⟩,I.cell,I.free,I.freeC,I.pin,I.hok,hl.trans I.len⟩
theorem Inv.pins_of{pins':List (Addr×Obj)}(I:Inv X pins σ H s)(h:∀p∈pins',s.heap.get? p.1=some p.2/\H p.1=none/\p.1≠X.env.locals/\p.1∉X.fs/\∀v,p.2.data≠.cell v):Inv X pins' σ H s :=
 ⟨I.ok,I.os,I.bare,I.base,I.loc,I.cell,I.free,I.freeC,λp hp=>(BB.mp hp).elim (λz=>I.pin p (Ev _ z)) (h p),I.hok,I.len⟩
theorem zp{N:List Str}(hN:N.Nodup){i j:Nat}{x:Str}(a:N[i]? = some x)(b:N[j]? = some x):i=j:=by
 obtain⟨h1,e1⟩:=AL.mp a
 obtain⟨h2,e2⟩:=AL.mp b
 exact(List.getElem_inj hN).mp (e1.trans e2.symm)
theorem uq {M:Model} {A:Around} {E:Value->Shared->Prop} {i:Nat} {x:Str} {v:V} {u:Value} {Q:Unit->Shared->Prop} (I:Inv X pins σ H s) (hN:X.N.Nodup) (hi:X.N[i]? = some x) (hx:Loc X.env.scope x) (r:RelV v u)
  (h:∀s',Inv X pins (σ.set i (some v)) H s'->(∃a,Heap.SameBut a s.heap s'.heap/\(a=X.env.locals\/X.env.cells.lookup x=some a))->Q () s') (hf:X.fn x=true\/X.env.scope.names.lookup x=some .local:=by first | exact .inl rfl | exact .inr rfl | assumption):wpAny M A (storeName X.env x u) Q E s:=by
 obtain⟨m,hn,hl⟩:=id I.loc
 have hcls:(X.env.scope.kind==.class || (X.env.scope.kind==.module&&X.env.locals != X.env.globals))=false:=by rw[I.ok.kind];rfl
 have hiσ:i<σ.length:=by rw[I.len];exact(AL.mp hi).1
 have cne:=I.cne
 have tracked:∀{a:Addr} {h':Heap},(∃o,s.heap.get? a=some o/\H a=none)->Heap.SameBut a s.heap h'->HOk X.prog X.w H h':=λ{a h'} ha hs b ob e=>by
  obtain⟨_,_,hfree⟩:=ha
  refine(I.hok b ob e).stay (λc w' hc q=>(hs.2 c ?_).trans q) (λ_ q=>q) λ_ _ q=>q
  rintro rfl
  rcases hc with rfl | hc
  ·rw[hfree]at e;cases e
  ·rw[hfree]at hc;cases hc
 rcases hx with hk | hk
 ·refine wpAny_storeName_local hk hn (λh' hn' hs=>?_) hcls
  obtain⟨oL,_,_,hoL,_⟩:=id hn
  refine h _ ⟨I.ok,I.os,I.bare,⟨λb o e n hb hx=>?_,λb o e n hb hx=>?_,I.base.free,λb o e hx=>?_,I.base.tups,I.base.frzs,I.base.tbls⟩,⟨_,hn',λj y v' e1 e2 e3=>?_⟩,λy c e=>?_,I.free,I.freeC,λp hp=>?_,tracked ⟨oL,hoL,I.free⟩ hs,by simpa using I.len⟩ ⟨_,hs,.inl rfl⟩
  ·exact(hs.2 b (AR (AS (AJ e) I.ok.above))).trans (I.base.keep b o e n hb hx)
  ·obtain⟨sl,e1⟩:=I.base.slot b o e n hb hx
   exact⟨sl,(hs.2 b (AR (AS (AJ e) I.ok.above))).trans e1⟩
  ·obtain⟨o',e1⟩:=I.base.there b o e hx
   exact⟨o',(hs.2 b (AR (AS (AJ e) I.ok.above))).trans e1⟩
  ·by_cases hj:j=i
   ·subst hj
    rw[hi]at e1;cases e1
    rw[DR hiσ]at e2
    cases e2
    exact⟨u,r,.inl ⟨hk,by simp⟩⟩
   ·rw[Da (Ne.symm hj)]at e2
    obtain⟨u',r',q⟩:=hl j y v' e1 e2 e3
    refine⟨u',r',?_⟩
    rcases q with⟨k,e⟩ | ⟨k,c,e,z⟩
    ·refine .inl ⟨k,?_⟩
     have:y≠x:=λe=>hj (zp hN e1 (e ▸ hi))
     simp[this,e]
    ·exact .inr ⟨k,c,e,z.sameBut hs (cne y c e)⟩
  ·obtain⟨w',z⟩:=I.cell y c e
   exact⟨w',z.sameBut hs (cne y c e)⟩
  ·obtain⟨e,n,ne,nf,d⟩:=I.pin p hp
   exact⟨(hs.2 p.1 ne).trans e,n,ne,nf,d⟩
 ·have hfn:X.fn x=true:=by
   rcases hf with z | z
   ·exact z
   ·rw[z]at hk;cases hk
  obtain⟨c,hc⟩:=I.ok.has x (.inl hk)
  obtain⟨w',z⟩:=I.cell x c hc
  refine wpAny_storeName_cell I.ok.kind hk hc z (λh' hc' hs=>?_)
  obtain⟨oc,hoc,hocd⟩:=id z
  refine h {s with heap:=h'} ⟨I.ok,I.os,I.bare,⟨λb o e n hb hx=>?_,λb o e n hb hx=>?_,I.base.free,λb o e hx=>?_,I.base.tups,I.base.frzs,I.base.tbls⟩,⟨m,hn.sameBut hs (Ne.symm (cne x c hc)),λj y v' e1 e2 e3=>?_⟩,λy c' e=>?_,I.free,I.freeC,λp hp=>?_,tracked ⟨oc,hoc,I.freeC x c hc⟩ hs,by simpa using I.len⟩ ⟨c,hs,.inr hc⟩
  ·exact(hs.2 b (AR (AS (AJ e) (I.ok.cab x c hfn hc)))).trans (I.base.keep b o e n hb hx)
  ·obtain⟨sl,e1⟩:=I.base.slot b o e n hb hx
   exact⟨sl,(hs.2 b (AR (AS (AJ e) (I.ok.cab x c hfn hc)))).trans e1⟩
  ·obtain⟨o',e1⟩:=I.base.there b o e hx
   exact⟨o',(hs.2 b (AR (AS (AJ e) (I.ok.cab x c hfn hc)))).trans e1⟩
  ·by_cases hj:j=i
   ·subst hj
    rw[hi]at e1;cases e1
    rw[DR hiσ]at e2
    cases e2
    exact⟨u,r,.inr ⟨.inl hk,c,hc,hc'⟩⟩
   ·rw[Da (Ne.symm hj)]at e2
    obtain⟨u',r',q⟩:=hl j y v' e1 e2 e3
    refine⟨u',r',?_⟩
    rcases q with q | ⟨k,c',e,z'⟩
    ·exact .inl q
    ·refine .inr ⟨k,c',e,z'.sameBut hs ?_⟩
     rintro rfl
     exact hj (zp hN e1 (I.ok.inj _ _ _ e hc ▸ hi))
  ·by_cases hcc:c'=c
   ·subst hcc;exact⟨_,hc'⟩
   ·obtain⟨w2,z2⟩:=I.cell y c' e
    exact⟨w2,z2.sameBut hs hcc⟩
  ·obtain⟨e,n,ne,nf,d⟩:=I.pin p hp
   refine⟨(hs.2 p.1 ?_).trans e,n,ne,nf,d⟩
   intro q
   rw[q,hoc]at e
   have q':oc=p.2:=BY e
   exact d w' (by rw[<-q'];exact hocd)
theorem zq {M:Model} {A:Around} {E:Value->Shared->Prop} {i:Nat} {x:Str} {v:V} {u:Value} {Q:Unit->Shared->Prop} (I:Inv X pins σ H s) (hN:X.N.Nodup) (hi:X.N[i]? = some x) (hx:Loc X.env.scope x) (r:RelV v u)
  (h:∀s',Inv X pins (σ.set i (some v)) H s'->Q () s') (hf:X.fn x=true\/X.env.scope.names.lookup x=some .local:=by first | exact .inl rfl | exact .inr rfl | assumption):wpAny M A (storeName X.env x u) Q E s :=
 uq I hN hi hx r (λs' I' _=>h s' I') hf
theorem Inv.call' {s':Shared} {ch:List Addr} (I:Inv X pins σ H s) (ho:s'.os=s.os) (u:Un (frs X.stack) ch H H' s.heap s'.heap) (hok:HOk X.prog X.w H' s'.heap) (hg:AllBare s'.gens)
  (hch:∀b∈ch,(b∈X.ex\/X.s₀.heap.objs.size<=b)/\b≠X.env.locals/\(∀x c,X.env.cells.lookup x=some c->c≠b)/\∀p∈X.pn++pins,p.1≠b):Inv X pins σ H' s':=by
 obtain⟨h',g',d',t',o'⟩:=s'
 have e:o'=s.os:=ho
 subst e
 exact I.call (g':=g') (t':=t') (d':=d') u hok hg hch
end
noncomputable abbrev XK:=Value->Option Addr->Hp->Prop
noncomputable abbrev St:=List (Option V)
noncomputable abbrev VK:=V->Hp->Prop
noncomputable abbrev TE:=St->Hp->VK->Prop
noncomputable abbrev TT:=St->Hp->(Bool->Hp->Prop)->Prop
noncomputable abbrev TA:=St->Hp->(List V->Hp->Prop)->Prop
structure Ends where
 nx:St->Hp->Prop
 rt:VK
 bk:St->Hp->Prop:=λ_ _=>False
 ct:St->Hp->Prop:=λ_ _=>False
noncomputable abbrev TS:=Ends->St->Hp->Prop
noncomputable def EP(X:Cx)(pins:List (Addr×Obj))(σ:St)(Q:VK)(u:Value)(s':Shared):Prop:=∃v H',Inv X pins σ H' s'/\RelV v u/\Q v H'
noncomputable def TP(X:Cx)(pins:List (Addr×Obj))(σ:St)(Q:Bool->Hp->Prop)(b:Bool)(s':Shared):Prop:=∃H',Inv X pins σ H' s'/\Q b H'
noncomputable def AP(X:Cx)(pins:List (Addr×Obj))(σ:St)(Q:List V->Hp->Prop)(us:List Value)(s':Shared):Prop:=∃vs H',Inv X pins σ H' s'/\bo vs us/\Q vs H'
noncomputable def SP(X:Cx)(pins:List (Addr×Obj))(D:Ends)(f:Flow)(s':Shared):Prop :=
 match f with
 |.next=>∃σ' H',Inv X pins σ' H' s'/\D.nx σ' H'
 |.brk=>∃σ' H',Inv X pins σ' H' s'/\D.bk σ' H'
 |.cont=>∃σ' H',Inv X pins σ' H' s'/\D.ct σ' H'
 |.ret u=>∃v σ' H',Inv X pins σ' H' s'/\RelV v u/\D.rt v H'
noncomputable def PE(X:Cx)(e:Expr)(t:TE):Prop :=
 ∀(pins:List (Addr×Obj)) (s:Shared) (σ:St) (H:Hp) (Q:VK),Inv X pins σ H s->t σ H Q->wpAny (model X.prog X.w) X.A (eval e X.env) (EP X pins σ Q) X.xe s
noncomputable def PT(X:Cx)(e:Expr)(t:TT):Prop :=
 ∀(pins:List (Addr×Obj)) (s:Shared) (σ:St) (H:Hp) (Q:Bool->Hp->Prop),Inv X pins σ H s->t σ H Q->wpAny (model X.prog X.w) X.A (isTrue e X.env (eval e X.env)) (TP X pins σ Q) X.xe s
noncomputable def PW(X:Cx)(e:Expr)(t:TT):Prop :=
 ∀(whole:Sem Value) (pins:List (Addr×Obj)) (s:Shared) (σ:St) (H:Hp) (Q:Bool->Hp->Prop),Inv X pins σ H s->t σ H Q->wpAny (model X.prog X.w) X.A (isTrue e X.env whole) (TP X pins σ Q) X.xe s
theorem PW.pt{X:Cx}{e:Expr}{t:TT}(h:PW X e t):PT X e t:=h _
noncomputable def PA(X:Cx)(es:List Expr)(t:TA):Prop :=
 ∀(pos:Pos) (pins:List (Addr×Obj)) (s:Shared) (σ:St) (H:Hp) (Q:List V->Hp->Prop),Inv X pins σ H s->t σ H Q->wpAny (model X.prog X.w) X.A (spliced (backTo pos (starEach es X.env))) (AP X pins σ Q) X.xe s
noncomputable def PS(X:Cx)(st:Stmt)(t:TS):Prop :=
 ∀(pins:List (Addr×Obj)) (s:Shared) (σ:St) (H:Hp) (D:Ends),Inv X pins σ H s->t D σ H->wpAny (model X.prog X.w) X.A (exec st X.env) (SP X pins D) X.xe s
noncomputable def PSs(X:Cx)(st:List Stmt)(t:TS):Prop :=
 ∀(pins:List (Addr×Obj)) (s:Shared) (σ:St) (H:Hp) (D:Ends),Inv X pins σ H s->t D σ H->wpAny (model X.prog X.w) X.A (execs st X.env) (SP X pins D) X.xe s
theorem thn{α:Type}{t:Sem α}{Q Q':α->Shared->Prop}{M:Model}{A:Around}{E:Value->Shared->Prop}{s:Shared}(h:wpAny M A t Q E s)(hQ:∀a s,Q a s->Q' a s):wpAny M A t Q' E s:=DV h hQ λ_ _ x=>x
section
variable{X:Cx}
theorem bin {a b:Expr} {ta tb:TE} (ha:PE X a ta) (hb:PE X b tb) {pins:List (Addr×Obj)} {s:Shared} {σ:St} {H:Hp} {R:V->V->Hp->Prop} (I:Inv X pins σ H s) (h:ta σ H λx H1=>tb σ H1 λy H2=>R x y H2)
  {α:Type} {Q:α->Shared->Prop} {f:Value->Value->Sem α}
  (hf:∀v u s2 x y H2,Inv X pins σ H2 s2->RelV x v->RelV y u->R x y H2->wpAny (model X.prog X.w) X.A (f v u) Q X.xe s2) :
  wpAny (model X.prog X.w) X.A (eval a X.env) (λv s₁=>wpAny (model X.prog X.w) X.A (eval b X.env) (λu s₂=>wpAny (model X.prog X.w) X.A (f v u) Q X.xe s₂) X.xe s₁) X.xe s:=by
 refine thn (ha pins s σ H _ I h) λv s1 ⟨x,H1,I1,r1,q1⟩=>?_
 refine thn (hb pins s1 σ H1 _ I1 q1) λu s2 ⟨y,H2,I2,r2,q2⟩=>?_
 exact hf v u s2 x y H2 I2 r1 r2 q2
noncomputable def Ww(i:Nat):TE:=λσ H Q=>∃v,σ[i]? = some (some v)/\Q v H
noncomputable def tC(v:V):TE:=λ_ H Q=>Q v H
theorem qe{i:Nat}{x:Str}{pos:Pos}(hN:X.N[i]? = some x)(hv:Vis X.env.scope x)(hd:(x==("__debug__":Str))=false:=by decide)(hcd:(x==("__classdict__":Str))=false:=by decide):PE X (.Name x pos) (Ww i):=by
 intro pins s σ H Q I h
 obtain⟨v,e,h⟩:=h
 obtain⟨m,hn,hl⟩:=I.loc
 obtain⟨u,r,l⟩:=hl i x v hN e hv
 have fin:EP X pins σ Q u s:=⟨v,H,I,r,h⟩
 rcases l with⟨hk,hm⟩ | ⟨hk,c,hc,hcell⟩
 ·exact wpAny_Name (wpAny_loadName_local I.ok.kind hk hn hm fin) hd
 ·rcases hk with hk | hk
  ·exact wpAny_Name (wpAny_loadName_cell I.ok.kind hk hc hcell fin) hd
  ·exact wpAny_Name (wpAny_loadName_free I.ok.kind hk hc hcell fin hcd) hd
theorem J6{i j pos}:PE X (.Constant (.int i) j pos) (tC (.int i)):=λ_ _ _ H _ I h=>wpAny_Constant_int ⟨.int i,H,I.tok _,⟨_,rfl⟩,h⟩
theorem Uc{b j pos}:PE X (.Constant (.bool b) j pos) (tC (.bl b)):=λ_ _ _ H _ I h=>Constant_bool ⟨.bl b,H,I,rfl,h⟩
noncomputable def Gl(X:Cx)(x:Str):Prop:=X.env.kindOf x=some .globalImplicit
theorem Mj {E:Value->Shared->Prop} {pins:List (Addr×Obj)} {s:Shared} {σ:St} {H:Hp} {x:Str} {u:Value} {pos:Pos} {Q:Value->Shared->Prop} (I:Inv X pins σ H s) (hg:Gl X x) (hm:X.mg x=some u) (h:Q u s)
  (hd:(x==("__debug__":Str))=false:=by decide):wpAny (model X.prog X.w) X.A (eval (.Name x pos) X.env) Q E s :=
 HM I.ok.kind hg (Calls.loadGlobal_global (by rw[I.ok.glob];exact I.mod.glob.keeps I.bk) hm h) hd
theorem ko {E:Value->Shared->Prop} {pins:List (Addr×Obj)} {s:Shared} {σ:St} {H:Hp} {x:Str} {u:Value} {pos:Pos} {Q:Value->Shared->Prop} (I:Inv X pins σ H s) (hg:Gl X x) (hm:X.mg x=none) (hv:bootBuiltins x=some u) (h:Q u s)
  (hn:x≠"__name__":=by decide) (hd:(x==("__debug__":Str))=false:=by decide):wpAny (model X.prog X.w) X.A (eval (.Name x pos) X.env) Q E s:=by
 obtain⟨mb,h1,h2⟩:=I.mod.blt
 exact HM I.ok.kind hg (Calls.loadGlobal_builtin (by rw[I.ok.glob];exact I.mod.glob.keeps I.bk) hm (by rw[I.ok.blt];exact h1.keeps I.bk) ((h2 x hn).trans hv) h) hd
theorem Ml{x:Str}{v:V}{u:Value}{pos:Pos}(hg:Gl X x)(hm:X.mg x=none)(hv:bootBuiltins x=some u)(r:RelV v u)(hn:x≠"__name__":=by decide)(hd:(x==("__debug__":Str))=false:=by decide):PE X (.Name x pos) (tC v) :=
 λ_ _ _ H _ I h=>ko I hg hm hv ⟨v,H,I,r,h⟩ hn hd
variable{a b:Expr}{ta tb:TE}{pos:Pos}
variable{tA tB' : TT}{rest:List Expr}
noncomputable def X9(t u:TT):TT:=λσ H Q=>t σ H λc H1=>if c=true then u σ H1 Q else Q false H1
noncomputable def tOr(t u:TT):TT:=λσ H Q=>t σ H λc H1=>if c=true then Q true H1 else u σ H1 Q
noncomputable def Ya(t:TT):TT:=λσ H Q=>t σ H λc H1=>Q (!c) H1
theorem Mm(ha:PT X a tA):PW X (.BoolOp .And [a] pos) tA:=by
 intro wh pins s σ H Q I h
 refine isTrue_and (thn (ha pins s σ H Q I h) λc s1 e=>?_)
 cases c with
 |true=>exact isTrue_and_nil e
 |false=>exact e
theorem Pd(ha:PT X a tA):PW X (.BoolOp .Or [a] pos) tA:=by
 intro wh pins s σ H Q I h
 refine isTrue_or (thn (ha pins s σ H Q I h) λc s1 e=>?_)
 cases c with
 |false=>exact isTrue_or_nil e
 |true=>exact e
theorem Pe(ha:PT X a tA)(hb:PW X (.BoolOp .And (b::rest) pos) tB'):PW X (.BoolOp .And (a::b::rest) pos) (X9 tA tB'):=by
 intro wh pins s σ H Q I h
 refine isTrue_and (thn (ha pins s σ H _ I h) λc s1 ⟨H1,I1,q1⟩=>?_)
 cases c with
 |true=>exact hb wh pins s1 σ H1 Q I1 q1
 |false=>exact⟨H1,I1,q1⟩
theorem Ud(ha:PT X a tA)(hb:PW X (.BoolOp .Or (b::rest) pos) tB'):PW X (.BoolOp .Or (a::b::rest) pos) (tOr tA tB'):=by
 intro wh pins s σ H Q I h
 refine isTrue_or (thn (ha pins s σ H _ I h) λc s1 ⟨H1,I1,q1⟩=>?_)
 cases c with
 |true=>exact⟨H1,I1,q1⟩
 |false=>exact hb wh pins s1 σ H1 Q I1 q1
theorem Pf(ha:PT X a tA):PT X (.UnaryOp .Not a pos) (Ya tA):=by
 intro pins s σ H Q I h
 exact isTrue_not (ha pins s σ H (λc H1=>Q (!c) H1) I h)
noncomputable def Ue(ta tb:TE):TE:=λσ H Q=>ta σ H λx H1=>∃c,x=.bl c/\if c=true then tb σ H1 Q else Q (.bl false) H1
noncomputable def Yb(ta tb:TE):TE:=λσ H Q=>ta σ H λx H1=>∃c,x=.bl c/\if c=true then Q (.bl true) H1 else tb σ H1 Q
noncomputable def Ug(ta:TE):TE:=λσ H Q=>ta σ H λx H1=>∃c,x=.bl c/\Q (.bl (!c)) H1
theorem J7{op}{t:TE}(h:PE X a t):PE X (.BoolOp op [a] pos) t:=λpins s σ H Q I hw=>BoolOp_one (h pins s σ H Q I hw)
theorem Pg(ha:PE X a ta)(hb:PE X (.BoolOp .And (b::rest) pos) tb):PE X (.BoolOp .And (a::b::rest) pos) (Ue ta tb):=by
 intro pins s σ H Q I h
 refine BoolOp_and (thn (ha pins s σ H _ I h) λv s1 ⟨x,H1,I1,r1,q1⟩=>?_)
 obtain⟨c,rfl,q1⟩:=q1
 cases r1
 refine DF ?_
 cases c with
 |true=>exact hb pins s1 σ H1 Q I1 q1
 |false=>exact⟨.bl false,H1,I1,rfl,q1⟩
theorem Uh(ha:PE X a ta)(hb:PE X (.BoolOp .Or (b::rest) pos) tb):PE X (.BoolOp .Or (a::b::rest) pos) (Yb ta tb):=by
 intro pins s σ H Q I h
 refine BoolOp_or (thn (ha pins s σ H _ I h) λv s1 ⟨x,H1,I1,r1,q1⟩=>?_)
 obtain⟨c,rfl,q1⟩:=q1
 cases r1
 refine DF ?_
 cases c with
 |false=>exact hb pins s1 σ H1 Q I1 q1
 |true=>exact⟨.bl true,H1,I1,rfl,q1⟩
theorem Ph(ha:PE X a ta):PE X (.UnaryOp .Not a pos) (Ug ta):=by
 intro pins s σ H Q I h
 refine UnaryOp_ (thn (ha pins s σ H _ I h) λv s1 ⟨x,H1,I1,r1,q1⟩=>?_)
 obtain⟨c,rfl,q1⟩:=q1
 cases r1
 exact not_of (DF ⟨.bl (!c),H1,I1,rfl,q1⟩)
end
noncomputable def SqL(K:PySem.W.Frag)(H:Hp)(a:Addr)(xs:List V):Prop :=
 Rd H a (.lst xs) \/
  ∃(o:Obj) (its:Array Value) (n:Nat),K.lookup a=some o/\o.cls=.type "list"/\o.dict=none/\o.data=.seq its n/\its.size<=sizeLine/\bo xs its.toList
noncomputable def SqT(K:PySem.W.Frag)(H:Hp)(a:Addr)(xs:List V):Prop :=
 Rd H a (.tup xs) \/
  ∃(o:Obj) (its:Array Value) (n:Nat),K.lookup a=some o/\o.cls=.type "tuple"/\o.data=.seq its n/\its.size<=sizeLine/\bo xs its.toList/\o.dict=none
noncomputable def Yc:Value->Option V
 |.none=>some .non
 |.bool b=>some (.bl b)
 |.int i _=>some (.int i)
 |.str x _=>some (.str x)
 |.bytes b _=>some (.byt b)
 |.float b _=>some (.flt b)
 |.ref a=>some (.ref a)
 |.type n=>some (.ty n)
 |_=>none
theorem RelV.abs{x:V}{u:Value}(r:RelV x u):Yc u=some x:=by
 cases x with
 |non=>cases r;rfl
 |bl _=>cases r;rfl
 |int _=>obtain⟨t,rfl⟩:=r;rfl
 |str _=>obtain⟨t,rfl⟩:=r;rfl
 |byt _=>obtain⟨t,rfl⟩:=r;rfl
 |flt _=>obtain⟨t,rfl⟩:=r;rfl
 |ref _=>cases r;rfl
 |ty _=>cases r;rfl
theorem RelV.inj{x y:V}{u:Value}(r:RelV x u)(q:RelV y u):x=y:=BY (r.abs.symm.trans q.abs)
theorem bo.inj:∀{xs ys:List V} {us:List Value},bo xs us->bo ys us->xs=ys
 |_,_,_,.nil,.nil=>rfl
 |_,_,_,.cons r t,.cons r' t'=>by rw[r.inj r',bo.inj t t']
section
variable{X:Cx}{pins:List (Addr × Obj)}{σ:St}{H:Hp}{s:Shared}{a:Addr}{xs ys:List V}
theorem SqL.of{K:PySem.W.Frag}(h:H a=some (.lst xs)):SqL K H a xs:=.inl (.inl h)
theorem SqT.of{K:PySem.W.Frag}(h:H a=some (.tup xs)):SqT K H a xs:=.inl (.inl h)
theorem Inv.list(I:Inv X pins σ H s)(h:SqL X.K H a xs):∃its:List Value,bo xs its/\PlainL s.heap a its.toArray/\xs.length<=sizeLine:=by
 rcases h with h | ⟨o,its,n,hk,hc,hd,hs,hz,r⟩
 ·obtain⟨z,its,n,r,e⟩:=h.ok I.hok
  exact⟨its,r,⟨_,n,e,rfl,rfl,rfl⟩,z⟩
 ·refine⟨its.toList,r,⟨o,n,I.kIn a o hk,hc,hd,by simpa using hs⟩,?_⟩
  have e:=r.length
  simp![AZ]at e
  lia
theorem Inv.tuple(I:Inv X pins σ H s)(h:SqT X.K H a xs):∃its:List Value,bo xs its/\IsTup s.heap a its.toArray/\xs.length<=sizeLine:=by
 rcases h with h | ⟨o,its,n,hk,hc,hs,hz,r,_⟩
 ·obtain⟨z,its,r,p⟩:=h.ok I.hok
  exact⟨its,r,p.tup,z⟩
 ·refine⟨its.toList,r,⟨o,I.kIn a o hk,hc,n,by simpa using hs⟩,?_⟩
  have e:=r.length
  simp![AZ]at e
  lia
theorem Inv.list_inj(I:Inv X pins σ H s)(h:SqL X.K H a xs)(h':SqL X.K H a ys):xs=ys:=by
 obtain⟨its,r,⟨o,n,e,_,_,d⟩,_⟩:=I.list h
 obtain⟨its',r',⟨o',n',e',_,_,d'⟩,_⟩:=I.list h'
 rw[e]at e';cases e'
 rw[d]at d'
 injection d' with d1 _
 have:its=its':=by simpa using congrArg Array.toList d1
 subst this
 exact r.inj r'
theorem Inv.tuple_inj(I:Inv X pins σ H s)(h:SqT X.K H a xs)(h':SqT X.K H a ys):xs=ys:=by
 obtain⟨its,r,⟨o,e,_,n,d⟩,_⟩:=I.tuple h
 obtain⟨its',r',⟨o',e',_,n',d'⟩,_⟩:=I.tuple h'
 rw[e]at e';cases e'
 rw[d]at d'
 injection d' with d1 _
 have:its=its':=by simpa using congrArg Array.toList d1
 subst this
 exact r.inj r'
end
noncomputable abbrev Cx.wish(X:Cx)(E:Value->Shared->Prop):Cx:={X with xe:=E}
noncomputable abbrev Cx.nox(X:Cx):Cx:=X.wish λ_ _=>False
theorem Cx.Ok.wish{X:Cx}(ok:X.Ok)(E:Value->Shared->Prop):(X.wish E).Ok :=
 ⟨ok.mod,ok.kind,ok.glob,ok.blt,ok.above,ok.inj,ok.has,ok.cab,ok.hd,ok.frames,ok.stk,ok.exf,ok.bs,ok.bsz,ok.noex,ok.exfs,ok.funs,ok.frf⟩
theorem Cx.Ok.unwish{X:Cx}{E:Value->Shared->Prop}(ok:(X.wish E).Ok):X.Ok :=
 ⟨ok.mod,ok.kind,ok.glob,ok.blt,ok.above,ok.inj,ok.has,ok.cab,ok.hd,ok.frames,ok.stk,ok.exf,ok.bs,ok.bsz,ok.noex,ok.exfs,ok.funs,ok.frf⟩
section
variable{X:Cx}{pins:List (Addr × Obj)}{σ:St}{H:Hp}{s:Shared}{E:Value -> Shared -> Prop}
theorem Inv.wish(I:Inv X pins σ H s)(E:Value->Shared->Prop):Inv (X.wish E) pins σ H s:=⟨I.ok.wish E,I.os,I.bare,I.base,I.loc,I.cell,I.free,I.freeC,I.pin,I.hok,I.len⟩
theorem Inv.unwish(I:Inv (X.wish E) pins σ H s):Inv X pins σ H s:=⟨I.ok.unwish,I.os,I.bare,I.base,I.loc,I.cell,I.free,I.freeC,I.pin,I.hok,I.len⟩
theorem SP.unwish{D:Ends}{f:Flow}{s':Shared}(h:SP (X.wish E) pins D f s'):SP X pins D f s':=by
 cases f with
 |next=>obtain⟨σ',H',I,q⟩:=h;exact⟨σ',H',I.unwish,q⟩
 |brk=>obtain⟨σ',H',I,q⟩:=h;exact⟨σ',H',I.unwish,q⟩
 |cont=>obtain⟨σ',H',I,q⟩:=h;exact⟨σ',H',I.unwish,q⟩
 |ret u=>obtain⟨v,σ',H',I,r,q⟩:=h;exact⟨v,σ',H',I.unwish,r,q⟩
theorem PSs.nox{st:List Stmt}{t:TS}(h:PSs X.nox st t):PSs X st t:=λpins s σ H D I hw =>
 DV (h pins s σ H D (I.wish _) hw) (λ_ _ q=>q.unwish) λ_ _ z=>False.elim z
end
section
variable{X:Cx}{st:Stmt}{rest:List Stmt}{t u:TS}{e:Expr}{te:TE}{pos:Pos}
noncomputable def tNext:TS:=λD σ H=>D.nx σ H
noncomputable def Yd(t u:TS):TS:=λD σ H=>t {D with nx:=u D} σ H
theorem Mn:PSs X [] tNext:=λ_ _ σ H _ I h=>wpAny_execs_nil ⟨σ,H,I,h⟩
theorem Hi(h1:PS X st t)(h2:PSs X rest u):PSs X (st::rest) (Yd t u):=by
 intro pins s σ H D I h
 refine wpAny_execs_cons (thn (h1 pins s σ H {D with nx:=u D} I h) λf s1 q=>?_)
 cases f with
 |next =>
  obtain⟨σ',H',I',q⟩:=q
  exact h2 pins s1 σ' H' D I' q
 |ret v=>exact q
 |brk=>exact q
 |cont=>exact q
theorem Inv.quiet{pins:List (Addr×Obj)}{σ:St}{H:Hp}{s:Shared}(I:Inv X pins σ H s):interactive X.env=false:=by simp[interactive,I.ok.kind]
noncomputable def Ui(te:TE):TS:=λD σ H=>te σ H λ_ H1=>D.nx σ H1
theorem Mo(he:PE X e te)(hs:swapsWith e none pos.line X.env=pure false:=by rfl):PS X (.Expr e pos) (Ui te):=by
 intro pins s σ H D I h
 exact wpAny_Expr_any (thn (he pins s σ H _ I h) λv s1 ⟨x,H1,I1,r1,q1⟩=>⟨σ,H1,I1,q1⟩) I.quiet hs
noncomputable def Ye(te:TE):TS:=λD σ H=>te σ H D.rt
theorem Pj(he:PE X e te):PS X (.Return (some e) pos) (Ye te):=by
 intro pins s σ H D I h
 exact wpAny_Return_some (thn (he pins s σ H _ I h) λv s1 ⟨x,H1,I1,r1,q1⟩=>⟨x,σ,H1,I1,r1,q1⟩)
noncomputable def Yf(c:TT)(t u:TS):TS:=λD σ H=>c σ H λb H1=>if b=true then t D σ H1 else u D σ H1
theorem Uj{c:Expr}{a b:List Stmt}{tc:TT}(hc:PT X c tc)(ha:PSs X a t)(hb:PSs X b u):PS X (.If c a b pos) (Yf tc t u):=by
 intro pins s σ H D I h
 refine wpAny_If (thn (hc pins s σ H _ I h) λd s1 ⟨H1,I1,q1⟩=>?_)
 cases d with
 |true=>exact ha pins s1 σ H1 D I1 q1
 |false=>exact hb pins s1 σ H1 D I1 q1
end
noncomputable abbrev TG:=V->St->Hp->(St->Hp->Prop)->Prop
noncomputable abbrev TGs:=List V->St->Hp->(St->Hp->Prop)->Prop
noncomputable def PG(X:Cx)(target:Expr)(t:TG):Prop :=
 ∀(pins:List (Addr×Obj)) (s:Shared) (σ:St) (H:Hp) (v:V) (u:Value) (Q:St->Hp->Prop),Inv X pins σ H s->RelV v u->t v σ H Q ->
  wpAny (model X.prog X.w) X.A (assign target X.env u) (λ_ s'=>∃σ' H',Inv X pins σ' H' s'/\Q σ' H') X.xe s
noncomputable def PGs(X:Cx)(ts:List Expr)(t:TGs):Prop :=
 ∀(pins:List (Addr×Obj)) (s:Shared) (σ:St) (H:Hp) (vs:List V) (us:List Value) (Q:St->Hp->Prop),Inv X pins σ H s->bo vs us->t vs σ H Q ->
  wpAny (model X.prog X.w) X.A (assignInOrder ((assignEach ts X.env).map (·.2)) us) (λ_ s'=>∃σ' H',Inv X pins σ' H' s'/\Q σ' H') X.xe s
noncomputable abbrev TSet:=V->V->V->Hp->(Hp->Prop)->Prop
noncomputable def Tu(X:Cx)(t:TSet):Prop :=
 ∀(pins:List (Addr×Obj)) (s:Shared) (σ:St) (H:Hp) (o i v:V) (ov iv u:Value) (Q:Hp->Prop),Inv X pins σ H s->RelV o ov->RelV i iv->RelV v u->t o i v H Q ->
  wpAny (model X.prog X.w) X.A (setItem ov iv u) (λ_ s'=>∃H',Inv X pins σ H' s'/\Q H') X.xe s
section
variable{X:Cx}{pos:Pos}
noncomputable def Mp(i:Nat):TG:=λv σ H Q=>Q (σ.set i (some v)) H
theorem Dd{i:Nat}{x:Str}(hN:X.N.Nodup)(hi:X.N[i]? = some x)(hx:Loc X.env.scope x)(hf:X.fn x=true\/X.env.scope.names.lookup x=some .local:=by first | exact .inl rfl | exact .inr rfl | assumption):PG X (.Name x pos) (Mp i):=by
 intro pins s σ H v u Q I r h
 exact wpAny_assign_Name (zq I hN hi hx r (λs' I'=>⟨_,H,I',h⟩) hf)
noncomputable def gNil:TGs:=λvs σ H Q=>vs=[]/\Q σ H
noncomputable def Uk(t:TG)(u:TGs):TGs:=λvs σ H Q=>∃v r,vs=v::r/\t v σ H λσ' H'=>u r σ' H' Q
theorem Mq:PGs X [] gNil:=by
 intro pins s σ H vs us Q I r h
 obtain⟨e,h⟩:=h
 subst e
 cases r
 exact assignInOrder_nil ⟨σ,H,I,h⟩
theorem Hj {e:Expr} {es:List Expr} {t:TG} {u:TGs} (h1:PG X e t) (h2:PGs X es u)
  (hs:(assignEach (e::es) X.env).map (·.2)=assign e X.env::(assignEach es X.env).map (·.2):=by rfl):PGs X (e::es) (Uk t u):=by
 intro pins s σ H vs us Q I r h
 obtain⟨v,vr,e1,h⟩:=h
 subst e1
 cases r with
 |cons r rr =>
  rw[hs]
  refine assignInOrder_cons (thn (h1 pins s σ H _ _ _ I r h) λ_ s1 ⟨σ1,H1,I1,q1⟩=>?_)
  exact h2 pins s1 σ1 H1 _ _ Q I1 rr q1
noncomputable def Yg(K:PySem.W.Frag)(n:Nat)(t:TGs):TG:=λv σ H Q=>∃a xs,v=.ref a/\SqT K H a xs/\xs.length=n/\t xs σ H Q
theorem Pk {es:List Expr} {k:Nat} {t:TGs} {n:Nat} (hc:X.calm=true) (h:PGs X es t)
  (hn:(assignEach es X.env).length=n:=by rfl) (hst:(assignEach es X.env).findIdx? (·.1)=none:=by rfl):PG X (.Tuple es k pos) (Yg X.K n t):=by
 intro pins s σ H v u Q I r hw
 obtain⟨a,xs,e1,hq,hl,hw⟩:=hw
 subst e1
 cases r
 obtain⟨its,rv,ht,hz⟩:=I.tuple hq
 refine assign_Tuple_tuple (I.ok.hd hc) ht (by simp[hn,<-hl,rv.length]) hst λh' hx=>?_
 have I1:Inv X pins σ H {s with heap:=h'}:=I.kept (t':=s.toks) λb o e=>hx b o (AR (AJ e)) e
 exact h pins _ σ H xs _ Q I1 (by simpa using rv) hw
noncomputable def Yh(to ti:TE)(t:TSet):TG:=λv σ H Q=>to σ H λo H1=>ti σ H1 λi H2=>t o i v H2 λH3=>Q σ H3
theorem Pl {o i:Expr} {to ti:TE} {t:TSet} (ho:PE X o to) (hi:PE X i ti) (hs:Tu X t)
  (ha:∀v,assign (.Subscript o i pos) X.env v=(do
   let ov <-holding [v] (eval o X.env)
   let iv <-holding [v,ov] (eval i X.env)
   standAt pos
   holding [v,ov,iv] (setItem ov iv v)
   release [v,ov,iv] []):=by intro _;rfl):PG X (.Subscript o i pos) (Yh to ti t):=by
 intro pins s σ H v u Q I r h
 rw[ha]
 refine AA (BV (thn (ho pins s σ H _ I h) λov s1 ⟨x,H1,I1,r1,q1⟩=>?_))
 refine AA (BV (thn (hi pins s1 σ H1 _ I1 q1) λiv s2 ⟨y,H2,I2,r2,q2⟩=>?_))
 refine AA (wpAny_standAt (AA (BV (thn (hs pins s2 σ H2 x y v ov iv u _ I2 r1 r2 r q2) λ_ s3 ⟨H3,I3,q3⟩=>?_))))
 exact wpAny_release ⟨σ,H3,I3,q3⟩
noncomputable def Wx(te:TE)(g:TG):TS:=λD σ H=>te σ H λx H1=>g x σ H1 D.nx
theorem J8 {tg e:Expr} {te:TE} {g:TG} (he:PE X e te) (hg:PG X tg g) (hs:swapsWithSole [tg] e pos.line X.env=pure false:=by rfl) (hw:swappedStores [tg] e X.env=pure none:=by rfl)
  (h1:(assignEach [tg] X.env).map (·.2)=[assign tg X.env]:=by rfl):PS X (.Assign [tg] e pos) (Wx te g):=by
 intro pins s σ H D I h
 refine wpAny_Assign_stores (thn (he pins s σ H _ I h) λv s1 ⟨x,H1,I1,r1,q1⟩=>?_) hs hw
 rw[h1]
 exact thn (hg pins s1 σ H1 x v _ I1 r1 q1) λ_ s2 q=>q
theorem Pm{i:Nat}{x:Str}{e:Expr}{te:TE}{pos':Pos}(hN:X.N.Nodup)(hi:X.N[i]? = some x)(hx:Loc X.env.scope x)(he:PE X e te)(hs:swapsWith e (some (.Name x pos')) pos.line X.env=pure false:=by rfl)(hf:X.fn x=true\/X.env.scope.names.lookup x=some .local:=by first | exact .inl rfl | exact .inr rfl | assumption) :
  PS X (.Assign [.Name x pos'] e pos) (Wx te (Mp i)):=by
 intro pins s σ H D I h
 refine wpAny_Assign_Name (thn (he pins s σ H _ I h) λv s1 ⟨y,H1,I1,r1,q1⟩=>?_) hs
 exact zq I1 hN hi hx r1 (λs2 I2=>⟨_,H1,I2,q1⟩) hf
end
structure It where
 go:Nat->Hp->Prop
 yld:Nat->Hp->V->Hp->Prop
 stop:Nat->Hp->Prop
noncomputable def C4(X:Cx)(pins:List (Addr×Obj))(H:Hp)(b:Addr):Prop :=
 H b=none/\b≠X.env.locals/\b∉X.fs/\(b∈X.ex\/X.s₀.heap.objs.size<=b)/\(∀x c,X.env.cells.lookup x=some c->c≠b)/\∀p∈X.pn++pins,p.1≠b
theorem Inv.fpOk{X:Cx}{pins:List (Addr×Obj)}{σ:St}{H H':Hp}{s:Shared}{b:Addr}(I:Inv X pins σ H s)(hb:s.heap.objs.size<=b)(hn:H' b=none):C4 X pins H' b:=by
 refine⟨hn,CJ (AS I.lt hb),I.nofs hb,.inr (CI I.sz hb),λx c e z=>?_,λp hp z=>?_⟩
 ·obtain⟨v,q⟩:=I.cell x c e
  exact absurd (AS q.lt (by rw[z];exact hb)) (DE _)
 ·exact absurd (AS (AJ (I.pin p hp).1) (by rw[z];exact hb)) (DE _)
structure Turn (P:Program) (w:World) (K:PySem.W.Frag) (tg:Expr) (J:It) (fp:List Addr) (it:Addr) (tn:Nat->Heap->Prop):Prop where
 mem:it∈fp
 obj:∀i h,tn i h->∀b∈fp,∃o,h.get? b=some o/\∀v,o.data≠.cell v
 keep:∀i h h',tn i h->(∀b∈fp,∀o,h.get? b=some o->h'.get? b=some o)->tn i h'
 item:∀(X:Cx),X.prog=P->X.w=w->X.K=K->X.calm=true->∀(i:Nat) (pins:List (Addr×Obj)) (s:Shared) (σ:St) (H:Hp) (E:Value->Shared->Prop),Inv X pins σ H s->(∀b∈fp,C4 X pins H b)->tn i s.heap->J.go i H ->
  wpAny (model P w) X.A (pyNext (.ref it)) (λr s1=>∃u,r=some u /\
   wpAny (model P w) X.A (letOwnedTupleGo tg (.ref it) u) (λ_ s2=>∃x H',Inv X pins σ H' s2/\RelV x u/\J.yld i H x H'/\tn (i+1) s2.heap/\∀b∈fp,H' b=none) E s1) E s
 done:∀(X:Cx),X.prog=P->X.w=w->X.K=K->X.calm=true->∀(i:Nat) (pins:List (Addr×Obj)) (s:Shared) (σ:St) (H:Hp) (E:Value->Shared->Prop),Inv X pins σ H s->(∀b∈fp,C4 X pins H b)->tn i s.heap->J.stop i H ->
  wpAny (model P w) X.A (pyNext (.ref it)) (λr s1=>r=none/\Inv X pins σ H s1) E s
 self:∀(A:Around) (i:Nat) (s:Shared) (Q:Value->Shared->Prop) (E:Value->Shared->Prop),tn i s.heap->Q (.ref it) s->wpAny (model P w) A (pyIter (.ref it)) Q E s
noncomputable abbrev TI:=St->Hp->(It->Hp->Prop)->Prop
noncomputable def PIE(X:Cx)(pins:List (Addr×Obj))(σ:St)(tg:Expr)(R:It->Hp->Prop)(itv:Value)(s2:Shared):Prop :=
 ∃(it:Addr) (fp:List Addr) (tn:Nat->Heap->Prop) (J:It) (H':Hp),itv=.ref it/\Inv X pins σ H' s2/\Turn X.prog X.w X.K tg J fp it tn/\tn 0 s2.heap/\(∀b∈fp,C4 X pins H' b)/\R J H'
noncomputable def PI(X:Cx)(tg iter:Expr)(wi:TI):Prop :=
 ∀(pins:List (Addr×Obj)) (s:Shared) (σ:St) (H:Hp) (R:It->Hp->Prop),Inv X pins σ H s->wi σ H R ->
  wpAny (model X.prog X.w) X.A (eval iter X.env) (λv s1=>wpAny (model X.prog X.w) X.A (pyIter v) (PIE X pins σ tg R) X.xe s1) X.xe s
theorem Hk {M:Model} {A:Around} {E:Value->Shared->Prop} {s:Shared} {tg:Expr} {it:Addr} {u:Value} {o:Obj} {n:String} {vs:Array Value} {Q:Unit->Shared->Prop} (ho:s.heap.get? it=some o) (hc:o.cls=.type n) (hd:o.data=.fields vs)
  (hn:["enumerate","zip","dict_itemiterator","dict_reverseitemiterator","odict_iterator","itertools.zip_longest","itertools.pairwise"].contains n=false) (hQ:Q () s):wpAny M A (letOwnedTupleGo tg (.ref it) u) Q E s:=by
 unfold letOwnedTupleGo
 cases tg<;>first
  |exact AC hQ
  |(cases u<;>first
    |exact AC hQ
    |(
     refine AA (wpAny_load ho ?_)
     rw[hc,hd]
     show wpAny M A (if(["enumerate","zip","dict_itemiterator","dict_reverseitemiterator","odict_iterator","itertools.zip_longest","itertools.pairwise"].contains n&&vs[0]?==some (rawInt _))=true then _ else _) Q E s
     rw[if_neg (by intro h;rw[hn,Bool.false_and]at h;cases h)]
     exact AC hQ))
noncomputable def Itl(K:PySem.W.Frag)(a:Addr):It :=
 ⟨λi H=>∃xs x,SqL K H a xs/\xs[i]? = some x,λi H x H'=>H'=H/\∀xs,SqL K H a xs->xs[i]? = some x,λi H=>∃xs,SqL K H a xs/\xs.length<=i⟩
noncomputable def Itt(K:PySem.W.Frag)(a:Addr):It :=
 ⟨λi H=>∃xs x,SqT K H a xs/\xs[i]? = some x,λi H x H'=>H'=H/\∀xs,SqT K H a xs->xs[i]? = some x,λi H=>∃xs,SqT K H a xs/\xs.length<=i⟩
noncomputable def Itr(lo:Int)(n:Nat):It:=⟨λi _=>i<n,λi H x H'=>H'=H/\x=.int (lo+i),λi _=>n<=i⟩
theorem De{P:Program}{w:World}{K:PySem.W.Frag}{tg:Expr}(a it:Addr):Turn P w K tg (Itl K a) [it] it (λi h=>h.IsListIter it a i) where
 mem:=by simp
 obj:=λi h st b hb=>by
  have e:b=it:=by simpa using hb
  subst e
  obtain⟨o,e,c,d⟩:=st
  exact⟨o,e,λv z=>by rw[d]at z;cases z⟩
 keep:=λi h h' st k=>st.at λo e=>k it (by simp) o e
 item:=by
  intro X hP hw hK hc i pins s σ H E I hf st hg
  subst hP hw hK
  obtain⟨xs,x,hq,hx⟩:=hg
  obtain⟨its,rv,p,hz⟩:=I.list hq
  obtain⟨u,hu,ru⟩:=rv.get hx
  obtain⟨f0,f1,f2,f3,f4,f5⟩:=hf it (by simp)
  refine wpAny_pyNext_list_item st p.isList (x:=u) (by simpa using hu) λh' st' sb=>?_
  have I1:Inv X pins σ H {s with heap:=h'}:=I.turned (t':=s.toks) (λb o hb e=>(sb.2 b hb).trans e) f0 f1 f3 f4 f5
  obtain⟨o,e,c,d⟩:=id st'
  exact⟨u,rfl,Hk (s:={s with heap:=h'}) e c d (by decide) ⟨x,H,I1,ru,⟨rfl,λys hy=>by rw[I.list_inj hy hq];exact hx⟩,st',λb hb=>(hf b hb).1⟩⟩
 done:=by
  intro X hP hw hK hc i pins s σ H E I hf st hg
  subst hP hw hK
  obtain⟨xs,hq,hx⟩:=hg
  obtain⟨its,rv,p,hz⟩:=I.list hq
  obtain⟨f0,f1,f2,f3,f4,f5⟩:=hf it (by simp)
  have hl:=rv.length
  exact wpAny_pyNext_list_end (I.ok.hd hc) st p.isList (by simp;lia) λh' eb=>⟨rfl,I.turned (t':=s.toks) (λb o hb e=>eb b o hb e) f0 f1 f3 f4 f5⟩
 self:=λ_ _ _ _ _ st h=>wpAny_pyIter_listiter st h
theorem Bq{P:Program}{w:World}{K:PySem.W.Frag}{tg:Expr}(a it:Addr):Turn P w K tg (Itt K a) [it] it (λi h=>h.IsTupleIter it a i) where
 mem:=by simp
 obj:=λi h st b hb=>by
  have e:b=it:=by simpa using hb
  subst e
  obtain⟨o,e,c,d⟩:=st
  exact⟨o,e,λv z=>by rw[d]at z;cases z⟩
 keep:=λi h h' st k=>st.at λo e=>k it (by simp) o e
 item:=by
  intro X hP hw hK hc i pins s σ H E I hf st hg
  subst hP hw hK
  obtain⟨xs,x,hq,hx⟩:=hg
  obtain⟨its,rv,p,hz⟩:=I.tuple hq
  obtain⟨u,hu,ru⟩:=rv.get hx
  obtain⟨f0,f1,f2,f3,f4,f5⟩:=hf it (by simp)
  refine wpAny_pyNext_tuple_item st (show s.heap.IsTuple a its.toArray from p) (x:=u) (by simpa using hu) λh' st' sb=>?_
  have I1:Inv X pins σ H {s with heap:=h'}:=I.turned (t':=s.toks) (λb o hb e=>(sb.2 b hb).trans e) f0 f1 f3 f4 f5
  obtain⟨o,e,c,d⟩:=id st'
  exact⟨u,rfl,Hk (s:={s with heap:=h'}) e c d (by decide) ⟨x,H,I1,ru,⟨rfl,λys hy=>by rw[I.tuple_inj hy hq];exact hx⟩,st',λb hb=>(hf b hb).1⟩⟩
 done:=by
  intro X hP hw hK hc i pins s σ H E I hf st hg
  subst hP hw hK
  obtain⟨xs,hq,hx⟩:=hg
  obtain⟨its,rv,p,hz⟩:=I.tuple hq
  obtain⟨f0,f1,f2,f3,f4,f5⟩:=hf it (by simp)
  have hl:=rv.length
  exact wpAny_pyNext_tuple_end (I.ok.hd hc) st (show s.heap.IsTuple a its.toArray from p) (by simp;lia) λh' eb=>⟨rfl,I.turned (t':=s.toks) (λb o hb e=>eb b o hb e) f0 f1 f3 f4 f5⟩
 self:=λ_ _ _ _ _ st h=>wpAny_pyIter_tupleiter st h
theorem Br{P:Program}{w:World}{K:PySem.W.Frag}{tg:Expr}(it:Addr)(lo:Int)(n:Nat):Turn P w K tg (Itr lo n) [it] it (λi h=>IsRangeIter h it (lo+(i:Nat)*1) ((n:Int)-(i:Nat)) 1) where
 mem:=by simp
 obj:=λi h st b hb=>by
  have e:b=it:=by simpa using hb
  subst e
  exact⟨_,st,λv z=>by
   have z':Data.fields _=Data.cell v:=z
   cases z'⟩
 keep:=λi h h' st k=>k it (by simp) _ st
 item:=by
  intro X hP hw hK hc i pins s σ H E I hf st hg
  subst hP hw hK
  obtain⟨f0,f1,f2,f3,f4,f5⟩:=hf it (by simp)
  have W:=Walks.range (prog:=X.prog) (w:=X.w) (I.ok.hd hc) it lo 1 n
  refine W.item i s _ _ hg st λv h' tk hv st' kk=>?_
  obtain⟨t,rfl⟩:=hv
  have I1:Inv X pins σ H {s with heap:=h',toks:=tk}:=I.turned (λb o hb e=>kk b o (by simpa using hb) e) f0 f1 f3 f4 f5
  refine⟨_,rfl,Hk (s:={s with heap:=h',toks:=tk}) (n:="range_iterator") st' rfl rfl (by decide) ⟨.int (lo+i),H,I1,⟨t,?_⟩,⟨rfl,rfl⟩,st',λb hb=>(hf b hb).1⟩⟩
  rw[Int.mul_one]
 done:=by
  intro X hP hw hK hc i pins s σ H E I hf st hg
  subst hP hw hK
  obtain⟨f0,f1,f2,f3,f4,f5⟩:=hf it (by simp)
  exact wpAny_pyNext_range_end (I.ok.hd hc) st (by have:n<=i:=hg;lia) λh' eb=>⟨rfl,I.turned (t':=s.toks) (λb o hb e=>eb b o hb e) f0 f1 f3 f4 f5⟩
 self:=λ_ _ _ _ _ st h=>wpAny_pyIter_rangeiter st h
section
variable{X:Cx}{tg:Expr}
theorem Hl {pins:List (Addr×Obj)} {σ:St} {H:Hp} {s:Shared} {R:It->Hp->Prop} {E:Value->Shared->Prop} {lo hi:Int} {t u v:Tok} {tk:Nat} (I:Inv X pins σ H s) (h1:-(2 ^ 62)<=lo) (h2:lo<2 ^ 62) (h3:-(2 ^ 62)<=hi) (h4:hi<2 ^ 62)
  (q:R (Itr lo (hi-lo).toNat) H):wpAny (model X.prog X.w) X.A (pyIter (.ref s.heap.objs.size)) (PIE X pins σ tg R) E {s with heap:=s.heap.push {cls:=.type "range",data:=.fields #[.int lo t,.int hi u,.int 1 v]},toks:=tk}:=by
 refine wpAny_pyIter_range (IsRange.new ..) (small_one h1 h2 h3 h4) ?_
 have I1:Inv X pins σ H {s with heap:=s.heap.push {cls:=.type "range",data:=.fields #[.int lo t,.int hi u,.int 1 v]},toks:=tk}:=I.kept λb o e=>AB _ e
 refine⟨(s.heap.push {cls:=.type "range",data:=.fields #[.int lo t,.int hi u,.int 1 v]}).objs.size,[(s.heap.push {cls:=.type "range",data:=.fields #[.int lo t,.int hi u,.int 1 v]}).objs.size],_,_,H,rfl,
  I1.kept (t':=tk) λb o e=>AB _ e,Br _ lo (hi-lo).toNat,?_,λb hb=>?_,q⟩
 ·have e1:lo+((0:Nat):Int)*1=lo:=by simp
  have e2:(((hi-lo).toNat:Nat):Int)-((0:Nat):Int)=Builtin.Range.rangeSize lo hi 1:=by rw[rangeSize_one];split<;>lia
  show IsRangeIter _ _ (lo+((0:Nat):Int)*1) ((((hi-lo).toNat:Nat):Int)-((0:Nat):Int)) 1
  rw[e1,e2]
  exact AI _ rfl
 ·have e:b=(s.heap.push {cls:=.type "range",data:=.fields #[.int lo t,.int hi u,.int 1 v]}).objs.size:=by simpa using hb
  subst e
  exact I1.fpOk (AH _) (I1.hok.fresh (AH _))
noncomputable def Ul(ta:TA):TI:=λσ H R=>ta σ H λvs H1=>∃j:Int,vs=[.int j] /\ -(2 ^ 62)<=j/\j<2 ^ 62/\R (Itr 0 j.toNat) H1
theorem Dg{a:Expr}{ta:TA}{p pos:Pos}(hg:Gl X "range")(hm:X.mg "range"=none)(ha:PA X [a] ta)(hs:starEach [a] X.env=[(false,eval a X.env)]:=by rfl):PI X tg (.Call (.Name "range" p) [a] [] pos) (Ul ta):=by
 intro pins s σ H R I h
 refine Call_ (ko I hg hm boot_range (DB (thn (ha pos pins s σ H _ I h) λus s1 ⟨vs,H1,I1,r1,q1⟩=>?_) hs rfl))
 obtain⟨j,e,q1,q2,q⟩:=q1
 subst e
 cases r1 with
 |cons r rr =>
  cases rr
  obtain⟨t,rfl⟩:=r
  exact call_range_1 (Hl I1 (by lia) (by lia) q1 q2 (by simpa using q))
noncomputable def Yi(wi:TI)(g:TG)(tb:TS):TS:=λD σ H=>wi σ H λJ H1=>∃W:Nat->Nat->St->Hp->Prop,(∃m,W 0 m σ H1)/\∀i m σ H,W i m σ H ->
 (J.stop i H/\D.nx σ H)\/(J.go i H/\∃N:St->Hp->Prop,(∀σ' H',N σ' H'->∃m',m'<m/\W (i+1) m' σ' H')/\∀x H',J.yld i H x H'->g x σ H' λσ2 H2=>tb {D with nx:=N,ct:=N,bk:=D.nx} σ2 H2)
noncomputable def ur(fp:List Addr)(h:Heap):List (Addr×Obj):=fp.filterMap λb=>(h.get? b).map λo=>(b,o)
theorem jt{fp:List Addr}{h:Heap}{b:Addr}{o:Obj}(hb:b∈fp)(e:h.get? b=some o):(b,o)∈ur fp h:=HN.mpr ⟨b,hb,by rw[e];rfl⟩
theorem Dh{fp:List Addr}{h:Heap}{p:Addr×Obj}(hp:p∈ur fp h):p.1∈fp/\h.get? p.1=some p.2:=by
 obtain⟨b,hb,e⟩:=HN.mp hp
 cases q:h.get? b with
 |none=>rw[q]at e;cases e
 |some o =>
  rw[q]at e
  have e':(b,o)=p:=BY e
  subst e'
  exact⟨hb,q⟩
theorem Inv.pinned{pins:List (Addr×Obj)}{σ:St}{H:Hp}{s:Shared}{fp:List Addr}(I:Inv X pins σ H s)(hf:∀b∈fp,C4 X pins H b)(ho:∀b∈fp,∃o,s.heap.get? b=some o/\∀v,o.data≠.cell v):Inv X (pins++ur fp s.heap) σ H s :=
 I.pins_of λp hp=>(BB.mp hp).elim (λz=>I.pin p (BP _ z)) λz=>by
  obtain⟨hb,e⟩:=Dh z
  obtain⟨f0,f1,f2,_⟩:=hf p.1 hb
  obtain⟨o,e',d⟩:=ho p.1 hb
  rw[e]at e';cases e'
  exact⟨e,f0,f1,f2,d⟩
theorem Inv.unpinned{pins pl:List (Addr×Obj)}{σ:St}{H:Hp}{s:Shared}(I:Inv X (pins++pl) σ H s):Inv X pins σ H s:=I.pins_of λp hp=>I.pin p (BP _ (Ev _ hp))
theorem Pn {iter:Expr} {body:List Stmt} {wi:TI} {g:TG} {tb:TS} {pos:Pos} (hp:PassesOwn (model X.prog X.w) X.A X.env X.xe) (hc:X.calm=true) (hi:PI X tg iter wi) (hg:PG X tg g) (hb:PSs X body tb)
  (hs:∀x,foldedSetIterable iter X.env x=pure x:=by intro _;rfl):PS X (.For tg iter body [] pos) (Yi wi g tb):=by
 intro pins s σ H D I h
 refine wpAny_For (thn (hi pins s σ H _ I h) λv s1 h1=>thn h1 λitv s2 h2=>?_) hs
 obtain⟨it,fp,tn,J,H2,e,I2,T,st2,f2,W,⟨m0,w0⟩,turn⟩:=h2
 subst e
 -- what stays true of the iterator's objects through the loop
 have stat:∀{H':Hp},(∀b∈fp,H' b=none)->∀b∈fp,C4 X pins H' b:=λhn b hb=>⟨hn b hb,(f2 b hb).2⟩
 refine codeAny_forLoop_any (λn s'=>∃i σ' H',Inv X pins σ' H' s'/\tn i s'.heap/\(∀b∈fp,H' b=none)/\W i n σ' H') ?_ m0 ⟨0,σ,H2,I2,st2,λb hb=>(f2 b hb).1,w0⟩
 rintro n s3 ⟨i,σ3,H3,I3,st3,fr3,w3⟩
 rcases turn i n σ3 H3 w3 with⟨stop,qn⟩ | ⟨go,N,hN,step⟩
 ·refine FM hp (thn (T.done X rfl rfl rfl hc i pins s3 σ3 H3 X.xe I3 (stat fr3) st3 stop) λr s4 ⟨hr,I4⟩=>?_)
  subst hr
  exact wpAny_execs_nil ⟨σ3,H3,I4,qn⟩
 ·refine FM hp (thn (T.item X rfl rfl rfl hc i pins s3 σ3 H3 X.xe I3 (stat fr3) st3 go) λr s4 ⟨u,hr,h4⟩=>?_)
  subst hr
  refine FM hp (thn h4 λ_ s5 ⟨x,H5,I5,r5,y5,st5,fr5⟩=>?_)
  have I5':=I5.pinned (stat fr5) (T.obj _ _ st5)
  refine FM hp (thn (hg _ s5 σ3 H5 x u _ I5' r5 (step x H5 y5)) λ_ s6 ⟨σ6,H6,I6,q6⟩=>?_)
  refine FM hp (thn (hb _ s6 σ6 H6 _ I6 q6) λf s7 q7=>?_)
  have again:∀{σ7:St} {H7:Hp},Inv X (pins++ur fp s5.heap) σ7 H7 s7->N σ7 H7->∃m,m<n/\∃i σ' H',Inv X pins σ' H' s7/\tn i s7.heap/\(∀b∈fp,H' b=none)/\W i m σ' H':=λ{σ7 H7} I7 n7=>by
   obtain⟨m',hm,w7⟩:=hN σ7 H7 n7
   refine⟨m',hm,i+1,σ7,H7,I7.unpinned,T.keep _ _ _ st5 λb hb o e=>(I7.pin (b,o) (BP _ (BP _ (jt hb e)))).1,λb hb=>?_,w7⟩
   obtain⟨o,e,d⟩:=T.obj _ _ st5 b hb
   exact(I7.pin (b,o) (BP _ (BP _ (jt hb e)))).2.1
  cases f with
  |next=>obtain⟨σ7,H7,I7,n7⟩:=q7;exact again I7 n7
  |cont=>obtain⟨σ7,H7,I7,n7⟩:=q7;exact again I7 n7
  |brk=>obtain⟨σ7,H7,I7,q7⟩:=q7;exact⟨σ7,H7,I7.unpinned,q7⟩
  |ret v=>obtain⟨x7,σ7,H7,I7,r7,q7⟩:=q7;exact⟨x7,σ7,H7,I7.unpinned,r7,q7⟩
end
noncomputable abbrev R2:=V->V->Hp->VK->Prop
noncomputable def OpR(X:Cx)(f:Value->Value->Sem Value)(r:R2):Prop :=
 ∀(pins:List (Addr×Obj)) (s:Shared) (σ:St) (H:Hp) (x y:V) (v u:Value) (Q:VK),Inv X pins σ H s->RelV x v->RelV y u->r x y H Q ->
  wpAny (model X.prog X.w) X.A (f v u) (EP X pins σ Q) X.xe s
noncomputable def UnR(X:Cx)(f:Value->Sem Value)(r:V->Hp->VK->Prop):Prop :=
 ∀(pins:List (Addr×Obj)) (s:Shared) (σ:St) (H:Hp) (x:V) (v:Value) (Q:VK),Inv X pins σ H s->RelV x v->r x H Q ->
  wpAny (model X.prog X.w) X.A (f v) (EP X pins σ Q) X.xe s
noncomputable def fi(X:Cx)(f:Value)(r:List V->Hp->VK->Prop):Prop :=
 ∀(pins:List (Addr×Obj)) (s:Shared) (σ:St) (H:Hp) (xs:List V) (us:List Value) (Q:VK),Inv X pins σ H s->bo xs us->r xs H Q ->
  wpAny (model X.prog X.w) X.A (call f us) (EP X pins σ Q) X.xe s
noncomputable def Yj(X:Cx)(r:V->Hp->(Bool->Hp->Prop)->Prop):Prop :=
 ∀(pins:List (Addr×Obj)) (s:Shared) (σ:St) (H:Hp) (x:V) (v:Value) (Q:Bool->Hp->Prop),Inv X pins σ H s->RelV x v->r x H Q ->
  wpAny (model X.prog X.w) X.A (truthy v) (TP X pins σ Q) X.xe s
noncomputable def tOp(r:R2)(ta tb:TE):TE:=λσ H Q=>ta σ H λx H1=>tb σ H1 λy H2=>r x y H2 Q
noncomputable def tUn(r:V->Hp->VK->Prop)(ta:TE):TE:=λσ H Q=>ta σ H λx H1=>r x H1 Q
noncomputable def rI(C:Int->Int->Prop)(g:Int->Int->V):R2:=λx y H Q=>∃i j,x=.int i/\y=.int j/\C i j/\Q (g i j) H
noncomputable def rI0(g:Int->Int->V):R2:=λx y H Q=>∃i j,x=.int i/\y=.int j/\Q (g i j) H
noncomputable def rU(g:Int->V):V->Hp->VK->Prop:=λx H Q=>∃i,x=.int i/\Q (g i) H
section
variable{X:Cx}{a b c:Expr}{ta tb tc:TE}{pos:Pos}
theorem Wy (ha:PE X a ta) (hb:PE X b tb) {pins:List (Addr×Obj)} {s:Shared} {σ:St} {H:Hp} {R:V->V->Hp->Prop} (I:Inv X pins σ H s)
  (h:ta σ H λx H1=>tb σ H1 λy H2=>R x y H2) {Q:Value->Shared->Prop} {f:Value->Value->Sem Value}
  (hf:∀v u s2 x y H2,Inv X pins σ H2 s2->RelV x v->RelV y u->R x y H2->wpAny (model X.prog X.w) X.A (f v u) Q X.xe s2) :
  wpAny (model X.prog X.w) X.A (eval a X.env) (λv s₁=>wpAny (model X.prog X.w) X.A (eval b X.env) (λu s₂=>wpAny (model X.prog X.w) X.A (f v u) Q X.xe s₂) X.xe s₁) X.xe s:=by
 refine thn (ha pins s σ H _ I h) λv s1 ⟨x,H1,I1,r1,q1⟩=>?_
 refine thn (hb pins s1 σ H1 _ I1 q1) λu s2 ⟨y,H2,I2,r2,q2⟩=>?_
 exact hf v u s2 x y H2 I2 r1 r2 q2
theorem Um{op:Operator}{r:R2}(ho:OpR X (binaryOp op) r)(ha:PE X a ta)(hb:PE X b tb):PE X (.BinOp a op b pos) (tOp r ta tb):=by
 intro pins s σ H Q I h
 exact wpAny_BinOp (Wy ha hb I h λv u s2 x y H2 I2 rx ry q=>ho pins s2 σ H2 x y v u Q I2 rx ry q)
theorem Po{op:UnaryOp}{r:V->Hp->VK->Prop}(ho:UnR X (unaryOp op) r)(ha:PE X a ta):PE X (.UnaryOp op a pos) (tUn r ta):=by
 intro pins s σ H Q I h
 exact UnaryOp_ (thn (ha pins s σ H _ I h) λv s1 ⟨x,H1,I1,r1,q1⟩=>ho pins s1 σ H1 x v Q I1 r1 q1)
theorem opI {f:Value->Value->Sem Value} {C:Int->Int->Prop} {g:Int->Int->Int}
  (rule:∀(i j:Int) (t u:Tok) (s:Shared) (Q:Value->Shared->Prop) (E:Value->Shared->Prop),C i j->Q (.int (g i j) s.toks) {s with toks:=s.toks+1}->wpAny (model X.prog X.w) X.A (f (.int i t) (.int j u)) Q E s) :
  OpR X f (rI C λi j=>.int (g i j)):=by
 intro pins s σ H x y v u Q I rx ry h
 obtain⟨i,j,rfl,rfl,hc,q⟩:=h
 obtain⟨t,rfl⟩:=rx
 obtain⟨t',rfl⟩:=ry
 exact rule i j t t' s _ _ hc ⟨.int (g i j),H,I.tok _,⟨_,rfl⟩,q⟩
theorem Uo {f:Value->Value->Sem Value} {g:Int->Int->Int}
  (rule:∀(i j:Int) (t u:Tok) (s:Shared) (Q:Value->Shared->Prop) (E:Value->Shared->Prop),Q (.int (g i j) s.toks) {s with toks:=s.toks+1}->wpAny (model X.prog X.w) X.A (f (.int i t) (.int j u)) Q E s) :
  OpR X f (rI0 λi j=>.int (g i j)):=by
 intro pins s σ H x y v u Q I rx ry h
 obtain⟨i,j,rfl,rfl,q⟩:=h
 obtain⟨t,rfl⟩:=rx
 obtain⟨t',rfl⟩:=ry
 exact rule i j t t' s _ _ ⟨.int (g i j),H,I.tok _,⟨_,rfl⟩,q⟩
theorem Tv {f:Value->Value->Sem Value} {g:Int->Int->Bool}
  (rule:∀(i j:Int) (t u:Tok) (s:Shared) (Q:Value->Shared->Prop) (E:Value->Shared->Prop),Q (.bool (g i j)) s->wpAny (model X.prog X.w) X.A (f (.int i t) (.int j u)) Q E s) :
  OpR X f (rI0 λi j=>.bl (g i j)):=by
 intro pins s σ H x y v u Q I rx ry h
 obtain⟨i,j,rfl,rfl,q⟩:=h
 obtain⟨t,rfl⟩:=rx
 obtain⟨t',rfl⟩:=ry
 exact rule i j t t' s _ _ ⟨.bl (g i j),H,I,rfl,q⟩
noncomputable def Yk(i j:Int):Prop:=0<j/\j<1073741824
noncomputable def Wz(i j:Int):Prop:=0<=j/\j<=1000000/\i.natAbs<2 ^ 64
noncomputable def CMul(i j:Int):Prop:=(-(2 ^ 64)<i/\i<2 ^ 64)\/(-(2 ^ 64)<j/\j<2 ^ 64)
theorem CMul.ok{i j:Int}(h:CMul i j):IntMulOk i j:=by
 rcases h with⟨h1,h2⟩ | ⟨h1,h2⟩
 ·exact .of_left (intBits_le_64 h1 h2)
 ·exact .of_right (intBits_le_64 h1 h2)
theorem Bs(k:Nat):(0:Int)<=2 ^ k:=by
 rw[two_pow_cast]
 exact Int.natCast_nonneg _
theorem op_add:OpR X (binaryOp .Add) (rI0 λi j=>.int (i+j)):=Uo λ_ _ _ _ _ _ _ q=>add_int q
theorem op_sub:OpR X (binaryOp .Sub) (rI0 λi j=>.int (i-j)):=Uo λ_ _ _ _ _ _ _ q=>sub_int q
theorem op_mul:OpR X (binaryOp .Mult) (rI CMul λi j=>.int (i*j)):=opI λ_ _ _ _ _ _ _ hc q=>mul_int q hc.ok
theorem Mr:OpR X (binaryOp .FloorDiv) (rI Yk λi j=>.int (i / j)):=opI λi j _ _ _ _ _ hc q=>by
 have h1:(0:Int)<j:=hc.1
 have h2:j<1073741824:=hc.2
 exact floordiv_int (by lia) (by rw[HP i (by lia)];exact q) (.inl (PyProof.noPylong_small (by lia)))
theorem op_mod:OpR X (binaryOp .Mod) (rI (λ_ j=>0<j) λi j=>.int (i % j)):=opI λi j _ _ _ _ _ hc q=>by
 have h1:(0:Int)<j:=hc
 exact mod_int' (by lia) (by rw[Int.fmod_eq_emod_of_nonneg i (by lia)];exact q)
theorem op_pow:OpR X (binaryOp .Pow) (rI Wz λi j=>.int (i ^ j.toNat)):=opI λ_ _ _ _ _ _ _ hc q=>pow_int_small hc.1 hc.2.1 hc.2.2 q
theorem Pp:OpR X (binaryOp .LShift) (rI Wz λi j=>.int (i*2 ^ j.toNat)):=opI λ_ _ _ _ _ _ _ hc q=>lshift_int_small hc.1 hc.2.1 hc.2.2 q
theorem op_shr:OpR X (binaryOp .RShift) (rI (λ_ j=>0<=j) λi j=>.int (i / 2 ^ j.toNat)):=opI λi j _ _ _ _ _ hc q =>
 rshift_int hc (by rw[HP i (Bs _)];exact q)
theorem Pq:OpR X (binaryOp .BitXor) (rI0 λi j=>.int (Builtin.bitXor i j)):=Uo λ_ _ _ _ _ _ _ q=>xor_int q
theorem unI {f:Value->Sem Value} {g:Int->Int}
  (rule:∀(i:Int) (t:Tok) (s:Shared) (Q:Value->Shared->Prop) (E:Value->Shared->Prop),Q (.int (g i) s.toks) {s with toks:=s.toks+1}->wpAny (model X.prog X.w) X.A (f (.int i t)) Q E s) :
  UnR X f (rU λi=>.int (g i)):=by
 intro pins s σ H x v Q I rx h
 obtain⟨i,rfl,q⟩:=h
 obtain⟨t,rfl⟩:=rx
 exact rule i t s _ _ ⟨.int (g i),H,I.tok _,⟨_,rfl⟩,q⟩
theorem J9:UnR X (unaryOp .USub) (rU λi=>.int (-i)):=unI λ_ _ _ _ _ q=>neg_int q
theorem Ka{pins:List (Addr×Obj)}{σ:St}{H:Hp}{s:Shared}{Q:VK}{k k':Bool}(I:Inv X pins σ H s)(q:Q (.bl k) H)(e:k=k'):EP X pins σ Q (.bool k') s:=by
 subst e
 exact⟨.bl k,H,I,rfl,q⟩
theorem Uq:OpR X (compareOp .Lt) (rI0 λi j=>.bl (decide (i<j))):=Tv λ_ _ _ _ _ _ _ q=>lt_int q
theorem Ur:OpR X (compareOp .LtE) (rI0 λi j=>.bl (decide (i<=j))):=Tv λ_ _ _ _ _ _ _ q=>le_int q
theorem Us:OpR X (compareOp .Gt) (rI0 λi j=>.bl (decide (j<i))):=Tv λ_ _ _ _ _ _ _ q=>gt_int q
theorem Ut:OpR X (compareOp .GtE) (rI0 λi j=>.bl (decide (j<=i))):=Tv λ_ _ _ _ _ _ _ q=>ge_int q
theorem Pr:OpR X (compareOp .Is) (λx y H Q=>y=.non/\Q (.bl (decide (x=.non))) H):=by
 intro pins s σ H x y v u Q I rx ry h
 obtain⟨rfl,q⟩:=h
 cases ry
 refine is_none_gen (Ka I q ?_)
 cases x<;>first
  |(cases rx;rfl)
  |(obtain⟨t,rfl⟩:=rx;rfl)
theorem Ms:OpR X (compareOp .IsNot) (λx y H Q=>y=.non/\Q (.bl (!decide (x=.non))) H):=by
 intro pins s σ H x y v u Q I rx ry h
 obtain⟨rfl,q⟩:=h
 cases ry
 refine isnot_none_gen (Ka I q ?_)
 cases x<;>first
  |(cases rx;rfl)
  |(obtain⟨t,rfl⟩:=rx;rfl)
noncomputable def isObj:HO->Bool
 |.lst _=>true
 |.ins _ _ _=>true
 |_=>false
noncomputable def W0(K:PySem.W.Frag)(x:V)(H:Hp)(k:Bool):Prop :=
 match x with
 |.non=>k=false
 |.bl b=>k=b
 |.int i=>k=(i != 0)
 |.str y=>y.length<=sizeLine/\k=((y.length:Int) != 0)
 |.byt y=>y.size<=sizeLine/\k=((y.size:Int) != 0)
 |.ref p=>(∃xs,SqL K H p xs/\k=!xs.isEmpty)\/(∃xs,SqT K H p xs/\k=!xs.isEmpty)\/∃kvs,H p=some (.dK kvs)/\k=!kvs.isEmpty
 |_=>False
theorem Bu{κ:Type}{kvs:List (κ×V)}{vs:List (κ×Value)}(r:KV kvs vs):(!vs.isEmpty)=!kvs.isEmpty:=by
 cases r<;>rfl
theorem qf{xs:List V}{its:List Value}(r:bo xs its):(!its.toArray.isEmpty)=!xs.isEmpty:=by
 cases r<;>simp
theorem qg:(sizeLine:Nat)<2 ^ 63:=by rw[CB];decide
theorem Pt:Yj X (λx H Q=>∃k,W0 X.K x H k/\Q k H):=by
 intro pins s σ H x v Q I rx h
 obtain⟨k,e,q⟩:=h
 have hl:=qg
 have hs:sizeLine=16777216:=CB
 cases x with
 |non =>
  cases rx
  have e':k=false:=e
  subst e'
  exact truthy_none ⟨H,I,q⟩
 |bl b =>
  cases rx
  have e':k=b:=e
  subst e'
  exact DF ⟨H,I,q⟩
 |int i =>
  obtain⟨t,rfl⟩:=rx
  have e':k=(i != 0):=e
  subst e'
  exact PySem.P.truthy_int ⟨H,I,q⟩
 |str y =>
  obtain⟨t,rfl⟩:=rx
  obtain⟨hy,e'⟩:y.length<=sizeLine/\k=((y.length:Int) != 0):=e
  subst e'
  exact PySem.P.truthy_str (by lia) ⟨H,I.tok _,q⟩
 |byt y =>
  obtain⟨t,rfl⟩:=rx
  obtain⟨hy,e'⟩:y.size<=sizeLine/\k=((y.size:Int) != 0):=e
  subst e'
  exact PySem.W.truthy_bytes (by lia) ⟨H,I.tok _,q⟩
 |ref p =>
  cases rx
  have e':(∃xs,SqL X.K H p xs/\k=!xs.isEmpty)\/(∃xs,SqT X.K H p xs/\k=!xs.isEmpty)\/∃kvs,H p=some (.dK kvs)/\k=!kvs.isEmpty:=e
  rcases e' with⟨xs,hx,e'⟩ | ⟨xs,hx,e'⟩ | ⟨kvs,hx,e'⟩
  ·subst e'
   obtain⟨its,r,pl,hz⟩:=I.list hx
   have hlen:=r.length
   exact wpAny_truthy_list pl.isList (by simp![AE];lia) ⟨H,I.tok _,by rw[qf r];exact q⟩
  ·subst e'
   obtain⟨its,r,pl,hz⟩:=I.tuple hx
   have hlen:=r.length
   exact truthy_tuple pl (by simp![AE];lia) ⟨H,I.tok _,by rw[qf r];exact q⟩
  ·subst e'
   obtain⟨hz,hS,vs,r,m⟩:kvs.length<=sizeLine/\(p==sysModules)=false/\∃vs,KV kvs vs/\s.heap.DictOf (br X.prog X.w) p vs:=I.hok p _ hx
   have hlen:kvs.length=vs.length:=DC r
   exact wpAny_truthy_dict hS m (by lia) ⟨H,I.tok _,by rw[Bu r];exact q⟩
 |_=>exact(show False from e).elim
theorem Hm(ha:PE X a ta)(he:∀whole,isTrue a X.env whole=(do let v <-whole;standAt a.pos;holding [v] (truthy v))) :
  PT X a (λσ H Q=>ta σ H λx H'=>∃k,W0 X.K x H' k/\Q k H'):=by
 intro pins s σ H Q I h
 exact isTrue_plain (thn (ha pins s σ H _ I h) λv s1 ⟨x,H1,I1,r1,q1⟩=>Pt pins s1 σ H1 x v Q I1 r1 q1) (he _)
theorem vals1{x:V}{us:List Value}(r:bo [x] us):∃u,us=[u]/\RelV x u:=by
 cases r with
 |cons r1 r2=>cases r2;exact⟨_,rfl,r1⟩
theorem vals2{x y:V}{us:List Value}(r:bo [x,y] us):∃u w',us=[u,w']/\RelV x u/\RelV y w':=by
 cases r with
 |cons r1 r2 =>
  cases r2 with
  |cons r3 r4=>cases r4;exact⟨_,_,rfl,r1,r3⟩
theorem Di(hc:X.calm=true):fi X (.builtin "max") (λxs H Q=>∃i j,xs=[.int i,.int j]/\Q (.int (if j > i then j else i)) H):=by
 intro pins s σ H xs us Q I r h
 obtain⟨i,j,rfl,q⟩:=h
 obtain⟨u,w',rfl,⟨t,rfl⟩,⟨t',rfl⟩⟩:=vals2 r
 refine max_two_ints (I.ok.hd hc) λh' tk k=>⟨_,H,I.kept k,?_,q⟩
 by_cases hj:j > i
 ·rw[if_pos hj,if_pos hj];exact⟨_,rfl⟩
 ·rw[if_neg hj,if_neg hj];exact⟨_,rfl⟩
theorem Dj(hc:X.calm=true):fi X (.builtin "min") (λxs H Q=>∃i j,xs=[.int i,.int j]/\Q (.int (if j<i then j else i)) H):=by
 intro pins s σ H xs us Q I r h
 obtain⟨i,j,rfl,q⟩:=h
 obtain⟨u,w',rfl,⟨t,rfl⟩,⟨t',rfl⟩⟩:=vals2 r
 refine min_two_ints (I.ok.hd hc) λh' tk k=>⟨_,H,I.kept k,?_,q⟩
 by_cases hj:j<i
 ·rw[if_pos hj,if_pos hj];exact⟨_,rfl⟩
 ·rw[if_neg hj,if_neg hj];exact⟨_,rfl⟩
end
structure Room (k:Nat) (A:Around):Prop where
 hd:A.handled=none
 dp:A.depth+3*k+5<recursionLimit
 un:A.units+16*k+200<cLine
theorem Room.deeper{k:Nat}{A:Around}(r:Room (k+1) A)(env:Env):Room k (A.deeper env) :=
 ⟨r.hd,by have:=r.dp;show A.depth+1+3*k+5<_;lia,by have:=r.un;show A.units+3+16*k+200<_;lia⟩
theorem Bv{A:Around}{C:Addr}{us:List Value}{kw:List (Str×Value)}:(A.under (.builtin "type.__call__" ⟨.ref C::us,kw⟩)).depth=A.depth+1:=by
 first | rfl | simp[Around.under,Code.weight,Code.isCreation,Code.isGuard,Code.isCaller,Code.frames,Code.isFrame,guardIds]
theorem Bw{A:Around}{C:Addr}{us:List Value}{kw:List (Str×Value)}:(A.under (.builtin "type.__call__" ⟨.ref C::us,kw⟩)).units=A.units+1:=by
 first | rfl | simp[Around.under,Code.cUnits,Code.frames,Code.isFrame]
theorem Room.depth{k:Nat}{A:Around}(r:Room k A):A.depth<recursionLimit:=by have:=r.dp;lia
theorem Room.units{k:Nat}{A:Around}(r:Room k A):A.units+64<cLine:=by have:=r.un;lia
noncomputable def Dk(k:Nat)(A:Around):Prop:=Room k A/\∀(C:Addr) (us:List Value) (kw:List (Str×Value)),Room k (A.under (.builtin "type.__call__" ⟨.ref C::us,kw⟩))
theorem Room.deeperX{k:Nat}{A:Around}(r:Room (k+1) A)(env:Env):Dk k (A.deeper env) :=
 ⟨r.deeper env,λC us kw=>⟨r.hd,by have:=r.dp;rw[Bv];show A.depth+1+1+3*k+5<_;lia,by have:=r.un;rw[Bw];show A.units+3+1+16*k+200<_;lia⟩⟩
noncomputable def tNil:TA:=λ_ H Q=>Q [] H
noncomputable def Uu(ta:TE)(tr:TA):TA:=λσ H Q=>ta σ H λx H1=>tr σ H1 λxs H2=>Q (x::xs) H2
section
variable{X:Cx}{e:Expr}{es:List Expr}{te:TE}{t:TA}{pos:Pos}
theorem Kb:PA X [] tNil:=λ_ _ _ _ H Q I h=>EA ⟨[],H,I,.nil,h⟩
theorem xp(ha:PE X e te)(hr:PA X es t)(hs:starEach (e::es) X.env=(false,eval e X.env)::starEach es X.env:=by rfl):PA X (e::es) (Uu te t):=by
 intro pos pins s σ H Q I h
 rw[hs]
 show wpAny _ _ (spliced ((false,eval e X.env)::backTo pos (starEach es X.env))) _ _ s
 refine DL (thn (ha pins s σ H _ I h) λu s1 ⟨x,H1,I1,r1,q1⟩=>?_)
 exact thn (hr pos pins s1 σ H1 _ I1 q1) λus s2 ⟨xs,H2,I2,r2,q2⟩=>⟨x::xs,H2,I2,.cons r1 r2,q2⟩
noncomputable def Yl(t:TA):TE:=λσ H Q=>t σ H λxs H1=>xs.length<=sizeLine/\∀p,H1 p=none->Q (.ref p) (upd H1 p (.tup xs))
noncomputable def Ym(t:TA):TE:=λσ H Q=>t σ H λxs H1=>xs.length<=sizeLine/\∀p,H1 p=none->Q (.ref p) (upd H1 p (.lst xs))
theorem Pu{x1}(h:PA X es t):PE X (.Tuple es x1 pos) (Yl t):=by
 intro pins s σ H Q I hq
 refine wpAny_Tuple_spliced (thn (h pos pins s σ H _ I hq) λus s1 ⟨xs,H1,I1,r,z,q⟩=>⟨by rw[<-r.length];exact z,?_⟩)
 have hf:H1 s1.heap.objs.size=none:=I1.hok.fresh (AH _)
 refine⟨.ref s1.heap.objs.size,upd H1 s1.heap.objs.size (.tup xs),I1.laid (t':=s1.toks) (λb u e=>AB _ e) (AH _) ?_,rfl,q _ hf⟩
 exact⟨z,us,r,⟨_,AI _ rfl,rfl,rfl,_,rfl⟩⟩
theorem Pw(h:PA X es t):PE X (.List es pos) (Ym t):=by
 intro pins s σ H Q I hq
 refine wpAny_List_spliced (thn (h pos pins s σ H _ I hq) λus s1 ⟨xs,H1,I1,r,z,q⟩=>⟨by rw[<-r.length];exact z,?_⟩)
 have hf:H1 s1.heap.objs.size=none:=I1.hok.fresh (AH _)
 refine⟨.ref s1.heap.objs.size,upd H1 s1.heap.objs.size (.lst xs),I1.laid (t':=s1.toks) (λb u e=>AB _ e) (AH _) ?_,rfl,q _ hf⟩
 exact⟨z,us,0,r,AI _ rfl⟩
end
noncomputable abbrev Sp:=List V->Hp->VK->XK->Prop
noncomputable abbrev CXT:=List Env->Hp->Shared->XK->Value->Shared->Prop
structure Env0 (P:Program) (w:World) (K:PySem.W.Frag) (mg:Str->Option Value) (base:Heap) (A:Around) (outer:List Env) (s:Shared) (H:Hp):Prop where
 frames:A.frames=some outer
 mod:Mod K mg base
 bs:∀b o,base.get? b=some o->s.heap.get? b=some o/\H b=none
 bsz:base.objs.size<=s.heap.objs.size
 funs:s.heap.FunFrames base outer
 frf:∀b∈frs outer,H b=none
 hok:HOk P w H s.heap
 bare:AllBare s.gens
noncomputable def CE(outer:List Env)(P:Program)(w:World)(H:Hp)(s:Shared)(Q:VK)(u:Value)(s':Shared):Prop :=
 ∃v H',s'.os=s.os/\AllBare s'.gens/\Un (frs outer) [] H H' s.heap s'.heap/\HOk P w H' s'.heap/\RelV v u/\Q v H'
noncomputable def CR(CX:CXT)(outer:List Env)(P:Program)(w:World)(H:Hp)(s:Shared)(Q:VK)(E:XK)(r:Result)(s':Shared):Prop :=
 match r with
 |.ok (.ret u)=>CE outer P w H s Q u s'
 |.ok _=>False
 |.error e=>CX outer H s E e s'
structure FnOk (P:Program) (w:World) (K:PySem.W.Frag) (mg:Str->Option Value) (base:Heap) (CX:CXT) (k:Nat) (f:Addr) (fd:FuncData) (ps:List Str) (sp:Sp):Prop where
 len:∀vs H Q E,sp vs H Q E->vs.length=ps.length
 run:∀(A:Around) (outer:List Env) (s:Shared) (H:Hp) (args:Args) (us:List Value) (vs:List V) (Q:VK) (E:XK),Room k A->Env0 P w K mg base A outer s H->BindsTo s fd args (ps.zip us)->bo vs us->sp vs H Q E ->
  codeAny (model P w) A (.call (.ref f) args) (CR CX outer P w H s Q E) s
theorem FnOk.imp {P:Program} {w:World} {K:PySem.W.Frag} {mg:Str->Option Value} {base:Heap} {CX:CXT} {k:Nat} {f:Addr} {fd:FuncData} {ps:List Str} {sp sp':Sp} (F:FnOk P w K mg base CX k f fd ps sp)
  (h:∀vs H Q E,sp' vs H Q E->sp vs H Q E):FnOk P w K mg base CX k f fd ps sp' :=
 ⟨λvs H Q E q=>F.len vs H Q E (h _ _ _ _ q),λA outer s H args us vs Q E hr he hb hv hs=>F.run A outer s H args us vs Q E hr he hb hv (h _ _ _ _ hs)⟩
section
variable{X:Cx}{pins:List (Addr × Obj)}{σ:St}{H:Hp}{s s' : Shared}
theorem Inv.env0(I:Inv X pins σ H s):Env0 X.prog X.w X.K X.mg X.base X.A X.stack s H :=
 ⟨I.ok.frames,I.ok.mod,I.bs,CI I.ok.bsz I.sz,I.stack,I.stkFree,I.hok,I.bare⟩
theorem Inv.after{Q:VK}{u:Value}(I:Inv X pins σ H s)(h:CE X.stack X.prog X.w H s Q u s'):EP X pins σ Q u s':=by
 obtain⟨v,H',os,bare,un,hok,r,q⟩:=h
 obtain⟨hh,g,d,t,os'⟩:=s'
 obtain rfl:os'=s.os:=os
 exact⟨v,H',I.call (h':=hh) (g':=g) (d':=d) (t':=t) (ch:=[]) un hok bare (λb z=>absurd z (by simp)),r,q⟩
end
noncomputable def Uv(sp:Sp)(dvs:List V)(E:XK)(t:TA):TE:=λσ H Q=>t σ H λvs H1=>sp (vs++dvs) H1 Q E
noncomputable def Binds(K:PySem.W.Frag)(fd:FuncData)(ps:List Str)(ds:List Value):Prop :=
 ∀(s:Shared) (us:List Value),K.In s.heap->(us++ds).length=ps.length->BindsTo s fd ⟨us,[]⟩ (ps.zip (us++ds))
theorem Binds.all{K:PySem.W.Frag}{fd:FuncData}{ps:List Str}(h:∀us:List Value,us.length=ps.length->bindArgs fd ⟨us,[]⟩=pure (ps.zip us)):Binds K fd ps []:=λs us _ hl=>by
 rw[JD]at hl ⊢
 exact .of_eq (h us hl)
noncomputable def Dl(CX:CXT)(X:Cx)(E:XK):Prop:=∀(pins:List (Addr×Obj)) (σ:St) (H:Hp) (s:Shared) (e:Value) (s':Shared),Inv X pins σ H s->CX X.stack H s E e s'->X.xe e s'
section
variable{X:Cx}{CX:CXT}{k:Nat}{f C:Addr}{fd:FuncData}{ps:List Str}{sp:Sp}{dvs:List V}{ds:List Value}{E:XK}{x m:Str}{p pos apos:Pos}{e o:Expr}{es:List Expr}{ta:TE}{t:TA}
theorem Px {pins:List (Addr×Obj)} {σ:St} {H:Hp} {s:Shared} {Q:VK} {us:List Value} {vs:List V} (F:FnOk X.prog X.w X.K X.mg X.base CX k f fd ps sp) (hr:Room k X.A) (hb:Binds X.K fd ps ds) (hd:bo dvs ds) (hx:Dl CX X E)
  (I:Inv X pins σ H s) (r:bo vs us) (h:sp (vs++dvs) H Q E):wpAny (model X.prog X.w) X.A (call (.ref f) us) (EP X pins σ Q) X.xe s:=by
 have r2:bo (vs++dvs) (us++ds):=r.append hd
 have hl:(us++ds).length=ps.length:=by rw[<-r2.length];exact F.len _ _ _ _ h
 refine wpAny_call (EK (F.run X.A X.stack s H ⟨us,[]⟩ (us++ds) (vs++dvs) Q E hr I.env0 (hb s us I.kIn hl) r2 h) λr s' hq=>?_)
 cases r with
 |error e=>exact hx pins σ H s e s' I hq
 |ok fl =>
  cases fl with
  |ret u=>exact I.after hq
  |next=>exact False.elim hq
  |brk=>exact False.elim hq
  |cont=>exact False.elim hq
theorem Mu (F:FnOk X.prog X.w X.K X.mg X.base CX k f fd ps sp) (hr:Room k X.A) (hg:Gl X x) (hm:X.mg x=some (.ref f)) (hk:PySem.W.keepIn X.K (.ref f)=true) (hb:Binds X.K fd ps ds) (hd:bo dvs ds) (hx:Dl CX X E)
  (ha:PA X (e::es) t) (hdb:(x==("__debug__":Str))=false:=by decide) (he:starEach (e::es) X.env=(false,eval e X.env)::starEach es X.env:=by rfl) (hpl:(backTo pos (starEach es X.env)).any (·.1)=false:=by rfl) :
  PE X (.Call (.Name x p) (e::es) [] pos) (Uv sp dvs E t):=by
 intro pins s σ H Q I h
 refine DM (Mj I hg hm ?_ hdb)
 refine PySem.W.callWith_K (h₀:=X.base) I.ok.mod.kin hk (thn (ha pos pins s σ H _ I h) λus s1 ⟨vs,H1,I1,r,q⟩=>⟨I1.kIn,?_⟩) he hpl
 exact Px F hr hb hd hx I1 r q
structure Mk (K:PySem.W.Frag) (C f:Addr):Prop where
 makes:PySem.W.makesIn K C=true
 init:PySem.W.findIn K (.ref C) "__init__"=some (some (.ref f))
 fn:PySem.W.isFn K (.ref f)=true
 kp:PySem.W.keepIn K (.ref C)=true
end
structure FnScope (N P:List Str) (sc:Scope):Prop where
 kind:sc.kind=.function
 co:sc.isCoroutine=false
 gen:sc.isGenerator=false
 nd:N.Nodup
 pre:N.take P.length=P
 par:∀x∈P,sc.names.lookup x=some .local\/sc.names.lookup x=some .cell
 nofree:∀y∈sc.names,y.2≠.free
theorem uu{kindOf:Str->Option NameKind}{x:Str}:∀{binds:List (Str×Value)} {m:Str->Option Value},(∀v,(x,v)∉binds)->bindL kindOf binds m x=m x
 | [],_,_=>rfl
 |(n,v)::r,m,h=>by
  unfold bindL
  rw[uu λw hw=>h w (AF _ hw)]
  split
  ·have:x≠n:=by rintro rfl;exact h v AM
   simp[this]
  ·rfl
theorem uv{kindOf:Str->Option NameKind}{x:Str}:∀{binds:List (Str×Value)} {m:Str->Option Value},(∀v,(x,v)∉binds)->bindC kindOf binds m x=m x
 | [],_,_=>rfl
 |(n,v)::r,m,h=>by
  unfold bindC
  rw[uv λw hw=>h w (AF _ hw)]
  split
  ·rfl
  ·have:x≠n:=by rintro rfl;exact h v AM
   simp[this]
theorem uw{kindOf:Str->Option NameKind}{x:Str}{v:Value}:∀{P:List Str} {vs:List Value} {i:Nat} {m:Str->Option Value},P.Nodup->P[i]? = some x->vs[i]? = some v->kindOf x=some .local ->
  bindL kindOf (P.zip vs) m x=some v
 | [],_,_,_,_,h,_,_=>by simp at h
 |_::_,[],_,_,_,_,h,_=>by simp at h
 |p::P,w::vs,0,m,nd,h1,h2,hk=>by
  simp at h1 h2;subst h1;subst h2
  show bindL kindOf ((p,w)::P.zip vs) m p=_
  unfold bindL
  rw[uu λv hv=>(FN.mp nd).1 (HC hv).1,if_pos hk]
  simp
 |p::P,w::vs,i+1,m,nd,h1,h2,hk=>by
  show bindL kindOf ((p,w)::P.zip vs) m x=_
  unfold bindL
  exact uw (i:=i) (FN.mp nd).2 (by simpa using h1) (by simpa using h2) hk
theorem ux{kindOf:Str->Option NameKind}{x:Str}{v:Value}:∀{P:List Str} {vs:List Value} {i:Nat} {m:Str->Option Value},P.Nodup->P[i]? = some x->vs[i]? = some v->kindOf x≠some .local ->
  bindC kindOf (P.zip vs) m x=some v
 | [],_,_,_,_,h,_,_=>by simp at h
 |_::_,[],_,_,_,_,h,_=>by simp at h
 |p::P,w::vs,0,m,nd,h1,h2,hk=>by
  simp at h1 h2;subst h1;subst h2
  show bindC kindOf ((p,w)::P.zip vs) m p=_
  unfold bindC
  rw[uv λv hv=>(FN.mp nd).1 (HC hv).1,if_neg hk]
  simp
 |p::P,w::vs,i+1,m,nd,h1,h2,hk=>by
  show bindC kindOf ((p,w)::P.zip vs) m x=_
  unfold bindC
  exact ux (i:=i) (FN.mp nd).2 (by simpa using h1) (by simpa using h2) hk
noncomputable def start(N:List Str)(vs:List V):St:=vs.map some++List.replicate (N.length-vs.length) none
noncomputable def Hn(CX:CXT)(P:Program)(w:World)(K:PySem.W.Frag)(mg:Str->Option Value)(base:Heap)(N:List Str)(qual:Str)(scope:Scope)(f:Addr)(cd:Value)(A:Around)(outer:List Env)(s:Shared)(H:Hp)(E:XK):Cx where
 prog:=P
 w:=w
 K:=K
 mg:=mg
 base:=base
 A:=A.deeper (envOfC qual scope s.heap.objs.size f cd)
 N:=N
 s₀:=s
 H₀:=H
 env:=envOfC qual scope s.heap.objs.size f cd
 outer:=outer
 stack:=envOfC qual scope s.heap.objs.size f cd::outer
 ex:=[]
 calm:=true
 fn:=λ_=>true
 pn:=[]
 xe:=λe s'=>wpAny (model P w) (A.deeper (envOfC qual scope s.heap.objs.size f cd)) (leaving (envOfC qual scope s.heap.objs.size f cd) e) (λ_ s''=>CX outer H s E e s'') (λe' s''=>CX outer H s E e' s'') s'
theorem nh{sc:Scope}{n:Nat}{x:Str}(h:sc.names.lookup x=some .cell):∃c,(cellsFrom n sc.names []).lookup x=some c:=by
 have q:=IW sc.names n [] (.inl h)
 exact EC.mp q
theorem Dm {CX:CXT} {P:Program} {w:World} {K:PySem.W.Frag} {mg:Str->Option Value} {base:Heap} {N ps:List Str} {qual:Str} {scope:Scope} {f:Addr} {cd:Value} {A:Around} {outer:List Env} {s s1:Shared} {H:Hp} {E:XK} {us:List Value} {vs:List V}
  (S:FnScope N ps scope) (hd:A.handled=none) (e0:Env0 P w K mg base A outer s H) (hl:vs.length=ps.length) (r:bo vs us)
  (x:InCallC s s.heap.objs.size (bindL (envOfC qual scope s.heap.objs.size f cd).kindOf (ps.zip us) λ_=>none) (cellsFrom (s.heap.objs.size+1) scope.names []) (bindC (envOfC qual scope s.heap.objs.size f cd).kindOf (ps.zip us) λ_=>none) s1) :
  Inv (Hn CX P w K mg base N qual scope f cd A outer s H E) [] (start N vs) H s1:=by
 have hpl:ps.length<=N.length:=by have:=congrArg List.length S.pre;rw[EE]at this;lia
 obtain⟨h1,tk,rfl,hk⟩:=x.done
 have noA:∀b:Addr,b∉(Hn CX P w K mg base N qual scope f cd A outer s H E).ex:=λb z=>absurd (show b∈([]:List Addr)from z) (by simp)
 refine⟨⟨e0.mod,S.kind,rfl,rfl,AH _,λy z c h1 h2=>?_,λy hy=>?_,λy c _ h=>?_,λ_=>hd,Around.frames_deeper e0.frames,.inr ⟨rfl,rfl⟩,λb z=>absurd z (noA b),e0.bs,e0.bsz,λb _ _=>noA b,λb z=>absurd z (noA b),e0.funs,e0.frf⟩,
  rfl,e0.bare,Un.kept hk,⟨_,x.toInCall.ns,λi y v h1 h2 h3=>?_⟩,λy c h=>⟨_,x.cell y c h⟩,e0.hok.fresh (AH _),λy c h=>?_,λp hp=>absurd (show p∈([]:List (Addr×Obj))from hp) (by simp),e0.hok.kept hk,?_⟩
 ·exact name_of_addr x.apart (CQ h1) (CQ h2)
 ·have hy:scope.names.lookup y=some .cell\/scope.names.lookup y=some .free:=hy
  rcases hy with hy | hy
  ·exact nh hy
  ·exact absurd rfl (S.nofree _ (CQ hy))
 ·exact DZ (x.above y c (CQ h))
 ·have hi:i<vs.length:=by
   unfold start at h2
   by_cases hi:i<vs.length
   ·exact hi
   ·rw[DG (by simpa using hi)]at h2
    rw[DO]at h2
    split at h2<;>cases h2
  have ha:vs[i]? = some v:=by
   unfold start at h2
   rw[AV (by simpa using hi),BL]at h2
   cases e:vs[i]? with
   |none=>rw[e]at h2;cases h2
   |some a=>rw[e]at h2;cases h2;rfl
  obtain⟨u,hu,rv⟩:=r.get ha
  have hp:ps[i]? = some y:=by
   rw[<-S.pre,IH (by lia)];exact h1
  have ndP:ps.Nodup:=by rw[<-S.pre];exact S.nd.sublist (List.take_sublist _ _)
  refine⟨u,rv,?_⟩
  rcases S.par y (CL hp)with k | k
  ·exact .inl ⟨k,uw ndP hp hu k⟩
  ·obtain⟨c,e⟩:=nh (n:=s.heap.objs.size+1) k
   refine .inr ⟨.inl k,c,e,?_⟩
   have q:=x.cell y c e
   rw[ux ndP hp hu (by show scope.names.lookup y≠_;rw[k];decide)]at q
   exact q
 ·exact e0.hok.fresh (DZ (x.above y c (CQ h)))
 ·unfold start
  show _=N.length
  rw[AY,AG,JK]
  lia
theorem Uw {CX:CXT} {P:Program} {w:World} {K:PySem.W.Frag} {mg:Str->Option Value} {base:Heap} {k:Nat} {f:Addr} {name qual:Str} {params:Arguments} {body:List Stmt} {scope:Scope} {dV kV doc pm cdv ct oc:Value} {an od:Option Addr}
  {osl:Array (Option Value)} {N ps:List Str} {sp:Sp} (lk:K.lookup f=some ⟨oc,od,.func (PySem.W.fnOf name qual params body scope dV kV doc pm an cdv ct),osl⟩) (hcd:PySem.W.codeIn K cdv qual=true) (S:FnScope N ps scope)
  (len:∀vs H Q E,sp vs H Q E->vs.length=ps.length)
  (hbody:∀(A:Around) (outer:List Env) (s:Shared) (H:Hp) (vs:List V) (Q:VK) (E:XK),Dk k (A.deeper (envOfC qual scope s.heap.objs.size f cdv))->sp vs H Q E ->
   ∃t,PSs (Hn CX P w K mg base N qual scope f cdv A outer s H E) body t/\t {nx:=λ_ H'=>Q .non H',rt:=Q} (start N vs) H) :
  FnOk P w K mg base CX (k+1) f (PySem.W.fnOf name qual params body scope dV kV doc pm an cdv ct) ps sp:=by
 refine⟨len,λA outer s H args us vs Q E hr e0 hb r hsp=>?_⟩
 have hl:=len _ _ _ _ hsp
 have KX:K.In s.heap:=e0.mod.kin.keeps λb o e=>(e0.bs b o e).1
 have lim:s.heap.NoLimit:=e0.mod.nolimit.keeps λb o e=>(e0.bs b o e).1
 have hkind:∀y∈ps.zip us,scope.names.lookup y.1=some .local\/(scope.names.lookup y.1=some .cell/\((cellsFrom (s.heap.objs.size+1) scope.names []).lookup y.1).isSome=true):=fun⟨n,v⟩ hy=>by
  rcases S.par n (HC hy).1 with q | q
  ·exact .inl q
  ·exact .inr ⟨q,IW _ _ _ (.inl q)⟩
 refine codeAny_call_function hr.depth (KX _ _ lk) rfl S.co S.gen rfl (PySem.W.codeRec_of KX hcd) (hb _ _ _ _ ?_)
 refine wpAny_newFunctionEnv_cells S.kind hkind λenv he s1 x=>?_
 subst he
 refine⟨lim.keeps x.toInCall.keep,codeAny_func ?_⟩
 obtain⟨t,ht,hq⟩:=hbody A outer s H vs Q E (hr.deeperX _) hsp
 have I:Inv (Hn CX P w K mg base N qual scope f cdv A outer s H E) [] (start N vs) H s1:=Dm S hr.hd e0 hl r x
 refine DV (ht [] s1 (start N vs) H _ I hq) (λfl s' hs=>?_) λe s' hs=>hs
 have fin:∀{σ':St} {H':Hp} {v:V} {u:Value},Inv (Hn CX P w K mg base N qual scope f cdv A outer s H E) [] σ' H' s'->RelV v u->Q v H'->CE outer P w H s Q u s' :=
  λ{σ' H' v u} J rv q=>⟨v,H',J.os,J.bare,J.base,J.hok,rv,q⟩
 cases fl with
 |ret u =>
  obtain⟨v,σ',H',J,rv,q⟩:=hs
  exact fin J rv q
 |next =>
  obtain⟨σ',H',J,q⟩:=hs
  exact fin (v:=V.non) (u:=Value.none) J rfl q
 |brk =>
  obtain⟨_,_,_,q⟩:=hs
  exact False.elim q
 |cont =>
  obtain⟨_,_,_,q⟩:=hs
  exact False.elim q
section
variable{X:Cx}{x:Str}{p pos:Pos}{e:Expr}{es:List Expr}{t:TA}{id T:String}{r:List V -> Hp -> VK -> Prop}
noncomputable def tCB(r:List V->Hp->VK->Prop)(t:TA):TE:=λσ H Q=>t σ H λvs H1=>r vs H1 Q
theorem iy (hc:fi X (.builtin id) r) (hg:Gl X x) (hm:X.mg x=none) (hv:bootBuiltins x=some (.builtin id)) (ha:PA X (e::es) t) (hn:x≠"__name__":=by decide) (hdb:(x==("__debug__":Str))=false:=by decide)
  (he:starEach (e::es) X.env=(false,eval e X.env)::starEach es X.env:=by rfl) (hpl:(backTo pos (starEach es X.env)).any (·.1)=false:=by rfl):PE X (.Call (.Name x p) (e::es) [] pos) (tCB r t):=by
 intro pins s σ H Q I h
 refine DM (ko I hg hm hv ?_ hn hdb)
 exact EF (thn (ha pos pins s σ H _ I h) λus s1 ⟨vs,H1,I1,r1,q1⟩=>hc pins s1 σ H1 vs us Q I1 r1 q1) he hpl
theorem uy (hc:fi X (.type T) r) (hg:Gl X x) (hm:X.mg x=none) (hv:bootBuiltins x=some (.type T)) (ha:PA X (e::es) t) (hn:x≠"__name__":=by decide) (hdb:(x==("__debug__":Str))=false:=by decide)
  (he:starEach (e::es) X.env=(false,eval e X.env)::starEach es X.env:=by rfl) (hpl:(backTo pos (starEach es X.env)).any (·.1)=false:=by rfl):PE X (.Call (.Name x p) (e::es) [] pos) (tCB r t):=by
 intro pins s σ H Q I h
 refine DM (ko I hg hm hv ?_ hn hdb)
 exact DB (thn (ha pos pins s σ H _ I h) λus s1 ⟨vs,H1,I1,r1,q1⟩=>hc pins s1 σ H1 vs us Q I1 r1 q1) he hpl
end
end L2
namespace HT
open PySem PyProof.Rows
noncomputable def lexLt:List Int->List Int->Bool
 | [],[]=>false
 | [],_::_=>true
 |_::_,[]=>false
 |x::xs,y::ys=>if x=y then lexLt xs ys else decide (x<y)
theorem gn(x y:Int)(xs ys:List Int):lexLt (x::xs) (y::ys)=if x=y then lexLt xs ys else decide (x<y):=rfl
theorem iz:lexLt [] []=false:=rfl
theorem ia(y:Int)(ys:List Int):lexLt [] (y::ys)=true:=rfl
theorem ib(x:Int)(xs:List Int):lexLt (x::xs) []=false:=rfl
theorem rl(A:Around)(s:Shared)(a:Int)(t:Tok)(c:Int)(u:Tok):∃e,SeqAt.EqAt A s (.int a t) (.int c u) e/\(e=true↔a=c) :=
 ⟨(a==c),KB a t c u,by simp⟩
theorem Ho(A:Around)(s:Shared)(a:Int)(t:Tok)(c:Int)(u:Tok)(prog:Program)(w:World)(E:Value->Shared->Prop)(Q:Value->Shared->Prop)(h:Q (.bool (decide (a<c))) s) :
  wpAny (model prog w) A (richCompare .Lt (.int a t) (.int c u)) Q E s :=
 (PyProof.Rows.lt_int h:wpAny (model prog w) A (compareOp .Lt (.int a t) (.int c u)) Q E s)
section
open PySem.SeqAt
open PySem.AutoSeq1 (wpAny_loadPart')
open PySem.MeetsSeq PySem.MeetsSeq2 PySem.MeetsSeq3
theorem rm(l b:Addr)(items items2:Array Value)(n n2:Nat)(dd dd2:Option Addr)(sl sl2:Array (Option Value))(ns ms:List Int)(hi:IntsAre items.toList ns)(hj:IntsAre items2.toList ms) :
  Meets (Builtin.«tuple.__lt__» ⟨[.ref l,.ref b],[]⟩)
   (λ_ R s=>s.heap.get? l=some {cls:=.type "tuple",dict:=dd,data:=.seq items n,slots:=sl}/\s.heap.get? b=some {cls:=.type "tuple",dict:=dd2,data:=.seq items2 n2,slots:=sl2} /\
    R (.ok (.ret (.bool (lexLt ns ms)))) s) :=
 .of_wp λprog w A R s h=>by
  obtain⟨hp,g,d,tk,os⟩:=s;obtain⟨hl,hb,h⟩:=h
  have f2:=FG
  have z1:items.size=ns.length:=by rw[<-hi.length];simp
  have z2:items2.size=ms.length:=by rw[<-hj.length];simp
  wp_walk using EL hl,EL hb,EG _ (λrest b s'=>b.1=none/\s'=⟨hp,g,d,tk,os⟩/\∃(vs ws:List Value) (ns' ms':List Int),rest=vs.zip ws /\
   IntsAre vs ns'/\IntsAre ws ms'/\ns'.length+items2.size=ms'.length+items.size/\R (.ok (.ret (.bool (lexLt ns' ms')))) ⟨hp,g,d,tk,os⟩) _
  case turn =>
   rintro⟨y,x⟩ rest b s' ⟨hb',rfl,vs,ws,ns',ms',hz,hvi,hwi,hlen,hR⟩
   cases hvi with
   |nil=>rw[If]at hz;cases hz
   |cons a t hvi' =>
    cases hwi with
    |nil=>rw[FR]at hz;cases hz
    |cons c u hwi' =>
     rw[CZ]at hz
     injection hz with hyx hrest
     injection hyx with hy hx
     subst hy hx
     rw[gn]at hR
     simp![AT]at hlen
     obtain⟨e,he,hiff⟩:=rl A.in1 ⟨hp,g,d,tk,os⟩ a t c u
     refine AA (he prog w _ _ ?_)
     cases e with
     |true =>
      rw[if_pos (hiff.mp rfl)]at hR
      wp_walk
      exact⟨rfl,rfl,_,_,_,_,hrest,hvi',hwi',by lia,hR⟩
     |false =>
      rw[if_neg (λq=>absurd (hiff.mpr q) AU)]at hR
      have hri:=Ho A.in1 ⟨hp,g,d,tk,os⟩ a t c u prog w
      wp_walk using hri
      exact⟨_,rfl,by simpa using hR⟩
  case fin =>
   rintro⟨b1,b2⟩ s' ⟨hb',rfl,vs,ws,ns',ms',hz,hvi,hwi,hlen,hR⟩
   simp only at hb'
   subst hb'
   have hv:lexLt ns' ms'=decide (items.size<items2.size):=by
    cases hvi with
    |nil =>
     cases hwi with
     |nil =>
      simp![BQ]at hlen
      rw[iz]
      exact(decide_eq_false (by lia)).symm
     |cons c u hw =>
      simp![BQ,AT]at hlen
      rw[ia]
      exact(decide_eq_true (by lia)).symm
    |cons a t hv =>
     cases hwi with
     |nil =>
      simp![BQ,AT]at hlen
      rw[ib]
      exact(decide_eq_false (by lia)).symm
     |cons c u hw =>
      rw[CZ]at hz
      cases hz
   rw[hv]at hR
   wp_walk
   exact⟨_,rfl,by simpa[Builtin.Tuple.tupleCompareSizes]using hR⟩
  case h =>
   exact⟨rfl,rfl,items.toList,items2.toList,ns,ms,rfl,hi,hj,by lia,h⟩
end
section
variable{prog:Program}{w:World}{A:Around}{E:Value -> Shared -> Prop}{s:Shared}
theorem Bx {l b:Addr} {items items2:Array Value} {ns ms:List Int} {Q:Value->Shared->Prop} (hl:IsTup s.heap l items) (hb:IsTup s.heap b items2) (hi:IntsAre items.toList ns) (hj:IntsAre items2.toList ms)
  (hu:A.units<cLine) (h:Q (.bool (lexLt ns ms)) s):wpAny (model prog w) A (compareOp .Lt (.ref l) (.ref b)) Q E s:=by
 obtain⟨⟨cls,dd,data,sl⟩,ho,hc,n,hd⟩:=id hl
 obtain⟨⟨cls2,dd2,data2,sl2⟩,ho2,hc2,n2,hd2⟩:=id hb
 simp only at hc hd hc2 hd2
 subst hc hd hc2 hd2
 exact Gt (op:=.Lt) ⟨_,ho,rfl⟩ ⟨_,ho2,rfl⟩ PySem.F.slot_tuple_lt PySem.F.entry_tuple_lt (PySem.F.args_tuple_lt_2 _ _) (rm l b items items2 n n2 dd dd2 sl sl2 ns ms hi hj)
  ⟨ho,ho2,show Value.bool (lexLt ns ms)≠Value.notImplemented/\Q (.bool (lexLt ns ms)) s from⟨(λx=>nomatch x),h⟩⟩ hu
theorem Mv {t b:Addr} {vs ws:List Value} {Q:Value->Shared->Prop} (ht:IsTup s.heap t vs.toArray) (hb:IsTup s.heap b ws.toArray) (hv:vs≠[])
  (h1:ws=[]->Q (.ref t) s) (h2:ws≠[]->Q (.ref s.heap.objs.size) {s with heap:=s.heap.push {cls:=.type "tuple",data:=.seq (vs++ws).toArray}})
  (hsz:vs.length+ws.length<=sizeLine):wpAny (model prog w) A (binaryOp .Add (.ref t) (.ref b)) Q E s:=by
 obtain⟨⟨cls,dd,data,sl⟩,ho,hc,n,hd⟩:=id ht
 obtain⟨⟨cls2,dd2,data2,sl2⟩,ho2,hc2,n2,hd2⟩:=id hb
 simp only at hc hd hc2 hd2
 subst hc hd hc2 hd2
 have e:vs.toArray++ws.toArray=(vs++ws).toArray:=by simp
 by_cases hw:ws=[]
 ·exact concat_meets ⟨_,ho,rfl⟩ ⟨_,ho2,rfl⟩ IM seq_tuple_add GA FW (FH _ _)
   (tuple_addW1 t b vs.toArray ws.toArray n n2 dd dd2 sl sl2 (by simpa using hv) (by simp[hw])) ⟨ho,ho2,h1 hw⟩
 ·refine concat_meets ⟨_,ho,rfl⟩ ⟨_,ho2,rfl⟩ IM seq_tuple_add GA FW (FH _ _)
   (tuple_addW2 t b vs.toArray ws.toArray n n2 dd dd2 sl sl2 (by simpa using hv) (by simpa using hw) (by rw[AE,AE];exact hsz)) ⟨ho,ho2,?_⟩
  rw[e]
  exact h2 hw
noncomputable def sIx(n d:Nat):Option Int->Nat
 |none=>d
 |some v=>if v<0 then(v+(n:Int)).toNat else min v.toNat n
theorem Py(n d:Nat)(hd:d<=n)(o:Option Int):sIx n d o<=n:=by
 cases o with
 |none=>exact hd
 |some v =>
  show(if v<0 then(v+(n:Int)).toNat else min v.toNat n)<=n
  by_cases hv:v<0
  ·rw[if_pos hv];lia
  ·rw[if_neg hv];exact Nat.min_le_right _ _
theorem Dp(v:Int)(n d:Nat):(if v<0 then max (v+(n:Int)) 0 else min v (n:Int))=((sIx n d (some v):Nat):Int):=by
 show(if v<0 then max (v+(n:Int)) 0 else min v (n:Int))=(((if v<0 then(v+(n:Int)).toNat else min v.toNat n):Nat):Int)
 by_cases hv:v<0
 ·simp![if_pos hv];lia
 ·simp![if_neg hv];lia
theorem By(lo hi:Option Int)(n:Nat):Builtin.Slice.sliceAdjust lo hi 1 (n:Int)=(((sIx n 0 lo:Nat):Int),((sIx n n hi:Nat):Int)):=by
 have h1:¬((1:Int)<0):=by lia
 unfold Builtin.Slice.sliceAdjust
 simp![h1,if_false]
 refine Prod.ext ?_ ?_
 ·cases lo with
  |none=>rfl
  |some v=>exact Dp v n 0
 ·cases hi with
  |none=>rfl
  |some v=>exact Dp v n n
theorem Bz(i j:Nat):Builtin.Slice.slicePlaces (i:Int) (j:Int) 1=j-i:=by
 unfold Builtin.Slice.slicePlaces
 have h1:(1:Int) > 0:=by lia
 simp![h1,if_true,Int.ediv_one]
 split<;>lia
theorem qh{v:Value}{o:Option Int}{Q:Option Int->Shared->Prop}(p:IsPart v o)(h:Q o s):wpAny (model prog w) A (Builtin.Slice.slicePartIndex v) Q E s:=by
 cases p with
 |none=>exact slicePart_none h
 |int i t=>exact slicePart_int h
theorem jd {sl:Addr} {vl vu:Value} {lo hi:Option Int} {n:Nat} {Q:Int×Int×Nat->Shared->Prop} (hs:s.heap.IsSliceOf sl vl vu .none) (pl:IsPart vl lo) (pu:IsPart vu hi)
  (h:Q (((sIx n 0 lo:Nat):Int),1,sIx n n hi-sIx n 0 lo) s):wpAny (model prog w) A (Builtin.Slice.sliceApplied (.ref sl) (pure (n:Int))) Q E s:=by
 obtain⟨os,hos,hcs,hds⟩:=id hs
 unfold Builtin.Slice.sliceApplied Builtin.Slice.sliceFields
 refine AA (AA (CT hos hds (x:=vl) rfl (AA (CT hos hds (x:=vu) rfl (AA (CT hos hds (x:=.none) rfl (AC ?_)))))))
 refine AA (slicePart_none ?_)
 show wpAny _ _ (if((1:Int)==0)=true then _ else _) _ _ s
 rw[if_neg (by decide)]
 refine AA (qh pl (AA (qh pu (AA (AC ?_)))))
 show wpAny _ _ (match Builtin.Slice.sliceAdjust lo hi 1 (n:Int)with | (lo,hi)=>pure (lo,(1:Int),Builtin.Slice.slicePlaces lo hi 1)) _ _ s
 rw[By lo hi n]
 show wpAny _ _ (pure (((sIx n 0 lo:Nat):Int),(1:Int),Builtin.Slice.slicePlaces ((sIx n 0 lo:Nat):Int) ((sIx n n hi:Nat):Int) 1)) _ _ s
 rw[Bz]
 exact AC h
theorem Hq(xs:Array Value)(i k:Nat):((List.range k).filterMap fun(m:Nat)=>xs[((i:Int)+(m:Int)*1).toNat]?).toArray=((xs.toList.drop i).take k).toArray:=by
 have e:(fun(m:Nat)=>xs[((i:Int)+(m:Int)*1).toNat]?)=λm=>xs[i+m]?:=by
  funext m
  have:((i:Int)+(m:Int)*1).toNat=i+m:=by lia
  rw[this]
 rw[e]
 have:=pick_run xs i k
 rw[List.filterMap_map]at this
 have e2:((λx=>xs[x]?)∘λx=>i+x)=λm=>xs[i+m]?:=rfl
 rw[e2]at this
 rw[this]
theorem l4 {t sl:Addr} {items:Array Value} {vl vu:Value} {lo hi:Option Int} {Q:Value->Shared->Prop} (ht:IsTup s.heap t items) (hs:s.heap.IsSliceOf sl vl vu .none) (pl:IsPart vl lo) (pu:IsPart vu hi)
  (hw:¬(sIx items.size 0 lo=0/\sIx items.size items.size hi=items.size))
  (h:Q (.ref s.heap.objs.size) {s with heap:=s.heap.push {cls:=.type "tuple",data:=.seq ((items.toList.drop (sIx items.size 0 lo)).take (sIx items.size items.size hi-sIx items.size 0 lo)).toArray}})
  (hsz:items.size<=sizeLine):wpAny (model prog w) A (getItem (.ref t) (.ref sl)) Q E s:=by
 have htake:sizeOk (.seq ((items.toList.drop (sIx items.size 0 lo)).take (sIx items.size items.size hi-sIx items.size 0 lo)).toArray):=by
  show((items.toList.drop (sIx items.size 0 lo)).take (sIx items.size items.size hi-sIx items.size 0 lo)).toArray.size<=sizeLine
  rw[AE,EE,GO,AZ]
  lia
 have hj:sIx items.size items.size hi<=items.size:=Py _ _ (AH _) hi
 obtain⟨os,hos,hcs,hds⟩:=id hs
 have hTs:s.TypeIs (.ref sl) "slice":=⟨os,hos,hcs⟩
 unfold getItem
 try with_reducible refine BV ?_
 first | refine AA (AC ?_) | skip
 refine AA (wpAny_sequenceKey ht.typeIs (by decide) ?_)
 refine AA (BM (name:=Str.ofString "__getitem__") ht.typeIs CA
  (BI CA ht.typeIs entry_tuple_getitem ?_ (args_tuple_getitem _ _)))
 show wpAny _ _ (Builtin.Tuple.tupleItemsOf (.ref t)>>=_) _ _ s
 refine AA (tupleItemsOf_ ht ?_)
 refine AA (GB hTs ?_)
 rw[if_pos (by decide)]
 refine AA (jd hs pl pu ?_)
 have hno:¬((((sIx items.size 0 lo:Nat):Int)==0&&(1:Int)==1&&(sIx items.size items.size hi-sIx items.size 0 lo)==items.size)=true):=by
  intro q
  rw[AX,AX]at q
  have q1:((sIx items.size 0 lo:Nat):Int)=0:=eq_of_beq q.1.1
  have q2:sIx items.size items.size hi-sIx items.size 0 lo=items.size:=eq_of_beq q.2
  exact hw ⟨by lia,by lia⟩
 show wpAny _ _ (if(((sIx items.size 0 lo:Nat):Int)==0&&(1:Int)==1&&(sIx items.size items.size hi-sIx items.size 0 lo)==items.size)=true then _ else _) _ _ s
 rw[if_neg hno,Hq]
 first
  |exact AA (m:=Builtin.Tuple.tupleExact _) (BN (AC ⟨_,rfl,AC h⟩) htake)
  |exact AA (m:=Builtin.Tuple.tupleExact _) (BN (AA (AC (AC ⟨_,rfl,AC h⟩))) htake)
  |exact AA (AA (m:=Builtin.Tuple.tupleExact _) (BN (AC (AC ⟨_,rfl,AC h⟩)) htake))
  |exact AA (AA (m:=Builtin.Tuple.tupleExact _) (BN (AC ⟨_,rfl,AC h⟩) htake))
end
end HT
namespace L2
open PySem PySem.Spec PyProof.Rows
noncomputable abbrev TO:=St->Hp->(Option Int->Hp->Prop)->Prop
noncomputable def PO(X:Cx)(e:Option Expr)(t:TO):Prop :=
 ∀(pins:List (Addr×Obj)) (s:Shared) (σ:St) (H:Hp) (Q:Option Int->Hp->Prop),Inv X pins σ H s->t σ H Q ->
  wpAny (model X.prog X.w) X.A (evalPart e X.env) (λu s'=>∃o H',Inv X pins σ H' s'/\IsPart u o/\Q o H') X.xe s
noncomputable def tNoPart:TO:=λ_ H Q=>Q none H
noncomputable def Ux(t:TE):TO:=λσ H Q=>t σ H λx H1=>∃i,x=.int i/\Q (some i) H1
theorem intsAre_of{ns:List Int}:∀{us:List Value},bo (ns.map V.int) us->IntsAre us ns:=by
 induction ns with
 |nil=>intro us r;rw[CC]at r;cases r;exact .nil
 |cons n ns ih =>
  intro us r
  rw[AO]at r
  cases r with
  |cons r1 r2 =>
   obtain⟨t,e⟩:=r1
   subst e
   exact .cons n t (ih r2)
section
variable{X:Cx}{e:Expr}{te:TE}{lo hi:Option Expr}{tl th:TO}{pos p2:Pos}
theorem Mw:PO X none tNoPart:=by
 intro pins s σ H Q I h
 rw[evalPart_none]
 exact AC ⟨none,H,I,.none,h⟩
theorem Mx(h:PE X e te):PO X (some e) (Ux te):=by
 intro pins s σ H Q I hw
 rw[evalPart_some]
 refine thn (h pins s σ H _ I hw) λu s1 ⟨x,H1,I1,r1,q1⟩=>?_
 obtain⟨i,rfl,q⟩:=q1
 obtain⟨t,rfl⟩:=r1
 exact⟨some i,H1,I1,.int i t,q⟩
noncomputable def SlR(X:Cx)(r:V->Option Int->Option Int->Hp->VK->Prop):Prop :=
 ∀(pins:List (Addr×Obj)) (s:Shared) (σ:St) (H:Hp) (x:V) (v vl vu:Value) (lo hi:Option Int) (sl:Addr) (Q:VK),Inv X pins σ H s->RelV x v->s.heap.IsSliceOf sl vl vu .none->IsPart vl lo->IsPart vu hi->r x lo hi H Q ->
  ∃T id,typeLookup (.type T) "__getitem__"=pure (some (.builtin id))/\s.TypeIs v T/\wpAny (model X.prog X.w) X.A (getItem v (.ref sl)) (EP X pins σ Q) X.xe s
noncomputable def tSl(r:V->Option Int->Option Int->Hp->VK->Prop)(te:TE)(tl th:TO):TE:=λσ H Q=>te σ H λx H1=>tl σ H1 λl H2=>th σ H2 λu H3=>r x l u H3 Q
theorem Hr{r:V->Option Int->Option Int->Hp->VK->Prop}(hr:SlR X r)(he:PE X e te)(hl:PO X lo tl)(hu:PO X hi th):PE X (.Subscript e (.Slice lo hi none p2) pos) (tSl r te tl th):=by
 intro pins s σ H Q I h
 refine Subscript_ (thn (he pins s σ H _ I h) λv s1 ⟨x,H1,I1,r1,q1⟩=>?_)
 refine wpAny_Slice (thn (hl pins s1 σ H1 _ I1 q1) λvl s2 ⟨l,H2,I2,pl,q2⟩=>thn (hu pins s2 σ H2 _ I2 q2) λvu s3 ⟨u,H3,I3,pu,q3⟩=>?_)
 rw[evalPart_none]
 refine AC ?_
 have I4:Inv X pins σ H3 {s3 with heap:=s3.heap.push {cls:=.type "slice",data:=.fields #[vl,vu,.none]}}:=I3.kept (t':=s3.toks) λb ob q=>AB _ q
 obtain⟨T,id,hT,ht,hg⟩:=hr pins {s3 with heap:=s3.heap.push {cls:=.type "slice",data:=.fields #[vl,vu,.none]}} σ H3 x v vl vu l u s3.heap.objs.size Q I4 r1 (Heap.IsSliceOf.new ..) pl pu q3
 show wpAny (model X.prog X.w) X.A (subscriptTail e (.Slice lo hi none p2) v (.ref s3.heap.objs.size)) (EP X pins σ Q) X.xe {s3 with heap:=s3.heap.push {cls:=.type "slice",data:=.fields #[vl,vu,.none]}}
 exact tail_any (ops:=[.ref s3.heap.objs.size,v]) ht hT hg (by with_unfolding_all rfl)
noncomputable def Kc(xs:List V)(lo hi:Option Int):List V:=(xs.drop (HT.sIx xs.length 0 lo)).take (HT.sIx xs.length xs.length hi-HT.sIx xs.length 0 lo)
theorem nv(xs:List V)(lo hi:Option Int):(Kc xs lo hi).length<=xs.length:=by
 unfold Kc
 rw[EE,GO]
 lia
noncomputable def Yn(K:PySem.W.Frag):V->Option Int->Option Int->Hp->VK->Prop:=λx lo hi H Q=>∃a xs,x=.ref a/\SqT K H a xs /\
 ¬(HT.sIx xs.length 0 lo=0/\HT.sIx xs.length xs.length hi=xs.length)/\∀p,H p=none->Q (.ref p) (upd H p (.tup (Kc xs lo hi)))
theorem Pz:SlR X (Yn X.K):=by
 intro pins s σ H x v vl vu lo hi sl Q I rx hs pl pu h
 obtain⟨a,xs,rfl,hx,hw,q⟩:=h
 cases rx
 obtain⟨its,r,ht,hz⟩:=I.tuple hx
 have hlen:its.toArray.size=xs.length:=by rw[AE];exact r.length.symm
 refine⟨"tuple",_,CA.lookup,ht.typeIs,?_⟩
 refine HT.l4 ht hs pl pu (by rw[hlen];exact hw) ?_ (by rw[hlen];exact hz)
 rw[hlen]
 refine⟨.ref s.heap.objs.size,_,I.laid (t':=s.toks) (o:=.tup (Kc xs lo hi)) (λb ob q=>AB _ q) (AH _) ?_,rfl,q _ (I.hok.fresh (AH _))⟩
 exact⟨CI (nv xs lo hi) hz,_,(r.drop (HT.sIx xs.length 0 lo)).take (HT.sIx xs.length xs.length hi-HT.sIx xs.length 0 lo),mn.new _ _⟩
noncomputable def Yo(K:PySem.W.Frag):R2:=λx y H Q=>∃a b ns ms,x=.ref a/\y=.ref b/\SqT K H a (ns.map V.int)/\SqT K H b (ms.map V.int)/\Q (.bl (HT.lexLt ns ms)) H
theorem P0(hu:X.A.units<cLine):OpR X (compareOp .Lt) (Yo X.K):=by
 intro pins s σ H x y v u Q I rx ry h
 obtain⟨a,b,ns,ms,rfl,rfl,ha,hb,q⟩:=h
 cases rx
 cases ry
 obtain⟨its,r1,p1,_⟩:=I.tuple ha
 obtain⟨its2,r2,p2,_⟩:=I.tuple hb
 have i1:IntsAre its.toArray.toList ns:=intsAre_of r1
 have i2:IntsAre its2.toArray.toList ms:=intsAre_of r2
 exact HT.Bx p1 p2 i1 i2 hu ⟨.bl (HT.lexLt ns ms),H,I,rfl,q⟩
noncomputable def Uy(K:PySem.W.Frag):R2:=λx y H Q=>∃a b xs ys,x=.ref a/\y=.ref b/\SqT K H a xs/\SqT K H b ys/\xs≠[]/\xs.length+ys.length<=sizeLine /\
 (ys=[]->Q (.ref a) H)/\(ys≠[]->∀p,H p=none->Q (.ref p) (upd H p (.tup (xs++ys))))
theorem bo.nil_iff{xs:List V}{us:List Value}(r:bo xs us):us=[]↔xs=[]:=by
 cases r with
 |nil=>simp
 |cons _ _=>simp
theorem My:OpR X (binaryOp .Add) (Uy X.K):=by
 intro pins s σ H x y v u Q I rx ry h
 obtain⟨a,b,xs,ys,rfl,rfl,ha,hb,hx,hz,q1,q2⟩:=h
 cases rx
 cases ry
 obtain⟨its,r1,p1,_⟩:=I.tuple ha
 obtain⟨its2,r2,p2,_⟩:=I.tuple hb
 refine HT.Mv p1 p2 (λz=>hx (r1.nil_iff.mp z)) (λz=>⟨.ref a,H,I,rfl,q1 (r2.nil_iff.mp z)⟩) (λz=>?_) (by rw[<-r1.length,<-r2.length];exact hz)
 refine⟨.ref s.heap.objs.size,_,I.laid (t':=s.toks) (o:=.tup (xs++ys)) (λb ob q=>AB _ q) (AH _) ?_,rfl,q2 (λw=>z (r2.nil_iff.mpr w)) _ (I.hok.fresh (AH _))⟩
 exact⟨by rw[AY];exact hz,_,r1.append r2,mn.new _ _⟩
end
noncomputable def ixN(n:Nat)(i:Int):Option Nat:=if 0<=i then(if i<n then some i.toNat else none)else if -(n:Int)<=i then some (i+n).toNat else none
noncomputable def atI{α:Type}(xs:List α)(i:Int):Option α:=(ixN xs.length i).bind λj=>xs[j]?
theorem Dq{n:Nat}{i:Int}{j:Nat}(h:ixN n i=some j):seqIndex? i n=some j/\j<n /\ -(n:Int)<=i/\i<n:=by
 unfold ixN at h
 by_cases h0:0<=i
 ·rw[if_pos h0]at h
  by_cases h1:i<n
  ·rw[if_pos h1]at h
   have e:i.toNat=j:=BY h
   exact⟨by rw[seqIndex_of h0 h1,e],by lia,by lia,h1⟩
  ·rw[if_neg h1]at h;cases h
 ·rw[if_neg h0]at h
  by_cases h1:-(n:Int)<=i
  ·rw[if_pos h1]at h
   have e:(i+n).toNat=j:=BY h
   exact⟨by rw[seqIndex_neg (by lia) h1,e],by lia,h1,by lia⟩
  ·rw[if_neg h1]at h;cases h
theorem xq{α:Type}{xs:List α}{i:Int}{v:α}(h:atI xs i=some v):∃j,seqIndex? i xs.length=some j/\xs[j]? = some v/\j<xs.length /\ -(xs.length:Int)<=i/\i<xs.length:=by
 unfold atI at h
 cases e:ixN xs.length i with
 |none=>rw[e]at h;cases h
 |some j =>
  rw[e]at h
  obtain⟨h1,h2,h3,h4⟩:=Dq e
  exact⟨j,h1,h,h2,h3,h4⟩
noncomputable def xu(b:Expr):Prop:=∀o i,subscripted b false o i=operate [o,i] (getItem o i)
noncomputable def IxR(X:Cx)(r:R2):Prop :=
 ∀(value slice:Expr) (pins:List (Addr×Obj)) (s:Shared) (σ:St) (H:Hp) (x y:V) (v u:Value) (Q:VK),Inv X pins σ H s->RelV x v->RelV y u->r x y H Q ->
  subscripted slice false v u=operate [v,u] (getItem v u)->wpAny (model X.prog X.w) X.A (subscriptTail value slice v u) (EP X pins σ Q) X.xe s
noncomputable def MtR(X:Cx)(id:String)(r:V->List V->Hp->VK->Prop):Prop :=
 ∀(pins:List (Addr×Obj)) (s:Shared) (σ:St) (H:Hp) (x:V) (xs:List V) (v:Value) (us:List Value) (Q:VK),Inv X pins σ H s->RelV x v->bo xs us->r x xs H Q ->
  wpAny (model X.prog X.w) X.A (call (.builtin id) (v::us)) (EP X pins σ Q) X.xe s
section
variable{X:Cx}{a b:Expr}{ta tb:TE}{pos:Pos}
theorem IxR.or{r r':R2}(h:IxR X r)(h':IxR X r'):IxR X (λx y H Q=>r x y H Q\/r' x y H Q):=by
 intro value slice pins s σ H x y v u Q I rx ry q hs
 rcases q with q | q
 ·exact h value slice pins s σ H x y v u Q I rx ry q hs
 ·exact h' value slice pins s σ H x y v u Q I rx ry q hs
theorem Uz{r:R2}(hr:IxR X r)(ha:PE X a ta)(hb:PE X b tb)(hs:xu b):PE X (.Subscript a b pos) (tOp r ta tb):=by
 intro pins s σ H Q I h
 exact Subscript_ (Wy ha hb I h λv u s2 x y H2 I2 rx ry q=>hr a b pins s2 σ H2 x y v u Q I2 rx ry q (hs _ _))
noncomputable def W1(K:PySem.W.Frag):R2:=λx y H Q=>∃p xs i v,x=.ref p/\y=.int i/\SqL K H p xs/\atI xs i=some v/\Q v H
noncomputable def W2(K:PySem.W.Frag):R2:=λx y H Q=>∃p xs i v,x=.ref p/\y=.int i/\SqT K H p xs/\atI xs i=some v/\Q v H
noncomputable def rIxS:R2:=λx y H Q=>∃z i c,x=.str z/\y=.int i/\z.length<=sizeLine/\atI z.cps.toList i=some c/\Q (.str ⟨#[c]⟩) H
theorem Mz:IxR X (W1 X.K):=by
 intro value slice pins s σ H x y v u Q I rx ry h hs
 obtain⟨p,xs,i,z,rfl,rfl,hq,he,q⟩:=h
 cases rx
 obtain⟨t,rfl⟩:=ry
 obtain⟨its,r,pl,hz⟩:=I.list hq
 obtain⟨j,h1,h2,h3,h4,h5⟩:=xq he
 obtain⟨w,ew,rw'⟩:=r.get h2
 have hl:=r.length
 have hn:=qg
 have fin:EP X pins σ Q w s:=⟨z,H,I,rw',q⟩
 by_cases h0:0<=i
 ·have hj:i.toNat=j:=by
   rw[seqIndex_of h0 h5]at h1
   exact BY h1
  exact item_listR pl.isList h0 (by lia) (by rw[hj];simpa using ew) fin hs
 ·have hj:(i+(its.toArray.size:Int)).toNat=j:=by
   rw[seqIndex_neg (by lia) h4]at h1
   rw[AE,<-hl]
   exact BY h1
  exact subscriptTail_builtinR (x:=w) pl.isList.typeIs slot_list_getitem.lookup
   (wpAny_getItem_list_neg (Q:=λr s'=>r=w/\EP X pins σ Q r s') pl.isList (by lia) (by rw[AE]<;>lia) (by lia) (by rw[hj];simpa using ew) ⟨rfl,fin⟩) hs
theorem P4:IxR X (W2 X.K):=by
 intro value slice pins s σ H x y v u Q I rx ry h hs
 obtain⟨p,xs,i,z,rfl,rfl,hq,he,q⟩:=h
 cases rx
 obtain⟨t,rfl⟩:=ry
 obtain⟨its,r,pl,hz⟩:=I.tuple hq
 obtain⟨j,h1,h2,h3,h4,h5⟩:=xq he
 obtain⟨w,ew,rw'⟩:=r.get h2
 have hl:=r.length
 have hn:=qg
 have fin:EP X pins σ Q w s:=⟨z,H,I,rw',q⟩
 exact subscriptTail_builtinR (x:=w) pl.typeIs slot_tuple_getitem.lookup
  (getItem_tuple (j:=j) (Q:=λr s'=>r=w/\EP X pins σ Q r s') pl (by lia) (by lia) (by rw[AE,<-hl];exact h1) (by simpa using ew) ⟨rfl,fin⟩) hs
theorem P5:IxR X rIxS:=by
 intro value slice pins s σ H x y v u Q I rx ry h hs
 obtain⟨z,i,c,rfl,rfl,hz,he,q⟩:=h
 obtain⟨t,rfl⟩:=rx
 obtain⟨t',rfl⟩:=ry
 obtain⟨j,h1,h2,h3,h4,h5⟩:=xq he
 have hl:z.cps.toList.length=z.length:=by simp[Str.length]
 rw[hl]at h1 h4 h5
 have hn:=qg
 exact tail_any (typeIs_str s z t) slot_str_getitem.lookup (getItem_str (c:=c) (by
  have e1:decide (i < -(2 ^ 63:Int))=false:=decide_eq_false (by lia)
  have e2:decide (i≥2 ^ 63)=false:=decide_eq_false (by lia)
  rw[e1,e2,Bool.or_false]) (by rw[h1];simpa using h2) ⟨.str ⟨#[c]⟩,H,I.tok _,⟨_,rfl⟩,q⟩) hs
noncomputable def rIx(K:PySem.W.Frag):R2:=λx y H Q=>W1 K x y H Q\/W2 K x y H Q\/rIxS x y H Q
theorem P6:IxR X (rIx X.K):=Mz.or (P4.or P5)
theorem B0(its:List Value)(n j:Nat)(u:Value):Obj.mapSeq (·.setIfInBounds j u) {cls:=.type "list",data:=.seq its.toArray n}={cls:=.type "list",data:=.seq (its.set j u).toArray n}:=by
 simp[Obj.mapSeq]
theorem Inv.lst{pins:List (Addr×Obj)}{σ:St}{H:Hp}{s:Shared}{p:Addr}{xs:List V}(I:Inv X pins σ H s)(h:H p=some (.lst xs)) :
  ∃(its:List Value) (n:Nat),bo xs its/\s.heap.get? p=some {cls:=.type "list",data:=.seq its.toArray n}/\xs.length<=sizeLine:=by
 obtain⟨z,its,n,r,e⟩:=I.hok p _ h
 exact⟨its,n,r,e,z⟩
theorem Inv.lstUpd {pins:List (Addr×Obj)} {σ:St} {H:Hp} {s:Shared} {p:Addr} {xs ys:List V} {its its':List Value} {n n':Nat} {f:Obj->Obj} (I:Inv X pins σ H s) (h:H p=some (.lst xs))
  (ho:s.heap.get? p=some {cls:=.type "list",data:=.seq its.toArray n}) (hf:f {cls:=.type "list",data:=.seq its.toArray n}={cls:=.type "list",data:=.seq its'.toArray n'}) (r:bo ys its') (hz:ys.length<=sizeLine) (t:Nat) :
  Inv X pins σ (upd H p (.lst ys)) {s with heap:=s.heap.update p f,toks:=t}:=by
 have e:(s.heap.update p f).get? p=some {cls:=.type "list",data:=.seq its'.toArray n'}:=by
  rw[CV f ho (by rw[hf]<;>rfl),hf]
 refine I.write (x:=p) (e:=p) (by rw[h];trivial) (.inl rfl) (λb u hb q=>(IX _ _ (Ne.symm hb)).trans q) ⟨_,e⟩ ?_
 exact⟨hz,its',n',r,e⟩
noncomputable def rSetL:V->V->V->Hp->(Hp->Prop)->Prop:=λo i v H Q=>∃p xs k j,o=.ref p/\i=.int k/\H p=some (.lst xs)/\ixN xs.length k=some j/\Q (upd H p (.lst (xs.set j v)))
theorem set_list:Tu X rSetL:=by
 intro pins s σ H o i v ov iv u Q I ro ri rv h
 obtain⟨p,xs,k,j,rfl,rfl,hp,hj,q⟩:=h
 cases ro
 obtain⟨t,rfl⟩:=ri
 obtain⟨its,n,r,ho,hz⟩:=I.lst hp
 obtain⟨h1,h2,h3,h4⟩:=Dq hj
 have hl:=r.length
 have hn:=qg
 have I':Inv X pins σ (upd H p (.lst (xs.set j v))) {s with heap:=s.heap.update p (Obj.mapSeq (·.setIfInBounds j u))} :=
  I.lstUpd hp ho (B0 its n j u) (r.set rv j) (by rw[JE];exact hz) s.toks
 by_cases h0:0<=k
 ·have hk:k.toNat=j:=by
   rw[seqIndex_of h0 h4]at h1
   exact BY h1
  exact PySem.W.ki_setAt ho h0 (by lia) (by rw[AE,<-hl];exact h4) (by rw[hk];exact⟨_,I',q⟩)
 ·have hk:(k+(its.toArray.size:Int)).toNat=j:=by
   rw[seqIndex_neg (by lia) h3]at h1
   rw[AE,<-hl]
   exact BY h1
  exact PySem.W.ki_setBack ho (by lia) (by rw[AE,<-hl];exact h3) (by lia) (by rw[hk];exact⟨_,I',q⟩)
theorem uz(lo hi:Option Int)(n:Nat):(sliceBounds lo hi none n).1=((HT.sIx n 0 lo:Nat):Int)/\(sliceBounds lo hi none n).2.1=((HT.sIx n n hi:Nat):Int)/\(sliceBounds lo hi none n).2.2=1:=by
 refine⟨?_,?_,rfl⟩
 ·cases lo with
  |none=>simp[sliceBounds,HT.sIx]
  |some i =>
   simp![sliceBounds,HT.sIx,Option.getD_none,show(1:Int) > 0 by decide,if_true]
   by_cases h:i<0
   ·simp![h,if_true]<;>lia
   ·simp![h,if_false]<;>lia
 ·cases hi with
  |none=>simp[sliceBounds,HT.sIx]
  |some i =>
   simp![sliceBounds,HT.sIx,Option.getD_none,show(1:Int) > 0 by decide,if_true]
   by_cases h:i<0
   ·simp![h,if_true]<;>lia
   ·simp![h,if_false]<;>lia
theorem rn(its:List Value)(lo hi:Option Int):slicePick its.toArray lo hi none=((its.drop (HT.sIx its.length 0 lo)).take (HT.sIx its.length its.length hi-HT.sIx its.length 0 lo)).toArray:=by
 obtain⟨h1,h2,h3⟩:=uz lo hi its.toArray.size
 unfold slicePick
 rw[h1,h2,h3]
 simp![sliceRange_one,pick_run,AE]<;>rfl
noncomputable def Yp(K:PySem.W.Frag):V->Option Int->Option Int->Hp->VK->Prop:=λx lo hi H Q=>∃a xs,x=.ref a/\SqL K H a xs/\∀p,H p=none->Q (.ref p) (upd H p (.lst (Kc xs lo hi)))
theorem M0:SlR X (Yp X.K):=by
 intro pins s σ H x v vl vu lo hi sl Q I rx hs pl pu h
 obtain⟨a,xs,rfl,hx,q⟩:=h
 cases rx
 obtain⟨its,r,ht,hz⟩:=I.list hx
 have hlen:=r.length
 refine⟨"list",_,slot_list_getitem.lookup,ht.isList.typeIs,?_⟩
 refine wpAny_getItem_list_slice ht.isList hs pl pu .none (by simp) ?_ (by rw[AE]<;>lia)
 rw[rn,<-hlen]
 refine⟨.ref s.heap.objs.size,_,I.laid (t':=s.toks) (o:=.lst (Kc xs lo hi)) (λb ob q=>AB _ q) (AH _) ?_,rfl,q _ (I.hok.fresh (AH _))⟩
 exact⟨CI (nv xs lo hi) hz,_,0,(r.drop (HT.sIx xs.length 0 lo)).take (HT.sIx xs.length xs.length hi-HT.sIx xs.length 0 lo),AI _ rfl⟩
noncomputable def qa:V->Bool
 |.non=>true
 |.bl _=>true
 |.int _=>true
 |.str _=>true
 |_=>false
noncomputable def eqV:V->V->Bool
 |.non,.non=>true
 |.bl a,.bl b=>a==b
 |.bl a,.int b=>(if a then 1 else 0)==b
 |.int a,.bl b=>a==(if b then 1 else 0)
 |.int a,.int b=>a==b
 |.str a,.str b=>a==b
 |_,_=>false
theorem P7{A:Around}{s:Shared}{y x:V}{u v:Value}(ry:RelV y u)(rx:RelV x v)(fy:qa y=true)(fx:qa x=true):SeqAt.EqAt A s u v (eqV y x):=by
 cases y with
 |non =>
  cases ry
  cases x with
  |non=>cases rx;exact SeqAt.EqAt.same _
  |bl b=>cases rx;exact SeqAt.EqAt.none_bool b
  |int b=>obtain⟨t,rfl⟩:=rx;exact SeqAt.EqAt.none_int b t
  |str b=>obtain⟨t,rfl⟩:=rx;exact SeqAt.EqAt.none_str b t
  |_=>exact absurd (show false=true from fx) AU
 |bl a =>
  cases ry
  cases x with
  |non=>cases rx;exact SeqAt.EqAt.bool_none a
  |bl b=>cases rx;exact SeqAt.EqAt.bool_bool a b
  |int b=>obtain⟨t,rfl⟩:=rx;exact SeqAt.EqAt.bool_int a b t
  |str b=>obtain⟨t,rfl⟩:=rx;exact SeqAt.EqAt.bool_str a b t
  |_=>exact absurd (show false=true from fx) AU
 |int a =>
  obtain⟨t',rfl⟩:=ry
  cases x with
  |non=>cases rx;exact SeqAt.EqAt.int_none a t'
  |bl b=>cases rx;exact SeqAt.EqAt.int_bool a t' b
  |int b=>obtain⟨t,rfl⟩:=rx;exact KB a t' b t
  |str b=>obtain⟨t,rfl⟩:=rx;exact JZ a t' b t
  |_=>exact absurd (show false=true from fx) AU
 |str a =>
  obtain⟨t',rfl⟩:=ry
  cases x with
  |non=>cases rx;exact SeqAt.EqAt.str_none a t'
  |bl b=>cases rx;exact SeqAt.EqAt.str_bool a t' b
  |int b=>obtain⟨t,rfl⟩:=rx;exact KA a t' b t
  |str b=>obtain⟨t,rfl⟩:=rx;exact SeqAt.EqAt.str_str a t' b t
  |_=>exact absurd (show false=true from fx) AU
 |_=>exact absurd (show false=true from fy) AU
noncomputable def eqU(x:V)(u:Value):Bool:=match u with
 |.none=>eqV .non x
 |.bool b=>eqV (.bl b) x
 |.int i _=>eqV (.int i) x
 |.str z _=>eqV (.str z) x
 |_=>false
theorem Kd{x y:V}{u:Value}(r:RelV y u)(f:qa y=true):eqU x u=eqV y x:=by
 cases y with
 |non=>cases r;rfl
 |bl b=>cases r;rfl
 |int i=>obtain⟨t,rfl⟩:=r;rfl
 |str z=>obtain⟨t,rfl⟩:=r;rfl
 |_=>exact absurd (show false=true from f) AU
theorem ny{x:V}:∀{xs:List V} {us:List Value},bo xs us->xs.all qa=true->us.any (eqU x)=xs.any λy=>eqV y x
 |_,_,.nil,_=>rfl
 |y::xs,u::us,.cons r t,f=>by
  rw[BX,AX]at f
  rw[CW,CW,Kd r f.1,ny t f.2]
theorem ku{A:Around}{s:Shared}{x:V}{v:Value}(rx:RelV x v)(fx:qa x=true):∀{xs:List V} {us:List Value},bo xs us->xs.all qa=true->∀u∈us,SeqAt.EqAt A s u v (eqU x u)
 |_,_,.nil,_=>λu hu=>by cases hu
 |y::xs,u::us,.cons r t,f=>λu' hu=>by
  rw[BX,AX]at f
  rcases AN.mp hu with rfl | hu
  ·rw[Kd r f.1];exact P7 r rx f.1 fx
  ·exact ku rx fx t f.2 u' hu
noncomputable def inV(x:V)(xs:List V):Bool:=xs.any λy=>eqV y x
noncomputable def rIn(K:PySem.W.Frag)(neg:Bool):R2:=λx y H Q=>∃p xs,y=.ref p/\(SqL K H p xs\/SqT K H p xs)/\qa x=true/\xs.all qa=true/\Q (.bl (if neg then !inV x xs else inV x xs)) H
theorem Dr:OpR X (compareOp .In) (rIn X.K false):=by
 intro pins s σ H x y v u Q I rx ry h
 obtain⟨p,xs,rfl,hq,fx,fs,q⟩:=h
 cases ry
 rcases hq with hq | hq
 ·obtain⟨its,r,pl,hz⟩:=I.list hq
  refine SeqAt.in_listAt (eqU x) pl.isList (λw hw=>ku rx fx r fs w (by simpa using hw)) ⟨.bl _,H,I,rfl,?_⟩
  rw[show its.toArray.any (eqU x)=its.any (eqU x)by simp,ny r fs]
  exact q
 ·obtain⟨its,r,pl,hz⟩:=I.tuple hq
  refine SeqAt.in_tupleAt (eqU x) pl (λw hw=>ku rx fx r fs w (by simpa using hw)) ⟨.bl _,H,I,rfl,?_⟩
  rw[show its.toArray.any (eqU x)=its.any (eqU x)by simp,ny r fs]
  exact q
theorem u0:OpR X (compareOp .NotIn) (rIn X.K true):=by
 intro pins s σ H x y v u Q I rx ry h
 obtain⟨p,xs,rfl,hq,fx,fs,q⟩:=h
 cases ry
 rcases hq with hq | hq
 ·obtain⟨its,r,pl,hz⟩:=I.list hq
  refine SeqAt.notIn_listAt (eqU x) pl.isList (λw hw=>ku rx fx r fs w (by simpa using hw)) ⟨.bl _,H,I,rfl,?_⟩
  rw[show its.toArray.any (eqU x)=its.any (eqU x)by simp,ny r fs]
  exact q
 ·obtain⟨its,r,pl,hz⟩:=I.tuple hq
  refine SeqAt.notIn_tupleAt (eqU x) pl (λw hw=>ku rx fx r fs w (by simpa using hw)) ⟨.bl _,H,I,rfl,?_⟩
  rw[show its.toArray.any (eqU x)=its.any (eqU x)by simp,ny r fs]
  exact q
theorem u3:fi X (.builtin "len") (λxs H Q=>∃p ys,xs=[.ref p]/\(SqL X.K H p ys\/SqT X.K H p ys)/\Q (.int ys.length) H):=by
 intro pins s σ H xs us Q I r h
 obtain⟨p,ys,rfl,hq,q⟩:=h
 obtain⟨u,rfl,rx⟩:=vals1 r
 cases rx
 have hn:=qg
 rcases hq with hq | hq
 ·obtain⟨its,r',pl,hz⟩:=I.list hq
  have hlen:=r'.length
  exact Calls.call_len_list pl.isList (by simp![AE]<;>lia) ⟨.int ys.length,H,I.tok _,⟨s.toks+1,by rw[AE,hlen]⟩,q⟩
 ·obtain⟨its,r',pl,hz⟩:=I.tuple hq
  have hlen:=r'.length
  exact len_tuple pl (by simp![AE]<;>lia) ⟨.int ys.length,H,I.tok _,⟨s.toks+1,by rw[AE,hlen]⟩,q⟩
theorem u4:fi X (.type "list") (λxs H Q=>∃p ys,xs=[.ref p]/\(SqL X.K H p ys\/SqT X.K H p ys)/\∀l,H l=none->Q (.ref l) (upd H l (.lst ys))):=by
 intro pins s σ H xs us Q I r h
 obtain⟨p,ys,rfl,hq,q⟩:=h
 obtain⟨u,rfl,rx⟩:=vals1 r
 cases rx
 have fin:∀(its:List Value),bo ys its->ys.length<=sizeLine->∀(h':Heap) (c':Nat),(∀b o',s.heap.get? b=some o'->h'.get? b=some o') ->
   h'.get? s.heap.objs.size=some {cls:=.type "list",dict:=none,data:=.seq its.toArray c',slots:=#[]}->EP X pins σ Q (.ref s.heap.objs.size) {s with heap:=h'}:=λits r' hz h' c' kp e =>
  ⟨.ref s.heap.objs.size,_,I.laid (t':=s.toks) kp (AH _) (show gj X.prog X.w _ h' _ (.lst ys)from⟨hz,its,c',r',e⟩),rfl,q _ (I.hok.fresh (AH _))⟩
 rcases hq with hq | hq
 ·obtain⟨its,r',pl,hz⟩:=I.list hq
  have hlen:=r'.length
  obtain⟨o,ho,hc,n,hd⟩:=pl.isList
  exact call_list_seq p (.inl rfl) ho hc hd (λh' c' kp e=>fin its r' hz h' c' kp e) (by simp![AE]<;>lia)
 ·obtain⟨its,r',pl,hz⟩:=I.tuple hq
  have hlen:=r'.length
  obtain⟨o,ho,hc,n,hd⟩:=pl
  exact call_list_seq p (.inr rfl) ho hc hd (λh' c' kp e=>fin its r' hz h' c' kp e) (by simp![AE]<;>lia)
theorem rp:fi X (.type "tuple") (λxs H Q=>∃p ys,xs=[.ref p]/\((SqL X.K H p ys/\∀l,H l=none->Q (.ref l) (upd H l (.tup ys)))\/(SqT X.K H p ys/\Q (.ref p) H))):=by
 intro pins s σ H xs us Q I r h
 obtain⟨p,ys,rfl,h⟩:=h
 obtain⟨u,rfl,rx⟩:=vals1 r
 cases rx
 rcases h with⟨hq,q⟩ | ⟨hq,q⟩
 ·obtain⟨its,r',pl,hz⟩:=I.list hq
  have hlen:=r'.length
  refine call_tuple_list pl.isList (λh' kp=>?_) (by simp![AE]<;>lia)
  have I1:Inv X pins σ H {s with heap:=h'}:=I.kept (t':=s.toks) kp
  have I2:Inv X pins σ (upd H h'.objs.size (.tup ys)) {s with heap:=h'.push {cls:=.type "tuple",data:=.seq its.toArray}} :=
   I1.laid (t':=s.toks) (λb o e=>AB _ e) (AH _) (show gj X.prog X.w _ _ _ (.tup ys)from⟨hz,its,r',mn.new _ _⟩)
  exact⟨.ref h'.objs.size,_,I2,rfl,q _ (I1.hok.fresh (AH _))⟩
 ·obtain⟨its,r',pl,hz⟩:=I.tuple hq
  exact call_tuple_same pl ⟨.ref p,H,I,rfl,q⟩
noncomputable def tyV(K:PySem.W.Frag)(T:String)(x:V)(H:Hp):Prop:=match x with
 |.str _=>T="str"
 |.int _=>T="int"
 |.ref p=>(T="list"/\∃xs,SqL K H p xs)\/(T="tuple"/\∃o,K.lookup p=some o/\o.cls=.type "tuple"/\o.dict=none) \/
   (T="dict"/\((∃kvs,H p=some (.dK kvs))\/∃kvs,H p=some (.dT kvs)))\/(T="set"/\∃S n,H p=some (.set S n))
 |_=>False
theorem P8{pins:List (Addr×Obj)}{σ:St}{H:Hp}{s:Shared}{T:String}{x:V}{v:Value}(I:Inv X pins σ H s)(r:RelV x v)(ty:tyV X.K T x H) :
  s.TypeIs v T/\∀a,v=.ref a->∃ob,s.heap.get? a=some ob/\ob.dict=none:=by
 cases x with
 |str z =>
  obtain⟨t,rfl⟩:=r
  cases(show T="str" from ty)
  exact⟨typeIs_str s z t,λ_ e=>nomatch e⟩
 |int i =>
  obtain⟨t,rfl⟩:=r
  cases(show T="int" from ty)
  exact⟨typeIs_int s i t,λ_ e=>nomatch e⟩
 |ref p =>
  cases r
  rcases ty with⟨rfl,xs,hq⟩ | ⟨rfl,o,hk,hc,hd⟩ | ⟨rfl,hk⟩ | ⟨rfl,S,n,hk⟩
  ·obtain⟨its,_,pl,_⟩:=I.list hq
   refine⟨pl.isList.typeIs,λa e=>?_⟩
   cases e
   obtain⟨o,n,e,c,hd,_⟩:=pl
   exact⟨o,e,hd⟩
  ·refine⟨⟨o,I.kIn p o hk,hc⟩,λa e=>?_⟩
   cases e
   exact⟨o,I.kIn _ o hk,hd⟩
  ·have z:∃o,s.heap.get? p=some o/\o.ExactDict:=by
    rcases hk with⟨kvs,hk⟩ | ⟨kvs,hk⟩
    ·obtain⟨_,_,_,_,o,_,_,e,ex,_⟩:=I.hok p _ hk
     exact⟨o,e,ex⟩
    ·obtain⟨_,_,_,_,o,_,_,e,ex,_⟩:=I.hok p _ hk
     exact⟨o,e,ex⟩
   obtain⟨o,e,ex⟩:=z
   refine⟨⟨o,e,ex.1⟩,λa e2=>?_⟩
   cases e2
   exact⟨o,e,ex.2.1⟩
  ·obtain⟨o,_,_,_,e,ex,_⟩:=I.hok p _ hk
   refine⟨⟨o,e,ex.1⟩,λa e2=>?_⟩
   cases e2
   exact⟨o,e,ex.2.1⟩
 |_=>exact False.elim ty
noncomputable def tBM(K:PySem.W.Frag)(T:String)(r:V->List V->Hp->VK->Prop)(to:TE)(t:TA):TE:=λσ H Q=>to σ H λx H1=>tyV K T x H1/\t σ H1 λxs H2=>r x xs H2 Q
variable{o e:Expr}{es:List Expr}{to:TE}{t:TA}{name:Str}{apos cpos:Pos}{T id:String}{r:V -> List V -> Hp -> VK -> Prop}
theorem Hs (pa:PlainAttrs T) (slot:Slot T name id) (hty:typeOf (.builtin id)=pure (.type "method_descriptor")) (hm:MtR X id r) (ho:PE X o to) (ha:PA X (e::es) t)
  (hbase:attributeBase o name X.env (eval o X.env)=eval o X.env:=by rfl)
  (hfew:((backTo cpos (starEach (e::es) X.env)).all (λx=>!x.1)&&(backToKw cpos (keywordEach [] X.env)).all (λx=>x.1.isSome)
   && decide ((e::es).length+([]:List Keyword).length+(if([]:List Keyword).isEmpty then 0 else 1)<30))=true:=by rfl)
  (hline:(apos.endLine==cpos.line)=true:=by rfl) (hs:starEach (e::es) X.env=(false,eval e X.env)::starEach es X.env:=by rfl) (hplain:(backTo cpos (starEach es X.env)).any (·.1)=false:=by rfl) :
  PE X (.Call (.Attribute o name apos) (e::es) [] cpos) (tBM X.K T r to t):=by
 intro pins s σ H Q I h
 refine wpAny_Call_method_late hbase hfew hline rfl (thn (ho pins s σ H _ I h) λv s1 ⟨x,H1,I1,r1,ty,q1⟩=>?_)
 obtain⟨h1,h2⟩:=P8 I1 r1 ty
 refine⟨T,id,pa,slot,hty,h1,h2,?_⟩
 have hA:=ha cpos pins s1 σ H1 _ I1 q1
 rw[hs]at hA ⊢
 refine GC (by show(false || (backTo cpos (starEach es X.env)).any (·.1))=false;rw[hplain]<;>rfl) (JU ?_)
 exact thn hA λus s2 ⟨vs,H2,I2,r2,q2⟩=>hm pins s2 σ H2 x vs v us Q I2 r1 r2 q2
end
noncomputable def MtM(X:Cx)(id:String)(r:V->List V->Hp->VK->Prop):Prop :=
 ∀(pins:List (Addr×Obj)) (s:Shared) (σ:St) (H:Hp) (x:V) (xs:List V) (v:Value) (us:List Value) (Q:VK),Inv X pins σ H s->RelV x v->bo xs us->r x xs H Q ->
  wpAny (model X.prog X.w) X.A (call (.builtin id) (v::us)) (EP X pins σ Q) X.xe s
theorem bo.one:∀{x:V} {us:List Value},bo [x] us->∃u,us=[u]/\RelV x u
 |_,_,.cons r .nil=>⟨_,rfl,r⟩
theorem bo.zero:∀{us:List Value},bo [] us->us=[]
 |_,.nil=>rfl
theorem bo.dropLast{xs:List V}{us:List Value}(h:bo xs us):bo xs.dropLast us.dropLast:=by
 induction h with
 |nil=>exact .nil
 |cons r t ih =>
  cases t with
  |nil=>exact .nil
  |cons q t'=>exact .cons r ih
theorem bo.eraseIdx:∀{xs:List V} {us:List Value} (i:Nat),bo xs us->bo (xs.eraseIdx i) (us.eraseIdx i)
 |_,_,_,.nil=>.nil
 |_,_,0,.cons _ t=>t
 |_,_,i+1,.cons r t=>.cons r (bo.eraseIdx i t)
theorem bo.rep{xs:List V}{us:List Value}(h:bo xs us):∀k:Nat,bo (List.replicate k xs).flatten (List.replicate k us).flatten
 |0=>.nil
 |k+1=>by
  rw[DP,DP,EW,EW]
  exact bo.append h (bo.rep h k)
theorem B3{α:Type}(l:List α):l.eraseIdx (l.length-1)=l.dropLast:=by
 induction l with
 |nil=>rfl
 |cons a r ih =>
  cases r with
  |nil=>rfl
  |cons b r =>
   have e:(a::b::r).length-1=((b::r).length-1)+1:=by
    have h1:(a::b::r).length=r.length+2:=rfl
    have h2:(b::r).length=r.length+1:=rfl
    lia
   rw[e,FX,ih]
   all_goals rfl
theorem u5{α:Type}:∀(l:List α) (i:Nat),(l.eraseIdx i).length<=l.length
 | [],_=>AH _
 |_::_,0=>FY _
 |_::r,i+1=>Nat.succ_le_succ (u5 r i)
theorem foldl_rep(its:List Value):∀(k:Nat) (acc:List Value),
  List.foldl (λx1 x2=>x1++x2) acc.toArray (List.replicate k its.toArray)=(acc++(List.replicate k its).flatten).toArray
 |0,acc=>by simp
 |k+1,acc=>by
  have e:acc.toArray++its.toArray=(acc++its).toArray:=by simp
  have e2:(acc++its)++(List.replicate k its).flatten=acc++(List.replicate (k+1) its).flatten:=by
   rw[DP,EW,Ix]
  rw[<-e2,<-foldl_rep its k (acc++its),<-e,DP,EM]
section
variable{X:Cx}{pins:List (Addr × Obj)}{σ:St}{H:Hp}{s:Shared}{l b:Addr}{xs ys zs:List V}
theorem Inv.lset {its its':List Value} {n:Nat} {f:Array Value->Array Value} {t':Nat} (I:Inv X pins σ H s) (hH:H l=some (.lst xs))
  (e:s.heap.get? l=some {cls:=.type "list",data:=.seq its.toArray n}) (hf:f its.toArray=its'.toArray) (hv:bo ys its') (hz:ys.length<=sizeLine) :
  Inv X pins σ (upd H l (.lst ys)) {s with heap:=s.heap.update l (Obj.mapSeq f),toks:=t'}:=by
 have q:=PySem.IsL.update e f
 rw[hf]at q
 refine I.write (x:=l) (e:=l) (by rw[hH];exact trivial) (.inl rfl) (λb' u hb hu=>(IX s.heap (Obj.mapSeq f) (Ne.symm hb)).trans hu) ⟨_,q⟩ ?_
 exact⟨hz,its',_,hv,q⟩
theorem Inv.lnew{its:List Value}{t':Nat}(I:Inv X pins σ H s)(hv:bo ys its)(hz:ys.length<=sizeLine) :
  Inv X pins σ (upd H s.heap.objs.size (.lst ys)) {s with heap:=s.heap.push {cls:=.type "list",data:=.seq its.toArray},toks:=t'} :=
 I.laid (λ_ _ q=>AB _ q) (AH _) ⟨hz,its,0,hv,AI _ rfl⟩
theorem Inv.fresh(I:Inv X pins σ H s):H s.heap.objs.size=none:=I.hok.fresh (AH _)
theorem Inv.lstM(I:Inv X pins σ H s)(hH:H l=some (.lst xs)):xs.length<=sizeLine/\∃(its:List Value) (n:Nat),bo xs its/\xs.length=its.length/\s.heap.get? l=some {cls:=.type "list",data:=.seq its.toArray n}:=by
 obtain⟨z,its,n,r,e⟩:=I.hok l _ hH
 exact⟨z,its,n,r,r.length,e⟩
theorem zr{n:Nat}(h:n<=sizeLine):Builtin.List.listTooLong n=false:=by
 unfold Builtin.List.listTooLong
 exact decide_eq_false (by lia)
end
section
variable{X:Cx}
noncomputable def rAppend:V->List V->Hp->VK->Prop:=λx vs H Q=>∃l xs y,x=.ref l/\vs=[y]/\H l=some (.lst xs)/\xs.length<sizeLine/\Q .non (upd H l (.lst (xs++[y])))
theorem Ds:MtM X "list.append" rAppend:=by
 intro pins s σ H x vs v us Q I rx rv h
 obtain⟨l,xs,y,rfl,rfl,hH,hz,q⟩:=h
 cases rx
 obtain⟨u,rfl,ru⟩:=rv.one
 obtain⟨z,its,n,r,hl,e⟩:=I.lstM hH
 refine GP F.slot_list_append ⟨_,e,rfl⟩ F.entry_list_append (F.args_list_append_2 _ _) (PySem.list_append l its.toArray n u (by rw[AE];lia)) ⟨e,?_⟩
 refine⟨.non,_,I.lset (its':=its++[u]) hH e (by simp) (r.append (.cons ru .nil)) ?_,rfl,q⟩
 rw[AY,ES]
 lia
noncomputable def rPop:V->List V->Hp->VK->Prop:=λx vs H Q=>∃l xs y,x=.ref l/\vs=[]/\H l=some (.lst xs)/\xs[xs.length-1]? = some y/\Q y (upd H l (.lst xs.dropLast))
theorem P9:MtM X "list.pop" rPop:=by
 intro pins s σ H x vs v us Q I rx rv h
 obtain⟨l,xs,y,rfl,rfl,hH,hy,q⟩:=h
 cases rx
 have hus:=rv.zero
 subst hus
 obtain⟨z,its,n,r,hl,e⟩:=I.lstM hH
 obtain⟨u,hu,ru⟩:=r.get hy
 have hy':its.toArray[its.toArray.size-1]? = some u:=by
  show its.toArray[its.length-1]? = some u
  rw[<-ET,<-hl]
  exact hu
 refine GP JF ⟨_,e,rfl⟩ F.entry_list_pop (F.args_list_pop_1 _) (MeetsSeq.list_pop_last l its.toArray n u hy' (by rw[AE];lia)) ⟨e,?_⟩
 refine⟨y,_,I.lset (its':=its.dropLast) hH e ?_ r.dropLast ?_,ru,q⟩
 ·show its.toArray.eraseIdxIfInBounds (its.toArray.size-1)=its.dropLast.toArray
  rw[AE,GM,B3]
 ·rw[List.length_dropLast]
  lia
noncomputable def rPopAt:V->List V->Hp->VK->Prop:=λx vs H Q=>∃l xs i k y,x=.ref l/\vs=[.int i]/\H l=some (.lst xs) /\ -(2 ^ 63)<=i/\i<2 ^ 63/\seqIndex? i xs.length=some k/\xs[k]? = some y/\Q y (upd H l (.lst (xs.eraseIdx k)))
theorem Ht:MtM X "list.pop" rPopAt:=by
 intro pins s σ H x vs v us Q I rx rv h
 obtain⟨l,xs,i,k,y,rfl,rfl,hH,h1,h2,hk,hy,q⟩:=h
 cases rx
 obtain⟨u,rfl,ru⟩:=rv.one
 obtain⟨t,rfl⟩:=ru
 obtain⟨z,its,n,r,hl,e⟩:=I.lstM hH
 obtain⟨w,hw,rw'⟩:=r.get hy
 refine GP JF ⟨_,e,rfl⟩ F.entry_list_pop (F.args_list_pop_2 _ _)
  (MeetsSeq.list_pop_at l its.toArray n i t k w (fitsIndex_both h1 h2) (by rw[AE,<-hl];exact hk) (by rw[<-ET];exact hw) (by rw[AE];lia)) ⟨e,?_⟩
 refine⟨y,_,I.lset (its':=its.eraseIdx k) hH e ?_ (r.eraseIdx k) ?_,rw',q⟩
 ·show its.toArray.eraseIdxIfInBounds k=(its.eraseIdx k).toArray
  rw[GM]
 ·have:=u5 xs k
  lia
theorem len_rep{α:Type}(xs:List α)(k:Nat):(List.replicate k xs).flatten.length=k*xs.length:=by
 induction k with
 |zero=>simp
 |succ k ih=>rw[DP,EW,AY,ih,Nat.succ_mul,Nat.add_comm]
end
section
variable{κ:Type}[DecidableEq κ]
noncomputable def B4(kvs:List (κ×V))(k:κ):Option V:=(kvs.find? λkv=>decide (kv.1=k)).map (·.2)
noncomputable def putK(kvs:List (κ×V))(k:κ)(v:V):List (κ×V) :=
 if(kvs.any λkv=>decide (kv.1=k))=true then kvs.map (λkv=>if kv.1=k then(kv.1,v)else kv)else kvs++[(k,v)]
theorem ni{p:κ×V}{r:List (κ×V)}{k:κ}(e:p.1=k):B4 (p::r) k=some p.2:=by simp[B4,EN,e]
theorem nj{p:κ×V}{r:List (κ×V)}{k:κ}(e:¬p.1=k):B4 (p::r) k=B4 r k:=by simp[B4,EN,e]
theorem zt(k:κ):∀kvs:List (κ×V),(kvs.any λkv=>decide (kv.1=k))=(B4 kvs k).isSome
 | []=>rfl
 |p::r=>by
  rw[CW]
  by_cases e:p.1=k
  ·simp![ni e,decide_eq_true e,Bool.true_or,Option.isSome_some]
  ·rw[nj e,decide_eq_false e,Bool.false_or];exact zt k r
theorem j7(kvs:List (κ×V))(k:κ)(v:V):(putK kvs k v).length<=kvs.length+1:=by
 unfold putK
 split
 ·rw[AG];lia
 ·rw[AY,AT,BQ];lia
theorem J5.isSome_eq{o:Option V}{u:Option Value}(r:J5 o u):o.isSome=u.isSome:=by
 cases o with
 |none=>cases u with
  |none=>rfl
  |some _=>exact(show False from r).elim
 |some _=>cases u with
  |none=>exact(show False from r).elim
  |some _=>rfl
theorem J5.getD{o:Option V}{u:Option Value}{d:V}{d':Value}(r:J5 o u)(rd:RelV d d'):RelV (o.getD d) (u.getD d'):=by
 cases o with
 |none=>cases u with
  |none=>exact rd
  |some _=>exact(show False from r).elim
 |some _=>cases u with
  |none=>exact(show False from r).elim
  |some _=>exact r
theorem KV.val{kvs:List (κ×V)}{vs:List (κ×Value)}(r:KV kvs vs)(k:κ):J5 (B4 kvs k) (valueAt vs k):=by
 unfold KV at r
 induction r with
 |nil=>exact True.intro
 | @cons p q ps qs h t ih =>
  obtain⟨h1,h2⟩:=h
  by_cases e:p.1=k
  ·have e':q.1=k:=h1.symm.trans e
   have b:valueAt (q::qs) k=some q.2:=by simp[valueAt,EN,e']
   rw[ni e,b];exact h2
  ·have e':¬q.1=k:=λz=>e (h1.trans z)
   have b:valueAt (q::qs) k=valueAt qs k:=by simp[valueAt,EN,e']
   rw[nj e,b];exact ih
theorem KV.any{kvs:List (κ×V)}{vs:List (κ×Value)}(r:KV kvs vs)(k:κ):(kvs.any λkv=>decide (kv.1=k))=vs.any λkv=>decide (kv.1=k):=by
 unfold KV at r
 induction r with
 |nil=>rfl
 |cons h t ih=>rw[CW,CW,ih,h.1]
theorem KV.repl{kvs:List (κ×V)}{vs:List (κ×Value)}(r:KV kvs vs)(k:κ){y:V}{u:Value}(ry:RelV y u) :
  KV (kvs.map λkv=>if kv.1=k then(kv.1,y)else kv) (vs.map λkv=>if kv.1=k then(kv.1,u)else kv):=by
 unfold KV at r ⊢
 induction r with
 |nil=>exact .nil
 | @cons p q ps qs h t ih =>
  rw[AO,AO]
  refine .cons ?_ ih
  obtain⟨h1,h2⟩:=h
  by_cases e:p.1=k
  ·rw[if_pos e,if_pos (h1.symm.trans e)];exact⟨h1,ry⟩
  ·rw[if_neg e,if_neg (λz=>e (h1.trans z))];exact⟨h1,h2⟩
theorem KV.put{kvs:List (κ×V)}{vs:List (κ×Value)}(r:KV kvs vs)(k:κ){y:V}{u:Value}(ry:RelV y u):KV (putK kvs k y) (stored vs k u):=by
 unfold putK stored
 rw[r.any k]
 by_cases e:(vs.any λkv=>decide (kv.1=k))=true
 ·rw[if_pos e,if_pos e];exact r.repl k ry
 ·rw[if_neg e,if_neg e];exact Paired.snoc r ⟨rfl,ry⟩
theorem KV.length{kvs:List (κ×V)}{vs:List (κ×Value)}(r:KV kvs vs):kvs.length=vs.length:=DC r
end
theorem B5{P:Program}{w:World}{k:Key}{u:Value}(r:RelV (kV k) u):(br P w).is k u=true:=by
 cases k with
 |inl i=>obtain⟨t,e⟩:=(show ∃t,u=Value.int i t from r);subst e;exact xm P w i t
 |inr x=>obtain⟨t,e⟩:=(show ∃t,u=Value.str x t from r);subst e;exact xn P w x t
theorem u6{P:Program}{w:World}:∀{ks:List Key} {us:List Value},bo (ks.map kV) us->ItemsAre (br P w) ks us
 | [],_,r=>by rw[CC]at r;cases r;exact .nil
 |k::ks,_,r=>by
  rw[AO]at r
  cases r with
  |cons h t=>exact .cons (B5 h) (u6 t)
noncomputable abbrev KT(H:Hp):List (List Key×V)->List (List Key×Addr×Value)->Prop:=Paired λp q=>p.1=q.1/\H q.2.1=some (.tup (p.1.map kV))/\RelV p.2 q.2.2
theorem KT.val{H:Hp}{kvs:List (List Key×V)}{xs:List (List Key×Addr×Value)}(r:KT H kvs xs)(k:List Key):J5 (B4 kvs k) ((atKey xs k).map (·.2)):=by
 induction r with
 |nil=>exact True.intro
 | @cons p q ps qs h t ih =>
  obtain⟨h1,_,h2⟩:=h
  by_cases e:p.1=k
  ·have e':q.1=k:=h1.symm.trans e
   have b:atKey (q::qs) k=some q.2:=by simp[atKey,EN,e']
   rw[ni e,b];exact h2
  ·have e':¬q.1=k:=λz=>e (h1.trans z)
   have b:atKey (q::qs) k=atKey qs k:=by simp[atKey,EN,e']
   rw[nj e,b];exact ih
theorem KT.repl{H:Hp}{kvs:List (List Key×V)}{xs:List (List Key×Addr×Value)}(r:KT H kvs xs)(k:List Key){y:V}{u:Value}(ry:RelV y u) :
  KT H (kvs.map λkv=>if kv.1=k then(kv.1,y)else kv) (xs.map (putAt k u)):=by
 induction r with
 |nil=>exact .nil
 | @cons p q ps qs h t ih =>
  rw[AO,AO]
  refine .cons ?_ ih
  obtain⟨h1,h2,h3⟩:=h
  unfold putAt
  by_cases e:p.1=k
  ·rw[if_pos e,if_pos (h1.symm.trans e)];exact⟨h1,h2,ry⟩
  ·rw[if_neg e,if_neg (λz=>e (h1.trans z))];exact⟨h1,h2,h3⟩
theorem KT.put{H:Hp}{kvs:List (List Key×V)}{xs:List (List Key×Addr×Value)}(r:KT H kvs xs)(k:List Key){b:Addr}{y:V}{u:Value}(hb:H b=some (.tup (k.map kV)))(ry:RelV y u) :
  KT H (putK kvs k y) (storedH xs k b u):=by
 have e:(kvs.any λkv=>decide (kv.1=k))=(atKey xs k).isSome:=by
  rw[zt,(r.val k).isSome_eq,IA]
 unfold putK storedH
 rw[e]
 by_cases q:(atKey xs k).isSome=true
 ·rw[if_pos q,if_pos q];exact r.repl k ry
 ·rw[if_neg q,if_neg q];exact Paired.snoc r ⟨rfl,hb,ry⟩
theorem KT.keeps{H H':Hp}{kvs:List (List Key×V)}{xs:List (List Key×Addr×Value)}(r:KT H kvs xs)(ht:∀b ys,H b=some (.tup ys)->H' b=some (.tup ys)):KT H' kvs xs :=
 Paired.mapP r λ_ _ z=>⟨z.1,ht _ _ z.2.1,z.2.2⟩
section
variable{P:Program}{w:World}{H:Hp}{h:Heap}{a:Addr}
theorem Qa{u:HO}(ok:HOk P w H h)(e:Rd H a u):gj P w H h a u:=e.ok ok
theorem Dt{kvs:List (Key×V)}(ok:HOk P w H h)(e:Rd H a (.dK kvs)):kvs.length<=sizeLine/\(a==sysModules)=false/\∃vs,KV kvs vs/\h.DictOf (br P w) a vs :=
 show gj P w H h a (.dK kvs)from Qa ok e
theorem M1{kvs:List (Key×V)}(ok:HOk P w H h)(e:H a=some (.dK kvs)):kvs.length<=sizeLine/\(a==sysModules)=false/\∃vs,KV kvs vs/\h.DictOf (br P w) a vs:=Dt ok (.inl e)
theorem u7{ks:List Key}(ok:HOk P w H h)(e:H a=some (.tup (ks.map kV))):(tupleKind (br P w)).is h ks a:=by
 obtain⟨_,its,r,o,h1,h2,_,n,h3⟩:=(show gj P w H h a (.tup (ks.map kV))from ok a _ e)
 exact⟨o,its.toArray,n,h1,h2,h3,by simpa using u6 r⟩
theorem Du{kvs:List (List Key×V)}(ok:HOk P w H h)(e:Rd H a (.dT kvs)):kvs.length<=sizeLine/\(a==sysModules)=false /\
  ∃xs,KT H kvs xs/\h.DictOfH (tupleKind (br P w)) a xs:=by
 obtain⟨z,y,xs,r,o,es,ep,h1,h2,h3,h4,h5⟩:=(show gj P w H h a (.dT kvs)from Qa ok e)
 refine⟨z,y,xs,r,o,es,ep,h1,h2,h3,h4,λx hx=>?_,h5⟩
 have all:∀{l:List (List Key×V)} {m:List (List Key×Addr×Value)},KT H l m->∀x∈m,(tupleKind (br P w)).is h x.1 x.2.1:=by
  intro l m q
  induction q with
  |nil=>intro x hx;exact nomatch hx
  | @cons p q ps qs hq t ih =>
   intro x hx
   rcases AN.mp hx with e | hx
   ·subst e
    exact u7 ok (by rw[<-hq.1];exact hq.2.1)
   ·exact ih x hx
 exact all r x hx
theorem U0{kvs:List (List Key×V)}(ok:HOk P w H h)(e:H a=some (.dT kvs)):kvs.length<=sizeLine/\(a==sysModules)=false /\
  ∃xs,KT H kvs xs/\h.DictOfH (tupleKind (br P w)) a xs:=Du ok (.inl e)
end
noncomputable def Tw(H:Hp)(a:Addr)(y:V)(r:Option V):Prop :=
 (∃kvs k,Rd H a (.dK kvs)/\y=kV k/\r=B4 kvs k)\/∃kvs k b,Rd H a (.dT kvs)/\y=.ref b/\H b=some (.tup (k.map kV))/\r=B4 kvs k
noncomputable def Qb(H:Hp)(a:Addr)(y v:V)(H':Hp):Prop :=
 (∃kvs k,H a=some (.dK kvs)/\y=kV k/\kvs.length<sizeLine/\H'=upd H a (.dK (putK kvs k v))) \/
 ∃kvs k b,H a=some (.dT kvs)/\y=.ref b/\H b=some (.tup (k.map kV))/\kvs.length<sizeLine/\H'=upd H a (.dT (putK kvs k v))
theorem Qb.k{H:Hp}{a:Addr}{kvs:List (Key×V)}{k:Key}{v:V}(e:H a=some (.dK kvs))(hl:kvs.length<sizeLine):Qb H a (kV k) v (upd H a (.dK (putK kvs k v))):=.inl ⟨kvs,k,e,rfl,hl,rfl⟩
section
variable{X:Cx}{pins:List (Addr × Obj)}{σ:St}{H:Hp}{s:Shared}{a:Addr}{y v:V}{u r:Value}{o:Option V}{A:Around}{E:Value -> Shared -> Prop}
theorem Inv.big(I:Inv X pins σ H s):sysModules<s.heap.objs.size:=by
 have h:mainGlobals<s.heap.objs.size:=(I.mod.glob.keeps I.bk).lt
 exact Nat.lt_trans (by decide) h
theorem Yq{Q:Value->Shared->Prop}(hu:A.units+1<cLine)(I:Inv X pins σ H s)(g:Tw H a y o)(ry:RelV y u)(h:∀s',Inv X pins σ H s'->Q (.bool o.isSome) s') :
  wpAny (model X.prog X.w) A (compareOp .In u (.ref a)) Q E s:=by
 rcases g with⟨kvs,k,e,ey,l⟩ | ⟨kvs,k,b,e,ey,eb,l⟩
 ·subst ey
  obtain⟨z,hd,vs,rel,dd⟩:=Dt I.hok e
  refine wpAny_in_of (B5 ry) hd dd.mapOf ?_
  rw[<-(rel.val k).isSome_eq,<-l]
  exact h _ (I.tok _)
 ·subst ey
  cases(show u=Value.ref b from ry)
  obtain⟨z,hd,xs,rel,dd⟩:=Du I.hok e
  refine wpAny_in_heap (FS hu) (u7 I.hok eb) hd dd ?_
  have q:=(rel.val k).isSome_eq
  rw[IA]at q
  rw[<-q,<-l]
  exact h _ (I.tok _)
theorem M3{Q:Value->Shared->Prop}(hu:A.units+1<cLine)(I:Inv X pins σ H s)(g:Tw H a y o)(ry:RelV y u)(h:∀s',Inv X pins σ H s'->Q (.bool (!o.isSome)) s') :
  wpAny (model X.prog X.w) A (compareOp .NotIn u (.ref a)) Q E s:=by
 rcases g with⟨kvs,k,e,ey,l⟩ | ⟨kvs,k,b,e,ey,eb,l⟩
 ·subst ey
  obtain⟨z,hd,vs,rel,dd⟩:=Dt I.hok e
  refine wpAny_notIn_of (B5 ry) hd dd.mapOf ?_
  rw[<-(rel.val k).isSome_eq,<-l]
  exact h _ (I.tok _)
 ·subst ey
  cases(show u=Value.ref b from ry)
  obtain⟨z,hd,xs,rel,dd⟩:=Du I.hok e
  refine wpAny_notIn_heap (FS hu) (u7 I.hok eb) hd dd ?_
  have q:=(rel.val k).isSome_eq
  rw[IA]at q
  rw[<-q,<-l]
  exact h _ (I.tok _)
theorem x5{h':Heap}{t':Nat}{ob:HO}(I:Inv X pins σ H s)(mu:Mut (H a))(hs:Heap.SameBut a s.heap h')(he:∃q,h'.get? a=some q)(new:gj X.prog X.w (upd H a ob) h' a ob) :
  Inv X pins σ (upd H a ob) {s with heap:=h',toks:=t'} :=
 I.write (x:=a) (e:=a) mu (.inl rfl) (λb q hb z=>(hs.2 b hb).trans z) he new
theorem Ke{P:Program}{w:World}{H':Hp}{h':Heap}{kvs:List (Key×V)}{vs:List (Key×Value)}(z:kvs.length<=sizeLine)(hd:(a==sysModules)=false)(rel:KV kvs vs)(dd:h'.DictOf (br P w) a vs) :
  gj P w H' h' a (.dK kvs):=⟨z,hd,vs,rel,dd⟩
theorem u9{H':Hp}{Q:Unit->Shared->Prop}(hu:A.units+1<cLine)(I:Inv X pins σ H s)(g:Qb H a y v H')(ry:RelV y u)(rv:RelV v r)(h:∀s',Inv X pins σ H' s'->Q () s') :
  wpAny (model X.prog X.w) A (setItem (.ref a) u r) Q E s:=by
 rcases g with⟨kvs,k,e,ey,l,eH⟩ | ⟨kvs,k,b,e,ey,eb,l,eH⟩
 ·subst ey eH
  obtain⟨z,hd,vs,rel,dd⟩:=M1 I.hok e
  have hz:vs.length<=sizeLine:=by rw[<-rel.length];exact z
  have hl:(putK kvs k v).length<=sizeLine:=by have:=j7 kvs k v;lia
  refine wpAny_setItem_pairs (hsz:=hz) (B5 ry) dd λh' dd' hs=>h _ ?_
  have he:∃q,h'.get? a=some q:=let ⟨q,_,_,hq,_⟩:=dd';⟨q,hq⟩
  exact x5 I (by rw[e];exact True.intro) hs he (Ke hl hd (rel.put k rv) dd')
 ·subst ey eH
  cases(show u=Value.ref b from ry)
  obtain⟨z,hd,xs,rel,dd⟩:=U0 I.hok e
  have hz:xs.length<=sizeLine:=by rw[<-DC rel];exact z
  have hl:(putK kvs k v).length<=sizeLine:=by have:=j7 kvs k v;lia
  refine wpAny_setItem_heap (hsz:=hz) (FS hu) (u7 I.hok eb) dd λh' dd' hs=>h _ ?_
  obtain⟨q,es,ep,hq,h2,h3,h4,_,h5⟩:=dd'
  refine x5 I (by rw[e];exact True.intro) hs ⟨q,hq⟩ ⟨hl,hd,_,(rel.put k eb rv).keeps λc ys ec=>?_,q,es,ep,hq,h2,h3,h4,h5⟩
  rw[ao (j6 ec e (λz=>nomatch z))]
  exact ec
end
theorem Hu{P:Program}{w:World}{H:Hp}(h:Heap)(hb:sysModules<h.objs.size):gj P w H (h.push {cls:=.type "dict",data:=.dict #[]}) h.objs.size (.dK []) :=
 ⟨CU _,beq_eq_false_iff_ne.mpr (Ne.symm (AR hb)),[],.nil,Heap.DictOf.new h⟩
noncomputable def Dw:List (TE×TE)->St->Hp->(List (V×V)->Hp->Prop)->Prop
 | [],_,H,Q=>Q [] H
 |(tk,tv)::r,σ,H,Q=>tk σ H λx H1=>tv σ H1 λy H2=>Dw r σ H2 λps H3=>Q ((x,y)::ps) H3
noncomputable abbrev VV:List (V×V)->List (Value×Value)->Prop:=Paired λp q=>RelV p.1 q.1/\RelV p.2 q.2
noncomputable def PPs(X:Cx)(pos:Pos)(keys:List (Option Expr))(values:List Expr)(trs:List (TE×TE)):Prop :=
 ∀(pins:List (Addr×Obj)) (s:Shared) (σ:St) (H:Hp) (Q:List (V×V)->Hp->Prop),Inv X pins σ H s->Dw trs σ H Q ->
  wpAny (model X.prog X.w) X.A (evalPairs (pairTrees keys values X.env pos)) (λvs s'=>∃ps H',Inv X pins σ H' s'/\VV ps vs/\Q ps H') X.xe s
theorem M4{X:Cx}{pos:Pos}:PPs X pos [] [] []:=λpins s σ H Q I h=>pairTrees_nil_walk ⟨[],H,I,.nil,h⟩
theorem zu{X:Cx}{pos:Pos}{k v:Expr}{ks:List (Option Expr)}{vs:List Expr}{tk tv:TE}{trs:List (TE×TE)}(hk:PE X k tk)(hv:PE X v tv)(hr:PPs X pos ks vs trs) :
  PPs X pos (some k::ks) (v::vs) ((tk,tv)::trs):=λpins s σ H Q I h =>
 pairTrees_cons_walk (thn (hk pins s σ H _ I h) λu s1 ⟨x,H1,I1,rx,q1⟩=>thn (hv pins s1 σ H1 _ I1 q1) λw2 s2 ⟨y,H2,I2,ry,q2⟩ =>
  thn (hr pins s2 σ H2 _ I2 q2) λws s3 ⟨ps,H3,I3,rel,q3⟩=>⟨(x,y)::ps,H3,I3,.cons ⟨rx,ry⟩ rel,q3⟩)
noncomputable def nz(kvs more:List (Key×V)):List (Key×V):=more.foldl (λacc kv=>putK acc kv.1 kv.2) kvs
theorem KV.merge:∀{more:List (Key×V)} {rs:List (Key×Value)} {kvs:List (Key×V)} {vs:List (Key×Value)},KV more rs->KV kvs vs->KV (nz kvs more) (merged vs rs):=by
 intro more rs kvs vs r
 unfold KV at r
 induction r generalizing kvs vs with
 |nil=>intro q;exact q
 | @cons p q ps qs h t ih =>
  intro r0
  have e:KV (putK kvs p.1 p.2) (stored vs q.1 q.2):=by
   have:=r0.put p.1 h.2
   rw[<-h.1];exact this
  exact ih e
theorem ky:∀(more kvs:List (Key×V)),(nz kvs more).length<=kvs.length+more.length
 | [],kvs=>by show kvs.length<=kvs.length+0;lia
 |p::r,kvs=>by
  have h1:=ky r (putK kvs p.1 p.2)
  have h2:=j7 kvs p.1 p.2
  show(nz (putK kvs p.1 p.2) r).length<=_
  rw[AT];lia
theorem qi{P:Program}{w:World}:∀{kvs:List (Key×V)} {ws:List (Value×Value)},VV (kvs.map λkv=>(kV kv.1,kv.2)) ws->∃rs,Carries (br P w) ws rs/\KV kvs rs
 | [],_,r=>by rw[CC]at r;cases r;exact⟨[],True.intro,.nil⟩
 |p::kvs,_,r=>by
  rw[AO]at r
  cases r with
  | @cons a b as bs h t =>
   obtain⟨rs,c,q⟩:=qi (P:=P) (w:=w) t
   obtain⟨b1,b2⟩:=b
   exact⟨(p.1,b2)::rs,⟨B5 h.1,rfl,c⟩,.cons ⟨rfl,h.2⟩ q⟩
noncomputable def U1(trs:List (TE×TE)):TE:=λσ H Q=>∀p,H p=none->Dw trs σ (upd H p (.dK [])) λps H2=>H2 p=some (.dK [])/\∃kvs:List (Key×V),ps=kvs.map (λkv=>(kV kv.1,kv.2))/\kvs.length<=15/\Q (.ref p) (upd H2 p (.dK (nz [] kvs)))
theorem M5 {X:Cx} {pos:Pos} {keys:List (Option Expr)} {values:List Expr} {trs:List (TE×TE)} (h:PPs X pos keys values trs) (hall:keys.all (·.isSome)=true) (hl:keys.length=values.length) (h0:keys≠[])
  (h15:keys.length<=15):PE X (.Dict keys values pos) (U1 trs):=by
 intro pins s σ H Q I q
 have hn:=I.hok.fresh (AH s.heap.objs.size)
 have I1:=I.laid (a:=s.heap.objs.size) (o:=.dK []) (h':=s.heap.push {cls:=.type "dict",data:=.dict #[]}) (t':=s.toks) (λ_ _ q=>AB _ q) (AH _) (Hu s.heap I.big)
 refine wpAny_Dict_walk (knd:=br X.prog X.w) hall hl h0 h15 (thn (h pins _ σ _ _ I1 (q _ hn)) λws s2 ⟨ps,H2,I2,rel,e,kvs,ep,lk,q2⟩=>?_)
 subst ep
 obtain⟨rs,c,rk⟩:=qi (P:=X.prog) (w:=X.w) rel
 obtain⟨z,hd,vs0,r0,dd⟩:=M1 I2.hok e
 cases r0
 refine⟨rs,c,dd,λh' dd' hs=>⟨.ref s.heap.objs.size,_,?_,rfl,q2⟩⟩
 have hz:(nz [] kvs).length<=sizeLine:=by
  have h1:=ky kvs []
  rw[BQ]at h1
  rw[CB];lia
 have he:∃q,h'.get? s.heap.objs.size=some q:=let ⟨q,_,_,hq,_⟩:=dd';⟨q,hq⟩
 exact x5 I2 (by rw[e];exact True.intro) hs he (Ke hz hd (rk.merge .nil) dd')
structure M2 (X:Cx) (o:Expr) (m:Str) (apos:Pos) (e f:Expr) (cpos:Pos):Prop where
 base:attributeBase o m X.env (eval o X.env)=eval o X.env
 few:((backTo cpos (starEach [e,f] X.env)).all (λx=>!x.1)&&(backToKw cpos (keywordEach [] X.env)).all (λx=>x.1.isSome)
  && decide (([e,f]:List Expr).length+([]:List Keyword).length+(if([]:List Keyword).isEmpty then 0 else 1)<30))=true
 line:(apos.endLine==cpos.line)=true
 trees:backTo cpos (starEach [e,f] X.env)=[(false,eval e X.env),(false,eval f X.env)]
noncomputable def IsD(H:Hp)(a:Addr):Prop:=(∃kvs,Rd H a (.dK kvs))\/∃kvs,Rd H a (.dT kvs)
theorem Kf{X:Cx}{pins:List (Addr×Obj)}{σ:St}{H:Hp}{s:Shared}{a:Addr}(I:Inv X pins σ H s)(d:IsD H a) :
  s.TypeIs (.ref a) "dict"/\(∀b,Value.ref a=.ref b->∃ob,s.heap.get? b=some ob/\ob.dict=none)/\(a==sysModules)=false:=by
 rcases d with⟨kvs,e⟩ | ⟨kvs,e⟩
 ·obtain⟨_,hd,vs,_,dd⟩:=Dt I.hok e
  refine⟨dd.typeIs,λb q=>?_,hd⟩
  cases q
  obtain⟨ob,_,_,h1,h2,_⟩:=dd
  exact⟨ob,h1,h2.2.1⟩
 ·obtain⟨_,hd,xs,_,dd⟩:=Du I.hok e
  refine⟨dd.typeIs,λb q=>?_,hd⟩
  cases q
  obtain⟨ob,_,_,h1,h2,_⟩:=dd
  exact⟨ob,h1,h2.2.1⟩
section
variable{X:Cx}{pins:List (Addr × Obj)}{σ:St}{H:Hp}{s:Shared}{a:Addr}{y d:V}{u r:Value}{o:Option V}{A:Around}{E:Value -> Shared -> Prop}
theorem Qc{Q:Value->Shared->Prop}(hu:A.units+1<cLine)(I:Inv X pins σ H s)(g:Tw H a y o)(ry:RelV y u)(rd:RelV d r)(h:∀w' s',Inv X pins σ H s'->RelV (o.getD d) w'->Q w' s') :
  wpAny (model X.prog X.w) A (call (.builtin "dict.get") [.ref a,u,r]) Q E s:=by
 rcases g with⟨kvs,k,e,ey,l⟩ | ⟨kvs,k,b,e,ey,eb,l⟩
 ·subst ey
  obtain⟨z,hd,vs,rel,dd⟩:=Dt I.hok e
  refine call_meetsIn GN dd.typeIs IY (IN _ _ _) (meets_dict_get_default (br X.prog X.w) a (B5 ry) hd r) ⟨_,dd.mapOf,h _ _ (I.tok _) ?_⟩
  rw[l]
  exact(rel.val k).getD rd
 ·subst ey
  cases(show u=Value.ref b from ry)
  obtain⟨z,hd,xs,rel,dd⟩:=Du I.hok e
  refine call_meetsIn GN dd.typeIs IY (IN _ _ _) (meetsH_dict_get_default (tupleKind (br X.prog X.w)) a b hd r) ⟨FS hu,k,xs,u7 I.hok eb,dd,h _ _ (I.tok _) ?_⟩
  rw[l]
  exact(rel.val k).getD rd
end
noncomputable def Qd(td ty tx:TE):TE:=λσ H Q=>td σ H λx H1=>∃a,x=.ref a/\IsD H1 a/\ty σ H1 λy H2=>tx σ H2 λz H3=>∃o,Tw H3 a y o/\Q (o.getD z) H3
section
variable{X:Cx}{o e f:Expr}{apos cpos:Pos}{td ty tx:TE}
theorem Hv(hu:X.A.units+1<cLine)(ho:PE X o td)(he:PE X e ty)(hf:PE X f tx)(m:M2 X o "get" apos e f cpos):PE X (.Call (.Attribute o "get" apos) [e,f] [] cpos) (Qd td ty tx):=by
 intro pins s σ H Q I h
 refine wpAny_Call_method m.base m.few m.line IP GN PySem.F.type_dict_get (thn (ho pins s σ H _ I h) λu s1 ⟨x,H1,I1,rx,a,ex,d,q1⟩=>?_)
 subst ex
 obtain rfl:u=Value.ref a:=rx
 obtain⟨t1,t2,_⟩:=Kf I1 d
 refine⟨t1,t2,?_⟩
 rw[m.trees]
 refine GC rfl (JU (DL (thn (he pins s1 σ H1 _ I1 q1) λiv s2 ⟨y,H2,I2,ry,q2⟩ =>
  DL (thn (hf pins s2 σ H2 _ I2 q2) λfv s3 ⟨z,H3,I3,rz,ov,g,q3⟩=>EA ?_))))
 exact Qc hu I3 g ry rz λw' s4 I4 rw'=>⟨_,H3,I4,rw',q3⟩
end
end L2
namespace Att
open PySem PySem.W PySem.Calls PyProof.Rows
theorem n3{P:Params}{h:Heap}:∀(ns:List Int) (vs:List Value),WellAll P h vs (ns.map WData.int)->IntsAre vs ns:=by
 intro ns
 induction ns with
 |nil =>
  intro vs w
  rw[CC]at w
  cases w
  exact .nil
 |cons n ns ih =>
  intro vs w
  rw[AO]at w
  cases w with
  |cons a b =>
   cases a
   exact .cons _ _ (ih _ b)
theorem Dx {l:OpenLaw} {n:Nat} (hn:l.most=some n) {P:Params} {h:Heap} {args:List WData} {vals:List Value}
  (hpre:l.row.toRowW.claim.pre args=true) (hwl:WellAll P h vals args) :
  ∃a vs ns,vals=[Value.ref a]/\args=[WData.list (ns.map WData.int)]/\h.get? a=some {cls:=.type "list",data:=.seq vs.toArray}/\IntsAre vs ns/\ns.length<=n:=by
 have hsh:WShape.hasAll [] args [.list .int]=true:=(pre_splitW hpre).1
 have hc:l.pre.holds [] {args:=args}=true:=(pre_splitW hpre).2
 obtain⟨d,r,rfl,h1,h2⟩:=hasAllW_cons hsh
 obtain rfl:=hasAllW_nil h2
 obtain⟨xs,rfl,h3⟩:=hasW_list h1
 obtain⟨ns,rfl⟩:=items_int h3
 have hlen:ns.length<=n:=by
  unfold OpenLaw.pre at hc
  have h4:(WTm.not (.lt (.lit (.int (n:Int))) (.len (.arg 0)))).holds [] {args:=[.list (ns.map .int)]}=true:=by
   have h4:=(holds_andW hc).1
   rw[hn]at h4
   exact h4
  have h5:=condW_of h4 (w_not (w_lt w_lit (w_len_list (w_arg rfl))))
  rw[AG]at h5
  refine Nat.le_of_not_lt λq=>?_
  have q':(n:Int)<((ns.length:Nat):Int):=by lia
  first
   |(rw[decide_eq_true q']at h5;exact absurd h5 (by decide))
   |(simp at h5;lia)
 cases hwl with
 |cons w1 w2 =>
  cases w2
  cases w1 with
  |list ho hall=>exact⟨_,_,ns,rfl,rfl,ho,n3 ns _ hall,hlen⟩
theorem Dy(l:OpenLaw)(args:List WData):l.row.toRowW.claim.post args (.bool true) args=true :=
 postW_of (r:=l.row.toRowW) (X:=(true==true))
  (show WShape.has [] (.bool true) .bool=true by first | rfl | decide | simp[WShape.has,WShape.arms,WShape.armsAll])
  (show(WTm.eq .res (.lit (.bool true))).value [] {args:=args,res:=some (.bool true),after:=args}=some (.bool (true==true))from w_eq_bool (w_res rfl) w_lit) rfl
theorem x6 {l:OpenLaw} {n:Nat} {q:Program} {loose:List Str} {XP:(Str->Option Value)->Heap->Prop} {YP:World->Heap->Prop} {d:DefRec}
  (hn:l.most=some n) (hdf:d.params.defaults=[])
  (call:∀(w:World) (s₀ s₁:Shared) (mg mb:Str->Option Value) (fa:Addr) (o:Obj) (pm cd doc:Value) (a:Addr) (vs:List Value) (ns:List Int),
   Ground q loose [] XP w s₀ mg mb s₁.heap->YP w s₁.heap ->
   s₁.heap.get? fa=some o->o.data=.func (docDef d.name d.params d.body d.scope pm cd doc)->s₁.heap.CodeRec cd d.name->mg d.name=some (.ref fa) ->
   s₁.heap.get? a=some {cls:=.type "list",data:=.seq vs.toArray}->IntsAre vs ns->ns.length<=n->s₁.gens=#[] ->
   codeAny (model l.prog w) callerA (.call (.ref fa) ⟨[.ref a],[]⟩) (λr s'=>r=.ok (.ret (.bool true))/\OldK s₁.heap s'.heap/\s'.os=s₁.os/\AllBare s'.gens) s₁) :
  WalkO q loose XP YP l.row.toRowW d [] (λf vs=>PySem.call f vs):=by
 intro w s₀ s₁ mg mb G Y fa o pm cd doc dV kV ho hd hcd hD hmg hg args vals as hpre hlay hrd hwl hlo
 obtain rfl:dV=.none:=Dflts.none hD hdf
 obtain rfl:kV=.none:=Dflts.noKw hD
 obtain⟨a,vs,ns,rfl,rfl,hobj,hints,hlen⟩:=Dx hn hpre hwl
 refine enter_call (EK (call w s₀ s₁ mg mb fa o pm cd doc a vs ns G Y ho (fd_plain hd) hcd hmg hobj hints hlen hg) λr s' hq=>?_)
 obtain⟨rfl,h2,h3,h4⟩:=hq
 exact⟨.inl ⟨.bool true,.bool true,[],rfl,λ_=>rfl,.bool true,Dy l _,λ_=>⟨List.Pairwise.nil,λ_ hm=>(nomatch hm)⟩⟩,h2,h3,h4⟩
end Att
namespace L2
open PySem PySem.Spec PyProof.Rows
noncomputable def FzL(K:PySem.W.Frag)(H:Hp)(a:Addr)(xs:List V):Prop :=
 (∃o,H a=some (.frz o (.lst xs))) \/
  ∃(its:List Value) (n:Nat),K.lookup a=some {cls:=.type "list",data:=.seq its.toArray n}/\xs.length<=sizeLine/\bo xs its
theorem vals_ints:∀{vs:List Value} {ns:List Int},IntsAre vs ns->bo (ns.map V.int) vs
 |_,_,.nil=>.nil
 |_,_,.cons n t h=>.cons ⟨t,rfl⟩ (vals_ints h)
noncomputable def U2(H:Hp):Prop:=∀b,H b=none\/∃o xs,H b=some (.frz o (.lst xs))
theorem Hw {P:Program} {w:World} {K:PySem.W.Frag} {mg mb:Str->Option Value} {CX:CXT} {k:Nat} {fa a:Addr} {fd:FuncData} {x:Str} {sp:Sp} {s₁:Shared} {vs:List Value} {ns:List Int}
  (KX:K.In s₁.heap) (hns:s₁.heap.Ns mainGlobals mg) (hb:s₁.heap.Ns builtinsNs mb) (hbb:∀x:Str,x≠"__name__"->mb x=bootBuiltins x) (hlim:s₁.heap.NoLimit) (hg:s₁.gens=#[])
  (ha:s₁.heap.get? a=some {cls:=.type "list",data:=.seq vs.toArray}) (hi:IntsAre vs ns) (hl:ns.length<=sizeLine) (hr:Room k callerA)
  (F:∀base:Heap,K.In base->base.Ns mainGlobals mg->FnOk P w K mg base CX k fa fd [x] sp) (hbind:∀(s:Shared) (u:Value),BindsTo s fd ⟨[u],[]⟩ [(x,u)])
  (hsp:∀H:Hp,U2 H->FzL K H a (ns.map V.int)->sp [.ref a] H (λv _=>v=.bl true) λ_ _ _=>False)
  (hCX:∀H e s',CX [] H s₁ (λ_ _ _=>False) e s'->False) :
  codeAny (model P w) callerA (.call (.ref fa) ⟨[.ref a],[]⟩) (λr s'=>r=.ok (.ret (.bool true))/\OldK s₁.heap s'.heap/\s'.os=s₁.os/\AllBare s'.gens) s₁:=by
 have rv:=vals_ints hi
 have lenV:=hi.length
 -- from an abstract heap in which nothing but the script may be tracked
 have core:∀H:Hp,U2 H->FzL K H a (ns.map V.int)->HOk P w H s₁.heap->(∀b,H b≠none->b=a)->(H a≠none->K.lookup a=none) ->
   codeAny (model P w) callerA (.call (.ref fa) ⟨[.ref a],[]⟩) (λr s'=>r=.ok (.ret (.bool true))/\OldK s₁.heap s'.heap/\s'.os=s₁.os/\AllBare s'.gens) s₁:=by
  intro H hO hS hok hA hK
  have base_of:∀{b:Addr} {o:Obj},s₁.heap.get? b=some o->H b=none->(Hg s₁.heap H).get? b=some o:=λe n=>Hh e n
  have noA:∀{b:Addr} {o:Obj} {es:Array DictEntry} {ep:Nat},s₁.heap.get? b=some o->o.data=.dict es ep->H b=none:=λ{b o es ep} e d=>by
   cases q:H b with
   |none=>rfl
   |some u =>
    have e':b=a:=hA b (by rw[q];simp)
    subst e'
    rw[ha]at e;cases e
    have d':Data.seq vs.toArray _=Data.dict es ep:=d
    cases d'
  have nsK:∀{b:Addr} {m:Str->Option Value},s₁.heap.Ns b m->(Hg s₁.heap H).Ns b m:=λ{b m} ⟨o,es,ep,e,d,r⟩=>⟨o,es,ep,base_of e (noA e d),d,r⟩
  have hKb:K.In (Hg s₁.heap H):=λb o e=>base_of (KX b o e) (by
   cases q:H b with
   |none=>rfl
   |some u =>
    have e':b=a:=hA b (by rw[q];simp)
    subst e'
    rw[hK (by rw[q];simp)]at e;cases e)
  have hM:Mod K mg (Hg s₁.heap H):=⟨hKb,nsK hns,⟨mb,nsK hb,hbb⟩,let ⟨mc,h1,h2⟩:=hlim;⟨mc,nsK h1,h2⟩⟩
  have e0:Env0 P w K mg (Hg s₁.heap H) callerA [] s₁ H:=⟨rfl,hM,λb o e=>Mh e,Nat.le_of_eq (Dc _ _),trivial,λb hb=>absurd (show b∈([]:List Addr)from hb) (by simp),hok,.of_eq hg⟩
  refine EK ((F _ hKb (nsK hns)).run callerA [] s₁ H ⟨[.ref a],[]⟩ [.ref a] [.ref a] _ _ hr e0 (hbind s₁ (.ref a)) (.cons rfl .nil) (hsp H hO hS)) λr s' h=>?_
  cases r with
  |error e=>exact(hCX H e s' h).elim
  |ok fl =>
   cases fl with
   |next=>exact False.elim h
   |brk=>exact False.elim h
   |cont=>exact False.elim h
   |ret u =>
    obtain⟨v,H',os,bare,un,hok',r',q⟩:=h
    have q':v=.bl true:=q
    subst q'
    obtain rfl:u=Value.bool true:=r'
    refine⟨rfl,OldK.of_keep λb o e=>?_,os,bare⟩
    cases q:H b with
    |none=>exact un.keep b o e q (by intro z;exact absurd (show b∈([]:List Addr)from z) (by simp)) (by simp)
    |some u =>
     rcases hO b with z | ⟨ob,xs,z⟩
     ·rw[q]at z;cases z
     ·have z2:=un.frzs b ob _ z
      obtain⟨e1,_⟩:=hok b _ z
      obtain⟨e2,_⟩:=hok' b _ z2
      rw[e]at e1;cases e1
      exact e2
 cases hk:K.lookup a with
 |some o =>
  -- the script is one of the module's own objects
  have e:=KX a o hk
  rw[ha]at e
  cases e
  refine core (λ_=>none) (λ_=>.inl rfl) (.inr ⟨vs,_,hk,by rw[AG];exact hl,rv⟩) (λb u z=>by have z':(none:Option HO)=some u:=z;cases z') (λb z=>absurd rfl z) λz=>absurd rfl z
 |none =>
  refine core (λb=>if b=a then some (.frz {cls:=.type "list",data:=.seq vs.toArray} (.lst (ns.map V.int)))else none) (λb=>?_) (.inl ⟨{cls:=.type "list",data:=.seq vs.toArray},if_pos rfl⟩) (λb u z=>?_) (λb z=>?_) λ_=>hk
  ·by_cases hb:b=a
   ·exact .inr ⟨_,_,if_pos hb⟩
   ·exact .inl (if_neg hb)
  ·by_cases hb:b=a
   ·have z':=(if_pos hb).symm.trans z
    cases z'
    subst hb
    exact⟨ha,by rw[AG];exact hl,vs,_,rv,ha⟩
   ·have z':=(if_neg hb).symm.trans z
    cases z'
  ·by_cases hb:b=a
   ·exact hb
   ·exact absurd (if_neg hb) z
noncomputable abbrev KOf{K:PySem.W.Frag}{h:Heap}(_:K.In h):PySem.W.Frag:=K
theorem M6 {l:PySem.W.OpenLaw} {n k:Nat} {q:Program} {loose:List Str} {XP:(Str->Option Value)->Heap->Prop} {YP:World->Heap->Prop} {d:DefRec} {K:Params->PySem.W.Frag} {CX:World->CXT} {sp:World->Sp} {x:Str}
  (hn:l.most=some n) (hn2:n<=sizeLine) (hdf:d.params.defaults=[]) (hr:Room k callerA)
  (hY:∀(w:World) (h:Heap),YP w h->(K w.params).In h)
  (F:∀(w:World) (mg:Str->Option Value) (fa:Addr) (h:Heap),(K w.params).In h->h.Ns mainGlobals mg->mg d.name=some (.ref fa) ->
   ∃fd:FuncData,(∀(s:Shared) (u:Value),BindsTo s fd ⟨[u],[]⟩ [(x,u)]) /\
    ∀base:Heap,(K w.params).In base->base.Ns mainGlobals mg->FnOk l.prog w (K w.params) mg base (CX w) k fa fd [x] (sp w))
  (hsp:∀(w:World) (H:Hp) (a:Addr) (ns:List Int),ns.length<=n->U2 H->FzL (K w.params) H a (ns.map V.int)->sp w [.ref a] H (λv _=>v=.bl true) λ_ _ _=>False)
  (hCX:∀(w:World) (H:Hp) (s:Shared) (e:Value) (s':Shared),CX w [] H s (λ_ _ _=>False) e s'->False) :
  PySem.W.WalkO q loose XP YP l.row.toRowW d [] (λf vs=>PySem.call f vs):=by
 refine Att.x6 hn hdf λw s₀ s₁ mg mb fa o pm cd doc a vs ns G Y ho hd hcd hmg hobj hints hlen hg=>?_
 have KX:=hY w _ Y
 obtain⟨fd,hb,hF⟩:=F w mg fa _ KX G.T.g hmg
 exact Hw KX G.T.g G.T.b G.T.builtins G.T.nolimit hg hobj hints (CI hlen hn2) hr hF hb (λH hO hS=>hsp w H a ns hlen hO hS) λH e s'=>hCX w H s₁ e s'
noncomputable def n4(s:Stmt):Arguments:=match s with
 |.FunctionDef _ a _ _ _ _ _ _ _ _=>a
 |_=>{posonlyargs:=[],args:=[],vararg:=none,kwonlyargs:=[],kw_defaults:=[],kwarg:=none,defaults:=[]}
noncomputable def i4(s:Stmt):List Stmt:=match s with
 |.FunctionDef _ _ b _ _ _ _ _ _ _=>b
 |_=>[]
noncomputable def bf(s:Stmt):Scope:=match s with
 |.FunctionDef _ _ _ _ _ _ sc _ _ _=>sc
 |_=>{kind:=.function,names:=[],isGenerator:=false,isCoroutine:=false}
noncomputable abbrev CX0:CXT:=λ_ _ _ _ _ _=>False
noncomputable abbrev E0:XK:=λ_ _ _=>False
theorem U3{X:Cx}:Dl CX0 X E0:=λ_ _ _ _ _ _ _ h=>h.elim
structure Fun (K:PySem.W.Frag) (x qual:Str) (st:Stmt) (f:Addr) (fd:FuncData):Prop where
 ex:∃(oc:Value) (od:Option Addr) (kV doc pm:Value) (an:Option Addr) (cdv ct:Value) (osl:Array (Option Value)),
  fd=PySem.W.fnOf x qual (n4 st) (i4 st) (bf st) .none kV doc pm an cdv ct/\K.lookup f=some ⟨oc,od,.func fd,osl⟩/\PySem.W.codeIn K cdv qual=true
 kp:PySem.W.keepIn K (.ref f)=true
section
variable{P:Program}{w:World}{K:PySem.W.Frag}{mg:Str -> Option Value}{base:Heap}
theorem Fun.ok {x qual:Str} {st:Stmt} {f:Addr} {fd:FuncData} {N ps:List Str} {k:Nat} {sp:Sp} (F:Fun K x qual st f fd) (S:FnScope N ps (bf st)) (len:∀vs H Q E,sp vs H Q E->vs.length=ps.length)
  (hbody:∀(cdv:Value) (A:Around) (outer:List Env) (s:Shared) (H:Hp) (vs:List V) (Q:VK) (E:XK),Dk k (A.deeper (envOfC qual (bf st) s.heap.objs.size f cdv))->sp vs H Q E ->
   ∃t,PSs (Hn CX0 P w K mg base N qual (bf st) f cdv A outer s H E).nox (i4 st) t/\t {nx:=λ_ H'=>Q .non H',rt:=Q} (start N vs) H):FnOk P w K mg base CX0 (k+1) f fd ps sp:=by
 obtain⟨oc,od,kV,doc,pm,an,cdv,ct,osl,rfl,lk,hcd⟩:=F.ex
 refine Uw lk hcd S len λA outer s H vs Q E hr hsp=>?_
 obtain⟨t,h,q⟩:=hbody cdv A outer s H vs Q E hr hsp
 exact⟨t,h.nox,q⟩
theorem Qe {x qual:Str} {st:Stmt} {f:Addr} {oc:Value} {od an:Option Addr} {osl:Array (Option Value)} {kV doc pm cdv ct:Value} (l:K.lookup f=some ⟨oc,od,.func (PySem.W.fnOf x qual (n4 st) (i4 st) (bf st) .none kV doc pm an cdv ct),osl⟩)
  (c:PySem.W.codeIn K cdv qual=true) (k:PySem.W.keepIn K (.ref f)=true):Fun K x qual st f (PySem.W.fnOf x qual (n4 st) (i4 st) (bf st) .none kV doc pm an cdv ct):=⟨⟨oc,od,kV,doc,pm,an,cdv,ct,osl,rfl,l,c⟩,k⟩
end
theorem vc{n:Nat}(h:n<=1000):n<sizeLine:=Nat.lt_of_le_of_lt h (by decide)
section
variable{X:Cx}
theorem pv (i:Nat) {x:Str} {pos:Pos} (hN:X.N[i]? = some x:=by rfl) (hv:Vis X.env.scope x:=by first | exact Or.inl rfl | exact Or.inr (Or.inl rfl) | exact Or.inr (Or.inr rfl)) (hd:(x==("__debug__":Str))=false:=by decide)
  (hcd:(x==("__classdict__":Str))=false:=by decide):PE X (.Name x pos) (Ww i):=qe hN hv hd hcd
end
end L2
set_option maxHeartbeats 4000000
namespace L2
open PySem PySem.Spec PyProof.Rows
noncomputable def Yr(h0:Heap)(H:Hp)(h:Heap)(e:Addr)(cls:Value):Prop:=∃oe vs T oT ts a0,h.get? e=some oe/\(oe.cls=cls/\vs[0]? = some a0)/\oe.data=.fields vs/\vs[1]? = some (.ref T)/\(h0.get? T=none/\H T=none)/\T≠e/\h.get? T=some oT/\oT.data=.fields ts/\ts[3]? = some Value.none
section
variable{X:Cx}{pins:List (Addr × Obj)}{σ:St}{H H' : Hp}{s:Shared}{e:Addr}{cls:Value}
structure Fl (X:Cx) (H0:Hp) (s0:Shared) (H':Hp) (e:Addr) (cls:Value) (s:Shared):Prop where
 os:s.os=s0.os
 bare:AllBare s.gens
 un:Un (frs X.stack) [] H0 H' s0.heap s.heap
 hok:HOk X.prog X.w H' s.heap
 new:s0.heap.get? e=none
 free:H' e=none
 fly:Yr s0.heap H' s.heap e cls
section
variable{H0:Hp}{s0:Shared}
noncomputable def Ys(e:Addr)(cls:Value):HO:=.ext λh=>∃o vs,h.get? e=some o/\o.cls=cls/\o.data=.fields vs
end
end
end L2
namespace Lp
open PySem
inductive D where
 |non | bl (b:Bool) | int (i:Int) | str (x:Str)
 |tup (ds:List D) | lst (ds:List D) | loc (n:Nat)
 deriving Inhabited
noncomputable def D.pureN:Nat->D->Bool
 |0,d=>match d with | .tup _=>false | .lst _=>false | .loc _=>false | _=>true
 |k+1,d=>match d with | .tup ds=>ds.all (D.pureN k) | .lst ds=>ds.all (D.pureN k) | .loc _=>false | _=>true
noncomputable abbrev D.pure(d:D):Bool:=D.pureN 8 d
inductive O where
 |l (ds:List D)
 |r (ds:List D)
 |d (kvs:List (D×D))
 |dt (kvs:List (D×D))
 |x (c:Str)
 |o (c:Str) (fs:List (Str×D))
 |dr (kvs:List (D×D))
 |fd (kvs:List (D×D))
 |dead
 deriving Inhabited
noncomputable abbrev Sto:=List O
noncomputable abbrev Sl:=List (Option D)
inductive Res (α:Type) where
 |ok (a:α) (μ:Sto)
 |exc (c:Nat) (ds:List D) (μ:Sto)
 |stuck
namespace Res
variable{α β:Type}
noncomputable def bind(x:Res α)(f:α->Sto->Res β):Res β:=match x with
 |.ok a μ=>f a μ
 |.exc c ds μ=>.exc c ds μ
 |.stuck=>.stuck
@[simp] theorem bg (a:α) (μ:Sto) (f:α->Sto->Res β):(Res.ok a μ).bind f=f a μ:=rfl
@[simp] theorem Tx (c:Nat) (ds:List D) (μ:Sto) (f:α->Sto->Res β):(Res.exc c ds μ:Res α).bind f=.exc c ds μ:=rfl
@[simp] theorem O1 (f:α->Sto->Res β):(Res.stuck:Res α).bind f=.stuck:=rfl
theorem bind_assoc{γ:Type}(x:Res α)(f:α->Sto->Res β)(g:β->Sto->Res γ):(x.bind f).bind g=x.bind λa μ=>(f a μ).bind g:=by
 cases x<;>rfl
end Res
inductive Mk where | z | l | r
 deriving DecidableEq,Inhabited
inductive Bt where
 |len | tuple | list | sum | min | min1 | max | all | any | sorted | sortedSet | sortedL | int | listRev | listRange | tupleRange | dictP | sortedI | sortedD | odds | min3 | max1 | sortedN | sortedT | inR3 | sortedST
 deriving DecidableEq,Inhabited
inductive Mt where
 |append | pop | extend | extendT | insert | remove | reverse | clear | count | countL | get
 deriving DecidableEq,Inhabited
inductive Cl where
 |int | bool | tuple | list | str | own (c:Str)
 deriving DecidableEq,Inhabited
inductive Tg where
 |one (i:Nat) | many (is:List Nat)
 deriving DecidableEq,Inhabited
inductive Cp where
 |eq | ne | eqM | neM | lt | le | gt | ge | is | isnot | in_ | notin
 deriving DecidableEq,Inhabited
mutual
inductive Ex where
 |var (i:Nat)
 |frz (i:Nat)
 |cst (d:D)
 |bin (op:Operator) (m:Mk) (a b:Ex)
 |neg (a:Ex)
 |not (a:Ex)
 |and (a b:Ex)
 |or (a b:Ex)
 |ite (c a b:Ex)
 |cmp (a:Ex) (r:Cps)
 |call (keep:Bool) (f:Nat) (es:Exs)
 |blt (b:Bt) (m:Mk) (es:Exs)
 |isi (a:Ex) (c:Cl)
 |meth (mt:Mt) (o:Ex) (es:Exs)
 |ix (a b:Ex)
 |dix (a b:Ex)
 |sl (m:Mk) (a:Ex) (lo hi:ExO)
 |tup (es:Exs)
 |lst (m:Mk) (es:Exs)
 |dic (t:Bool) (es:Exs)
 |inT (neg:Bool) (es:Exs) (d:Ex)
 |ixT (d:Ex) (es:Exs)
 |getT (d:Ex) (es:Exs) (x:Ex)
 |ixV (d k:Ex)
 |att (e:Ex) (f:Str)
 |mcall (k1:Bool) (c m:Str) (f:Nat) (o:Ex) (es:Exs)
 |make (c:Str) (f:Nat) (es:Exs)
 |callK (f:Nat) (es:Exs)
 |tru (e:Ex)
 |drp (e:Ex)
 |gix (a b:Ex)
 |dicr
 |comp (m:Mk) (cap:List Nat) (nl:Nat) (tg:Tg) (it:It) (cs:Exs) (elt:Ex)
inductive Exs where
 |nil
 |cons (e:Ex) (es:Exs)
inductive Cps where
 |nil
 |cons (op:Cp) (e:Ex) (r:Cps)
inductive ExO where
 |no
 |so (e:Ex)
inductive It where
 |seq (e:Ex)
 |rng (a:Ex)
 |rng2 (a b:Ex)
 |rng3 (a b c:Ex)
 |rngD (a b c:Ex)
 |zip (a b:Ex)
 |enum (a:Ex)
 |rev (a:Ex)
 |vals (a:Ex)
 |keys (a:Ex)
end
mutual
inductive Sm where
 |set (i:Nat) (e:Ex)
 |unp (is:List Nat) (e:Ex)
 |setx (o i v:Ex)
 |augx (op:Operator) (o i v:Ex)
 |setxT (o:Ex) (i:Exs) (v:Ex)
 |ex (e:Ex)
 |ite (c:Ex) (a b:Sms)
 |loop (tg:Tg) (it:It) (b:Sms)
 |ret (e:Ex)
 |raise (c:Str) (es:Exs)
 |pl (s:Sm)
 |callx (f:Nat) (es:Exs)
 |tryc (f:Nat) (es:Exs) (ei:Nat) (h:Sms)
 |mapx (i:Nat) (cap:List Nat) (nl:Nat) (tg:Tg) (it:It) (f:Nat) (es:Exs)
 |tryi (i j:Nat) (e:Ex)
 |seta (o:Ex) (f:Str) (e:Ex)
 |whl (c:Ex) (b:Sms)
 |pass | brk | cont
 |never
inductive Sms where
 |nil
 |cons (s:Sm) (r:Sms)
end
@[irreducible] def lim:Nat:=2 ^ 24
theorem Kg:lim=2 ^ 24:=by with_unfolding_all rfl
theorem j8:1000000<=lim:=by rw[Kg];decide
noncomputable def dn(μ:Sto):D->Option (List D)
 |.tup ds=>some ds
 |.lst ds=>some ds
 |.loc n=>match μ[n]? with
  |some (.l ds)=>some ds
  |some (.r ds)=>some ds
  |_=>none
 |_=>none
noncomputable def listOf(μ:Sto):D->Option (List D)
 |.lst ds=>some ds
 |.loc n=>match μ[n]? with
  |some (.l ds)=>some ds
  |some (.r ds)=>some ds
  |_=>none
 |_=>none
noncomputable def ji{α β:Type}(o:Option α)(k:α->Res β):Res β:=match o with
 |some a=>k a
 |none=>.stuck
@[simp] theorem j9 {α β:Type} (a:α) (k:α->Res β):ji (some a) k=k a:=rfl
@[simp] theorem M7 {α β:Type} (k:α->Res β):ji none k=.stuck:=rfl
noncomputable def mkL(m:Mk)(ds:List D)(μ:Sto):Res D:=match m with
 |.z=>.ok (.lst ds) μ
 |.l=>if ds.all (D.pureN 8)=true then .ok (.loc μ.length) (μ++[.l ds])else .stuck
 |.r=>.ok (.loc μ.length) (μ++[.r ds])
mutual
noncomputable def deq:D->D->Bool
 |.non,.non=>true
 |.bl a,.bl b=>a==b
 |.int a,.int b=>decide (a=b)
 |.bl a,.int b=>decide ((if a then 1 else 0:Int)=b)
 |.int a,.bl b=>decide (a=(if b then 1 else 0:Int))
 |.str a,.str b=>decide (a=b)
 |.tup a,.tup b=>Hx a b
 |.lst a,.lst b=>Hx a b
 |_,_=>false
noncomputable def Hx:List D->List D->Bool
 | [],[]=>true
 |a::r,b::q=>deq a b&&Hx r q
 |_,_=>false
end
noncomputable def rs1(μ:Sto):Nat->D->D
 |0,d=>d
 |_,.loc n=>match μ[n]? with
  |some (.l ds)=>.lst ds
  |some (.r ds)=>.lst ds
  |_=>.loc n
 |k+1,.tup ds=>.tup (ds.map (rs1 μ k))
 |k+1,.lst ds=>.lst (ds.map (rs1 μ k))
 |_,d=>d
noncomputable def rs(μ:Sto)(d:D):D:=rs1 μ 8 (rs1 μ 8 (rs1 μ 8 d))
noncomputable def cy:List D->Option (List Int)
 | []=>some []
 |.int i::r=>(cy r).map (i::·)
 |_=>none
noncomputable def j4:List D->Option (List Bool)
 | []=>some []
 |.bl i::r=>(j4 r).map (i::·)
 |_=>none
noncomputable def lexLt:List Int->List Int->Bool
 |_,[]=>false
 | [],_::_=>true
 |x::xs,y::ys=>if x=y then lexLt xs ys else decide (x<y)
noncomputable def rowsOf:List D->Option (List (List Int))
 | []=>some []
 |.tup ds::r=>(cy ds).bind λx=>(rowsOf r).map (x::·)
 |_=>none
noncomputable def ixN(n:Nat)(i:Int):Option Nat:=if 0<=i then(if i<n then some i.toNat else none)else if -(n:Int)<=i then some (i+n).toNat else none
noncomputable def sIx(n d:Nat):Option Int->Nat
 |none=>d
 |some v=>if v<0 then(v+(n:Int)).toNat else min v.toNat n
noncomputable def cut(ds:List D)(lo hi:Option Int):List D:=(ds.drop (sIx ds.length 0 lo)).take (sIx ds.length ds.length hi-sIx ds.length 0 lo)
noncomputable def CMul(i j:Int):Prop:=(-(2 ^ 64)<i/\i<2 ^ 64)\/(-(2 ^ 64)<j/\j<2 ^ 64)
instance (i j:Int):Decidable (CMul i j):=by unfold CMul;infer_instance
noncomputable def opI(op:Operator)(i j:Int)(μ:Sto):Res D:=match op with
 |.Add=>.ok (.int (i+j)) μ
 |.Sub=>.ok (.int (i-j)) μ
 |.Mult=>if CMul i j then .ok (.int (i*j)) μ else .stuck
 |.FloorDiv=>if 0<j/\j<1073741824 then .ok (.int (i / j)) μ else .stuck
 |.Mod=>if 0<j then .ok (.int (i % j)) μ else .stuck
 |.Pow=>if 0<=j/\j<=1000000/\i.natAbs<2 ^ 64 then .ok (.int (i ^ j.toNat)) μ else .stuck
 |.RShift=>if 0<=j then .ok (.int (i / 2 ^ j.toNat)) μ else .stuck
 |.LShift=>if 0<=j/\j<=1000000/\i.natAbs<2 ^ 64 then .ok (.int (i*2 ^ j.toNat)) μ else .stuck
 |.BitXor=>if 0<=i/\j=1 then .ok (.int (if i % 2=0 then i+1 else i-1)) μ else .stuck
 |_=>.stuck
noncomputable def opD(op:Operator)(m:Mk)(a b:D)(μ:Sto):Res D:=match a,b with
 |.int i,.int j=>opI op i j μ
 |.tup xs,.tup ys=>match op with
  |.Add=>if xs.length+ys.length<=lim then .ok (.tup (xs++ys)) μ else .stuck
  |_=>.stuck
 |x,.int j=>match op,listOf μ x with
  |.Mult,some xs=>if xs.length*j.toNat<=lim /\ -(2 ^ 63)<=j/\j<2 ^ 63 then mkL m (List.replicate j.toNat xs).flatten μ else .stuck
  |_,_=>.stuck
 |x,y=>match op,listOf μ x,listOf μ y with
  |.Add,some xs,some ys=>if xs.length+ys.length<=lim then mkL m (xs++ys) μ else .stuck
  |_,_,_=>.stuck
noncomputable def flat:D->Bool
 |.tup _=>false
 |.lst _=>false
 |.loc _=>false
 |_=>true
noncomputable def bu(μ:Sto)(x:D):Option (List D×Option (Nat×O)):=match x with
 |.tup ds=>some (ds,none)
 |.lst ds=>some (ds,none)
 |.loc n=>match μ[n]? with
  |some (.l ds)=>some (ds,some (n,.l ds))
  |some (.r ds)=>some (ds,some (n,.r ds))
  |_=>none
 |_=>none
noncomputable def zw:D->Bool
 |.int _=>true
 |.str _=>true
 |_=>false
noncomputable def Yt:D->Bool
 |.tup ds=>ds.all zw
 |_=>false
noncomputable def B6(k:D):List (D×D)->Option D
 | []=>none
 |(x,v)::r=>if deq x k then some v else B6 k r
noncomputable def dput(k v:D)(kvs:List (D×D)):List (D×D) :=
 if(kvs.any λp=>deq p.1 k)=true then kvs.map (λp=>if deq p.1 k=true then(p.1,v)else p)else kvs++[(k,v)]
noncomputable def dictAt(μ:Sto)(o k:D):Option (List (D×D)):=match o with
 |.loc n=>match μ[n]? with
  |some (.d kvs)=>if zw k=true then some kvs else none
  |some (.dr kvs)=>if zw k=true then some kvs else none
  |some (.fd kvs)=>if zw k=true then some kvs else none
  |_=>none
 |_=>none
noncomputable def x8(μ:Sto)(o:D)(ks:List D):Option (List (D×D)):=match o with
 |.loc n=>match μ[n]? with
  |some (.dt kvs)=>if ks.all zw=true then some kvs else none
  |_=>none
 |_=>none
noncomputable def c7:List (Option D)->Option (List D)
 | []=>some []
 |none::_=>none
 |some d::r=>match c7 r with
  |some ds=>some (d::ds)
  |none=>none
noncomputable def a7(μ:Sto):Nat->D->Option D
 |0,d=>if flat d=true then some d else none
 |k+1,d=>match d with
  |.tup ds=>(c7 (ds.map (a7 μ k))).map .tup
  |.lst ds=>(c7 (ds.map (a7 μ k))).map .lst
  |.loc n=>match μ[n]? with
   |some (.l ds)=>(c7 (ds.map (a7 μ k))).map .lst
   |some (.r ds)=>(c7 (ds.map (a7 μ k))).map .lst
   |_=>none
  |d=>some d
noncomputable def cpD(op:Cp)(a b:D)(μ:Sto):Res D:=match op with
 |.eq=>if a.pure=true/\b.pure=true then .ok (.bl (deq a b)) μ else .stuck
 |.ne=>if a.pure=true/\b.pure=true then .ok (.bl (!deq a b)) μ else .stuck
 |.eqM=>match a7 μ 8 a,a7 μ 8 b with
  |some x,some y=>.ok (.bl (deq x y)) μ
  |_,_=>.stuck
 |.neM=>match a7 μ 8 a,a7 μ 8 b with
  |some x,some y=>.ok (.bl (!deq x y)) μ
  |_,_=>.stuck
 |.lt=>match a,b with
  |.int i,.int j=>.ok (.bl (decide (i<j))) μ
  |.tup x,.tup y=>match cy x,cy y with
   |some xs,some ys=>.ok (.bl (lexLt xs ys)) μ
   |_,_=>.stuck
  |_,_=>.stuck
 |.le=>match a,b with
  |.int i,.int j=>.ok (.bl (decide (i<=j))) μ
  |.tup x,.tup y=>match cy x,cy y with
   |some xs,some ys=>.ok (.bl (!lexLt ys xs)) μ
   |_,_=>.stuck
  |_,_=>.stuck
 |.gt=>match a,b with
  |.int i,.int j=>.ok (.bl (decide (j<i))) μ
  |_,_=>.stuck
 |.ge=>match a,b with
  |.int i,.int j=>.ok (.bl (decide (j<=i))) μ
  |.tup x,.tup y=>match cy x,cy y with
   |some xs,some ys=>.ok (.bl (!lexLt xs ys)) μ
   |_,_=>.stuck
  |_,_=>.stuck
 |.is=>match b with
  |.non=>.ok (.bl (match a with | .non=>true | _=>false)) μ
  |.bl k=>match a with
   |.bl j=>.ok (.bl (j==k)) μ
   |.non=>.ok (.bl false) μ
   |_=>.stuck
  |_=>.stuck
 |.isnot=>match b with
  |.non=>.ok (.bl (match a with | .non=>false | _=>true)) μ
  |.bl k=>match a with
   |.bl j=>.ok (.bl (!(j==k))) μ
   |.non=>.ok (.bl true) μ
   |_=>.stuck
  |_=>.stuck
 |.in_=>match dn μ b with
  |some ds=>if flat a=true/\ds.all flat=true then .ok (.bl (ds.any λy=>deq y a)) μ else .stuck
  |none=>match dictAt μ b a with
   |some kvs=>.ok (.bl (B6 a kvs).isSome) μ
   |none=>.stuck
 |.notin=>match dn μ b with
  |some ds=>if flat a=true/\ds.all flat=true then .ok (.bl (!ds.any λy=>deq y a)) μ else .stuck
  |none=>match dictAt μ b a with
   |some kvs=>.ok (.bl (!(B6 a kvs).isSome)) μ
   |none=>.stuck
noncomputable def insI(x:Int):List Int->List Int
 | []=>[x]
 |y::r=>if x<=y then x::y::r else y::insI x r
noncomputable def sortI:List Int->List Int
 | []=>[]
 |x::r=>insI x (sortI r)
noncomputable def M8(x:List Int):List (List Int)->List (List Int)
 | []=>[x]
 |y::r=>if lexLt y x=true then y::M8 x r else x::y::r
noncomputable def i5:List (List Int)->List (List Int)
 | []=>[]
 |x::r=>M8 x (i5 r)
noncomputable def W3:Int->List Int->Int
 |x,[]=>x
 |x,y::r=>W3 (if y<x then y else x) r
noncomputable def W4:Int->List Int->Int
 |x,[]=>x
 |x,y::r=>W4 (if y > x then y else x) r
noncomputable def kn(f:D->Sto->Res D)(ds:List D)(μ:Sto):Res D:=match ds with
 | [x]=>f x μ
 |_=>.stuck
@[simp] theorem gu (f:D->Sto->Res D) (x:D) (μ:Sto):kn f [x] μ=f x μ:=rfl
noncomputable def seq1(f:List D->Sto->Res D)(x:D)(μ:Sto):Res D:=match dn μ x with
 |some xs=>f xs μ
 |none=>.stuck
noncomputable def M9(f:List Int->Sto->Res D)(x:D)(μ:Sto):Res D:=match(dn μ x).bind cy with
 |some ns=>f ns μ
 |none=>.stuck
noncomputable def B7(f:List Bool->Sto->Res D)(x:D)(μ:Sto):Res D:=match(dn μ x).bind j4 with
 |some ns=>f ns μ
 |none=>.stuck
noncomputable def Hy(m:Mk)(x:D)(μ:Sto):Res D:=match listOf μ x with
 |some xs=>mkL m xs.reverse μ
 |none=>.stuck
noncomputable def minD(ds:List D)(μ:Sto):Res D:=match ds with
 | [.int i,.int j]=>.ok (.int (if j<i then j else i)) μ
 |_=>.stuck
noncomputable def U4(ds:List D)(μ:Sto):Res D:=match ds with
 | [.int i,.int j,.int k]=>.ok (.int (if k<(if j<i then j else i)then k else(if j<i then j else i))) μ
 |_=>.stuck
noncomputable def maxD(ds:List D)(μ:Sto):Res D:=match ds with
 | [.int i,.int j]=>.ok (.int (if j > i then j else i)) μ
 |_=>.stuck
noncomputable def x9(m:Mk)(xs:List D)(μ:Sto):Res D:=match rowsOf xs with
 |some rs=>if rs.all (λr=>!r.isEmpty)=true then mkL m ((i5 rs).map λr=>.tup (r.map .int)) μ else .stuck
 |none=>.stuck
noncomputable def uo(ns:List Int):List Int:=ns.foldl (λσ k=>if σ.any (·==k)then σ else σ++[k]) []
noncomputable def Kh(m:Mk):D->Sto->Res D:=M9 λns μ=>if ns.length<64 then mkL m ((sortI (uo ns)).map .int) μ else .stuck
noncomputable def C5(rs:List (List Int)):List (List Int):=rs.foldl (λσ k=>if k∈σ then σ else σ++[k]) []
noncomputable def ya(m:Mk)(x:D)(μ:Sto):Res D:=match(listOf μ x).bind rowsOf with
 |some rs=>if rs.length<60/\(rs.all λr=>!r.isEmpty)=true then mkL m ((i5 (C5 rs)).map λr=>.tup (r.map .int)) μ else .stuck
 |none=>.stuck
noncomputable def D0(m:Mk)(x:D)(μ:Sto):Res D:=match listOf μ x with
 |some xs=>if xs.length<64 then x9 m xs μ else .stuck
 |none=>.stuck
noncomputable def U5(ds:List D)(μ:Sto):Res D:=match ds with
 | [.int x,.int i,.int j,.int k]=>if 0<=i/\i<2 ^ 32/\0<=j/\j<2 ^ 32/\1<=k/\k<=1000 then .ok (.bl (decide (i<=x/\x<j/\(x-i) % k=0))) μ else .stuck
 |_=>.stuck
noncomputable def W5{R:Type}(lt:R->R->Bool)(x:R):List R->List R
 | []=>[x]
 |y::r=>if lt y x=true then y::W5 lt x r else x::y::r
noncomputable def Na{R:Type}(lt:R->R->Bool):List R->List R
 | []=>[]
 |x::r=>W5 lt x (Na lt r)
noncomputable abbrev NR:=List Int×Str×List Int
noncomputable abbrev Yu(x:NR):D:=.tup [.tup (x.1.map .int),.tup (.str x.2.1::x.2.2.map .int)]
noncomputable def ltN(x y:NR):Bool:=if x.1=y.1 then(if x.2.1=y.2.1 then lexLt x.2.2 y.2.2 else decide (x.2.1.cps.toList<y.2.1.cps.toList))else lexLt x.1 y.1
noncomputable def Qf:List D->Option (List NR)
 | []=>some []
 |.tup [.tup ds,.tup (.str t::es)]::r=>(cy ds).bind λx=>(cy es).bind λy=>(Qf r).map ((x,t,y)::·)
 |_=>none
noncomputable def Qg(m:Mk)(x:D)(μ:Sto):Res D:=match(listOf μ x).bind Qf with
 |some rs=>if rs.length<=1000 then mkL m ((Na ltN rs).map Yu) μ else .stuck
 |none=>.stuck
noncomputable def Qh(m:Mk)(x:D)(μ:Sto):Res D:=match(listOf μ x).bind rowsOf with
 |some rs=>if rs.length<=1000/\(rs.all λr=>!r.isEmpty)=true then mkL m ((Na lexLt rs).map λr=>.tup (r.map .int)) μ else .stuck
 |none=>.stuck
noncomputable def Qi(m:Mk)(x:D)(μ:Sto):Res D:=match(listOf μ x).bind cy with
 |some ns=>if ns.length<64 then mkL m ((sortI ns).map .int) μ else .stuck
 |none=>.stuck
noncomputable def keysOf(μ:Sto):D->Option (List (D×D))
 |.loc n=>match μ[n]? with
  |some (.d kvs)=>some kvs
  |some (.dr kvs)=>some kvs
  |some (.fd kvs)=>some kvs
  |_=>none
 |_=>none
noncomputable def Qj(m:Mk)(x:D)(μ:Sto):Res D:=match(keysOf μ x).bind λkvs=>cy (kvs.map (·.1))with
 |some ns=>if ns.length<64 then mkL m ((sortI ns).map .int) μ else .stuck
 |none=>.stuck
noncomputable def U6(xs:List D):List D:=(List.range (xs.length / 2)).filterMap λi=>xs[2*i+1]?
noncomputable def U7(m:Mk)(x:D)(μ:Sto):Res D:=match listOf μ x with
 |some xs=>mkL m (U6 xs) μ
 |none=>.stuck
noncomputable def Qk:List D->Sto->Option (List (List Int)×Sto)
 | [],μ=>some ([],μ)
 |.loc n::r,μ=>match μ[n]? with
  |some (.l ds)=>match cy ds,Qk r (μ.set n .dead)with
   |some x,some p=>some (x::p.1,p.2)
   |_,_=>none
  |_=>none
 |_,_=>none
noncomputable def Nc(m:Mk)(x:D)(μ:Sto):Res D:=match listOf μ x with
 |some xs=>if xs.length<64 then(match Qk xs μ with
  |some p=>mkL m ((i5 p.1).map λr=>.lst (r.map .int)) p.2
  |none=>.stuck)else .stuck
 |none=>.stuck
noncomputable def U8:D->Sto->Res D:=M9 λns μ=>match ns with
 |n::r=>.ok (.int (W3 n r)) μ
 | []=>.stuck
noncomputable def U9:D->Sto->Res D:=M9 λns μ=>match ns with
 |n::r=>.ok (.int (W4 n r)) μ
 | []=>.stuck
noncomputable def Ql(x:D)(μ:Sto):Res D:=match x with
 |.bl b=>.ok (.int (if b then 1 else 0)) μ
 |.int i=>.ok (.int i) μ
 |_=>.stuck
noncomputable def Ki(f:List D->Sto->Res D)(x:D)(μ:Sto):Res D:=match x with
 |.int j=>if -(lim:Int)<=j/\j<=lim then f ((List.range j.toNat).map fun(i:Nat)=>D.int i) μ else .stuck
 |_=>.stuck
noncomputable def Kj:List D->Option (List (D×D))
 | []=>some []
 |.tup [k,v]::r=>if zw k=true/\v.pure=true then(Kj r).map ((k,v)::·)else none
 |_=>none
noncomputable def Qm(x:D)(μ:Sto):Res D:=match(listOf μ x).bind Kj with
 |some ps=>if ps.length<1000 then .ok (.loc μ.length) (μ++[.d (ps.foldl (λm p=>dput p.1 p.2 m) [])])else .stuck
 |none=>.stuck
noncomputable def btD(b:Bt)(m:Mk)(ds:List D)(μ:Sto):Res D:=match b with
 |.len=>kn (seq1 λxs μ=>.ok (.int xs.length) μ) ds μ
 |.tuple=>kn (seq1 λxs μ=>.ok (.tup xs) μ) ds μ
 |.list=>kn (seq1 λxs μ=>mkL m xs μ) ds μ
 |.listRev=>kn (Hy m) ds μ
 |.sum=>kn (M9 λns μ=>.ok (.int ns.sum) μ) ds μ
 |.min=>minD ds μ
 |.max=>maxD ds μ
 |.all=>kn (B7 λbs μ=>.ok (.bl (bs.all id)) μ) ds μ
 |.any=>kn (B7 λbs μ=>.ok (.bl (bs.any id)) μ) ds μ
 |.sorted=>kn (D0 m) ds μ
 |.min1=>kn U8 ds μ
 |.max1=>kn U9 ds μ
 |.sortedN=>kn (Qg m) ds μ
 |.sortedT=>kn (Qh m) ds μ
 |.sortedST=>kn (ya m) ds μ
 |.inR3=>U5 ds μ
 |.sortedSet=>kn (Kh m) ds μ
 |.sortedL=>kn (Nc m) ds μ
 |.int=>kn Ql ds μ
 |.listRange=>kn (Ki λxs μ=>mkL m xs μ) ds μ
 |.tupleRange=>kn (Ki λxs μ=>.ok (.tup xs) μ) ds μ
 |.dictP=>kn Qm ds μ
 |.sortedI=>kn (Qi m) ds μ
 |.sortedD=>kn (Qj m) ds μ
 |.odds=>kn (U7 m) ds μ
 |.min3=>U4 ds μ
noncomputable def W6:List Str:=["BadBook","BadTicks","NoDeed","NoRest","BadRow"]
noncomputable def Yv(k c:Str):Bool:=decide (c=k) || decide (c="LampError") || decide (c="ValueError")
noncomputable def Qn(c:Cl)(d:D)(μ:Sto):Res D:=match d,c with
 |.int _,.int=>.ok (.bl true) μ
 |.bl _,.int=>.ok (.bl true) μ
 |.bl _,.bool=>.ok (.bl true) μ
 |.tup _,.tuple=>.ok (.bl true) μ
 |.lst _,.list=>.ok (.bl true) μ
 |.str _,.str=>.ok (.bl true) μ
 |.loc n,.list=>match μ[n]? with
  |some (.l _)=>.ok (.bl true) μ
  |some (.r _)=>.ok (.bl true) μ
  |_=>.stuck
 |.loc n,.own c=>match μ[n]? with
  |some (.x k)=>if W6.contains k=true then .ok (.bl (Yv k c)) μ else .stuck
  |_=>.stuck
 |.loc _,_=>.stuck
 |_,.own _=>.stuck
 |_,_=>.ok (.bl false) μ
noncomputable def putL(n:Nat)(o:O)(ds:List D)(d:D)(μ:Sto):Res D:=match o with
 |.l _=>.ok d (μ.set n (.l ds))
 |.r _=>.ok d (μ.set n (.r ds))
 |_=>.stuck
noncomputable def fits(o:O)(d:D):Bool:=match o with
 |.l _=>d.pure
 |.r _=>true
 |_=>false
noncomputable def gi:O->Option (List D)
 |.l ds=>some ds
 |.r ds=>some ds
 |_=>none
noncomputable def mtL(mt:Mt)(n:Nat)(ob:O)(xs:List D)(ds:List D)(μ:Sto):Res D:=match mt with
 |.append=>kn (λd μ=>if fits ob d=true/\xs.length<lim then putL n ob (xs++[d]) .non μ else .stuck) ds μ
 |.pop=>match ds with
  | []=>match xs.getLast? with
   |some d=>putL n ob xs.dropLast d μ
   |none=>.stuck
  | [.int i]=>if 0<=i/\i<lim then(match xs[i.toNat]? with
   |some d=>putL n ob (xs.eraseIdx i.toNat) d μ
   |none=>.stuck)else .stuck
  |_=>.stuck
 |.extend=>kn (λy μ=>match listOf μ y with
  |some ys=>if ys.all (fits ob)=true/\xs.length+ys.length<=lim then putL n ob (xs++ys) .non μ else .stuck
  |none=>.stuck) ds μ
 |.extendT=>kn (λy μ=>match y with
  |.tup ys=>if ys.all (fits ob)=true/\xs.length+ys.length<=lim then putL n ob (xs++ys) .non μ else .stuck
  |_=>.stuck) ds μ
 |.insert=>match ds with
  | [.int i,d]=>if 0<=i/\i<=(xs.length:Int)/\fits ob d=true/\xs.length<lim then putL n ob (xs.take i.toNat++d::xs.drop i.toNat) .non μ else .stuck
  |_=>.stuck
 |.remove=>kn (λd μ=>match c7 (xs.map (a7 μ 8)),a7 μ 8 d with
  |some es,some e=>match es.findIdx? (λx=>deq x e)with
   |some j=>putL n ob (xs.eraseIdx j) .non μ
   |none=>.stuck
  |_,_=>.stuck) ds μ
 |.reverse=>match ds with
  | []=>putL n ob xs.reverse .non μ
  |_=>.stuck
 |.clear=>match ds with
  | []=>putL n ob [] .non μ
  |_=>.stuck
 |_=>.stuck
noncomputable def W7(xs ds:List D)(μ:Sto):Res D:=kn (λx μ=>if flat x=true/\xs.all flat=true then .ok (.int (xs.countP λy=>deq y x)) μ else .stuck) ds μ
noncomputable def Yw(o:D)(ds:List D)(μ:Sto):Res D:=match o with
 |.tup xs=>W7 xs ds μ
 |_=>.stuck
noncomputable def Yx(o:D)(ds:List D)(μ:Sto):Res D:=match listOf μ o with
 |some xs=>W7 xs ds μ
 |none=>.stuck
noncomputable def gv(mt:Mt)(x:D)(μ:Sto):Bool:=match mt with
 |.get=>match x with
  |.loc n=>match μ[n]? with
   |some (.d _)=>true
   |_=>false
  |_=>false
 |.count=>match x with
  |.tup _=>true
  |_=>false
 |_=>(listOf μ x).isSome
noncomputable def Nd(o:D)(ds:List D)(μ:Sto):Res D:=match ds with
 | [k,x]=>match dictAt μ o k with
  |some kvs=>.ok ((B6 k kvs).getD x) μ
  |none=>.stuck
 |_=>.stuck
noncomputable def vd(mt:Mt)(o:D)(ds:List D)(μ:Sto):Res D:=match o with
 |.loc n=>match μ[n]? with
  |none=>.stuck
  |some ob=>match gi ob with
   |none=>.stuck
   |some xs=>mtL mt n ob xs ds μ
 |_=>.stuck
noncomputable def mtD(mt:Mt)(o:D)(ds:List D)(μ:Sto):Res D:=match mt with
 |.count=>Yw o ds μ
 |.countL=>Yx o ds μ
 |.get=>Nd o ds μ
 |mt=>vd mt o ds μ
noncomputable def Va(a:D)(ks:List D)(v:D)(μ:Sto):Res Unit:=match a with
 |.loc n=>match μ[n]? with
  |some (.dt kvs)=>if ks.all zw=true/\v.pure=true/\kvs.length<lim then .ok () (μ.set n (.dt (dput (.tup ks) v kvs)))else .stuck
  |_=>.stuck
 |_=>.stuck
noncomputable def W8(a:D)(ks:List D)(μ:Sto):Res D:=match x8 μ a ks with
 |some kvs=>match B6 (.tup ks) kvs with
  |some v=>.ok v μ
  |none=>.stuck
 |none=>.stuck
noncomputable def Vb(a:D)(ks:List D)(v:D)(μ:Sto):Res D:=match x8 μ a ks with
 |some kvs=>.ok ((B6 (.tup ks) kvs).getD v) μ
 |none=>.stuck
noncomputable def Yy(a k:D)(μ:Sto):Res D:=match k with
 |.tup ks=>W8 a ks μ
 |_=>.stuck
noncomputable def Yz(a:D)(μ:Sto):Bool:=match a with
 |.loc n=>match μ[n]? with
  |some (.dt _)=>true
  |_=>false
 |_=>false
noncomputable def Y0(neg:Bool)(ks:List D)(a:D)(μ:Sto):Res D:=match x8 μ a ks with
 |some kvs=>.ok (.bl (neg ^^ (B6 (.tup ks) kvs).isSome)) μ
 |none=>.stuck
noncomputable def ixD(a b:D)(μ:Sto):Res D:=match b with
 |.int i=>match dn μ a with
  |some xs=>match ixN xs.length i with
   |some j=>match xs[j]? with
    |some d=>.ok d μ
    |none=>.stuck
   |none=>.stuck
  |none=>.stuck
 |_=>.stuck
noncomputable def ixL(a b:D)(μ:Sto):Res D:=match a with
 |.loc n=>ixD (.loc n) b μ
 |_=>.stuck
noncomputable def Tz(a b:D)(μ:Sto):Res D:=match dictAt μ a b with
 |some kvs=>match B6 b kvs with
  |some v=>.ok v μ
  |none=>.stuck
 |none=>.stuck
noncomputable def Vc(a b:D)(μ:Sto):Res D:=match keysOf μ a with
 |some _=>Tz a b μ
 |none=>ixD a b μ
noncomputable def objOf(μ:Sto):D->Option (Nat×Str×List (Str×D))
 |.loc n=>match μ[n]? with
  |some (.o c fs)=>some (n,c,fs)
  |_=>none
 |_=>none
noncomputable def Qo(c f:Str):Bool :=
 if c="Residue" then decide (f="heads") || decide (f="rooms") || decide (f="leaving") || decide (f="surplus")
 else if c="Slope" then decide (f="residue") || decide (f="scale") || decide (f="costs") || decide (f="worths")
 else if c="Watch" then decide (f="rests")else false
noncomputable def W9(f:Str)(x:D)(μ:Sto):Res D:=match objOf μ x with
 |some (_,c,fs)=>if Qo c f=true then(match fs.lookup f with
  |some v=>.ok v μ
  |none=>.stuck)else .stuck
 |none=>.stuck
noncomputable def Xa(f:Str)(v:D):List (Str×D)->List (Str×D)
 | []=>[(f,v)]
 |(g,x)::r=>if g=f then(g,v)::r else(g,x)::Xa f v r
noncomputable def Nf(f:Str)(x v:D)(μ:Sto):Res Unit:=match objOf μ x with
 |some (n,c,fs)=>if Qo c f=true/\fs.length<100 then .ok () (μ.set n (.o c (Xa f v fs)))else .stuck
 |none=>.stuck
noncomputable def isObj(c m:Str)(x:D)(μ:Sto):Bool:=match objOf μ x with
 |some (_,c',fs)=>decide (c'=c)&&(fs.lookup m).isNone
 |none=>false
noncomputable def truD(x:D)(μ:Sto):Res D:=match x with
 |.bl b=>.ok (.bl b) μ
 |x=>match dn μ x with
  |some xs=>.ok (.bl (!xs.isEmpty)) μ
  |none=>.stuck
noncomputable def Xb(op:Operator)(a b:D)(μ:Sto):Res D:=match a,b with
 |.int i,.int j=>match op with
  |.Add=>.ok (.int (i+j)) μ
  |.Sub=>.ok (.int (i-j)) μ
  |_=>.stuck
 |_,_=>.stuck
noncomputable def slD(m:Mk)(a:D)(lo hi:Option Int)(μ:Sto):Res D:=match a with
 |.tup xs=>.ok (.tup (cut xs lo hi)) μ
 |x=>match listOf μ x with
  |some xs=>mkL m (cut xs lo hi) μ
  |none=>.stuck
noncomputable def yb(a b v:D)(μ:Sto):Res Unit:=match a with
 |.loc n=>match μ[n]? with
  |none=>.stuck
  |some (.d kvs)=>if zw b=true/\v.pure=true/\kvs.length<lim then .ok () (μ.set n (.d (dput b v kvs)))else .stuck
  |some (.dr kvs)=>if zw b=true/\kvs.length<lim then .ok () (μ.set n (.dr (dput b v kvs)))else .stuck
  |some ob=>match gi ob,b with
   |some xs,.int i=>match ixN xs.length i with
    |some j=>if fits ob v=true then(putL n ob (xs.set j v) .non μ).bind λ_ μ=>.ok () μ else .stuck
    |none=>.stuck
   |_,_=>.stuck
 |_=>.stuck
noncomputable def gp(tg:Tg)(d:D)(σ:Sl):Option Sl:=match tg with
 |.one i=>some (σ.set i (some d))
 |.many is=>match d with
  |.tup ds=>if ds.length=is.length then some ((is.zip ds).foldl (λs p=>s.set p.1 (some p.2)) σ)else none
  |_=>none
noncomputable abbrev Gd:=Option (Nat×O)
noncomputable def gd(g:Gd)(μ:Sto):Prop:=match g with
 |none=>True
 |some (n,o)=>μ[n]? = some o
@[simp] theorem yc (μ:Sto):gd none μ=True:=rfl
open Classical in
noncomputable def mapR(g:Gd)(f:D->Sto->Res (List D)):List D->Sto->Res (List D)
 | [],μ=>if gd g μ then .ok [] μ else .stuck
 |d::ds,μ=>if gd g μ then(f d μ).bind λxs μ1=>(mapR g f ds μ1).bind λys μ2=>.ok (xs++ys) μ2 else .stuck
inductive Fl where
 |nx (σ:Sl) | rt (d:D) | bk (σ:Sl) | ct (σ:Sl)
open Classical in
noncomputable def jy(g:Gd)(f:D->Sl->Sto->Res Fl):List D->Sl->Sto->Res Fl
 | [],σ,μ=>if gd g μ then .ok (.nx σ) μ else .stuck
 |d::ds,σ,μ=>if gd g μ then(f d σ μ).bind λfl μ1=>match fl with
  |.nx σ1=>jy g f ds σ1 μ1
  |.ct σ1=>jy g f ds σ1 μ1
  |.bk σ1=>.ok (.nx σ1) μ1
  |.rt v=>.ok (.rt v) μ1 else .stuck
noncomputable def Qp(t:Bool)(ds:List D)(μ:Sto):Res D:=match ds with
 | []=>.ok (.loc μ.length) (μ++[if t then .dt []else .d []])
 | [.int a,x]=>if t=false/\x.pure=true then .ok (.loc μ.length) (μ++[.d [(.int a,x)]])else .stuck
 | [.int a,x,.int b,y]=>if t=false/\x.pure=true/\y.pure=true then .ok (.loc μ.length) (μ++[.d (dput (.int b) y [(.int a,x)])])else .stuck
 |_=>.stuck
noncomputable abbrev Phi:=Nat->List D->Sto->Res D
noncomputable def D.belowN(b:Nat):Nat->D->Bool
 |0,d=>match d with | .tup _=>false | .lst _=>false | .loc n=>decide (n<b) | _=>true
 |k+1,d=>match d with | .tup ds=>ds.all (D.belowN b k) | .lst ds=>ds.all (D.belowN b k) | .loc n=>decide (n<b) | _=>true
noncomputable def gh(b:Nat):O->Bool
 |.r ds=>ds.all (D.belowN b 8)
 |.o _ fs=>fs.all λp=>D.belowN b 8 p.2
 |.dr kvs=>kvs.all λp=>D.belowN b 8 p.2
 |_=>true
noncomputable def noR:O->Bool
 |.r _=>false
 |.o _ _=>false
 |.dr _=>false
 |_=>true
noncomputable def l5(keep:Bool)(base:Nat)(r:Res D):Res D:=match r with
 |.ok d μ'=>if keep=true then .ok d μ' else if D.belowN base 8 d=true/\(μ'.take base).all (gh base)=true then .ok d (μ'.take base)else .stuck
 |x=>x
noncomputable def Y1:O->Bool
 |.l _=>true
 |.d _=>true
 |.dt _=>true
 |.fd _=>true
 |_=>false
noncomputable def Ng(base:Nat)(r:Res D):Res D:=match r with
 |.ok d μ'=>if(μ'.take base).all (gh base)=true then(if D.belowN base 8 d=true then .ok d (μ'.take base)else match d with
  |.loc n=>match μ'[n]? with
   |some o=>if Y1 o=true then .ok (.loc base) (μ'.take base++[o])else .stuck
   |none=>.stuck
  |_=>.stuck)else .stuck
 |x=>x
noncomputable def Qq(k1:Bool)(base:Nat)(r:Res D):Res D:=if k1=true then Ng base r else l5 false base r
noncomputable def Qr(base:Nat)(r:Res D):Res D:=match r with
 |.ok .non μ'=>.ok (.loc base) μ'
 |_=>.stuck
noncomputable def Xc:D->Option (Sum D Str)
 |.non=>some (.inl .non)
 |.tup [.bl true,d]=>some (.inl d)
 |.tup [.bl false,.str c]=>some (.inr c)
 |_=>none
noncomputable def Qs(base:Nat)(r:Res D):Res (Option Str):=match r with
 |.ok d μ'=>if(μ'.take base).all (gh base)=true then(match Xc d with
  |some (.inl _)=>.ok none (μ'.take base)
  |some (.inr c)=>.ok (some c) (μ'.take base)
  |none=>.stuck)else .stuck
 |.exc c ds μ'=>.exc c ds μ'
 |.stuck=>.stuck
noncomputable def kTh(σ:Sl)(r:Option Str)(μ:Sto):Res Fl:=match r with
 |none=>.ok (.nx σ) μ
 |some c=>.ok (.rt (.tup [.bl false,.str c])) μ
noncomputable def kPl(fl:Fl)(μ:Sto):Res Fl:=match fl with
 |.nx σ=>.ok (.nx σ) μ
 |_=>.stuck
noncomputable def kGo(ei:Nat)(fl:Fl)(μ:Sto):Res Fl:=match fl with
 |.nx σ=>.ok (.nx (σ.set ei none)) μ
 |_=>.stuck
noncomputable def kTi(σ:Sl)(i j:Nat)(d:D)(μ:Sto):Res Fl:=match d with
 |.int n=>if i=j then .stuck else .ok (.nx ((σ.set j (some (.int n))).set i none)) μ
 |_=>.stuck
noncomputable def Y2(σ:Sl)(ei:Nat)(h:Sl->Sto->Res Fl)(r:Option Str)(μ:Sto):Res Fl:=match r with
 |none=>.ok (.nx σ) μ
 |some c=>if W6.contains c=true then(h (σ.set ei (some (.loc μ.length))) (μ++[.x c])).bind (kGo ei)else .stuck
noncomputable def Vd(base:Nat)(r:Res D):Res (Sum D Str):=match r with
 |.ok d μ'=>if(μ'.take base).all (gh base)=true then(match Xc d with
  |some (.inl d')=>if D.belowN base 8 d'=true then .ok (.inl d') (μ'.take base)else .stuck
  |some (.inr c)=>.ok (.inr c) (μ'.take base)
  |none=>.stuck)else .stuck
 |.exc c ds μ'=>.exc c ds μ'
 |.stuck=>.stuck
noncomputable def kMd(x:D)(q:Sum (List D) Str)(μ:Sto):Res (Sum (List D) Str):=match q with
 |.inl xs=>.ok (.inl (x::xs)) μ
 |.inr c=>.ok (.inr c) μ
noncomputable def kMc(rest:Sto->Res (Sum (List D) Str))(r:Sum D Str)(μ:Sto):Res (Sum (List D) Str):=match r with
 |.inl x=>(rest μ).bind (kMd x)
 |.inr c=>.ok (.inr c) μ
open Classical in
noncomputable def Xd(g:Gd)(f:D->Sto->Res (Sum D Str)):List D->Sto->Res (Sum (List D) Str)
 | [],μ=>if gd g μ then .ok (.inl []) μ else .stuck
 |d::ds,μ=>if gd g μ then(f d μ).bind (kMc λμ=>Xd g f ds μ)else .stuck
noncomputable def kMx(σ:Sl)(i:Nat)(ys:List D)(r:Sum (List D) Str)(μ:Sto):Res Fl:=match r with
 |.inl xs=>.ok (.nx (σ.set i (some (.tup (ys++xs))))) μ
 |.inr c=>.ok (.rt (.tup [.bl false,.str c])) μ
noncomputable def T3(d:D)(μ:Sto):Res Bool:=match d with
 |.bl b=>.ok b μ
 |_=>.stuck
section
variable(φ:Phi)
mutual
noncomputable def evE:Ex->Sl->Sto->Res D
 |.var i,σ,μ=>match σ[i]? with
  |some (some d)=>.ok d μ
  |_=>.stuck
 |.frz i,σ,μ=>match σ[i]? with
  |some (some (.loc n))=>match μ[n]? with
   |some (.l ds)=>.ok (.lst ds) (μ.set n .dead)
   |some (.r ds)=>.ok (.lst ds) (μ.set n .dead)
   |_=>.stuck
  |_=>.stuck
 |.cst d,_,μ=>.ok d μ
 |.bin op m a b,σ,μ=>(evE a σ μ).bind λx μ=>(evE b σ μ).bind λy μ=>opD op m x y μ
 |.neg a,σ,μ=>(evE a σ μ).bind λx μ=>match x with
  |.int i=>.ok (.int (-i)) μ
  |_=>.stuck
 |.not a,σ,μ=>(evE a σ μ).bind λx μ=>match x with
  |.bl b=>.ok (.bl (!b)) μ
  |_=>.stuck
 |.and a b,σ,μ=>(evE a σ μ).bind λx μ=>match x with
  |.bl c=>if c=true then evE b σ μ else .ok (.bl false) μ
  |_=>.stuck
 |.or a b,σ,μ=>(evE a σ μ).bind λx μ=>match x with
  |.bl c=>if c=true then .ok (.bl true) μ else evE b σ μ
  |_=>.stuck
 |.ite c a b,σ,μ=>(evE c σ μ).bind λx μ=>match x with
  |.bl c=>if c=true then evE a σ μ else evE b σ μ
  |_=>.stuck
 |.cmp a r,σ,μ=>(evE a σ μ).bind λx μ=>evC r x σ μ
 |.call keep f es,σ,μ=>(fj es σ μ).bind λds μ=>l5 keep μ.length (φ f ds μ)
 |.blt b m es,σ,μ=>(fj es σ μ).bind λds μ=>btD b m ds μ
 |.isi a c,σ,μ=>(evE a σ μ).bind λx μ=>Qn c x μ
 |.meth mt o es,σ,μ=>(evE o σ μ).bind λx μ=>if gv mt x μ=true then(fj es σ μ).bind λds μ=>mtD mt x ds μ else .stuck
 |.ix a b,σ,μ=>(evE a σ μ).bind λx μ=>(evE b σ μ).bind λy μ=>ixD x y μ
 |.dix a b,σ,μ=>(evE a σ μ).bind λx μ=>(evE b σ μ).bind λy μ=>Tz x y μ
 |.sl m a lo hi,σ,μ=>(evE a σ μ).bind λx μ=>(evO lo σ μ).bind λl μ=>(evO hi σ μ).bind λh μ=>slD m x l h μ
 |.tup es,σ,μ=>(fj es σ μ).bind λds μ=>.ok (.tup ds) μ
 |.lst m es,σ,μ=>(fj es σ μ).bind λds μ=>mkL m ds μ
 |.dic t es,σ,μ=>(fj es σ μ).bind λds μ=>Qp t ds μ
 |.ixT d es,σ,μ=>(evE d σ μ).bind λx μ=>(fj es σ μ).bind λks μ=>W8 x ks μ
 |.ixV d k,σ,μ=>(evE d σ μ).bind λx μ=>(evE k σ μ).bind λy μ=>Yy x y μ
 |.getT d es e,σ,μ=>(evE d σ μ).bind λx μ=>if Yz x μ=true then(fj es σ μ).bind λks μ=>(evE e σ μ).bind λv μ=>Vb x ks v μ else .stuck
 |.inT neg es d,σ,μ=>(fj es σ μ).bind λds μ=>(evE d σ μ).bind λx μ=>Y0 neg ds x μ
 |.att e f,σ,μ=>(evE e σ μ).bind λx μ=>W9 f x μ
 |.mcall k1 c m f o es,σ,μ=>(evE o σ μ).bind λx μ=>if isObj c m x μ=true then(fj es σ μ).bind λds μ=>Qq k1 μ.length (φ f (x::ds) μ)else .stuck
 |.make c f es,σ,μ=>(fj es σ μ).bind λds μ=>Qr μ.length (φ f (.loc μ.length::ds) (μ++[.o c []]))
 |.callK f es,σ,μ=>(fj es σ μ).bind λds μ=>Ng μ.length (φ f ds μ)
 |.tru e,σ,μ=>(evE e σ μ).bind λx μ=>truD x μ
 |.drp e,σ,μ=>l5 false μ.length (evE e σ μ)
 |.dicr,_,μ=>.ok (.loc μ.length) (μ++[.dr []])
 |.gix a b,σ,μ=>(evE a σ μ).bind λx μ=>(evE b σ μ).bind λy μ=>Vc x y μ
 |.comp m cap nl tg it cs elt,σ,μ=>(evI it σ μ).bind λds μ =>
   (mapR ds.2 (λd μ=>ji (gp tg d (cap.map (λi=>(σ[i]?).getD none)++List.replicate nl none)) λσ' =>
    (B8 cs σ' μ).bind λb μ=>if b=true then(evE elt σ' μ).bind λx μ=>.ok [x] μ else .ok [] μ) ds.1 μ).bind λxs μ=>mkL m xs μ
noncomputable def fj:Exs->Sl->Sto->Res (List D)
 |.nil,_,μ=>.ok [] μ
 |.cons e es,σ,μ=>(evE e σ μ).bind λd μ=>(fj es σ μ).bind λds μ=>.ok (d::ds) μ
noncomputable def evC:Cps->D->Sl->Sto->Res D
 |.nil,_,_,_=>.stuck
 |.cons op e r,x,σ,μ=>(evE e σ μ).bind λy μ=>(cpD op x y μ).bind λz μ=>match r with
  |.nil=>.ok z μ
  |r=>match z with
   |.bl b=>if b=true then evC r y σ μ else .ok (.bl false) μ
   |_=>.stuck
noncomputable def evO:ExO->Sl->Sto->Res (Option Int)
 |.no,_,μ=>.ok none μ
 |.so e,σ,μ=>(evE e σ μ).bind λx μ=>match x with
  |.int i=>.ok (some i) μ
  |_=>.stuck
noncomputable def B8:Exs->Sl->Sto->Res Bool
 |.nil,_,μ=>.ok true μ
 |.cons e es,σ,μ=>(evE e σ μ).bind λx μ=>match x with
  |.bl b=>if b=true then B8 es σ μ else .ok false μ
  |_=>.stuck
noncomputable def evI:It->Sl->Sto->Res (List D×Gd)
 |.seq e,σ,μ=>(evE e σ μ).bind λx μ=>match bu μ x with
  |some w=>.ok w μ
  |none=>.stuck
 |.rng a,σ,μ=>(evE a σ μ).bind λx μ=>match x with
  |.int j=>if -(lim:Int)<=j/\j<=lim then .ok ((List.range j.toNat).map fun(i:Nat)=>D.int i,none) μ else .stuck
  |_=>.stuck
 |.rng2 a b,σ,μ=>(evE a σ μ).bind λx μ=>(evE b σ μ).bind λy μ=>match x,y with
  |.int i,.int j=>if -(lim:Int)<=i/\i<=lim/\j<=lim /\ -(lim:Int)<=j/\(j-i)<=lim then .ok ((List.range (j-i).toNat).map fun(k:Nat)=>D.int (i+k),none) μ else .stuck
  |_,_=>.stuck
 |.rng3 a b c,σ,μ=>(evE a σ μ).bind λx μ=>(evE b σ μ).bind λy μ=>(evE c σ μ).bind λz μ=>match x,y,z with
  |.int i,.int j,.int k=>if 0<=i/\i<=lim/\j<=lim/\0<=j/\1<=k/\k<=1000 then .ok ((List.range (if i<j then((j-i-1) / k+1).toNat else 0)).map fun(n:Nat)=>D.int (i+n*k),none) μ else .stuck
  |_,_,_=>.stuck
 |.rngD a b c,σ,μ=>(evE a σ μ).bind λx μ=>(evE b σ μ).bind λy μ=>(evE c σ μ).bind λz μ=>match x,y,z with
  |.int i,.int j,.int k=>if -1<=i/\i<lim/\j = -1/\k = -1 then .ok ((List.range (i+1).toNat).map fun(n:Nat)=>D.int (i-n),none) μ else .stuck
  |_,_,_=>.stuck
 |.zip a b,σ,μ=>(evE a σ μ).bind λx μ=>(evE b σ μ).bind λy μ=>match bu μ x,dn [] y with
  |some w,some ys=>.ok ((w.1.zip ys).map λp=>.tup [p.1,p.2],w.2) μ
  |_,_=>.stuck
 |.enum a,σ,μ=>(evE a σ μ).bind λx μ=>match bu μ x with
  |some w=>.ok ((List.range w.1.length |>.zip w.1).map fun(p:Nat×D)=>.tup [.int p.1,p.2],w.2) μ
  |none=>.stuck
 |.rev _,_,_=>.stuck
 |.vals a,σ,μ=>(evE a σ μ).bind λx μ=>match x with
  |.loc n=>match μ[n]? with
   |some (.d kvs)=>.ok (kvs.map (·.2),none) (μ.set n .dead)
   |_=>.stuck
  |_=>.stuck
 |.keys a,σ,μ=>(evE a σ μ).bind λx μ=>match x with
  |.loc n=>match μ[n]? with
   |some (.d kvs)=>.ok (kvs.map (·.1),none) (μ.set n (.fd kvs))
   |_=>.stuck
  |_=>.stuck
end
noncomputable def whN(c:Sl->Sto->Res Bool)(b:Sl->Sto->Res Fl):Nat->Sl->Sto->Res Fl
 |0,_,_=>.stuck
 |n+1,σ,μ=>(c σ μ).bind λk μ1=>if k=true then(b σ μ1).bind λfl μ2=>match fl with
  |.nx σ1=>whN c b n σ1 μ2
  |.ct σ1=>whN c b n σ1 μ2
  |.bk σ1=>.ok (.nx σ1) μ2
  |.rt v=>.ok (.rt v) μ2 else .ok (.nx σ) μ1
open Classical in
noncomputable def whR(c:Sl->Sto->Res Bool)(b:Sl->Sto->Res Fl)(σ:Sl)(μ:Sto):Res Fl :=
 if h:∃n,whN c b n σ μ≠.stuck then whN c b h.choose σ μ else .stuck
mutual
noncomputable def evS:Sm->Sl->Sto->Res Fl
 |.set i e,σ,μ=>(evE φ e σ μ).bind λd μ=>.ok (.nx (σ.set i (some d))) μ
 |.unp is e,σ,μ=>(evE φ e σ μ).bind λd μ=>match gp (.many is) d σ with
  |some σ'=>.ok (.nx σ') μ
  |none=>.stuck
 |.setx o i v,σ,μ=>(evE φ v σ μ).bind λd μ=>(evE φ o σ μ).bind λx μ=>(evE φ i σ μ).bind λy μ=>(yb x y d μ).bind λ_ μ=>.ok (.nx σ) μ
 |.augx op o i v,σ,μ=>(evE φ o σ μ).bind λx μ=>(evE φ i σ μ).bind λy μ=>(ixL x y μ).bind λold μ=>(evE φ v σ μ).bind λd μ=>(Xb op old d μ).bind λz μ=>(yb x y z μ).bind λ_ μ=>.ok (.nx σ) μ
 |.setxT o i v,σ,μ=>(evE φ v σ μ).bind λd μ=>(evE φ o σ μ).bind λx μ=>(fj φ i σ μ).bind λy μ=>(Va x y d μ).bind λ_ μ=>.ok (.nx σ) μ
 |.ex e,σ,μ=>(evE φ e σ μ).bind λ_ μ=>.ok (.nx σ) μ
 |.ite c a b,σ,μ=>(evE φ c σ μ).bind λx μ=>match x with
  |.bl k=>if k=true then k6 a σ μ else k6 b σ μ
  |_=>.stuck
 |.loop tg it b,σ,μ=>(evI φ it σ μ).bind λds μ=>jy ds.2 (λd σ μ=>ji (gp tg d σ) λσ'=>k6 b σ' μ) ds.1 σ μ
 |.ret e,σ,μ=>(evE φ e σ μ).bind λd μ=>.ok (.rt d) μ
 |.raise c es,σ,μ=>(fj φ es σ μ).bind λ_ μ=>.ok (.rt (.tup [.bl false,.str c])) μ
 |.pl s,σ,μ=>(evS s σ μ).bind kPl
 |.callx f es,σ,μ=>(fj φ es σ μ).bind λds μ=>(Qs μ.length (φ f ds μ)).bind (kTh σ)
 |.mapx i cap nl tg it f es,σ,μ=>(evI φ it σ μ).bind λds μ =>
   (Xd ds.2 (λd μ=>ji (gp tg d (cap.map (λi=>(σ[i]?).getD none)++List.replicate nl none)) λσ'=>(fj φ es σ' μ).bind λas μ=>Vd μ.length (φ f as μ)) ds.1 μ).bind (kMx σ i [])
 |.tryi i j e,σ,μ=>(evE φ e σ μ).bind (kTi σ i j)
 |.tryc f es ei h,σ,μ=>(fj φ es σ μ).bind λds μ=>(Qs μ.length (φ f ds μ)).bind (Y2 σ ei λσ μ=>k6 h σ μ)
 |.seta o f e,σ,μ=>(evE φ e σ μ).bind λd μ=>(evE φ o σ μ).bind λx μ=>(Nf f x d μ).bind λ_ μ=>.ok (.nx σ) μ
 |.whl c b,σ,μ=>whR (λσ μ=>(evE φ c σ μ).bind λd μ=>T3 d μ) (λσ μ=>k6 b σ μ) σ μ
 |.pass,σ,μ=>.ok (.nx σ) μ
 |.brk,σ,μ=>.ok (.bk σ) μ
 |.cont,σ,μ=>.ok (.ct σ) μ
 |.never,_,_=>.stuck
noncomputable def k6:Sms->Sl->Sto->Res Fl
 |.nil,σ,μ=>.ok (.nx σ) μ
 |.cons s r,σ,μ=>(evS s σ μ).bind λfl μ=>match fl with
  |.nx σ'=>k6 r σ' μ
  |fl=>.ok fl μ
end
end
structure Df where
 np:Nat
 nn:Nat
 body:Sms
noncomputable def O4(φ:Phi)(f:Df)(ds:List D)(μ:Sto):Res D :=
 if ds.length=f.np then(k6 φ f.body (ds.map some++List.replicate (f.nn-f.np) none) μ).bind λfl μ=>match fl with
  |.nx _=>.ok .non μ
  |.rt d=>.ok d μ
  |_=>.stuck
 else .stuck
noncomputable def aq(T:List Df):Nat->Phi
 |0=>λ_ _ _=>.stuck
 |n+1=>λf ds μ=>match T[f]? with
  |some d=>O4 (aq T n) d ds μ
  |none=>.stuck
open PySem PySem.Spec PyProof.Rows L2
noncomputable abbrev St:=L2.St
theorem _root_.L2.FzL.sq{K:PySem.W.Frag}{H:Hp}{a:Addr}{xs:List V}(h:FzL K H a xs):SqL K H a xs:=by
 rcases h with⟨o,h⟩ | ⟨its,n,h,hz,hv⟩
 ·exact .inl (.inr ⟨o,h⟩)
 ·exact .inr ⟨_,its.toArray,n,h,rfl,rfl,rfl,by rw[AE,<-hv.length];exact hz,by simpa using hv⟩
noncomputable def LsL(K:PySem.W.Frag)(H:Hp)(a:Addr)(xs:List V):Prop:=H a=some (.lst xs)\/FzL K H a xs
theorem LsL.sq{K:PySem.W.Frag}{H:Hp}{a:Addr}{xs:List V}(h:LsL K H a xs):SqL K H a xs:=by
 rcases h with h | h
 ·exact .of h
 ·exact h.sq
theorem _root_.L2.Inv.ls{X:Cx}{pins:List (Addr×Obj)}{σ:St}{H:Hp}{s:Shared}{a:Addr}{xs:List V}(I:Inv X pins σ H s)(h:LsL X.K H a xs) :
  xs.length<=sizeLine/\∃(its:List Value) (n:Nat),bo xs its/\xs.length=its.length/\s.heap.get? a=some {cls:=.type "list",data:=.seq its.toArray n}:=by
 rcases h with h | ⟨o,h⟩ | ⟨its,n,h,hz,hv⟩
 ·obtain⟨z,its,n,hv,e⟩:=I.hok a _ h
  exact⟨z,its,n,hv,hv.length,e⟩
 ·obtain⟨_,z,its,n,hv,e⟩:=I.hok a _ h
  exact⟨z,its,n,hv,hv.length,e⟩
 ·exact⟨hz,its,n,hv,hv.length,I.kIn a _ h⟩
structure Ext (H H':Hp):Prop where
 tups:∀b xs,H b=some (.tup xs)->H' b=some (.tup xs)
 frzs:∀b o u,H b=some (.frz o u)->H' b=some (.frz o u)
theorem Ext.refl(H:Hp):Ext H H:=⟨λ_ _ h=>h,λ_ _ _ h=>h⟩
theorem Ext.trans{H H1 H2:Hp}(a:Ext H H1)(b:Ext H1 H2):Ext H H2:=⟨λc xs h=>b.tups c xs (a.tups c xs h),λc o u h=>b.frzs c o u (a.frzs c o u h)⟩
theorem Ext.new{H:Hp}{p:Addr}{o:HO}(h:H p=none):Ext H (upd H p o) :=
 ⟨λb xs e=>by rw[ao (bh e h)];exact e,λb o u e=>by rw[ao (bh e h)];exact e⟩
theorem Ext.lst{H:Hp}{p:Addr}{xs:List V}{o:HO}(h:H p=some (.lst xs)):Ext H (upd H p o) :=
 ⟨λb ys e=>by rw[ao (j6 e h (by intro z;cases z))];exact e,λb o u e=>by rw[ao (j6 e h (by intro z;cases z))];exact e⟩
theorem Ext.dK{H:Hp}{p:Addr}{xs:List (Key×V)}{o:HO}(h:H p=some (.dK xs)):Ext H (upd H p o) :=
 ⟨λb ys e=>by rw[ao (j6 e h (by intro z;cases z))];exact e,λb o u e=>by rw[ao (j6 e h (by intro z;cases z))];exact e⟩
theorem _root_.L2.SqT.ext{K:PySem.W.Frag}{H H':Hp}{a:Addr}{xs:List V}(h:SqT K H a xs)(e:Ext H H'):SqT K H' a xs:=by
 rcases h with(h | ⟨o,h⟩) | h
 ·exact .inl (.inl (e.tups _ _ h))
 ·exact .inl (.inr ⟨o,e.frzs _ _ _ h⟩)
 ·exact .inr h
theorem _root_.L2.FzL.ext{K:PySem.W.Frag}{H H':Hp}{a:Addr}{xs:List V}(h:FzL K H a xs)(e:Ext H H'):FzL K H' a xs:=by
 rcases h with⟨o,h⟩ | h
 ·exact .inl ⟨o,e.frzs _ _ _ h⟩
 ·exact .inr h
section
variable(K:PySem.W.Frag)(ι:List Addr)(H:Hp)
mutual
noncomputable def IsD:D->V->Prop
 |.non,v=>v=.non
 |.bl b,v=>v=.bl b
 |.int i,v=>v=.int i
 |.str x,v=>v=.str x
 |.tup ds,v=>∃a xs,v=.ref a/\SqT K H a xs/\ah ds xs
 |.lst ds,v=>∃a xs,v=.ref a/\FzL K H a xs/\ah ds xs
 |.loc n,v=>∃a,v=.ref a/\ι[n]? = some a
noncomputable def ah:List D->List V->Prop
 | [],xs=>xs=[]
 |d::ds,xs=>∃v r,xs=v::r/\IsD d v/\ah ds r
end
end
section
variable{K:PySem.W.Frag}{ι ι' : List Addr}{H H' : Hp}
mutual
theorem IsD.mono(hp:ι <+: ι')(he:Ext H H'):∀(d:D) (v:V),IsD K ι H d v->IsD K ι' H' d v
 |.non,_,h=>by simpa[IsD]using h
 |.bl b,_,h=>by simpa[IsD]using h
 |.int i,_,h=>by simpa[IsD]using h
 |.str x,_,h=>by simpa[IsD]using h
 |.tup ds,v,h=>by
  simp![IsD]at h ⊢
  obtain⟨a,xs,e,q,r⟩:=h
  exact⟨a,xs,e,q.ext he,ah.mono hp he ds xs r⟩
 |.lst ds,v,h=>by
  simp![IsD]at h ⊢
  obtain⟨a,xs,e,q,r⟩:=h
  exact⟨a,xs,e,q.ext he,ah.mono hp he ds xs r⟩
 |.loc n,v,h=>by
  simp![IsD]at h ⊢
  obtain⟨a,e,q⟩:=h
  obtain⟨t,rfl⟩:=hp
  exact⟨a,e,by rw[AV (AL.mp q).1];exact q⟩
theorem ah.mono(hp:ι <+: ι')(he:Ext H H'):∀(ds:List D) (xs:List V),ah K ι H ds xs->ah K ι' H' ds xs
 | [],xs,h=>by simpa[ah]using h
 |d::ds,xs,h=>by
  simp![ah]at h ⊢
  obtain⟨v,r,e,q,t⟩:=h
  exact⟨v,r,e,IsD.mono hp he d v q,ah.mono hp he ds r t⟩
end
theorem ah.length:∀{ds:List D} {xs:List V},ah K ι H ds xs->xs.length=ds.length
 | [],xs,h=>by simp![ah]at h;subst h;rfl
 |d::ds,xs,h=>by
  simp![ah]at h
  obtain⟨v,r,rfl,_,t⟩:=h
  simp[ah.length t]
theorem ah.get:∀{ds:List D} {xs:List V} {i:Nat} {d:D},ah K ι H ds xs->ds[i]? = some d->∃v,xs[i]? = some v/\IsD K ι H d v
 | [],_,_,_,_,e=>by simp at e
 |d::ds,xs,0,_,h,e=>by
  simp![ah]at h
  obtain⟨v,r,rfl,q,_⟩:=h
  simp at e;subst e
  exact⟨v,rfl,q⟩
 |d::ds,xs,i+1,x,h,e=>by
  simp![ah]at h
  obtain⟨v,r,rfl,_,t⟩:=h
  obtain⟨w,h1,h2⟩:=ah.get (i:=i) (d:=x) t (by simpa using e)
  exact⟨w,by simpa using h1,h2⟩
theorem ah.append:∀{ds es:List D} {xs ys:List V},ah K ι H ds xs->ah K ι H es ys->ah K ι H (ds++es) (xs++ys)
 | [],_,_,_,h,g=>by simp![ah]at h;subst h;exact g
 |d::ds,es,xs,ys,h,g=>by
  simp![ah]at h
  obtain⟨v,r,rfl,q,t⟩:=h
  simp![GQ,ah]
  exact⟨v,r++ys,rfl,q,ah.append t g⟩
theorem ah.one{d:D}{v:V}(h:IsD K ι H d v):ah K ι H [d] [v]:=by
 simp![ah];exact⟨v,[],rfl,h,rfl⟩
theorem ah.take:∀{ds:List D} {xs:List V} (n:Nat),ah K ι H ds xs->ah K ι H (ds.take n) (xs.take n)
 |_,_,0,_=>by simp[ah]
 | [],_,n+1,h=>by simp![ah]at h;subst h;simp[ah]
 |d::ds,xs,n+1,h=>by
  simp![ah]at h
  obtain⟨v,r,rfl,q,t⟩:=h
  simp![List.take_succ_cons,ah]
  exact⟨v,_,rfl,q,ah.take n t⟩
theorem ah.drop:∀{ds:List D} {xs:List V} (n:Nat),ah K ι H ds xs->ah K ι H (ds.drop n) (xs.drop n)
 |_,_,0,h=>by simpa using h
 | [],_,n+1,h=>by simp![ah]at h;subst h;simp[ah]
 |d::ds,xs,n+1,h=>by
  simp![ah]at h
  obtain⟨v,r,rfl,q,t⟩:=h
  simpa using ah.drop n t
theorem ah.set{d:D}{v:V}(hd:IsD K ι H d v):∀{ds:List D} {xs:List V} (n:Nat),ah K ι H ds xs->ah K ι H (ds.set n d) (xs.set n v)
 | [],_,n,h=>by simp![ah]at h;subst h;simp[ah]
 |e::ds,xs,0,h=>by
  simp![ah]at h
  obtain⟨w,r,rfl,q,t⟩:=h
  simp![HQ,ah]
  exact⟨v,r,rfl,hd,t⟩
 |e::ds,xs,n+1,h=>by
  simp![ah]at h
  obtain⟨w,r,rfl,q,t⟩:=h
  simp![FT,ah]
  exact⟨w,_,rfl,q,ah.set hd n t⟩
theorem ah.eraseIdx:∀{ds:List D} {xs:List V} (n:Nat),ah K ι H ds xs->ah K ι H (ds.eraseIdx n) (xs.eraseIdx n)
 | [],_,n,h=>by simp![ah]at h;subst h;simp[ah]
 |e::ds,xs,0,h=>by
  simp![ah]at h
  obtain⟨w,r,rfl,q,t⟩:=h
  simpa using t
 |e::ds,xs,n+1,h=>by
  simp![ah]at h
  obtain⟨w,r,rfl,q,t⟩:=h
  simp![FX,ah]
  exact⟨w,_,rfl,q,ah.eraseIdx n t⟩
theorem ah.dropLast{ds:List D}{xs:List V}(h:ah K ι H ds xs):ah K ι H ds.dropLast xs.dropLast:=by
 rw[JL,JL,h.length]
 exact h.take _
theorem ah.rep{ds:List D}{xs:List V}(h:ah K ι H ds xs):∀k:Nat,ah K ι H (List.replicate k ds).flatten (List.replicate k xs).flatten
 |0=>by simp[ah]
 |k+1=>by
  simp![DP,EW]
  exact h.append (ah.rep h k)
theorem ah.ints:∀(ns:List Int),ah K ι H (ns.map D.int) (ns.map V.int)
 | []=>by simp[ah]
 |n::r=>by
  simp![AO,ah]
  exact⟨_,_,rfl,by simp[IsD],ah.ints r⟩
theorem IsD.puren:∀(k:Nat) (d:D) (v:V),D.pureN k d=true->IsD K ι H d v->IsD K ι' H d v:=by
 have list:∀(k:Nat),(∀(d:D) (v:V),D.pureN k d=true->IsD K ι H d v->IsD K ι' H d v) ->
   ∀(ds:List D) (xs:List V),ds.all (D.pureN k)=true->ah K ι H ds xs->ah K ι' H ds xs:=by
  intro k ih ds
  induction ds with
  |nil=>intro xs _ h;simpa[ah]using h
  |cons d ds ihd =>
   intro xs hp h
   simp![ah]at h ⊢
   simp![BX,AX]at hp
   obtain⟨v,r,e,q,t⟩:=h
   exact⟨v,r,e,ih d v hp.1 q,ihd r hp.2 t⟩
 intro k
 induction k with
 |zero =>
  intro d v hp h
  cases d<;>simp_all[D.pureN,IsD]
 |succ k ih =>
  intro d v hp h
  cases d with
  |tup ds =>
   simp![D.pureN]at hp
   simp![IsD]at h ⊢
   obtain⟨a,xs,e,q,r⟩:=h
   exact⟨a,xs,e,q,list k ih ds xs hp r⟩
  |lst ds =>
   simp![D.pureN]at hp
   simp![IsD]at h ⊢
   obtain⟨a,xs,e,q,r⟩:=h
   exact⟨a,xs,e,q,list k ih ds xs hp r⟩
  |loc n=>simp[D.pureN]at hp
  |_=>simpa[IsD]using h
theorem IsD.pur{d:D}{v:V}(hp:d.pure=true)(h:IsD K ι H d v):IsD K ι' H d v:=IsD.puren 8 d v hp h
theorem ah.pur{ds:List D}{xs:List V}(hp:ds.all (D.pureN 8)=true)(h:ah K ι H ds xs):ah K ι' H ds xs:=by
 induction ds generalizing xs with
 |nil=>simpa[ah]using h
 |cons d ds ih =>
  simp![ah]at h ⊢
  simp![BX,AX]at hp
  obtain⟨v,r,e,q,t⟩:=h
  exact⟨v,r,e,IsD.pur hp.1 q,ih hp.2 t⟩
end
section
variable(K:PySem.W.Frag)(ι:List Addr)(H:Hp)
noncomputable def Y3(kvs:List (D×D))(xs:List (List Key×V)):Prop :=
 Paired (fun(p:D×D) (q:List Key×V)=>(∃ds,p.1=.tup ds/\ah K [] H ds (q.1.map kV))/\IsD K [] H p.2 q.2) kvs xs
noncomputable def yd(kvs:List (D×D))(xs:List (Key×V)):Prop :=
 Paired (fun(p:D×D) (q:Key×V)=>IsD K [] H p.1 (kV q.1)/\IsD K ι H p.2 q.2) kvs xs
noncomputable abbrev Ve(kvs:List (D×D))(xs:List (Key×V)):Prop:=yd K [] H kvs xs
noncomputable def FsD(fs:List (Str×D))(xs:List (Str×V)):Prop:=Paired (fun(p:Str×D) (q:Str×V)=>p.1=q.1/\IsD K ι H p.2 q.2) fs xs
noncomputable def OIs(a:Addr):O->Prop
 |.l ds=>∃xs,H a=some (.lst xs)/\ah K [] H ds xs
 |.r ds=>∃xs,H a=some (.lst xs)/\ah K ι H ds xs
 |.d kvs=>∃xs,H a=some (.dK xs)/\Ve K H kvs xs
 |.dt kvs=>∃xs,H a=some (.dT xs)/\Y3 K H kvs xs
 |.x c=>∃cls,PySem.W.nsIn K mainGlobals c=some (some cls)/\H a=some (Ys a cls)
 |.o c fs=>∃C dx xs,PySem.W.nsIn K mainGlobals c=some (some (.ref C))/\H a=some (.ins C dx xs)/\FsD K ι H fs xs
 |.dr kvs=>∃xs,H a=some (.dK xs)/\yd K ι H kvs xs
 |.fd kvs=>∃o xs,H a=some (.frz o (.dK xs))/\Ve K H kvs xs
 |.dead=>∃u,H a=some u
structure Sim (μ:Sto):Prop where
 len:ι.length=μ.length
 nd:ι.Nodup
 obj:∀(n:Nat) a o,ι[n]? = some a->μ[n]? = some o->OIs K ι H a o
noncomputable def l0(σ:Sl)(σv:St):Prop:=∀(i:Nat) d,σ[i]? = some (some d)->∃v,σv[i]? = some (some v)/\IsD K ι H d v
end
section
variable{K:PySem.W.Frag}{ι ι' : List Addr}{H H' : Hp}{μ:Sto}{σ:Sl}{σv:St}
theorem l0.mono(h:l0 K ι H σ σv)(hp:ι <+: ι')(he:Ext H H'):l0 K ι' H' σ σv:=λi d e=>by
 obtain⟨v,q,r⟩:=h i d e
 exact⟨v,q,IsD.mono hp he d v r⟩
theorem l0.set(h:l0 K ι H σ σv)(hl:σ.length=σv.length){i:Nat}{d:D}{v:V}(hd:IsD K ι H d v):l0 K ι H (σ.set i (some d)) (σv.set i (some v)):=λj e q=>by
 by_cases hj:i=j
 ·subst hj
  by_cases hi:i<σ.length
  ·rw[DR hi]at q
   cases q
   exact⟨v,by rw[DR (by lia)],hd⟩
  ·rw[DX (by simp;lia)]at q;cases q
 ·rw[Da hj]at q
  obtain⟨w,q1,q2⟩:=h j e q
  exact⟨w,by rw[Da hj];exact q1,q2⟩
theorem OIs.ne(h:OIs K ι H a o):∃u,H a=some u:=by
 cases o with
 |l ds=>obtain⟨xs,e,_⟩:=h;exact⟨_,e⟩
 |r ds=>obtain⟨xs,e,_⟩:=h;exact⟨_,e⟩
 |d kvs=>obtain⟨xs,e,_⟩:=h;exact⟨_,e⟩
 |dt kvs=>obtain⟨xs,e,_⟩:=h;exact⟨_,e⟩
 |x c=>obtain⟨_,_,e⟩:=h;exact⟨_,e⟩
 |o c fs=>obtain⟨_,_,_,_,e,_⟩:=h;exact⟨_,e⟩
 |dr kvs=>obtain⟨xs,e,_⟩:=h;exact⟨_,e⟩
 |fd kvs=>obtain⟨_,xs,e,_⟩:=h;exact⟨_,e⟩
 |dead=>exact h
theorem OIs.mono{a:Addr}{o:O}(h:OIs K ι H a o)(hp:ι <+: ι')(he:Ext H H')(ha:H' a=H a):OIs K ι' H' a o:=by
 cases o with
 |l ds=>obtain⟨xs,e,q⟩:=h;exact⟨xs,ha.trans e,ah.mono (AK _) he ds xs q⟩
 |r ds=>obtain⟨xs,e,q⟩:=h;exact⟨xs,ha.trans e,ah.mono hp he ds xs q⟩
 |d kvs =>
  obtain⟨xs,e,q⟩:=h
  exact⟨xs,ha.trans e,Paired.mapP q λp r z=>⟨IsD.mono (AK _) he _ _ z.1,IsD.mono (AK _) he _ _ z.2⟩⟩
 |dt kvs =>
  obtain⟨xs,e,q⟩:=h
  exact⟨xs,ha.trans e,Paired.mapP q λp r z=>⟨let ⟨ds,e,t⟩:=z.1;⟨ds,e,ah.mono (AK _) he _ _ t⟩,IsD.mono (AK _) he _ _ z.2⟩⟩
 |x c=>obtain⟨k,q,e⟩:=h;exact⟨k,q,ha.trans e⟩
 |o c fs=>obtain⟨C,dx,xs,n,e,q⟩:=h;exact⟨C,dx,xs,n,ha.trans e,Paired.mapP q λp r z=>⟨z.1,IsD.mono hp he _ _ z.2⟩⟩
 |dr kvs =>
  obtain⟨xs,e,q⟩:=h
  exact⟨xs,ha.trans e,Paired.mapP q λp r z=>⟨IsD.mono (AK _) he _ _ z.1,IsD.mono hp he _ _ z.2⟩⟩
 |fd kvs =>
  obtain⟨o,xs,e,q⟩:=h
  exact⟨o,xs,ha.trans e,Paired.mapP q λp r z=>⟨IsD.mono (AK _) he _ _ z.1,IsD.mono (AK _) he _ _ z.2⟩⟩
 |dead=>obtain⟨u,e⟩:=h;exact⟨u,ha.trans e⟩
theorem Sim.at(h:Sim K ι H μ){n:Nat}{o:O}(e:μ[n]? = some o):∃a,ι[n]? = some a/\OIs K ι H a o:=by
 have hn:n<ι.length:=by rw[h.len];exact(AL.mp e).1
 exact⟨ι[n],AD hn,h.obj n _ o (AD hn) e⟩
theorem Sim.used(h:Sim K ι H μ){n:Nat}{a:Addr}(e:ι[n]? = some a):∃u,H a=some u:=by
 have hn:n<μ.length:=by rw[<-h.len];exact(AL.mp e).1
 exact(h.obj n a _ e (AD hn)).ne
theorem Sim.new(h:Sim K ι H μ){p:Addr}{o:HO}(hp:H p=none):Sim K ι (upd H p o) μ :=
 ⟨h.len,h.nd,λn a ob e1 e2=>by
  obtain⟨u,hu⟩:=h.used e1
  exact(h.obj n a ob e1 e2).mono (AK _) (.new hp) (ao (bh hu hp))⟩
theorem Sim.push(h:Sim K ι H μ){p:Addr}{u:HO}{o:O}(hp:H p=none)(ho:OIs K (ι++[p]) (upd H p u) p o):Sim K (ι++[p]) (upd H p u) (μ++[o]):=by
 have hne:∀a∈ι,a≠p:=λa ha z=>by
  obtain⟨n,hn,e⟩:=Db.mp ha
  obtain⟨u,hu⟩:=h.used (n:=n) (by rw[AD hn,e])
  rw[z,hp]at hu;cases hu
 refine⟨by simp[h.len],?_,λn a ob e1 e2=>?_⟩
 ·refine List.nodup_append.mpr ⟨h.nd,by simp,?_⟩
  intro a ha b hb
  have:b=p:=by simpa using hb
  subst this
  exact hne a ha
 ·by_cases hn:n<ι.length
  ·rw[AV hn]at e1
   rw[AV (by rw[<-h.len];exact hn)]at e2
   exact(h.obj n a ob e1 e2).mono ⟨[p],rfl⟩ (.new hp) (ao (hne a (CL e1)))
  ·have hm:n=ι.length:=by
    have:=(AL.mp e1).1
    simp at this;lia
   subst hm
   simp at e1
   rw[h.len]at e2
   simp at e2
   subst e1;subst e2
   exact ho
theorem Sim.put(h:Sim K ι H μ){n:Nat}{p:Addr}{u:HO}{o:O}(hn:ι[n]? = some p)(he:Ext H (upd H p u))(ho:OIs K ι (upd H p u) p o):Sim K ι (upd H p u) (μ.set n o):=by
 refine⟨by simp[h.len],h.nd,λk a ob e1 e2=>?_⟩
 by_cases hk:n=k
 ·subst hk
  rw[hn]at e1;cases e1
  have:n<μ.length:=by rw[<-h.len];exact(AL.mp hn).1
  rw[DR this]at e2;cases e2
  exact ho
 ·rw[Da hk]at e2
  refine(h.obj k a ob e1 e2).mono (AK _) he (ao λz=>hk ?_)
  subst z
  obtain⟨h1,e1'⟩:=AL.mp e1
  obtain⟨h2,e2'⟩:=AL.mp hn
  exact(List.getElem_inj h.nd).mp (e2'.trans e1'.symm)
end
noncomputable def ft{α β:Type}(K:PySem.W.Frag)(R:List Addr->Hp->α->β->Prop)(ι:List Addr)(H:Hp)(r:Res α)(Q:β->Hp->Prop):Prop:=match r with
 |.ok d μ'=>∀ι' v H',ι <+: ι'->Ext H H'->Sim K ι' H' μ'->R ι' H' d v->Q v H'
 |.exc _ _ _=>False
 |.stuck=>False
noncomputable abbrev RD(K:PySem.W.Frag):List Addr->Hp->D->V->Prop:=λι H d v=>IsD K ι H d v
noncomputable abbrev RDs(K:PySem.W.Frag):List Addr->Hp->List D->List V->Prop:=λι H d v=>ah K ι H d v
noncomputable abbrev RB:List Addr->Hp->Bool->Bool->Prop:=λ_ _ d v=>d=v
noncomputable abbrev RO:List Addr->Hp->Option Int->Option Int->Prop:=λ_ _ d v=>d=v
section
variable{α β γ δ:Type}{K:PySem.W.Frag}{R:List Addr -> Hp -> α -> β -> Prop}{S:List Addr -> Hp -> γ -> δ -> Prop}{ι ι' : List Addr}{H H' : Hp}
theorem ft.mono{r:Res α}{Q:β->Hp->Prop}(h:ft K R ι H r Q)(hp:ι <+: ι')(he:Ext H H'):ft K R ι' H' r Q:=by
 cases r with
 |ok d μ=>exact λι2 v H2 p e s q=>h ι2 v H2 (hp.trans p) (he.trans e) s q
 |exc _ _ _=>exact h
 |stuck=>exact h
theorem ft.imp{r:Res α}{Q Q':β->Hp->Prop}(h:ft K R ι H r Q)(hq:∀v H',Q v H'->Q' v H'):ft K R ι H r Q':=by
 cases r with
 |ok d μ=>exact λι2 v H2 p e s q=>hq _ _ (h ι2 v H2 p e s q)
 |exc _ _ _=>exact h
 |stuck=>exact h
theorem ft.ok{d:α}{μ:Sto}{v:β}{Q:β->Hp->Prop}(h:ft K R ι H (.ok d μ) Q)(hs:Sim K ι H μ)(hr:R ι H d v):Q v H:=h ι v H (AK _) (.refl _) hs hr
theorem ft.bind{x:Res α}{f:α->Sto->Res γ}{Q:δ->Hp->Prop}(h:ft K S ι H (x.bind f) Q) :
  ∃d μ1,x=.ok d μ1/\ft K S ι H (f d μ1) Q:=by
 cases x with
 |ok d μ=>exact⟨d,μ,rfl,h⟩
 |exc _ _ _=>exact h.elim
 |stuck=>exact h.elim
end
noncomputable def tE(K:PySem.W.Frag)(φ:Phi)(x:Ex):TE:=λσv H Q=>∃ι σ μ,Sim K ι H μ/\l0 K ι H σ σv/\ft K (RD K) ι H (evE φ x σ μ) Q
noncomputable def tEs(K:PySem.W.Frag)(φ:Phi)(x:Exs):TA:=λσv H Q=>∃ι σ μ,Sim K ι H μ/\l0 K ι H σ σv/\ft K (RDs K) ι H (fj φ x σ μ) Q
noncomputable def tEo(K:PySem.W.Frag)(φ:Phi)(x:ExO):TO:=λσv H Q=>∃ι σ μ,Sim K ι H μ/\l0 K ι H σ σv/\ft K RO ι H (evO φ x σ μ) Q
noncomputable def tT(K:PySem.W.Frag)(φ:Phi)(x:Ex):TT:=λσv H Q=>∃ι σ μ,Sim K ι H μ/\l0 K ι H σ σv/\ft K RB ι H ((evE φ x σ μ).bind λd μ=>T3 d μ) Q
theorem PE.imp{X:Cx}{e:Expr}{t t':TE}(h:PE X e t)(i:∀σ H Q,t' σ H Q->t σ H Q):PE X e t':=λpins s σ H Q I q=>h pins s σ H Q I (i σ H Q q)
theorem PA.imp{X:Cx}{e:List Expr}{t t':TA}(h:PA X e t)(i:∀σ H Q,t' σ H Q->t σ H Q):PA X e t':=λpos pins s σ H Q I q=>h pos pins s σ H Q I (i σ H Q q)
theorem PT.imp{X:Cx}{e:Expr}{t t':TT}(h:PT X e t)(i:∀σ H Q,t' σ H Q->t σ H Q):PT X e t':=λpins s σ H Q I q=>h pins s σ H Q I (i σ H Q q)
theorem PW.imp{X:Cx}{e:Expr}{t t':TT}(h:PW X e t)(i:∀σ H Q,t' σ H Q->t σ H Q):PW X e t':=λwh pins s σ H Q I q=>h wh pins s σ H Q I (i σ H Q q)
section
variable{X:Cx}{φ:Phi}{a b c:Expr}{xa xb xc:Ex}{pos:Pos}
theorem Vf{i:Nat}{x:Str}(hN:X.N[i]? = some x)(hv:Vis X.env.scope x)(hd:(x==("__debug__":Str))=false)(hcd:(x==("__classdict__":Str))=false):PE X (.Name x pos) (tE X.K φ (.var i)) :=
 PE.imp (qe hN hv hd hcd) λσv H Q ⟨ι,σ,μ,hS,hL,h⟩=>by
  simp![evE]at h
  split at h
  ·rename_i d e
   obtain⟨v,e1,e2⟩:=hL i d e
   exact⟨v,e1,h.ok hS e2⟩
  ·exact h.elim
theorem Vg{i:Int}{j:Nat}:PE X (.Constant (.int i) j pos) (tE X.K φ (.cst (.int i))) :=
 PE.imp J6 λσv H Q ⟨ι,σ,μ,hS,hL,h⟩=>by simp![evE]at h;exact h.ok hS (by simp[IsD])
theorem Y4{i:Bool}{j:Nat}:PE X (.Constant (.bool i) j pos) (tE X.K φ (.cst (.bl i))) :=
 PE.imp Uc λσv H Q ⟨ι,σ,μ,hS,hL,h⟩=>by simp![evE]at h;exact h.ok hS (by simp[IsD])
theorem two {σv:St} {H:Hp} {ι:List Addr} {σ:Sl} {μ:Sto} {f:D->D->Sto->Res D} {Q:VK} {R:V->V->Hp->Prop} (hS:Sim X.K ι H μ) (hL:l0 X.K ι H σ σv)
  (h:ft X.K (RD X.K) ι H ((evE φ xa σ μ).bind λx μ=>(evE φ xb σ μ).bind λy μ=>f x y μ) Q)
  (k:∀ι' H' d e x y μ',Sim X.K ι' H' μ'->IsD X.K ι' H' d x->IsD X.K ι' H' e y->ft X.K (RD X.K) ι' H' (f d e μ') Q->R x y H') :
  tE X.K φ xa σv H λx H1=>tE X.K φ xb σv H1 λy H2=>R x y H2:=by
 obtain⟨d,μ1,e1,h⟩:=h.bind
 refine⟨ι,σ,μ,hS,hL,?_⟩
 rw[e1]
 intro ι1 x H1 p1 x1 s1 d1
 obtain⟨e,μ2,e2,h⟩:=h.bind
 refine⟨ι1,σ,μ1,s1,hL.mono p1 x1,?_⟩
 rw[e2]
 intro ι2 y H2 p2 x2 s2 d2
 exact k ι2 H2 d e x y μ2 s2 (IsD.mono p2 x2 d x d1) d2 (h.mono (p1.trans p2) (x1.trans x2))
noncomputable def rOp(K:PySem.W.Frag)(f:D->D->Sto->Res D):R2:=λx y H Q=>∃ι d e μ,Sim K ι H μ/\IsD K ι H d x/\IsD K ι H e y/\ft K (RD K) ι H (f d e μ) Q
theorem Vh{op:Operator}{m:Mk}(ho:OpR X (binaryOp op) (rOp X.K (opD op m)))(ha:PE X a (tE X.K φ xa))(hb:PE X b (tE X.K φ xb)):PE X (.BinOp a op b pos) (tE X.K φ (.bin op m xa xb)) :=
 PE.imp (Um ho ha hb) λσv H Q ⟨ι,σ,μ,hS,hL,h⟩=>by
  simp![evE]at h
  exact two hS hL h λι' H' d e x y μ' s d1 d2 p=>⟨ι',d,e,μ',s,d1,d2,p⟩
theorem Y5(ho:IxR X (rOp X.K ixD))(ha:PE X a (tE X.K φ xa))(hb:PE X b (tE X.K φ xb))(hs:xu b):PE X (.Subscript a b pos) (tE X.K φ (.ix xa xb)) :=
 PE.imp (Uz ho ha hb hs) λσv H Q ⟨ι,σ,μ,hS,hL,h⟩=>by
  simp![evE]at h
  exact two hS hL h λι' H' d e x y μ' s d1 d2 p=>⟨ι',d,e,μ',s,d1,d2,p⟩
theorem Nh:PA X [] (tEs X.K φ .nil) :=
 PA.imp Kb λσv H Q ⟨ι,σ,μ,hS,hL,h⟩=>by simp![fj]at h;exact h.ok hS (by simp[ah])
theorem zx{es:List Expr}{xs:Exs}(ha:PE X a (tE X.K φ xa))(hb:PA X es (tEs X.K φ xs))(hs:starEach (a::es) X.env=(false,eval a X.env)::starEach es X.env):PA X (a::es) (tEs X.K φ (.cons xa xs)) :=
 PA.imp (xp ha hb hs) λσv H Q ⟨ι,σ,μ,hS,hL,h⟩=>by
  simp![fj]at h
  obtain⟨d,μ1,e1,h⟩:=h.bind
  refine⟨ι,σ,μ,hS,hL,?_⟩
  rw[e1]
  intro ι1 x H1 p1 x1 s1 d1
  obtain⟨e,μ2,e2,h⟩:=h.bind
  refine⟨ι1,σ,μ1,s1,hL.mono p1 x1,?_⟩
  rw[e2]
  intro ι2 y H2 p2 x2 s2 d2
  refine h ι2 (x::y) H2 (p1.trans p2) (x1.trans x2) s2 ?_
  show ah _ _ _ _ _
  simp![ah]
  exact⟨x,y,rfl,IsD.mono p2 x2 d x d1,d2⟩
theorem Vi{es:List Expr}{xs:Exs}{k:Nat}(h:PA X es (tEs X.K φ xs))(hl:∀σ μ ds μ',fj φ xs σ μ=.ok ds μ'->ds.length<=sizeLine):PE X (.Tuple es k pos) (tE X.K φ (.tup xs)) :=
 PE.imp (Pu h) λσv H Q ⟨ι,σ,μ,hS,hL,h⟩=>by
  simp![evE]at h
  obtain⟨ds,μ1,e1,h⟩:=h.bind
  refine⟨ι,σ,μ,hS,hL,?_⟩
  rw[e1]
  intro ι1 vs H1 p1 x1 s1 d1
  have hd:ah X.K ι1 H1 ds vs:=d1
  refine⟨by rw[hd.length];exact hl σ μ ds μ1 e1,λp hp=>?_⟩
  refine h ι1 (.ref p) (upd H1 p (.tup vs)) p1 (x1.trans (.new hp)) (s1.new hp) ?_
  show IsD _ _ _ _ _
  simp![IsD]
  exact⟨p,vs,rfl,.of ax,ah.mono (AK _) (.new hp) ds vs d1⟩
theorem Vj{x:Ex}{σv:St}{H:Hp}{Q:Bool->Hp->Prop}(h:tT X.K φ x σv H Q):tE X.K φ x σv H λv H'=>∃k,v=.bl k/\Q k H':=by
 obtain⟨ι,σ,μ,hS,hL,h⟩:=h
 obtain⟨d,μ1,e1,h⟩:=h.bind
 refine⟨ι,σ,μ,hS,hL,?_⟩
 rw[e1]
 intro ι1 x H1 p1 x1 s1 d1
 cases d with
 |bl k=>exact⟨k,by simpa[IsD]using d1,h ι1 k H1 p1 x1 s1 rfl⟩
 |_=>exact h.elim
theorem Ni{x:Ex}(ha:PE X a (tE X.K φ x))(he:∀whole,isTrue a X.env whole=(do let v <-whole;standAt a.pos;holding [v] (truthy v))):PT X a (tT X.K φ x) :=
 PT.imp (Hm ha he) λσv H Q h=>by
  have q:=Vj h
  obtain⟨ι,σ,μ,hS,hL,q⟩:=q
  exact⟨ι,σ,μ,hS,hL,q.imp λv H' ⟨k,e,z⟩=>⟨k,by subst e;exact rfl,z⟩⟩
theorem Qt(ha:PT X a (tT X.K φ xa)):PT X (.UnaryOp .Not a pos) (tT X.K φ (.not xa)) :=
 PT.imp (Pf ha) λσv H Q ⟨ι,σ,μ,hS,hL,h⟩=>by
  simp![evE]at h
  rw[Res.bind_assoc]at h
  obtain⟨d,μ1,e1,h⟩:=h.bind
  refine⟨ι,σ,μ,hS,hL,?_⟩
  rw[e1]
  cases d with
  |bl k=>exact λι1 x H1 p1 x1 s1 d1=>h ι1 (!x) H1 p1 x1 s1 (by cases d1;rfl)
  |_=>exact h.elim
theorem Qu(ha:PE X a (tE X.K φ xa)):PE X (.UnaryOp .Not a pos) (tE X.K φ (.not xa)) :=
 PE.imp (Ph ha) λσv H Q ⟨ι,σ,μ,hS,hL,h⟩=>by
  simp![evE]at h
  obtain⟨d,μ1,e1,h⟩:=h.bind
  refine⟨ι,σ,μ,hS,hL,?_⟩
  rw[e1]
  intro ι1 x H1 p1 x1 s1 d1
  cases d with
  |bl k=>exact⟨k,by simpa[IsD]using d1,h ι1 (.bl !k) H1 p1 x1 s1 (by simp[IsD])⟩
  |_=>exact h.elim
theorem Vk(ha:PE X a (tE X.K φ xa)):PE X (.UnaryOp .USub a pos) (tE X.K φ (.neg xa)) :=
 PE.imp (Po J9 ha) λσv H Q ⟨ι,σ,μ,hS,hL,h⟩=>by
  simp![evE]at h
  obtain⟨d,μ1,e1,h⟩:=h.bind
  refine⟨ι,σ,μ,hS,hL,?_⟩
  rw[e1]
  intro ι1 x H1 p1 x1 s1 d1
  cases d with
  |int k=>exact⟨k,by simpa[IsD]using d1,h ι1 (.int (-k)) H1 p1 x1 s1 (by simp[IsD])⟩
  |_=>exact h.elim
theorem Qv{rest:List Expr}(ha:PE X a (tE X.K φ xa))(hb:PE X (.BoolOp .And (b::rest) pos) (tE X.K φ xb)):PE X (.BoolOp .And (a::b::rest) pos) (tE X.K φ (.and xa xb)) :=
 PE.imp (Pg ha hb) λσv H Q ⟨ι,σ,μ,hS,hL,h⟩=>by
  simp![evE]at h
  obtain⟨d,μ1,e1,h⟩:=h.bind
  refine⟨ι,σ,μ,hS,hL,?_⟩
  rw[e1]
  intro ι1 x H1 p1 x1 s1 d1
  cases d with
  |bl k =>
   refine⟨k,by simpa[IsD]using d1,?_⟩
   cases k with
   |true=>exact⟨ι1,σ,μ1,s1,hL.mono p1 x1,(show ft _ _ _ _ (evE φ xb σ μ1) _ from h).mono p1 x1⟩
   |false=>exact h ι1 (.bl false) H1 p1 x1 s1 (by simp[IsD])
  |_=>exact h.elim
theorem Vl{rest:List Expr}(ha:PE X a (tE X.K φ xa))(hb:PE X (.BoolOp .Or (b::rest) pos) (tE X.K φ xb)):PE X (.BoolOp .Or (a::b::rest) pos) (tE X.K φ (.or xa xb)) :=
 PE.imp (Uh ha hb) λσv H Q ⟨ι,σ,μ,hS,hL,h⟩=>by
  simp![evE]at h
  obtain⟨d,μ1,e1,h⟩:=h.bind
  refine⟨ι,σ,μ,hS,hL,?_⟩
  rw[e1]
  intro ι1 x H1 p1 x1 s1 d1
  cases d with
  |bl k =>
   refine⟨k,by simpa[IsD]using d1,?_⟩
   cases k with
   |true=>exact h ι1 (.bl true) H1 p1 x1 s1 (by simp[IsD])
   |false=>exact⟨ι1,σ,μ1,s1,hL.mono p1 x1,(show ft _ _ _ _ (evE φ xb σ μ1) _ from h).mono p1 x1⟩
  |_=>exact h.elim
theorem Qw{rest:List Expr}(ha:PT X a (tT X.K φ xa))(hb:PW X (.BoolOp .And (b::rest) pos) (tT X.K φ xb)):PW X (.BoolOp .And (a::b::rest) pos) (tT X.K φ (.and xa xb)) :=
 PW.imp (Pe ha hb) λσv H Q ⟨ι,σ,μ,hS,hL,h⟩=>by
  simp![evE]at h
  rw[Res.bind_assoc]at h
  obtain⟨d,μ1,e1,h⟩:=h.bind
  refine⟨ι,σ,μ,hS,hL,?_⟩
  rw[e1]
  cases d with
  |bl k =>
   intro ι1 x H1 p1 x1 s1 d1
   cases d1
   cases k with
   |true=>exact⟨ι1,σ,μ1,s1,hL.mono p1 x1,(show ft _ _ _ _ ((evE φ xb σ μ1).bind _) _ from h).mono p1 x1⟩
   |false=>exact h ι1 false H1 p1 x1 s1 rfl
  |_=>exact h.elim
theorem Vm{rest:List Expr}(ha:PT X a (tT X.K φ xa))(hb:PW X (.BoolOp .Or (b::rest) pos) (tT X.K φ xb)):PW X (.BoolOp .Or (a::b::rest) pos) (tT X.K φ (.or xa xb)) :=
 PW.imp (Ud ha hb) λσv H Q ⟨ι,σ,μ,hS,hL,h⟩=>by
  simp![evE]at h
  rw[Res.bind_assoc]at h
  obtain⟨d,μ1,e1,h⟩:=h.bind
  refine⟨ι,σ,μ,hS,hL,?_⟩
  rw[e1]
  cases d with
  |bl k =>
   intro ι1 x H1 p1 x1 s1 d1
   cases d1
   cases k with
   |true=>exact h ι1 true H1 p1 x1 s1 rfl
   |false=>exact⟨ι1,σ,μ1,s1,hL.mono p1 x1,(show ft _ _ _ _ ((evE φ xb σ μ1).bind _) _ from h).mono p1 x1⟩
  |_=>exact h.elim
end
noncomputable def jf(K:PySem.W.Frag)(ι:List Addr)(H:Hp)(r:Res Fl)(E:Ends):Prop:=match r with
 |.ok (.nx σ') μ'=>∀ι' σv H',ι <+: ι'->Ext H H'->Sim K ι' H' μ'->l0 K ι' H' σ' σv->σ'.length=σv.length->E.nx σv H'
 |.ok (.bk σ') μ'=>∀ι' σv H',ι <+: ι'->Ext H H'->Sim K ι' H' μ'->l0 K ι' H' σ' σv->σ'.length=σv.length->E.bk σv H'
 |.ok (.ct σ') μ'=>∀ι' σv H',ι <+: ι'->Ext H H'->Sim K ι' H' μ'->l0 K ι' H' σ' σv->σ'.length=σv.length->E.ct σv H'
 |.ok (.rt d) μ'=>∀ι' v H',ι <+: ι'->Ext H H'->Sim K ι' H' μ'->IsD K ι' H' d v->E.rt v H'
 |.exc _ _ _=>False
 |.stuck=>False
theorem jf.mono{K:PySem.W.Frag}{ι ι':List Addr}{H H':Hp}{r:Res Fl}{E:Ends}(h:jf K ι H r E)(hp:ι <+: ι')(he:Ext H H'):jf K ι' H' r E:=by
 cases r with
 |ok f μ=>cases f<;>exact λι2 v H2 p e=>h ι2 v H2 (hp.trans p) (he.trans e)
 |exc _ _ _=>exact h
 |stuck=>exact h
theorem jf.bind{α:Type}{K:PySem.W.Frag}{ι:List Addr}{H:Hp}{E:Ends}{x:Res α}{f:α->Sto->Res Fl}(h:jf K ι H (x.bind f) E):∃d μ1,x=.ok d μ1/\jf K ι H (f d μ1) E:=by
 cases x with
 |ok d μ=>exact⟨d,μ,rfl,h⟩
 |exc _ _ _=>exact h.elim
 |stuck=>exact h.elim
noncomputable def tS(K:PySem.W.Frag)(φ:Phi)(x:Sm):TS:=λE σv H=>∃ι σ μ,Sim K ι H μ/\l0 K ι H σ σv/\σ.length=σv.length/\jf K ι H (evS φ x σ μ) E
noncomputable def tSs(K:PySem.W.Frag)(φ:Phi)(x:Sms):TS:=λE σv H=>∃ι σ μ,Sim K ι H μ/\l0 K ι H σ σv/\σ.length=σv.length/\jf K ι H (k6 φ x σ μ) E
theorem PS.imp{X:Cx}{e:Stmt}{t t':TS}(h:PS X e t)(i:∀E σ H,t' E σ H->t E σ H):PS X e t':=λpins s σ H E I q=>h pins s σ H E I (i E σ H q)
theorem PSs.imp{X:Cx}{e:List Stmt}{t t':TS}(h:PSs X e t)(i:∀E σ H,t' E σ H->t E σ H):PSs X e t':=λpins s σ H E I q=>h pins s σ H E I (i E σ H q)
section
variable{X:Cx}{φ:Phi}{e:Expr}{x:Ex}{pos:Pos}{s:Stmt}{ss:List Stmt}{xs:Sm}{xss:Sms}
theorem Vn:PSs X [] (tSs X.K φ .nil) :=
 PSs.imp Mn λE σv H ⟨ι,σ,μ,hS,hL,hl,h⟩=>by
  simp![k6]at h
  exact h ι σv H (AK _) (.refl _) hS hL hl
theorem Qx(h1:PS X s (tS X.K φ xs))(h2:PSs X ss (tSs X.K φ xss)):PSs X (s::ss) (tSs X.K φ (.cons xs xss)) :=
 PSs.imp (Hi h1 h2) λE σv H ⟨ι,σ,μ,hS,hL,hl,h⟩=>by
  simp![k6]at h
  refine⟨ι,σ,μ,hS,hL,hl,?_⟩
  obtain⟨f,μ1,e1,h⟩:=h.bind
  rw[e1]
  cases f with
  |nx σ'=>exact λι1 σ1 H1 p1 x1 s1 l1 z1=>⟨ι1,σ',μ1,s1,l1,z1,(show jf _ _ _ (k6 φ xss σ' μ1) _ from h).mono p1 x1⟩
  |rt d=>exact h
  |bk σ'=>exact h
  |ct σ'=>exact h
theorem Qy(he:PE X e (tE X.K φ x))(hs:swapsWith e none pos.line X.env=pure false):PS X (.Expr e pos) (tS X.K φ (.ex x)) :=
 PS.imp (Mo he hs) λE σv H ⟨ι,σ,μ,hS,hL,hl,h⟩=>by
  simp![evS]at h
  obtain⟨d,μ1,e1,h⟩:=h.bind
  refine⟨ι,σ,μ,hS,hL,?_⟩
  rw[e1]
  exact λι1 v H1 p1 x1 s1 d1=>h ι1 σv H1 p1 x1 s1 (hL.mono p1 x1) hl
theorem Vo(he:PE X e (tE X.K φ x)):PS X (.Return (some e) pos) (tS X.K φ (.ret x)) :=
 PS.imp (Pj he) λE σv H ⟨ι,σ,μ,hS,hL,hl,h⟩=>by
  simp![evS]at h
  obtain⟨d,μ1,e1,h⟩:=h.bind
  refine⟨ι,σ,μ,hS,hL,?_⟩
  rw[e1]
  exact h
theorem Y6{c:Expr}{xc:Ex}{a b:List Stmt}{xa xb:Sms}(hc:PT X c (tT X.K φ xc))(ha:PSs X a (tSs X.K φ xa))(hb:PSs X b (tSs X.K φ xb)):PS X (.If c a b pos) (tS X.K φ (.ite xc xa xb)) :=
 PS.imp (Uj hc ha hb) λE σv H ⟨ι,σ,μ,hS,hL,hl,h⟩=>by
  simp![evS]at h
  obtain⟨d,μ1,e1,h⟩:=h.bind
  refine⟨ι,σ,μ,hS,hL,?_⟩
  rw[e1]
  cases d with
  |bl k =>
   intro ι1 x H1 p1 x1 s1 d1
   cases d1
   cases k with
   |true=>exact⟨ι1,σ,μ1,s1,hL.mono p1 x1,hl,(show jf _ _ _ (k6 φ xa σ μ1) _ from h).mono p1 x1⟩
   |false=>exact⟨ι1,σ,μ1,s1,hL.mono p1 x1,hl,(show jf _ _ _ (k6 φ xb σ μ1) _ from h).mono p1 x1⟩
  |_=>exact h.elim
noncomputable def slots:Tg->List Nat
 |.one i=>[i]
 |.many is=>is
noncomputable def tG(K:PySem.W.Frag)(tg:Tg):TG:=λv σv H Q=>∃ι σ d σ',l0 K ι H σ σv/\σ.length=σv.length/\IsD K ι H d v/\gp tg d σ=some σ' /\
 ∀σv',l0 K ι H σ' σv'->σ'.length=σv'.length->σv'.length=σv.length->(∀j,j∉slots tg->σv'[j]? = σv[j]?)->Q σv' H
theorem PG.imp{e:Expr}{t t':TG}(h:PG X e t)(i:∀v σ H Q,t' v σ H Q->t v σ H Q):PG X e t':=by
 intro pins s σ H x u Q I r q
 exact h pins s σ H x u Q I r (i _ _ _ _ q)
theorem Qz{i:Nat}{y:Str}(hN:X.N.Nodup)(hi:X.N[i]? = some y)(hx:Loc X.env.scope y)(hf:X.fn y=true\/X.env.scope.names.lookup y=some .local):PG X (.Name y pos) (tG X.K (.one i)) :=
 PG.imp (Dd hN hi hx hf) λv σv H Q ⟨ι,σ,d,σ',hL,hl,hd,hb,q⟩=>by
  simp![gp,BO]at hb
  subst hb
  exact q _ (hL.set hl hd) (by simp[hl]) (by simp) λj hj=>Da (λz=>hj (by simp[slots,z]))
noncomputable def tGs(K:PySem.W.Frag)(is:List Nat):TGs:=λvs σv H Q=>∃ι σ ds,l0 K ι H σ σv/\σ.length=σv.length/\ah K ι H ds vs/\ds.length=is.length /\
 ∀σv',l0 K ι H ((is.zip ds).foldl (λs p=>s.set p.1 (some p.2)) σ) σv'->((is.zip ds).foldl (λs p=>s.set p.1 (some p.2)) σ).length=σv'.length->σv'.length=σv.length->(∀j,j∉is->σv'[j]? = σv[j]?)->Q σv' H
theorem PGs.imp{es:List Expr}{t t':TGs}(h:PGs X es t)(i:∀v σ H Q,t' v σ H Q->t v σ H Q):PGs X es t':=by
 intro pins s σ H vs us Q I r q
 exact h pins s σ H vs us Q I r (i _ _ _ _ q)
theorem Q0:PGs X [] (tGs X.K []) :=
 PGs.imp Mq λvs σv H Q ⟨ι,σ,ds,hL,hl,hd,hn,q⟩=>by
  have e:ds=[]:=FZ.mp hn
  subst e
  exact⟨by simpa[ah]using hd,q σv (by simpa using hL) (by simpa using hl) rfl λ_ _=>rfl⟩
theorem Nj{i:Nat}{is:List Nat}{es:List Expr}(h1:PG X e (Mp i))(h2:PGs X es (tGs X.K is))(hs:(assignEach (e::es) X.env).map (·.2)=assign e X.env::(assignEach es X.env).map (·.2)):PGs X (e::es) (tGs X.K (i::is)) :=
 PGs.imp (Hj h1 h2 hs) λvs σv H Q ⟨ι,σ,ds,hL,hl,hd,hn,q⟩=>by
  cases ds with
  |nil=>simp at hn
  |cons d ds =>
   simp![ah]at hd
   obtain⟨v,r,e,hd1,hd2⟩:=hd
   refine⟨v,r,e,ι,σ.set i (some d),ds,hL.set hl hd1,by simp[hl],hd2,by simpa using hn,λσv' l z z2 ks=>q σv' (by simpa using l) (by simpa using z) (by simpa using z2) λj hj=>?_⟩
   have hj':j≠i/\j∉is:=by simpa using hj
   rw[ks j hj'.2,Da (Ne.symm hj'.1)]
theorem Vp{is:List Nat}{es:List Expr}{k:Nat}(hc:X.calm=true)(h:PGs X es (tGs X.K is))(hn:(assignEach es X.env).length=is.length)(hst:(assignEach es X.env).findIdx? (·.1)=none) :
  PG X (.Tuple es k pos) (tG X.K (.many is)) :=
 PG.imp (Pk hc h hn hst) λv σv H Q ⟨ι,σ,d,σ',hL,hl,hd,hb,q⟩=>by
  cases d with
  |tup ds =>
   simp![gp]at hb
   split at hb
   ·rename_i hlen
    cases hb
    simp![IsD]at hd
    obtain⟨a,xs,e,hq,hds⟩:=hd
    exact⟨a,xs,e,hq,hds.length.trans hlen,ι,σ,ds,hL,hl,hds,hlen,q⟩
   ·cases hb
  |_=>simp[gp]at hb
theorem Vq{i:Nat}{y:Str}{pos':Pos}(hN:X.N.Nodup)(hi:X.N[i]? = some y)(hx:Loc X.env.scope y)(hf:X.fn y=true\/X.env.scope.names.lookup y=some .local)(he:PE X e (tE X.K φ x))(hs:swapsWith e (some (.Name y pos')) pos.line X.env=pure false) :
  PS X (.Assign [.Name y pos'] e pos) (tS X.K φ (.set i x)) :=
 PS.imp (Pm hN hi hx he hs hf) λE σv H ⟨ι,σ,μ,hS,hL,hl,h⟩=>by
  simp![evS]at h
  obtain⟨d,μ1,e1,h⟩:=h.bind
  refine⟨ι,σ,μ,hS,hL,?_⟩
  rw[e1]
  exact λι1 v H1 p1 x1 s1 d1=>h ι1 _ H1 p1 x1 s1 ((hL.mono p1 x1).set hl d1) (by simp[hl])
theorem Vr {is:List Nat} {tg:Expr} (hg:PG X tg (tG X.K (.many is))) (he:PE X e (tE X.K φ x)) (hs:swapsWithSole [tg] e pos.line X.env=pure false) (hw:swappedStores [tg] e X.env=pure none)
  (h1:(assignEach [tg] X.env).map (·.2)=[assign tg X.env]):PS X (.Assign [tg] e pos) (tS X.K φ (.unp is x)) :=
 PS.imp (J8 he hg hs hw h1) λE σv H ⟨ι,σ,μ,hS,hL,hl,h⟩=>by
  simp![evS]at h
  obtain⟨d,μ1,e1,h⟩:=h.bind
  refine⟨ι,σ,μ,hS,hL,?_⟩
  rw[e1]
  intro ι1 v H1 p1 x1 s1 d1
  split at h
  ·rename_i σ' eb
   exact⟨ι1,σ,d,σ',hL.mono p1 x1,hl,d1,eb,λσv' l z _ _=>h ι1 σv' H1 p1 x1 s1 l z⟩
  ·exact h.elim
noncomputable def Xe(K:PySem.W.Frag):TSet:=λo i v H Q=>∃ι a b d μ,Sim K ι H μ/\IsD K ι H a o/\IsD K ι H b i/\IsD K ι H d v/\ft K (λ_ _ _ (_:Unit)=>True) ι H (yb a b d μ) λ_ H'=>Q H'
theorem Q1 {o i:Expr} {xo xi:Ex} {tp:Pos} (hset:Tu X (Xe X.K)) (ho:PE X o (tE X.K φ xo)) (hi:PE X i (tE X.K φ xi)) (he:PE X e (tE X.K φ x))
  (ha:∀v,assign (.Subscript o i tp) X.env v=(do
   let ov <-holding [v] (eval o X.env)
   let iv <-holding [v,ov] (eval i X.env)
   standAt tp
   holding [v,ov,iv] (setItem ov iv v)
   release [v,ov,iv] [])) (hs:swapsWithSole [.Subscript o i tp] e pos.line X.env=pure false) (hw:swappedStores [.Subscript o i tp] e X.env=pure none)
  (h1:(assignEach [.Subscript o i tp] X.env).map (·.2)=[assign (.Subscript o i tp) X.env]):PS X (.Assign [.Subscript o i tp] e pos) (tS X.K φ (.setx xo xi x)) :=
 PS.imp (J8 he (Pl ho hi hset ha) hs hw h1) λE σv H ⟨ι,σ,μ,hS,hL,hl,h⟩=>by
  simp![evS]at h
  obtain⟨d,μ1,e1,h⟩:=h.bind
  refine⟨ι,σ,μ,hS,hL,?_⟩
  rw[e1]
  intro ι1 v H1 p1 x1 s1 d1
  obtain⟨a,μ2,e2,h⟩:=h.bind
  refine⟨ι1,σ,μ1,s1,hL.mono p1 x1,?_⟩
  rw[e2]
  intro ι2 va H2 p2 x2 s2 d2
  obtain⟨b,μ3,e3,h⟩:=h.bind
  refine⟨ι2,σ,μ2,s2,(hL.mono p1 x1).mono p2 x2,?_⟩
  rw[e3]
  intro ι3 vb H3 p3 x3 s3 d3
  obtain⟨_,μ4,e4,h⟩:=h.bind
  refine⟨ι3,a,b,d,μ3,s3,IsD.mono p3 x3 _ _ d2,d3,IsD.mono p3 x3 _ _ (IsD.mono p2 x2 _ _ d1),?_⟩
  rw[e4]
  exact λι4 _ H4 p4 x4 s4 _=>h ι4 σv H4 (((p1.trans p2).trans p3).trans p4) (((x1.trans x2).trans x3).trans x4) s4 ((((hL.mono p1 x1).mono p2 x2).mono p3 x3).mono p4 x4) hl
structure Walk (K:PySem.W.Frag) (ι0:List Addr) (H0:Hp) (J:L2.It) (ds:List D) (g:Gd):Prop where
 len:ds.length<=sizeLine
 go:∀(i:Nat) ι H μ,ι0 <+: ι->Ext H0 H->Sim K ι H μ->gd g μ->i<ds.length->J.go i H
 yld:∀(i:Nat) ι H μ x H',ι0 <+: ι->Ext H0 H->Sim K ι H μ->gd g μ->i<ds.length->J.yld i H x H'->Ext H H'/\Sim K ι H' μ/\∃d,ds[i]? = some d/\IsD K ι H' d x
 stop:∀ι H μ,ι0 <+: ι->Ext H0 H->Sim K ι H μ->gd g μ->J.stop ds.length H
noncomputable def tI(K:PySem.W.Frag)(φ:Phi)(it:It):TI:=λσv H R=>∃ι σ μ,Sim K ι H μ/\l0 K ι H σ σv /\
 match evI φ it σ μ with
 |.ok (ds,g) μ'=>∀ι' H' J,ι <+: ι'->Ext H H'->Sim K ι' H' μ'->Walk K ι' H' J ds g->R J H'
 |_=>False
theorem PI.imp{tg it:Expr}{t t':TI}(h:PI X tg it t)(i:∀σ H R,t' σ H R->t σ H R):PI X tg it t':=λpins s σ H R I q=>h pins s σ H R I (i _ _ _ q)
theorem Vs {tg it:Expr} {body:List Stmt} {xt:Tg} {xi:It} {xb:Sms} (hp:PassesOwn (model X.prog X.w) X.A X.env X.xe) (hc:X.calm=true) (hi:PI X tg it (tI X.K φ xi)) (hg:PG X tg (tG X.K xt)) (hb:PSs X body (tSs X.K φ xb))
  (hs:∀x,foldedSetIterable it X.env x=pure x):PS X (.For tg it body [] pos) (tS X.K φ (.loop xt xi xb)) :=
 PS.imp (Pn hp hc hi hg hb hs) λE σv H ⟨ι,σ,μ,hS,hL,hl,h⟩=>by
  simp![evS]at h
  obtain⟨⟨ds,g⟩,μ1,e1,h⟩:=h.bind
  refine⟨ι,σ,μ,hS,hL,?_⟩
  rw[e1]
  intro ι1 H1 J p1 x1 s1 wk
  refine⟨λi m σv' H'=>m=ds.length-i/\i<=ds.length/\∃ι' σ' μ',ι1 <+: ι'/\Ext H1 H'/\Sim X.K ι' H' μ'/\l0 X.K ι' H' σ' σv'/\σ'.length=σv'.length /\
   jf X.K ι' H' (jy g (λd σ μ=>ji (gp xt d σ) λσ'=>k6 φ xb σ' μ) (ds.drop i) σ' μ') E,⟨ds.length,by simp,CU _,ι1,σ,μ1,AK _,.refl _,s1,hL.mono p1 x1,hl,?_⟩,?_⟩
  ·simpa using(show jf _ _ _ (jy g _ ds σ μ1) _ from h).mono p1 x1
  ·rintro i m σv' H' ⟨rfl,hi,ι',σ',μ',p',x',s',l',z',h'⟩
   by_cases hlt:i<ds.length
   ·obtain⟨d,ed⟩:∃d,ds[i]? = some d:=⟨ds[i],AD hlt⟩
    have edrop:ds.drop i=d::ds.drop (i+1):=by
     rw[HY hlt]
     rw[AD hlt]at ed
     cases ed;rfl
    rw[edrop]at h'
    simp![jy]at h'
    split at h'
    ·rename_i hgd
     right
     refine⟨wk.go i ι' H' μ' p' x' s' hgd hlt,?_⟩
     obtain⟨fl,μ2,e2,h2⟩:=h'.bind
     refine⟨λσ2 H2=>ds.length-(i+1)<ds.length-i/\∃ι2 σs,ι1 <+: ι2/\Ext H1 H2/\Sim X.K ι2 H2 μ2/\l0 X.K ι2 H2 σs σ2/\σs.length=σ2.length /\
      jf X.K ι2 H2 (jy g (λd σ μ=>ji (gp xt d σ) λσ'=>k6 φ xb σ' μ) (ds.drop (i+1)) σs μ2) E,?_,?_⟩
     ·rintro σ2 H2 ⟨_,ι2,σs,q1,q2,q3,q4,q5,q6⟩
      exact⟨ds.length-(i+1),by lia,rfl,hlt,ι2,σs,μ2,q1,q2,q3,q4,q5,q6⟩
     ·intro v H2 hy
      obtain⟨x2,s2,d',ed',hd'⟩:=wk.yld i ι' H' μ' v H2 p' x' s' hgd hlt hy
      rw[ed]at ed';cases ed'
      cases eb:gp xt d σ' with
      |none=>rw[eb]at e2;cases e2
      |some σb =>
       rw[eb]at e2
       refine⟨ι',σ',d,σb,l'.mono (AK _) x2,z',hd',eb,λσv2 l2 z2 _ _=>⟨ι',σb,μ',s2,l2,z2,?_⟩⟩
       have e2':k6 φ xb σb μ'=.ok fl μ2:=e2
       rw[e2']
       cases fl with
       |nx σ3=>exact λι3 σv3 H3 p3 x3 s3 l3 z3=>⟨by lia,ι3,σ3,p'.trans p3,(x'.trans x2).trans x3,s3,l3,z3,(show jf _ _ _ (jy g _ (ds.drop (i+1)) σ3 μ2) _ from h2).mono p3 (x2.trans x3)⟩
       |ct σ3=>exact λι3 σv3 H3 p3 x3 s3 l3 z3=>⟨by lia,ι3,σ3,p'.trans p3,(x'.trans x2).trans x3,s3,l3,z3,(show jf _ _ _ (jy g _ (ds.drop (i+1)) σ3 μ2) _ from h2).mono p3 (x2.trans x3)⟩
       |bk σ3=>exact(show jf _ _ _ (.ok (.nx σ3) μ2) _ from h2).mono (AK _) x2
       |rt w=>exact(show jf _ _ _ (.ok (.rt w) μ2) _ from h2).mono (AK _) x2
    ·exact h'.elim
   ·have ei:i=ds.length:=by lia
    subst ei
    simp![List.drop_length,jy]at h'
    split at h'
    ·rename_i hgd
     exact .inl ⟨wk.stop ι' H' μ' p' x' s' hgd,h' ι' σv' H' (AK _) (.refl _) s' l' z'⟩
    ·exact h'.elim
end
theorem fu:lim=sizeLine:=by rw[Kg];rfl
section
variable{X:Cx}{pins:List (Addr × Obj)}{σ:St}{H:Hp}{s:Shared}{φ:Phi}
theorem _root_.L2.Inv.freeze{p:Addr}{xs:List V}(I:Inv X pins σ H s)(h:H p=some (.lst xs)):∃o,Inv X pins σ (upd H p (.frz o (.lst xs))) s:=by
 have hp:=I.hok p _ h
 obtain⟨hz,its,n,hv,hget⟩:=id hp
 refine⟨{cls:=.type "list",data:=.seq its.toArray n},I.ok,I.os,I.bare,⟨I.base.keep,I.base.slot,λb o e hn hx=>?_,I.base.there,λb ys e=>?_,λb o u e=>?_,λb ps e=>?_⟩,I.loc,I.cell,?_,λx c e=>?_,λq hq=>?_,λb u e=>?_,I.len⟩
 ·have q:=I.base.free b o e hn hx
  rw[ao (λz=>by subst z;rw[h]at q;cases q)]
  exact q
 ·have q:=I.base.tups b ys e
  rw[ao (j6 q h (by intro z;cases z))];exact q
 ·have q:=I.base.frzs b o u e
  rw[ao (j6 q h (by intro z;cases z))];exact q
 ·obtain⟨more,q⟩:=I.base.tbls b ps e
  exact⟨more,by rw[ao (j6 q h (by intro z;cases z))];exact q⟩
 ·rw[ao (λz=>by rw[<-z,I.free]at h;cases h)];exact I.free
 ·rw[ao (λz=>by rw[<-z,I.freeC x c e]at h;cases h)];exact I.freeC x c e
 ·obtain⟨e1,e2,e3⟩:=I.pin q hq
  refine⟨e1,?_,e3⟩
  rw[ao (λz=>by rw[<-z,e2]at h;cases h)];exact e2
 ·by_cases hb:b=p
  ·subst hb
   rw[ax]at e;cases e
   exact⟨hget,hz,its,n,hv,hget⟩
  ·rw[ao hb]at e
   refine(I.hok b u e).stay (λc v _ q=>q) (λc q=>?_) (λc ys q=>?_)
   ·rw[ao (j6 q h (by intro z;cases z))];exact q
   ·rw[ao (j6 q h (by intro z;cases z))];exact q
noncomputable def FQ(Q:VK):VK:=λv H=>Q v H\/∃p xs,v=.ref p/\H p=some (.lst xs)/\∀o,Q v (upd H p (.frz o (.lst xs)))
theorem D1{Q:VK}{u:Value}(h:EP X pins σ (FQ Q) u s):EP X pins σ Q u s:=by
 obtain⟨v,H',I,r,q⟩:=h
 rcases q with q | ⟨p,xs,rfl,e,q⟩
 ·exact⟨v,H',I,r,q⟩
 ·obtain⟨o,I'⟩:=L2.Inv.freeze I e
  exact⟨_,_,I',r,q o⟩
theorem zy{A:Around}{E:Value->Shared->Prop}{M:Model}{t:Sem Value}{Q:VK}(h:wpAny M A t (EP X pins σ (FQ Q)) E s):wpAny M A t (EP X pins σ Q) E s:=thn h λ_ _ z=>D1 z
theorem PE.fq{e:Expr}{t:TE}(h:PE X e t):PE X e (λσ H Q=>t σ H (FQ Q)):=λpins s σ H Q I q=>thn (h pins s σ H _ I q) λ_ _ z=>D1 z
theorem fi.fq{f:Value}{r:List V->Hp->VK->Prop}(h:fi X f r):fi X f (λxs H Q=>r xs H (FQ Q)):=by
 intro pins s σ H xs us Q I rx q
 exact thn (h pins s σ H xs us _ I rx q) λ_ _ z=>D1 z
theorem SlR.fq{r:V->Option Int->Option Int->Hp->VK->Prop}(h:SlR X r):SlR X (λx l u H Q=>r x l u H (FQ Q)):=by
 intro pins s σ H x v vl vu lo hi sl Q I rx h1 h2 h3 q
 obtain⟨T,id,e1,e2,e3⟩:=h pins s σ H x v vl vu lo hi sl _ I rx h1 h2 h3 q
 exact⟨T,id,e1,e2,thn e3 λ_ _ z=>D1 z⟩
theorem i6{K:PySem.W.Frag}{ι:List Addr}{μ:Sto}{ds:List D}{xs:List V}{m:Mk}{Q:VK}{p:Addr}(hS:Sim K ι H μ)(hd:ah K ι H ds xs)(h:ft K (RD K) ι H (mkL m ds μ) Q)(hp:H p=none) :
  FQ Q (.ref p) (upd H p (.lst xs)):=by
 cases m with
 |z =>
  refine .inr ⟨p,xs,rfl,ax,λo=>?_⟩
  rw[C9]
  refine h ι (.ref p) _ (AK _) (.new hp) (hS.new hp) ?_
  show IsD _ _ _ _ _
  simp![IsD]
  exact⟨p,xs,rfl,.inl ⟨o,ax⟩,ah.mono (AK _) (.new hp) ds xs hd⟩
 |l =>
  simp![mkL]at h
  split at h
  ·rename_i hpure
   refine .inl (h (ι++[p]) (.ref p) _ ⟨[p],rfl⟩ (.new hp) (hS.push hp ⟨xs,ax,ah.pur hpure (ah.mono (AK _) (.new hp) ds xs hd)⟩) ?_)
   show IsD _ _ _ _ _
   simp![IsD]
   exact⟨p,rfl,by rw[<-hS.len];simp⟩
  ·exact h.elim
 |r =>
  simp![mkL]at h
  refine .inl (h (ι++[p]) (.ref p) _ ⟨[p],rfl⟩ (.new hp) (hS.push hp ⟨xs,ax,ah.mono ⟨[p],rfl⟩ (.new hp) ds xs hd⟩) ?_)
  show IsD _ _ _ _ _
  simp![IsD]
  exact⟨p,rfl,by rw[<-hS.len];simp⟩
theorem Vt{es:List Expr}{xs:Exs}{m:Mk}{pos:Pos}(h:PA X es (tEs X.K φ xs))(hl:∀σ μ ds μ',fj φ xs σ μ=.ok ds μ'->ds.length<=sizeLine):PE X (.List es pos) (tE X.K φ (.lst m xs)) :=
 PE.imp (PE.fq (Pw h)) λσv H Q ⟨ι,σ,μ,hS,hL,h⟩=>by
  simp![evE]at h
  obtain⟨ds,μ1,e1,h⟩:=h.bind
  refine⟨ι,σ,μ,hS,hL,?_⟩
  rw[e1]
  intro ι1 vs H1 p1 x1 s1 d1
  have hd:ah X.K ι1 H1 ds vs:=d1
  exact⟨by rw[hd.length];exact hl σ μ ds μ1 e1,λp hp=>i6 s1 hd (h.mono p1 x1) hp⟩
theorem qj{K:PySem.W.Frag}{ι:List Addr}{μ:Sto}{d:D}{v:V}{ds:List D}(hS:Sim K ι H μ)(hd:IsD K ι H d v)(h:dn μ d=some ds) :
  ∃a xs,v=.ref a/\(LsL K H a xs\/SqT K H a xs)/\ah K ι H ds xs:=by
 cases d with
 |tup es =>
  cases h
  simp![IsD]at hd
  obtain⟨a,xs,e,q,r⟩:=hd
  exact⟨a,xs,e,.inr q,r⟩
 |lst es =>
  cases h
  simp![IsD]at hd
  obtain⟨a,xs,e,q,r⟩:=hd
  exact⟨a,xs,e,.inl (.inr q),r⟩
 |loc n =>
  simp![IsD]at hd
  obtain⟨a,e,q⟩:=hd
  simp![dn]at h
  split at h
  ·rename_i es em
   cases h
   obtain⟨a',q',ho⟩:=hS.at em
   rw[q]at q';cases q'
   obtain⟨xs,e1,e2⟩:=ho
   exact⟨a,xs,e,.inl (.inl e1),ah.mono (CH) (.refl _) _ _ e2⟩
  ·rename_i es em
   cases h
   obtain⟨a',q',ho⟩:=hS.at em
   rw[q]at q';cases q'
   obtain⟨xs,e1,e2⟩:=ho
   exact⟨a,xs,e,.inl (.inl e1),e2⟩
  ·cases h
 |_=>simp[dn]at h
theorem ic{K:PySem.W.Frag}{ι:List Addr}{μ:Sto}{d:D}{v:V}{ds:List D}(hS:Sim K ι H μ)(hd:IsD K ι H d v)(h:listOf μ d=some ds) :
  ∃a xs,v=.ref a/\LsL K H a xs/\ah K ι H ds xs:=by
 cases d with
 |lst es =>
  cases h
  simp![IsD]at hd
  obtain⟨a,xs,e,q,r⟩:=hd
  exact⟨a,xs,e,.inr q,r⟩
 |loc n =>
  simp![IsD]at hd
  obtain⟨a,e,q⟩:=hd
  simp![listOf]at h
  split at h
  ·rename_i es em
   cases h
   obtain⟨a',q',ho⟩:=hS.at em
   rw[q]at q';cases q'
   obtain⟨xs,e1,e2⟩:=ho
   exact⟨a,xs,e,.inl e1,ah.mono (CH) (.refl _) _ _ e2⟩
  ·rename_i es em
   cases h
   obtain⟨a',q',ho⟩:=hS.at em
   rw[q]at q';cases q'
   obtain⟨xs,e1,e2⟩:=ho
   exact⟨a,xs,e,.inl e1,e2⟩
  ·cases h
 |_=>simp[listOf]at h
theorem Vu{i:Nat}{x:Str}{pos:Pos}(hN:X.N[i]? = some x)(hv:Vis X.env.scope x)(hd:(x==("__debug__":Str))=false)(hcd:(x==("__classdict__":Str))=false):PE X (.Name x pos) (tE X.K φ (.frz i)) :=
 PE.imp (PE.fq (qe hN hv hd hcd)) λσv H Q ⟨ι,σ,μ,hS,hL,h⟩=>by
  simp![evE]at h
  split at h
  ·rename_i n e
   obtain⟨v,e1,e2⟩:=hL i _ e
   refine⟨v,e1,?_⟩
   simp![IsD]at e2
   obtain⟨a,rfl,ha⟩:=e2
   split at h
   ·rename_i ds em
    obtain⟨a',q',ho⟩:=hS.at em
    rw[ha]at q';cases q'
    obtain⟨xs,f1,f2⟩:=ho
    refine .inr ⟨a,xs,rfl,f1,λo=>?_⟩
    refine h ι (.ref a) _ (AK _) (.lst f1) (hS.put ha (.lst f1) ⟨_,ax⟩) ?_
    show IsD _ _ _ _ _
    simp![IsD]
    exact⟨a,xs,rfl,.inl ⟨o,ax⟩,ah.mono (CH) (.lst f1) ds xs f2⟩
   ·rename_i ds em
    obtain⟨a',q',ho⟩:=hS.at em
    rw[ha]at q';cases q'
    obtain⟨xs,f1,f2⟩:=ho
    refine .inr ⟨a,xs,rfl,f1,λo=>?_⟩
    refine h ι (.ref a) _ (AK _) (.lst f1) (hS.put ha (.lst f1) ⟨_,ax⟩) ?_
    show IsD _ _ _ _ _
    simp![IsD]
    exact⟨a,xs,rfl,.inl ⟨o,ax⟩,ah.mono (AK _) (.lst f1) ds xs f2⟩
   ·exact h.elim
  ·exact h.elim
theorem OpR.imp{f:Value->Value->Sem Value}{r r':R2}(h:OpR X f r)(i:∀x y H Q,r' x y H Q->r x y H Q):OpR X f r':=λpins s σ H x y v u Q I rx ry q=>h pins s σ H x y v u Q I rx ry (i _ _ _ _ q)
theorem IxR.imp{r r':R2}(h:IxR X r)(i:∀x y H Q,r' x y H Q->r x y H Q):IxR X r':=λe1 e2 pins s σ H x y v u Q I rx ry q=>h e1 e2 pins s σ H x y v u Q I rx ry (i _ _ _ _ q)
theorem fi.imp{f:Value}{r r':List V->Hp->VK->Prop}(h:fi X f r)(i:∀xs H Q,r' xs H Q->r xs H Q):fi X f r':=λpins s σ H xs us Q I rx q=>h pins s σ H xs us Q I rx (i _ _ _ q)
theorem MtR.imp{id:String}{r r':V->List V->Hp->VK->Prop}(h:MtR X id r)(i:∀x xs H Q,r' x xs H Q->r x xs H Q):MtR X id r':=λpins s σ H x xs v us Q I rx rr q=>h pins s σ H x xs v us Q I rx rr (i _ _ _ _ q)
theorem Q2{K:PySem.W.Frag}{ι:List Addr}{ds:List D}{xs:List V}{i:Int}{j:Nat}{d:D}(h:ah K ι H ds xs)(hi:Lp.ixN ds.length i=some j)(hj:ds[j]? = some d):∃v,atI xs i=some v/\IsD K ι H d v:=by
 obtain⟨v,e,q⟩:=h.get hj
 refine⟨v,?_,q⟩
 unfold atI
 rw[h.length,show L2.ixN ds.length i=some j from hi]
 exact e
theorem Vv:IxR X (rOp X.K ixD):=IxR.imp P6 λx y H Q ⟨ι,d,e,μ,hS,hd,he,h⟩=>by
 unfold ixD at h
 split at h
 ·rename_i i
  have hy:y=.int i:=by simpa[IsD]using he
  subst hy
  split at h
  ·rename_i ds es
   obtain⟨a,xs,rfl,hq,hds⟩:=qj hS hd es
   split at h
   ·rename_i j ej
    split at h
    ·rename_i d' ed
     obtain⟨v,ev,hv⟩:=Q2 hds ej ed
     have qv:=h.ok hS hv
     rcases hq with hq | hq
     ·exact .inl ⟨a,xs,i,v,rfl,rfl,hq.sq,ev,qv⟩
     ·exact .inr (.inl ⟨a,xs,i,v,rfl,rfl,hq,ev,qv⟩)
    ·exact h.elim
   ·exact h.elim
  ·exact h.elim
 ·exact h.elim
theorem Kk{K:PySem.W.Frag}{ι:List Addr}{ds:List D}{xs:List V}(h:ah K ι H ds xs)(lo hi:Option Int):ah K ι H (cut ds lo hi) (Kc xs lo hi):=by
 have e1:∀n d o,Lp.sIx n d o=HT.sIx n d o:=λn d o=>by cases o<;>rfl
 unfold cut Kc
 rw[h.length,e1,e1]
 exact(h.drop _).take _
end
noncomputable def z0(env:Env):List (Str×NameKind)->List (Str×Addr)->List (Str×Addr)
 | [],acc=>acc
 |(n,k)::r,acc=>z0 env r (if k==.free then(n,(env.cells.lookup n).getD 0)::acc else acc)
noncomputable def mq(env:Env)(x:Str×NameKind)(cs:List (Str×Addr)):Sem (ForInStep (List (Str×Addr))):=match x with
 |(name,kind)=>if kind==.free then(do let a <-cellOf env name;pure (ForInStep.yield ((name,a)::cs)))else pure (ForInStep.yield cs)
theorem l6{env:Env}:∀(names:List (Str×NameKind)) (acc:List (Str×Addr)),(∀n,(n,NameKind.free)∈names->∃c,env.cells.lookup n=some c) ->
  forIn names acc (mq env)=pure (z0 env names acc)
 | [],acc,_=>rfl
 |(n,k)::r,acc,h=>by
  rw[FO]
  by_cases hk:k=.free
  ·subst hk
   obtain⟨c,hc⟩:=h n AM
   have e:mq env (n,.free) acc=pure (ForInStep.yield ((n,c)::acc)):=by
    simp![mq,cellOf,hc,beq_self_eq_true,if_true]
    rfl
   rw[e]
   refine Eq.trans (b:=forIn r ((n,c)::acc) (mq env)) rfl ?_
   rw[l6 r ((n,c)::acc) λm hm=>h m (AF _ hm)]
   simp[z0,hc]
  ·have hb:(k==NameKind.free)=false:=by simpa using hk
   have e:mq env (n,k) acc=pure (ForInStep.yield acc):=by
    unfold mq
    simp![hb,AQ,if_false]
   rw[e]
   refine Eq.trans (b:=forIn r acc (mq env)) rfl ?_
   rw[l6 r acc λm hm=>h m (AF _ hm)]
   simp[z0,hb]
theorem qk{env:Env}{scope:Scope}(h:∀n,(n,NameKind.free)∈scope.names->∃c,env.cells.lookup n=some c):closureFor scope env=pure (z0 env scope.names []):=by
 have e:=l6 (env:=env) scope.names [] h
 have e2:closureFor scope env=(forIn scope.names [] (mq env)>>=λcs=>pure cs):=rfl
 rw[e2,e]
 rfl
theorem z5{env:Env}:∀(names:List (Str×NameKind)) (acc:List (Str×Addr)) (x:Str) (c:Addr),(∀n,(n,NameKind.free)∈names->∃c,env.cells.lookup n=some c)->(z0 env names acc).lookup x=some c->acc.lookup x=some c\/env.cells.lookup x=some c
 | [],acc,x,c,_,h=>.inl h
 |(n,k)::r,acc,x,c,hh,h=>by
  rcases z5 r _ x c (λm hm=>hh m (AF _ hm)) h with q | q
  ·by_cases hk:k=.free
   ·subst hk
    obtain⟨c',hc⟩:=hh n AM
    simp![beq_self_eq_true,if_true,EH]at q
    by_cases hx:x=n
    ·subst hx
     simp![beq_self_eq_true,hc,FA,BO]at q
     subst q
     exact .inr hc
    ·have hb:(x==n)=false:=beq_eq_false_iff_ne.mpr hx
     rw[hb]at q
     exact .inl q
   ·have hb:(k==NameKind.free)=false:=by simpa using hk
    simp![hb,AQ,if_false]at q
    exact .inl q
  ·exact .inr q
theorem ve{env:Env}:∀(names:List (Str×NameKind)) (acc:List (Str×Addr)) (x:Str),(∃c,acc.lookup x=some c)->∃c,(z0 env names acc).lookup x=some c
 | [],acc,x,h=>h
 |(n,k)::r,acc,x,h=>by
  refine ve r _ x ?_
  by_cases hk:(k==NameKind.free)=true
  ·rw[if_pos hk,EH]
   cases hx:x==n with
   |true=>exact⟨_,rfl⟩
   |false=>exact h
  ·rw[if_neg hk];exact h
theorem z6{env:Env}:∀(names:List (Str×NameKind)) (acc:List (Str×Addr)) (x:Str),(x,NameKind.free)∈names->∃c,(z0 env names acc).lookup x=some c
 | [],acc,x,h=>by cases h
 |(n,k)::r,acc,x,h=>by
  rcases AN.mp h with e | e
  ·cases e
   refine ve r _ n ?_
   exact⟨(env.cells.lookup n).getD 0,by simp⟩
  ·exact z6 r _ x e
noncomputable abbrev D2(env:Env)(scope:Scope)(C:Addr):List (Str×Addr):=cellsFrom (C+1) scope.names []++z0 env scope.names []
theorem eu:∀(names:List (Str×NameKind)) (n:Nat) (acc:List (Str×Addr)),cellsFrom n names acc=cellsFrom n names []++acc
 | [],_,_=>rfl
 |(a,k)::r,n,acc=>by
  unfold cellsFrom
  split
  ·rw[eu r (n+1) ((a,n)::acc),eu r (n+1) [(a,n)],Ix];rfl
  ·exact eu r n acc
theorem ie:∀(names:List (Str×NameKind)) (n:Nat) (x:Str) (c:Addr),(x,c)∈cellsFrom n names []->(x,NameKind.cell)∈names
 | [],_,_,_,h=>nomatch h
 |(a,k)::r,n,x,c,h=>by
  unfold cellsFrom at h
  split at h
  ·rename_i hk
   rw[eu]at h
   rcases BB.mp h with h | h
   ·exact AF _ (ie r _ x c h)
   ·cases BF.mp h
    have:k=.cell:=by simpa using hk
    subst this
    exact AM
  ·exact AF _ (ie r _ x c h)
theorem ye{env:Env}{scope:Scope}{C:Addr}{x:Str}{c:Addr}(hc:∀n,(n,NameKind.free)∈scope.names->∃c,env.cells.lookup n=some c)(e:(D2 env scope C).lookup x=some c) :
  (x,c)∈cellsFrom (C+1) scope.names []\/env.cells.lookup x=some c:=by
 rcases BB.mp (CQ e)with h | h
 ·exact .inl h
 ·cases q:(cellsFrom (C+1) scope.names []).lookup x with
  |some d =>
   have e2:(cellsFrom (C+1) scope.names []++z0 env scope.names []).lookup x=some c:=e
   rw[FU,q]at e2
   cases e2
   exact .inl (CQ q)
  |none =>
   have e2:(cellsFrom (C+1) scope.names []++z0 env scope.names []).lookup x=some c:=e
   rw[FU,q]at e2
   rcases z5 scope.names [] x c hc (by simpa using e2)with z | z
   ·cases z
   ·exact .inr z
theorem D3 {M:Model} {A:Around} {E:Value->Shared->Prop} {s:Shared} {scope:Scope} {cl:List (Str×Addr)} {globals builtins:Addr} {qual:Str} {func:Option Addr} {code:Value} {env:Env} {Q:Env->Shared->Prop}
  (hQ:∀h',h'.Ns s.heap.objs.size (λ_=>none)->(∀b o,s.heap.get? b=some o->h'.get? b=some o)->CellsOk h' (s.heap.objs.size+1) (cellsFrom (s.heap.objs.size+1) scope.names []) ->
   Q (newEnv scope s.heap.objs.size globals (cellsFrom (s.heap.objs.size+1) scope.names []++cl) qual func code (some env) builtins) {s with heap:=h'}) :
  wpAny M A (newFunctionEnv scope globals cl [] qual func code (some env) builtins) Q E s:=by
 simp![newFunctionEnv,Option.isSome_some,if_true]
 refine AA (wpAny_alloc ?_)
 refine AA (wpAny_layCells _ (λname kind cells=>by cases hkc:kind==NameKind.cell<;>simp[hkc]) _ _ _ _ ?_)
 have ok:=cellsFrom_ok scope.names (s.heap.push {cls:=.type "dict",data:=.dict #[]}) (s.heap.objs.size+1) [] ⟨λ_ _ hm=>(nomatch hm),List.Pairwise.nil⟩ (by rw[CM];exact AH _)
 rw[CM]at ok
 rw[show({s with heap:=s.heap.push {cls:=.type "dict",data:=.dict #[]}}:Shared).heap.objs.size=s.heap.objs.size+1 from CM ..]
 rw[JV,eu]
 exact AA (AC (AC (hQ _ ((Heap.Ns.new s.heap (.type "dict")).keeps (pushCells_keeps _ _)) (λb o e=>pushCells_keeps _ _ b o (AB _ e)) ok)))
noncomputable def ka(X:Cx)(scope:Scope)(Nb:List Str)(C:Addr)(s:Shared)(H:Hp)(fp:List Addr):Cx :=
 {X with N:=Nb,s₀:=s,H₀:=H,env:=compEnvC scope (D2 X.env scope C) C X.env,outer:=X.stack,stack:=X.stack,ex:=fp,fn:=λx=>scope.names.lookup x==some .cell,pn:=[],xe:=λ_ _=>False}
structure CompScope (sc scope:Scope) (N Nb:List Str) (cap:List Nat) (nl:Nat):Prop where
 kind:scope.kind=.function
 uniq:∀y∈scope.names,scope.names.lookup y.1=some y.2
 free:∀n,(n,NameKind.free)∈scope.names->sc.names.lookup n=some .cell\/sc.names.lookup n=some .free
 fnames:∀n,(relabel scope {scope:=sc,locals:=0,globals:=0,cells:=[]}).names.lookup n=some .cell\/(relabel scope {scope:=sc,locals:=0,globals:=0,cells:=[]}).names.lookup n=some .free->(n,NameKind.free)∈scope.names\/(n,NameKind.cell)∈scope.names
 nd:Nb.Nodup
 len:Nb.length=cap.length+nl
 capt:∀(j:Nat) i,cap[j]? = some i->∃x,Nb[j]? = some x/\N[i]? = some x/\(x,NameKind.free)∈scope.names
theorem B9(scope:Scope)(env env':Env)(h:env.scope=env'.scope):relabel scope env=relabel scope env':=by
 unfold relabel Env.kindOf
 rw[h]
section
variable{X:Cx}{pins:List (Addr × Obj)}{σ:St}{H:Hp}{s:Shared}{scope:Scope}{Nb:List Str}{cap:List Nat}{nl:Nat}
noncomputable def ik(cap:List Nat)(nl:Nat)(σ:St):St:=cap.map (λi=>(σ[i]?).getD none)++List.replicate nl none
theorem D4 {fp:List Addr} {h':Heap} {tk:Nat} {C:Addr} {m:Str->Option Value} {D:Addr} {n0:Nat} (I:Inv X pins σ H s) (S:CompScope X.env.scope scope X.N Nb cap nl)
  (hf:∀b∈fp,C4 X pins H b) (hfp:∀b∈fp,∃o,s.heap.get? b=some o) (hk:∀b o,s.heap.get? b=some o->h'.get? b=some o) (hC:s.heap.objs.size<=C) (hD:s.heap.objs.size<=D) (hDC:D≠C)
  (hns:h'.Ns C m) (hDo:h'.get? D=some {cls:=.type "list",data:=.seq #[] n0}) (ok:CellsOk h' (C+1) (cellsFrom (C+1) scope.names [])) :
  Inv (ka X scope Nb C s H fp) [(D,{cls:=.type "list",data:=.seq #[] n0})] (ik cap nl σ) H {s with heap:=h',toks:=tk}:=by
 have hcells:∀n,(n,NameKind.free)∈scope.names->∃c,X.env.cells.lookup n=some c:=λn hn=>by
  rcases S.free n hn with e | e
  ·exact I.ok.has n (.inl e)
  ·exact I.ok.has n (.inr e)
 have sub:∀x c,(D2 X.env scope C).lookup x=some c->(x,c)∈cellsFrom (C+1) scope.names []\/X.env.cells.lookup x=some c:=λx c e=>ye hcells e
 have up:∀x c,(x,c)∈cellsFrom (C+1) scope.names []->s.heap.objs.size<=c:=λx c e=>CI hC (Nat.le_of_succ_le (ok.empty x c e).2)
 have hasB:∀x,(x,NameKind.free)∈scope.names\/(x,NameKind.cell)∈scope.names->∃c,(D2 X.env scope C).lookup x=some c:=λx hx=>by
  show ∃c,(cellsFrom (C+1) scope.names []++z0 X.env scope.names []).lookup x=some c
  rw[FU]
  cases q:(cellsFrom (C+1) scope.names []).lookup x with
  |some d=>exact⟨d,rfl⟩
  |none =>
   rcases hx with hx | hx
   ·obtain⟨c,e⟩:=z6 (env:=X.env) scope.names [] x hx
    exact⟨c,by rw[e];rfl⟩
   ·obtain⟨c,e⟩:=nh (n:=C+1) (S.uniq _ hx)
    rw[q]at e;cases e
 have hlt:∀b∈fp,b<s.heap.objs.size:=λb hb=>let ⟨o,e⟩:=hfp b hb;AJ e
 have hrel:relabel scope X.env=relabel scope {scope:=X.env.scope,locals:=0,globals:=0,cells:=[]}:=B9 _ _ _ rfl
 have hcm:∀x c,X.env.cells.lookup x=some c->c<s.heap.objs.size:=λx c e=>let ⟨v,q⟩:=I.cell x c e;q.lt
 refine⟨⟨I.ok.mod,by show(relabel scope X.env).kind=_;unfold relabel;exact S.kind,I.ok.glob,I.ok.blt,hC,λx y c e1 e2=>?_,λx hx=>?_,λx c hfn e=>?_,I.ok.hd,I.ok.frames,.inl rfl,
  λb hb=>⟨AR (AS (hlt b hb) hC),λx c e=>(sub x c e).elim (λq=>CJ (AS (hlt b hb) (up x c q))) λq=>(hf b hb).2.2.2.2.1 x c q⟩,I.bs,CI I.ok.bsz I.sz,λb o e hb=>?_,λb hb hb2=>?_,I.stack,I.stkFree⟩,
  rfl,I.bare,Un.kept hk,⟨m,hns,λi x v e1 e2 e3=>?_⟩,λx c e=>?_,I.hok.fresh hC,λx c e=>(sub x c e).elim (λq=>I.hok.fresh (up x c q)) λq=>I.freeC x c q,λp hp=>?_,I.hok.kept hk,?_⟩
 ·rcases sub x c e1 with q1 | q1<;>rcases sub y c e2 with q2 | q2
  ·exact name_of_addr ok.apart q1 q2
  ·exact absurd (hcm y c q2) (KC.mpr (up x c q1))
  ·exact absurd (hcm x c q1) (KC.mpr (up y c q2))
  ·exact I.ok.inj x y c q1 q2
 ·have hx':(relabel scope {scope:=X.env.scope,locals:=0,globals:=0,cells:=[]}).names.lookup x=some .cell\/(relabel scope {scope:=X.env.scope,locals:=0,globals:=0,cells:=[]}).names.lookup x=some .free:=by
   rw[<-hrel];exact hx
  exact hasB x (S.fnames x hx')
 ·obtain⟨d,q⟩:=nh (n:=C+1) (show scope.names.lookup x=some .cell from beq_iff_eq.mp hfn)
  have e2:(cellsFrom (C+1) scope.names []++z0 X.env scope.names []).lookup x=some c:=e
  rw[FU,q]at e2
  cases e2
  exact up x _ (CQ q)
 ·rcases(hf b hb).2.2.2.1 with z | z
  ·exact I.ok.noex b o e z
  ·have:=AJ e
   exact absurd (AS this (CI I.ok.bsz z)) (DE _)
 ·rcases AN.mp (I.stkSub b hb2)with z | z
  ·exact(hf b hb).2.1 z
  ·exact(hf b hb).2.2.1 z
 ·-- a captured name
  have hi:i<cap.length:=by
   by_cases hi:i<cap.length
   ·exact hi
   ·unfold ik at e2
    rw[DG (by simpa using hi),DO]at e2
    split at e2<;>cases e2
  unfold ik at e2
  rw[AV (by simpa using hi),BL,AD hi]at e2
  simp![JG,BO]at e2
  obtain⟨y,q1,q2,q3⟩:=S.capt i _ (AD hi)
  have ey:y=x:=BY (q1.symm.trans e1)
  subst ey
  have e4:σ[cap[i]]? = some (some v):=by
   cases e5:σ[cap[i]]? with
   |none=>rw[e5]at e2;cases e2
   |some w=>rw[e5]at e2;simp at e2;rw[e2]
  obtain⟨m0,hn0,hl0⟩:=I.loc
  have hkind:X.env.kindOf y=some .cell\/X.env.kindOf y=some .free:=S.free y q3
  obtain⟨u,r,l⟩:=hl0 _ y v q2 e4 (by rcases hkind with z | z;exact .inr (.inl z);exact .inr (.inr z))
  refine⟨u,r,.inr ?_⟩
  rcases l with⟨z,_⟩ | ⟨_,c,ec,hc⟩
  ·rcases hkind with w | w<;>(rw[w]at z;cases z)
  ·obtain⟨c',ec'⟩:=hasB y (.inl q3)
   have:c'=c:=by
    rcases sub y c' ec' with z | z
    ·have:=S.uniq _ (ie _ _ _ _ z)
     rw[S.uniq (y,NameKind.free) q3]at this;cases this
    ·rw[ec]at z;cases z;rfl
   subst this
   obtain⟨o,ho,hd⟩:=hc
   refine⟨?_,c',ec',o,hk _ _ ho,hd⟩
   -- a free name is seen as a cell or as free
   have hv:(ka X scope Nb C s H fp).env.kindOf y=some .local\/(ka X scope Nb C s H fp).env.kindOf y=some .cell\/(ka X scope Nb C s H fp).env.kindOf y=some .free:=e3
   rcases hv with z | z | z
   ·exfalso
    have hl:(relabel scope X.env).names.lookup y=some .local:=z
    have mem:∀(l:List (Str×NameKind)) (y:Str),(l.map fun(n,k)=>if(k==NameKind.free&&X.env.scope.kind==.function&&X.env.kindOf n==some .cell)then(n,NameKind.cell)else(n,k)).lookup y=some .local->l.lookup y=some .local:=by
     intro l
     induction l with
     |nil=>intro y h;simp at h
     |cons a r ih =>
      obtain⟨n,k⟩:=a
      intro y h
      simp![AO]at h
      rw[EH]
      by_cases hc:(k==NameKind.free&&X.env.scope.kind==.function&&X.env.kindOf n==some .cell)=true
      ·rw[if_pos hc,EH]at h
       cases hy:y==n with
       |true=>rw[hy]at h;cases h
       |false=>rw[hy]at h;exact ih y h
      ·rw[if_neg hc,EH]at h
       cases hy:y==n with
       |true=>rw[hy]at h;exact h
       |false=>rw[hy]at h;exact ih y h
    have hloc:=mem scope.names y hl
    rw[S.uniq (y,NameKind.free) q3]at hloc
    cases hloc
   ·exact .inl z
   ·exact .inr z
 ·rcases sub x c e with q | q
  ·exact⟨_,(ok.empty x c q).1⟩
  ·obtain⟨v,o,ho,hd⟩:=I.cell x c q
   exact⟨v,o,hk _ _ ho,hd⟩
 ·have e:p=(D,{cls:=.type "list",data:=.seq #[] n0}):=by
   have:p∈([]:List (Addr×Obj))++[(D,{cls:=.type "list",data:=.seq #[] n0})]:=hp
   simpa using this
  subst e
  refine⟨hDo,I.hok.fresh hD,hDC,λz=>?_,λv z=>by cases z⟩
  have z':D∈frs X.stack:=z
  rcases AN.mp (I.stkSub D z')with w | w
  ·exact absurd (AS I.lt hD) (by rw[w];exact DE _)
  ·exact I.nofs hD w
 ·show(ik cap nl σ).length=Nb.length
  rw[S.len];simp[ik]
end
noncomputable abbrev yf(ifs:List Expr)(env:Env)(b:Bool):Sem Bool:=forIn ifs b λc r=>if r=true then do let ok <-isTrue c env (eval c env);pure (ForInStep.yield ok)else pure (ForInStep.yield r)
noncomputable def PTs(X:Cx)(ifs:List Expr)(t:TT):Prop :=
 ∀(pins:List (Addr×Obj)) (s:Shared) (σ:St) (H:Hp) (Q:Bool->Hp->Prop),Inv X pins σ H s->t σ H Q->wpAny (model X.prog X.w) X.A (yf ifs X.env true) (TP X pins σ Q) X.xe s
theorem oa{M:Model}{A:Around}{E:Value->Shared->Prop}{env:Env}{Q:Bool->Shared->Prop}:∀(ifs:List Expr) {s:Shared},Q false s->wpAny M A (yf ifs env false) Q E s
 | [],s,h=>AC h
 |c::r,s,h=>by
  show wpAny M A (forIn (c::r) false _) Q E s
  rw[FO]
  exact AA (AC (oa r h))
noncomputable def tTsNil:TT:=λ_ H Q=>Q true H
noncomputable def Nk(t u:TT):TT:=λσ H Q=>t σ H λb H1=>if b=true then u σ H1 Q else Q false H1
theorem Nl{X:Cx}:PTs X [] tTsNil:=λpins s σ H Q I h=>AC ⟨H,I,h⟩
theorem Hz{X:Cx}{c:Expr}{r:List Expr}{t u:TT}(h1:PT X c t)(h2:PTs X r u):PTs X (c::r) (Nk t u):=λpins s σ H Q I h=>by
 show wpAny _ _ (forIn (c::r) true _) _ _ s
 rw[FO]
 refine AA (AA (thn (h1 pins s σ H _ I h) λb s1 ⟨H1,I1,q1⟩=>AC ?_))
 cases b with
 |true=>exact h2 pins s1 σ H1 Q I1 q1
 |false=>exact oa r ⟨H1,I1,q1⟩
noncomputable def Kept(σ σ':St):Prop:=σ.length=σ'.length/\∀(i:Nat) v,σ[i]? = some (some v)->σ'[i]? = some (some v)
noncomputable def Nm(wi:TI)(g:TG)(ts:TT)(te:TE)(σb:St->St):TE:=λσ H Q=>wi σ H λJ H1=>∃W:Nat->Nat->Hp->List V->Prop,(∃m,W 0 m H1 [])/\∀i m H acc,W i m H acc ->
 (J.stop i H/\acc.length<=sizeLine/\∀p,H p=none->Q (.ref p) (upd H p (.lst acc))) \/
 (J.go i H/\acc.length<sizeLine/\∀x H',J.yld i H x H'->g x (σb σ) H' λσ2 H2=>Kept (σb σ) σ2/\ts σ2 H2 λb H3=>if b=true then te σ2 H3 λv H4=>∃m',m'<m/\W (i+1) m' H4 (acc++[v])else ∃m',m'<m/\W (i+1) m' H3 acc)
section
variable{X:Cx}{scope:Scope}{Nb:List Str}{cap:List Nat}{nl:Nat}
theorem _root_.L2.HOk.track{P:Program}{w:World}{H:Hp}{h:Heap}{p:Addr}{o:HO}(x:HOk P w H h)(hp:H p=none)(new:gj P w (upd H p o) h p o):HOk P w (upd H p o) h:=λb u e=>by
 by_cases hb:b=p
 ·subst hb;rw[ax]at e;cases e;exact new
 ·rw[ao hb]at e
  exact(x b u e).stay (λc v _ q=>q) (λc q=>by rw[ao (bh q hp)];exact q) λc xs q=>by rw[ao (bh q hp)];exact q
theorem D5 {prog:Program} {w:World} {A:Around} {R:Result->Shared->Prop} {s:Shared} {elt target iter:Expr} {ifs:List Expr} {pos:Pos} {it acc:Value} {env:Env} (I:Nat->Shared->Prop)
  (turn:∀n s,I n s->wpAny (model prog w) A (pyNext it) (λr s₁=>match r with
   |none=>R (.ok .next) s₁
   |some v=>wpAny (model prog w) A (letOwnedTupleGo target it v) (λ_ s₀=>wpAny (model prog w) A (assign target env v) (λ_ s₂ =>
     wpAny (model prog w) A (yf ifs env true) (λok s₃ =>
      if ok=true then wpAny (model prog w) A (eval elt env) (λx s₄ =>
       wpAny (model prog w) A (call (.builtin "list.append") [acc,x]) (λ_ s₅=>∃m,m<n/\I m s₅) (λ_ _=>False) s₄) (λ_ _=>False) s₃
      else ∃m,m<n/\I m s₃) (λ_ _=>False) s₂) (λ_ _=>False) s₀) (λ_ _=>False) s₁) (λ_ _=>False) s)
  (n:Nat) (h:I n s) :
  codeAny (model prog w) A (.compLoop (.ListComp elt [⟨target,iter,ifs,0⟩] scope pos) 0 it acc env) R s:=by
 refine codeAny_loop rfl I (λn s hI=>?_) n h
 show wpAny _ A ((compTurn (.ListComp elt [⟨target,iter,ifs,0⟩] scope pos) 0 it acc env).onRaise (λx=>do noteFrame x env;theTreesLotGoes x)) _ _ s
 refine wpAny_noted ?_
 rw[compTurn_list]
 have no:∀{α:Type} {t:Sem α} {Q:α->Shared->Prop} {E:Value->Shared->Prop} {s:Shared},wpAny (model prog w) A t Q (λ_ _=>False) s->wpAny (model prog w) A t Q E s:=λh=>DV h (λ_ _ q=>q) λ_ _ q=>q.elim
 refine AA (wpAny_standAt (AA (DV (turn n s hI) (λr s₁ h₁=>?_) λ_ _ h'=>h'.elim)))
 cases r with
 |none=>exact AC h₁
 |some v =>
  refine AA (DV h₁ (λ_ s₀ h₀=>?_) λ_ _ h'=>h'.elim)
  refine AA (DV h₀ (λ_ s₂ h₂=>AA (DV h₂ (λok s₃ h₃=>?_) λ_ _ h'=>h'.elim)) λ_ _ h'=>h'.elim)
  cases ok with
  |false=>exact AC ⟨rfl,h₃⟩
  |true =>
   exact AA (AA (DV h₃ (λx s₄ h₄=>AA (DV h₄ (λ_ s₅ h₅=>AC (AC ⟨rfl,h₅⟩)) λ_ _ h'=>h'.elim)) λ_ _ h'=>h'.elim))
noncomputable def yg(X:Cx)(scope:Scope)(Nb:List Str)(target:Expr)(ifs:List Expr)(elt:Expr)(g:TG)(ts:TT)(te:TE):Prop :=
 ∀C s H fp,PG (ka X scope Nb C s H fp) target g/\PTs (ka X scope Nb C s H fp) ifs ts/\PE (ka X scope Nb C s H fp) elt te
theorem qm {elt target iter:Expr} {ifs:List Expr} {pos:Pos} {g:TG} {ts:TT} {te:TE} {pins:List (Addr×Obj)} {σ:St} {H:Hp} {s:Shared} {it:Addr} {fp:List Addr} {tn:Nat->Heap->Prop} {J:L2.It} {Q:VK} {E:Value->Shared->Prop} {use:Option (Value->Sem Unit)} {QQ:Value->Shared->Prop}
  (S:CompScope X.env.scope scope X.N Nb cap nl) (hc:X.calm=true) (B:yg X scope Nb target ifs elt g ts te) (I:Inv X pins σ H s) (T:Turn X.prog X.w X.K target J fp it tn) (t0:tn 0 s.heap) (hf:∀b∈fp,C4 X pins H b)
  (h:∃W:Nat->Nat->Hp->List V->Prop,(∃m,W 0 m H [])/\∀i m H acc,W i m H acc ->
   (J.stop i H/\acc.length<=sizeLine/\∀p,H p=none->Q (.ref p) (upd H p (.lst acc))) \/
   (J.go i H/\acc.length<sizeLine/\∀x H',J.yld i H x H'->g x (ik cap nl σ) H' λσ2 H2=>Kept (ik cap nl σ) σ2/\ts σ2 H2 λb H3=>if b=true then te σ2 H3 λv H4=>∃m',m'<m/\W (i+1) m' H4 (acc++[v])else ∃m',m'<m/\W (i+1) m' H3 acc))
  (hQ:∀(D C:Addr) (s':Shared) m,s.heap.objs.size<=C->(∀h',Heap.SameBut C s'.heap h'->EP X pins σ (λv H=>H C=none/\Q v H) (.ref D) {s' with heap:=h'})->s'.heap.Ns C m->compPost (model X.prog X.w) X.A E use QQ (.ref D) C (.ok .next) s') :
  wpAny (model X.prog X.w) X.A (newList []) (λacc s₃=>wpAny (model X.prog X.w) X.A (newFunctionEnv scope X.env.globals (z0 X.env scope.names []) [] X.env.qual none .none (some X.env)) (λcenv s₄ =>
   codeAny (model X.prog X.w) X.A (.compStart (.ListComp elt [⟨target,iter,ifs,0⟩] scope pos) 0 (.ref it) acc {cenv with scope:=relabel scope X.env}) (compPost (model X.prog X.w) X.A E use QQ acc cenv.locals) s₄) E s₃) E s:=by
 refine BN (D3 λh₁ hns₁ hsb₁ cok=>?_)
 dsimp only at hns₁ hsb₁ cok ⊢
 generalize hH2:s.heap.push {cls:=.type "list",dict:=none,data:=.seq ([]:List Value).toArray}=H2 at hns₁ hsb₁ cok ⊢
 have hC:H2.objs.size=s.heap.objs.size+1:=by rw[<-hH2,CM]
 have hDC:s.heap.objs.size≠H2.objs.size:=by rw[hC];exact AR (GR _)
 have hCle:s.heap.objs.size<=H2.objs.size:=by rw[hC];exact FY _
 have old:∀b o,s.heap.get? b=some o->h₁.get? b=some o:=λb o e=>hsb₁ b o (hH2 ▸ AB _ e)
 have hDo:h₁.get? s.heap.objs.size=some {cls:=.type "list",data:=.seq #[]}:=hsb₁ _ _ (hH2 ▸ AI _ rfl)
 have own:∀x c,(x,c)∈cellsFrom (H2.objs.size+1) scope.names []->H2.objs.size<c:=λx c q=>(cok.empty x c q).2
 have hfp:∀b∈fp,∃o,s.heap.get? b=some o:=λb hb=>let ⟨o,e,_⟩:=T.obj 0 _ t0 b hb;⟨o,e⟩
 have hlt:∀b∈fp,b<s.heap.objs.size:=λb hb=>let ⟨o,e⟩:=hfp b hb;AJ e
 obtain⟨W,⟨m0,w0⟩,turn⟩:=h
 obtain⟨BG,BT,BE⟩:=B H2.objs.size s H fp
 have I4:=D4 (tk:=s.toks) I S hf hfp old hCle (AH _) hDC hns₁ hDo cok
 have hcells:∀n,(n,NameKind.free)∈scope.names->∃c,X.env.cells.lookup n=some c:=λn hn=>by
  rcases S.free n hn with e | e
  ·exact I.ok.has n (.inl e)
  ·exact I.ok.has n (.inr e)
 -- what the iterator's objects are to the block
 have stat:∀{H':Hp},(∀b∈fp,H' b=none)->∀b∈fp,C4 (ka X scope Nb H2.objs.size s H fp) [] H' b:=λhn b hb=>by
  refine⟨hn b hb,AR (AS (hlt b hb) hCle),λz=>?_,.inl hb,λx c e=>?_,λp hp=>absurd (show p∈([]:List (Addr×Obj))++[]from hp) (by simp)⟩
  ·rcases AN.mp (I.stkSub b z)with z | z
   ·exact(hf b hb).2.1 z
   ·exact(hf b hb).2.2.1 z
  ·rcases ye hcells e with q | q
   ·exact CJ (Nat.lt_trans (AS (hlt b hb) hCle) (own x c q))
   ·exact(hf b hb).2.2.2.2.1 x c q
 have loop:∀s₃:Shared,s₃={s with heap:=h₁} ->
   codeAny (model X.prog X.w) X.A (.compLoop (.ListComp elt [⟨target,iter,ifs,0⟩] scope pos) 0 (.ref it) (.ref s.heap.objs.size) (compEnvC scope (D2 X.env scope H2.objs.size) H2.objs.size X.env))
    (compPost (model X.prog X.w) X.A E use QQ (.ref s.heap.objs.size) H2.objs.size) s₃:=by
  rintro s₃ rfl
  refine D5 (λn s'=>∃i H' acc its n',Inv (ka X scope Nb H2.objs.size s H fp) [] (ik cap nl σ) H' s'/\tn i s'.heap/\(∀b∈fp,H' b=none)/\H' s.heap.objs.size=none /\
   s'.heap.get? s.heap.objs.size=some {cls:=.type "list",data:=.seq (its:List Value).toArray n'}/\bo acc its/\W i n H' acc) ?_ m0
   ⟨0,H,[],[],_,I4.pins_of (λp hp=>absurd hp (by simp)),T.keep _ _ _ t0 λb hb o e=>old b o e,λb hb=>(hf b hb).1,I.hok.fresh (AH _),hDo,.nil,w0⟩
  rintro n s5 ⟨i,H5,acc,its,n5,I5,t5,f5,hD5,hget5,hv5,w5⟩
  rcases turn i n H5 acc w5 with⟨stop,hz,q⟩ | ⟨go,hz,q⟩
  ·refine thn (T.done (ka X scope Nb H2.objs.size s H fp) rfl rfl rfl hc i [(s.heap.objs.size,{cls:=.type "list",data:=.seq its.toArray n5})] s5 _ H5 _ (I5.pins_of ?_) ?_ t5 stop) λr s6 ⟨hr,I6⟩=>?_
   ·intro p hp
    have e:p=(s.heap.objs.size,{cls:=.type "list",data:=.seq its.toArray n5}):=by simpa using hp
    subst e
    refine⟨hget5,hD5,hDC,λz=>?_,λv z=>by cases z⟩
    rcases AN.mp (I.stkSub _ (show s.heap.objs.size∈frs X.stack from z))with w | w
    ·exact absurd I.lt (by rw[<-w];exact DE _)
    ·exact I.nofs (AH _) w
   ·intro b hb
    obtain⟨a1,a2,a3,a4,a5,a6⟩:=stat f5 b hb
    refine⟨a1,a2,a3,a4,a5,λp hp=>?_⟩
    have e:p=(s.heap.objs.size,{cls:=.type "list",data:=.seq its.toArray n5}):=by
     have:p∈([]:List (Addr×Obj))++[(s.heap.objs.size,{cls:=.type "list",data:=.seq its.toArray n5})]:=hp
     simpa using this
    subst e
    exact λz=>absurd (hlt b hb) (by rw[<-z];exact DE _)
   ·subst hr
    have hget6:=(I6.pin (s.heap.objs.size,{cls:=.type "list",data:=.seq its.toArray n5}) (by show _∈([]:List (Addr×Obj))++_;simp)).1
    obtain⟨m6,hn6,_⟩:=I6.loc
    refine hQ _ _ s6 m6 hCle (λh' hs'=>?_) hn6
    have hk6:∀b o,b≠H2.objs.size->s6.heap.get? b=some o->h'.get? b=some o:=λb o hb e=>hs'.extBut b o hb e
    have hgetD:=hk6 _ _ hDC hget6
    have Cn:H5 H2.objs.size=none:=I6.free
    have hok':HOk X.prog X.w H5 h':=λb u e=>by
     refine(I6.hok b u e).stay (λc v hcc q=>hk6 c v ?_ q) (λ_ q=>q) λ_ _ q=>q
     rcases hcc with z | z
     ·rintro rfl;rw[<-z]at e;rw[Cn]at e;cases e
     ·rintro rfl;rw[Cn]at z;cases z
    refine⟨.ref s.heap.objs.size,upd H5 s.heap.objs.size (.lst acc),?_,rfl,by rw[ao (Ne.symm hDC)];exact Cn,q _ hD5⟩
    have hU:Un (frs X.stack) fp H H5 s.heap s6.heap:=I6.base
    have nC:∀b o,s.heap.get? b=some o->b≠H2.objs.size:=λb o e=>AR (AS (AJ e) hCle)
    have nD:∀b o,s.heap.get? b=some o->b≠s.heap.objs.size:=λb o e=>AR (AJ e)
    refine I.call' (s':={s6 with heap:=h'}) (ch:=fp) (by show s6.os=s.os;exact I6.os) ⟨λb o e nn hb hx=>hk6 b o (nC b o e) (hU.keep b o e nn hb hx),λb o e nn hb hx=>?_,λb o e nn hx=>?_,λb o e hx=>?_,λb xs e=>?_,λb o u e=>?_,λb ps e=>?_⟩ ?_ I6.bare ?_
    ·obtain⟨sl,e2⟩:=hU.slot b o e nn hb hx
     exact⟨sl,hk6 b _ (nC b o e) e2⟩
    ·rw[ao (nD b o e)];exact hU.free b o e nn hx
    ·obtain⟨o',e2⟩:=hU.there b o e hx
     exact⟨o',hk6 b _ (nC b o e) e2⟩
    ·have e2:=hU.tups b xs e
     rw[ao (bh e2 hD5)];exact e2
    ·have e2:=hU.frzs b o u e
     rw[ao (bh e2 hD5)];exact e2
    ·obtain⟨more,e2⟩:=hU.tbls b ps e
     exact⟨more,by rw[ao (bh e2 hD5)];exact e2⟩
    ·exact L2.HOk.track hok' hD5 ⟨hz,its,n5,hv5,hgetD⟩
    ·intro b hb
     obtain⟨a1,a2,a3,a4,a5,a6⟩:=hf b hb
     exact⟨a4,a2,a5,a6⟩
  ·-- one more turn
   have notfs:s.heap.objs.size∉frs X.stack:=λz=>by
    rcases AN.mp (I.stkSub _ z)with w | w
    ·exact absurd I.lt (by rw[<-w];exact DE _)
    ·exact I.nofs (AH _) w
   have I5':Inv (ka X scope Nb H2.objs.size s H fp) [(s.heap.objs.size,{cls:=.type "list",data:=.seq its.toArray n5})] (ik cap nl σ) H5 s5:=I5.pins_of λp hp=>by
    have e:p=(s.heap.objs.size,{cls:=.type "list",data:=.seq its.toArray n5}):=by simpa using hp
    subst e
    exact⟨hget5,hD5,hDC,notfs,λv z=>by cases z⟩
   have stat':∀{H':Hp},(∀b∈fp,H' b=none)->∀b∈fp,C4 (ka X scope Nb H2.objs.size s H fp) [(s.heap.objs.size,{cls:=.type "list",data:=.seq its.toArray n5})] H' b:=λhn b hb=>by
    obtain⟨a1,a2,a3,a4,a5,a6⟩:=stat hn b hb
    refine⟨a1,a2,a3,a4,a5,λp hp=>?_⟩
    have e:p=(s.heap.objs.size,{cls:=.type "list",data:=.seq its.toArray n5}):=by
     have:p∈([]:List (Addr×Obj))++[(s.heap.objs.size,{cls:=.type "list",data:=.seq its.toArray n5})]:=hp
     simpa using this
    subst e
    exact λz=>absurd (hlt b hb) (by rw[<-z];exact DE _)
   refine thn (T.item (ka X scope Nb H2.objs.size s H fp) rfl rfl rfl hc i _ s5 _ H5 (λ_ _=>False) I5' (stat' f5) t5 go) λr s6 ⟨u,hr,h6⟩=>?_
   subst hr
   refine thn h6 λ_ s7 ⟨x,H7,I7,r7,y7,t7,f7⟩=>?_
   have I7':=I7.pinned (stat' f7) (T.obj _ _ t7)
   have back:∀{σ':St} {H':Hp} {s':Shared},Inv (ka X scope Nb H2.objs.size s H fp) ([(s.heap.objs.size,{cls:=.type "list",data:=.seq its.toArray n5})]++ur fp s7.heap) σ' H' s' ->
     tn (i+1) s'.heap/\(∀b∈fp,H' b=none)/\H' s.heap.objs.size=none/\s'.heap.get? s.heap.objs.size=some {cls:=.type "list",data:=.seq its.toArray n5}:=λ{σ' H' s'} J'=>by
    have pD:=J'.pin (s.heap.objs.size,{cls:=.type "list",data:=.seq its.toArray n5}) (by show _∈([]:List (Addr×Obj))++_;simp)
    refine⟨T.keep _ _ _ t7 λb hb o e=>(J'.pin (b,o) (BP _ (BP _ (jt hb e)))).1,λb hb=>?_,pD.2.1,pD.1⟩
    obtain⟨o,e,d⟩:=T.obj _ _ t7 b hb
    exact(J'.pin (b,o) (BP _ (BP _ (jt hb e)))).2.1
   refine thn (BG _ s7 _ H7 x u _ I7' r7 (q x H7 y7)) λ_ s8 ⟨σ8,H8,I8,ks,q8⟩=>?_
   refine thn (BT _ s8 σ8 H8 _ I8 q8) λok s9 ⟨H9,I9,q9⟩=>?_
   cases ok with
   |false =>
    obtain⟨m',hm',w9⟩:∃m',m'<n/\W (i+1) m' H9 acc:=q9
    obtain⟨b1,b2,b3,b4⟩:=back I9
    exact⟨m',hm',i+1,H9,acc,its,n5,(I9.weak ks.1 ks.2).pins_of (λp hp=>absurd hp (by simp)),b1,b2,b3,b4,hv5,w9⟩
   |true =>
    refine thn (BE _ s9 σ8 H9 _ I9 q9) λxv s10 ⟨v,H10,I10,r10,m',hm',w10⟩=>?_
    obtain⟨b1,b2,b3,b4⟩:=back I10
    have hl5:=hv5.length
    refine wpAny_list_append_plain (items:=its.toArray) ⟨n5,b4⟩ (λh' hpl hs'=>?_) (by rw[AE,<-hl5];exact DZ hz)
    obtain⟨n6,hg6⟩:=hpl
    have I11:Inv (ka X scope Nb H2.objs.size s H fp) [] (ik cap nl σ) H10 {s10 with heap:=h'}:=by
     have I10':=(I10.weak ks.1 ks.2).pins_of (pins':=[]) (λp hp=>absurd hp (by simp))
     refine I10'.turned (t':=s10.toks) (it:=s.heap.objs.size) (λb o hb e=>hs'.extBut b o hb e) b3 hDC (.inr (AH _)) (λx c e=>?_) (λp hp=>absurd (show p∈([]:List (Addr×Obj))++[]from hp) (by simp))
     rcases ye hcells e with q | q
     ·exact CJ (Nat.lt_of_le_of_lt hCle (own x c q))
     ·obtain⟨v,hcc⟩:=I.cell x c q
      exact AR hcc.lt
    refine⟨m',hm',i+1,H10,acc++[v],its++[xv],n6,I11,?_,b2,b3,by rw[hg6];simp,hv5.append (.cons r10 .nil),w10⟩
    exact T.keep _ _ _ b1 λb hb o e=>hs'.extBut b o (AR (hlt b hb)) e
 exact codeAny_compStart_list (loop _ rfl) (T.self X.A 0 _ _ _ (T.keep _ _ _ t0 λb hb o e=>old b o e) (loop _ rfl))
theorem Nn {elt target iter:Expr} {ifs:List Expr} {pos:Pos} {wi:TI} {g:TG} {ts:TT} {te:TE} (S:CompScope X.env.scope scope X.N Nb cap nl) (hc:X.calm=true) (hi:PI X target iter wi) (B:yg X scope Nb target ifs elt g ts te)
  (hs:∀x,foldedSetIterable iter X.env x=pure x):PE X (.ListComp elt [⟨target,iter,ifs,0⟩] scope pos) (Nm wi g ts te (ik cap nl)):=by
 intro pins s σ H Q I h
 rw[eval_ListComp]
 have hcells:∀n,(n,NameKind.free)∈scope.names->∃c,X.env.cells.lookup n=some c:=λn hn=>by
  rcases S.free n hn with e | e
  ·exact I.ok.has n (.inl e)
  ·exact I.ok.has n (.inr e)
 refine wpAny_comprehension_free (use:=none) rfl hs (qk hcells) S.kind (λy hy hl=>by rw[S.uniq y hy,hl]) ?_
 refine thn (hi pins s σ H _ I h) λv s1 h1=>thn h1 λitv s2 ⟨it,fp,tn,J,H2,e,I2,T,t2,f2,hW⟩=>?_
 subst e
 exact qm (Q:=Q) (QQ:=EP X pins σ Q) S hc B I2 T t2 f2 hW λD C s' m _ hq hn=>⟨m,hn,λh' hs'=>let ⟨v,H',I',r,q⟩:=hq h' hs';⟨v,H',I',r,q.2⟩⟩
theorem Ca {elt target iter:Expr} {ifs:List Expr} {pos spos py:Pos} {y:Str} {i:Nat} {wi:TI} {g:TG} {ts:TT} {te:TE} (S:CompScope X.env.scope scope X.N Nb cap nl) (hc:X.calm=true) (hi:PI X target iter wi) (B:yg X scope Nb target ifs elt g ts te)
  (hs:∀x,foldedSetIterable iter X.env x=pure x) (hsw:swapsWith (.ListComp elt [⟨target,iter,ifs,0⟩] scope pos) (some (.Name y py)) spos.line X.env=pure true)
  (hN:X.N.Nodup) (hiN:X.N[i]? = some y) (hy:X.env.scope.names.lookup y=some .local) :
  PS X (.Assign [.Name y py] (.ListComp elt [⟨target,iter,ifs,0⟩] scope pos) spos) (λE σ H=>Nm wi g ts te (ik cap nl) σ H (FQ λv H1=>E.nx (σ.set i (some v)) H1)):=by
 intro pins s σ H E I h
 rw[exec_Assign_Name_used _ _ _ _ hsw]
 have hcells:∀n,(n,NameKind.free)∈scope.names->∃c,X.env.cells.lookup n=some c:=λn hn=>by
  rcases S.free n hn with e | e
  ·exact I.ok.has n (.inl e)
  ·exact I.ok.has n (.inr e)
 refine AA (wpAny_standAt (AA ?_))
 show wpAny _ _ (comprehension _ scope X.env _ (newList []) false (eval iter X.env) (some (assign (.Name y py) X.env))>>=λ_=>pure ()) _ _ _
 refine AA (wpAny_comprehension_free (use:=some (assign (.Name y py) X.env)) rfl hs (qk hcells) S.kind (λz hz hl=>by rw[S.uniq z hz,hl]) ?_)
 refine thn (hi pins s σ H _ I h) λv s1 h1=>thn h1 λitv s2 ⟨it,fp,tn,J,H2,e,I2,T,t2,f2,hW⟩=>?_
 subst e
 refine qm (Q:=FQ λv H1=>E.nx (σ.set i (some v)) H1) S hc B I2 T t2 f2 hW λD C s' m hC hq hn=>?_
 obtain⟨v,H',I',r,hCn,q⟩:=hq s'.heap (.refl ..)
 have hep:∃H',Inv X pins σ H' s'/\H' C=none/\E.nx (σ.set i (some v)) H':=by
  rcases q with q | ⟨p,xs,rfl,e,q⟩
  ·exact⟨H',I',hCn,q⟩
  ·obtain⟨o,I''⟩:=L2.Inv.freeze I' e
   exact⟨_,I'',by rw[ao (λz=>by rw[z,e]at hCn;cases hCn)];exact hCn,q o⟩
 obtain⟨H',I',hCn,q⟩:=hep
 have hCL:C≠X.env.locals:=CJ (AS I2.lt hC)
 show wpAny _ _ (assign (.Name y py) X.env (.ref D)) _ _ s'
 refine wpAny_assign_Name (uq I' hN hiN (.inl hy) r (λs'' I'' ⟨a,hsb,ha⟩=>?_) (.inr hy))
 have haC:C≠a:=by
  rcases ha with z | z
  ·rw[z];exact hCL
  ·obtain⟨w,hc⟩:=I2.cell y a z
   exact CJ (AS hc.lt hC)
 refine⟨m,hn.sameBut hsb haC,λh' hs'=>?_⟩
 refine AC (AC ⟨_,H',?_,q⟩)
 refine I''.turned (t':=s''.toks) (it:=C) (λb o hb e=>hs'.extBut b o hb e) hCn hCL (.inr (CI I2.sz hC)) (λx c e=>?_) (λp hp=>?_)
 ·obtain⟨w,hc⟩:=I2.cell x c e
  exact AR (AS hc.lt hC)
 ·exact AR (AS (AJ (I2.pin p hp).1) hC)
end
noncomputable def tTs(K:PySem.W.Frag)(φ:Phi)(x:Exs):TT:=λσv H Q=>∃ι σ μ,Sim K ι H μ/\l0 K ι H σ σv/\ft K RB ι H (B8 φ x σ μ) Q
section
variable{X:Cx}{φ:Phi}{scope:Scope}{Nb:List Str}{cap:List Nat}{nl:Nat}
theorem PTs.imp{ifs:List Expr}{t t':TT}(h:PTs X ifs t)(i:∀σ H Q,t' σ H Q->t σ H Q):PTs X ifs t':=λpins s σ H Q I q=>h pins s σ H Q I (i σ H Q q)
theorem Q3:PTs X [] (tTs X.K φ .nil):=PTs.imp Nl λσv H Q ⟨ι,σ,μ,hS,hL,h⟩=>by
 simp![B8]at h
 exact h.ok hS rfl
theorem Np{c:Expr}{r:List Expr}{xc:Ex}{xr:Exs}(h1:PT X c (tT X.K φ xc))(h2:PTs X r (tTs X.K φ xr)):PTs X (c::r) (tTs X.K φ (.cons xc xr)):=PTs.imp (Hz h1 h2) λσv H Q ⟨ι,σ,μ,hS,hL,h⟩=>by
 simp![B8]at h
 obtain⟨d,μ1,e1,h⟩:=h.bind
 refine⟨ι,σ,μ,hS,hL,?_⟩
 rw[e1]
 cases d with
 |bl k =>
  intro ι1 x H1 p1 x1 s1 d1
  cases d1
  cases k with
  |true=>exact⟨ι1,σ,μ1,s1,hL.mono p1 x1,(show ft _ _ _ _ (B8 φ xr σ μ1) _ from h).mono p1 x1⟩
  |false=>exact h ι1 false H1 p1 x1 s1 rfl
 |_=>exact h.elim
theorem Ia{K:PySem.W.Frag}{ι:List Addr}{H:Hp}{σ:Sl}{σv:St}(hL:l0 K ι H σ σv):l0 K ι H (cap.map (λi=>(σ[i]?).getD none)++List.replicate nl none) (ik cap nl σv):=λj d e=>by
 by_cases hj:j<cap.length
 ·rw[AV (by simpa using hj),BL,AD hj]at e
  simp![JG,BO]at e
  have e4:σ[cap[j]]? = some (some d):=by
   cases e5:σ[cap[j]]? with
   |none=>rw[e5]at e;cases e
   |some w=>rw[e5]at e;simp at e;rw[e]
  obtain⟨v,q1,q2⟩:=hL _ _ e4
  refine⟨v,?_,q2⟩
  unfold ik
  rw[AV (by simpa using hj),BL,AD hj]
  simp[q1]
 ·rw[DG (by simpa using hj),DO]at e
  split at e<;>cases e
theorem Ib{σv σv':St}{tg:Tg}(hs:∀j∈slots tg,cap.length<=j)(hl:σv'.length=(ik cap nl σv).length)(h:∀j,j∉slots tg->σv'[j]? = (ik cap nl σv)[j]?):Kept (ik cap nl σv) σv':=by
 refine⟨hl.symm,λi v e=>?_⟩
 have hi:i<cap.length:=by
  by_cases hi:i<cap.length
  ·exact hi
  ·unfold ik at e
   rw[DG (by simpa using hi),DO]at e
   split at e<;>cases e
 rw[h i λz=>absurd (hs i z) (by lia)]
 exact e
theorem vf{m:Mk}{tg:Tg}{it:It}{cs:Exs}{elt:Ex}{σv:St}{H:Hp}{Q:VK}(hs:∀j∈slots tg,cap.length<=j)(h:tE X.K φ (.comp m cap nl tg it cs elt) σv H Q) :
  Nm (tI X.K φ it) (tG X.K tg) (tTs X.K φ cs) (tE X.K φ elt) (ik cap nl) σv H (FQ Q):=by
 obtain⟨ι,σ,μ,hS,hL,h⟩:=h
 simp![evE]at h
 obtain⟨⟨ds,g⟩,μ1,e1,h⟩:=h.bind
 refine⟨ι,σ,μ,hS,hL,?_⟩
 rw[e1]
 intro ι1 H1 J p1 x1 s1 wk
 refine⟨λi k H' acc=>k=ds.length-i/\i<=ds.length/\acc.length<=i/\∃ι' μ' ys,ι1 <+: ι'/\Ext H1 H'/\Sim X.K ι' H' μ'/\ah X.K ι' H' ys acc /\
  ft X.K (RD X.K) ι' H' ((mapR g (λd μ=>ji (gp tg d (cap.map (λi=>(σ[i]?).getD none)++List.replicate nl none)) λσ' =>
    (B8 φ cs σ' μ).bind λb μ=>if b=true then(evE φ elt σ' μ).bind λx μ=>.ok [x] μ else .ok [] μ) (ds.drop i) μ').bind λxs μ=>mkL m (ys++xs) μ) Q,
  ⟨ds.length,by simp,CU _,AH _,ι1,μ1,[],AK _,.refl _,s1,by simp[ah],?_⟩,?_⟩
 ·simpa using h.mono p1 x1
 ·rintro i k H' acc ⟨rfl,hi,hacc,ι',μ',ys,p',x',s',hys,h'⟩
  have wl:=wk.len
  by_cases hlt:i<ds.length
  ·obtain⟨d,ed⟩:∃d,ds[i]? = some d:=⟨ds[i],AD hlt⟩
   have edrop:ds.drop i=d::ds.drop (i+1):=by
    rw[HY hlt]
    rw[AD hlt]at ed
    cases ed;rfl
   rw[edrop]at h'
   simp![mapR]at h'
   split at h'
   ·rename_i hgd
    right
    refine⟨wk.go i ι' H' μ' p' x' s' hgd hlt,by lia,λv H2 hy=>?_⟩
    obtain⟨x2,s2,d',ed',hd'⟩:=wk.yld i ι' H' μ' v H2 p' x' s' hgd hlt hy
    rw[ed]at ed';cases ed'
    rw[Res.bind_assoc]at h'
    cases eb:gp tg d (cap.map (λi=>(σ[i]?).getD none)++List.replicate nl none)with
    |none=>rw[eb]at h';exact h'.elim
    |some σb =>
     rw[eb]at h'
     simp![j9]at h'
     have hLb:=Ia (cap:=cap) (nl:=nl) ((hL.mono (p1.trans p') (x1.trans x')).mono (AK _) x2)
     refine⟨ι',_,d,σb,hLb,?_,hd',eb,λσv2 l2 z2 z3 k2=>⟨Ib hs z3 k2,ι',σb,μ',s2,l2,?_⟩⟩
     ·simp[ik]
     ·rw[Res.bind_assoc]at h'
      obtain⟨b,μ2,e2,h2⟩:=h'.bind
      rw[e2]
      intro ι3 b' H3 p3 x3 s3 d3
      cases d3
      cases b with
      |false =>
       refine⟨ds.length-(i+1),by lia,rfl,hlt,by lia,ι3,μ2,ys,p'.trans p3,(x'.trans x2).trans x3,s3,ah.mono p3 (x2.trans x3) _ _ hys,?_⟩
       have h3:=h2.mono p3 (x2.trans x3)
       simpa[Res.bind_assoc]using h3
      |true =>
       simp![if_true]at h2 ⊢
       rw[Res.bind_assoc]at h2
       obtain⟨y,μ3,e3,h3⟩:=h2.bind
       refine⟨ι3,σb,μ2,s3,l2.mono p3 x3,?_⟩
       rw[e3]
       intro ι4 w H4 p4 x4 s4 d4
       refine⟨ds.length-(i+1),by lia,rfl,hlt,by simp;lia,ι4,μ3,ys++[y],(p'.trans p3).trans p4,((x'.trans x2).trans x3).trans x4,s4,(ah.mono (p3.trans p4) ((x2.trans x3).trans x4) _ _ hys).append (.one d4),?_⟩
       have h4:=h3.mono (p3.trans p4) ((x2.trans x3).trans x4)
       simpa[Res.bind_assoc]using h4
   ·exact h'.elim
  ·have ei:i=ds.length:=by lia
   subst ei
   simp![List.drop_length,mapR]at h'
   split at h'
   ·rename_i hgd
    refine .inl ⟨wk.stop ι' H' μ' p' x' s' hgd,by lia,λp hp=>i6 s' hys (by simpa using h') hp⟩
   ·exact h'.elim
theorem Q4 {e target iter:Expr} {ifs:List Expr} {pos:Pos} {m:Mk} {tg:Tg} {it:It} {cs:Exs} {elt:Ex} (S:CompScope X.env.scope scope X.N Nb cap nl) (hc:X.calm=true) (hi:PI X target iter (tI X.K φ it))
  (B:yg X scope Nb target ifs e (tG X.K tg) (tTs X.K φ cs) (tE X.K φ elt)) (hf:∀x,foldedSetIterable iter X.env x=pure x) (hs:∀j∈slots tg,cap.length<=j) :
  PE X (.ListComp e [⟨target,iter,ifs,0⟩] scope pos) (tE X.K φ (.comp m cap nl tg it cs elt)) :=
 PE.imp (PE.fq (Nn S hc hi B hf)) λσv H Q h=>vf hs h
theorem D6 {e target iter:Expr} {ifs:List Expr} {pos spos py:Pos} {y:Str} {i:Nat} {m:Mk} {tg:Tg} {it:It} {cs:Exs} {elt:Ex} (S:CompScope X.env.scope scope X.N Nb cap nl) (hc:X.calm=true) (hi:PI X target iter (tI X.K φ it))
  (B:yg X scope Nb target ifs e (tG X.K tg) (tTs X.K φ cs) (tE X.K φ elt)) (hf:∀x,foldedSetIterable iter X.env x=pure x) (hs:∀j∈slots tg,cap.length<=j)
  (hsw:swapsWith (.ListComp e [⟨target,iter,ifs,0⟩] scope pos) (some (.Name y py)) spos.line X.env=pure true) (hN:X.N.Nodup) (hiN:X.N[i]? = some y) (hy:X.env.scope.names.lookup y=some .local) :
  PS X (.Assign [.Name y py] (.ListComp e [⟨target,iter,ifs,0⟩] scope pos) spos) (tS X.K φ (.set i (.comp m cap nl tg it cs elt))) :=
 PS.imp (Ca S hc hi B hf hsw hN hiN hy) λE σv H ⟨ι,σ,μ,hS,hL,hl,h⟩=>by
  refine vf (m:=m) (Q:=λv H1=>E.nx (σv.set i (some v)) H1) hs ?_
  simp![evS]at h
  obtain⟨d,μ1,e1,h⟩:=h.bind
  refine⟨ι,σ,μ,hS,hL,?_⟩
  rw[e1]
  exact λι1 v H1 p1 x1 s1 d1=>h ι1 _ H1 p1 x1 s1 ((hL.mono p1 x1).set hl d1) (by simp[hl])
end
theorem Nq(i:Int)(h:0<=i):Builtin.bitXor i 1=if i % 2=0 then i+1 else i-1:=by
 rw[PyProof.Rows.bitXor_and,PyProof.Rows.bitAnd_m1]
 split<;>lia
section
variable{X:Cx}{φ:Phi}
theorem fz{K:PySem.W.Frag}{ι:List Addr}{H:Hp}{ds:List D}{v:V}(h:IsD K ι H (.tup ds) v):∃a xs,v=.ref a/\SqT K H a xs/\ah K ι H ds xs:=by
 simpa[IsD]using h
theorem tup_is{K:PySem.W.Frag}{ι:List Addr}{H:Hp}{ds:List D}{a:Addr}{xs:List V}(h:SqT K H a xs)(h2:ah K ι H ds xs):IsD K ι H (.tup ds) (.ref a):=by
 simp![IsD]
 exact⟨a,xs,rfl,h,h2⟩
theorem cw{K:PySem.W.Frag}{ι:List Addr}{H:Hp}{i:Int}{v:V}(h:IsD K ι H (.int i) v):v=.int i:=by simpa[IsD]using h
theorem vg{K:PySem.W.Frag}{ι:List Addr}{H:Hp}{i:Bool}{v:V}(h:IsD K ι H (.bl i) v):v=.bl i:=by simpa[IsD]using h
theorem rq{K:PySem.W.Frag}{ι:List Addr}{H:Hp}{μ:Sto}{ds:List D}{xs:List V}{Q:VK}{p:Addr}(hS:Sim K ι H μ)(hd:ah K ι H ds xs)(h:ft K (RD K) ι H (.ok (.tup ds) μ) Q)(hp:H p=none):Q (.ref p) (upd H p (.tup xs)) :=
 h ι (.ref p) _ (AK _) (.new hp) (hS.new hp) (tup_is (.of ax) (ah.mono (AK _) (.new hp) ds xs hd))
theorem D7 {pins:List (Addr×Obj)} {s:Shared} {σ:St} {H:Hp} {l b:Addr} {xs zs:List V} {Q:VK} (I:Inv X pins σ H s) (hl:LsL X.K H l xs) (hb:LsL X.K H b zs) (hz:xs.length+zs.length<=sizeLine)
  (q:∀p,H p=none->Q (.ref p) (upd H p (.lst (xs++zs)))):wpAny (model X.prog X.w) X.A (binaryOp .Add (.ref l) (.ref b)) (EP X pins σ Q) X.xe s:=by
 obtain⟨z,its,n,r,hl,e⟩:=I.ls hl
 obtain⟨z2,its2,n2,r2,hl2,e2⟩:=I.ls hb
 refine PySem.P.add_list e e2 ?_ (by rw[AE,AE];lia)
 have ea:its.toArray++its2.toArray=(its++its2).toArray:=by simp
 rw[ea]
 exact⟨.ref _,_,I.lnew (t':=s.toks) (r.append r2) (by rw[AY];lia),rfl,q _ I.fresh⟩
theorem Ic {pins:List (Addr×Obj)} {s:Shared} {σ:St} {H:Hp} {l:Addr} {k:Int} {t:Tok} {xs:List V} {Q:VK} (I:Inv X pins σ H s) (hH:LsL X.K H l xs) (h1:-(2 ^ 63)<=k) (h2:k<2 ^ 63) (hz:xs.length*k.toNat<=sizeLine)
  (q:∀p,H p=none->Q (.ref p) (upd H p (.lst (List.replicate k.toNat xs).flatten))):wpAny (model X.prog X.w) X.A (binaryOp .Mult (.ref l) (.int k t)) (EP X pins σ Q) X.xe s:=by
 obtain⟨z,its,n,r,hl,e⟩:=I.ls hH
 have hlen:its.toArray.size*k.toNat<=sizeLine:=by rw[AE,<-hl];exact hz
 have hcap:¬its.toArray.size*k.toNat > (2 ^ 63-1) / 8:=by
  have:(sizeLine:Nat)<=(2 ^ 63-1) / 8:=by decide
  lia
 have hfit:¬(!Builtin.List.listFitsIndex k)=true:=by
  rw[fitsIndex_both h1 h2]
  exact AU
 have hlong:¬Builtin.List.listTooLong (its.toArray.size*k.toNat)=true:=by
  rw[zr hlen]
  exact AU
 have hnew:List.foldl (λx1 x2=>x1++x2) #[] (List.replicate (if its.toArray.isEmpty=true then 0 else k.toNat) its.toArray)=(List.replicate k.toNat its).flatten.toArray:=by
  have f0:∀m:Nat,List.foldl (λx1 x2=>x1++x2) #[] (List.replicate m its.toArray)=(List.replicate m its).flatten.toArray:=λm=>by
   have:=foldl_rep its m []
   rw[JH]at this
   exact this
  rw[f0]
  cases its with
  |nil=>simp
  |cons a r'=>rw[if_neg (by simp)]
 refine wpAny_binaryOp_repeat_ref (T:="list") (U:="int") (by decide) ⟨_,e,rfl⟩ (λs'=>typeIs_int s' k t) noFill_list_mul F.fills_int_mul F.slot_int_rmul repeat_list F.slot_int_index.lookup
  (GP F.slot_int_rmul (typeIs_int s k t) F.entry_int_rmul (F.args_int_rmul_2 _ _) (int___rmul___int_list k t l its.toArray n)
   ⟨e,rfl,⟨_,e,rfl⟩,GP F.slot_list_mul ⟨_,e,rfl⟩ F.entry_list_mul (F.args_list_mul_2 _ _) (AutoListH.list___mul___list_int_3 l its.toArray n k t hfit hcap hlong) ⟨e,?_⟩⟩)
 rw[hnew]
 exact⟨.ref _,_,I.lnew (t':=s.toks) (r.rep k.toNat) (by rw[len_rep,Nat.mul_comm];exact hz),rfl,q _ I.fresh⟩
theorem Nr{pins:List (Addr×Obj)}{s:Shared}{σ:St}{H:Hp}{a b:Addr}{ys:List V}{Q:VK}(I:Inv X pins σ H s)(ha:SqT X.K H a [])(hb:SqT X.K H b ys)(q:Q (.ref b) H) :
  wpAny (model X.prog X.w) X.A (binaryOp .Add (.ref a) (.ref b)) (EP X pins σ Q) X.xe s:=by
 obtain⟨its,r1,p1,_⟩:=I.tuple ha
 obtain⟨its2,r2,p2,_⟩:=I.tuple hb
 have e1:its=[]:=by cases r1;rfl
 subst e1
 obtain⟨⟨cls,dd,data,sl⟩,ho,hc,n,hd⟩:=id p1
 obtain⟨⟨cls2,dd2,data2,sl2⟩,ho2,hc2,n2,hd2⟩:=id p2
 simp only at hc hd hc2 hd2
 subst hc hd hc2 hd2
 exact concat_meets ⟨_,ho,rfl⟩ ⟨_,ho2,rfl⟩ IM seq_tuple_add GA FW (FH _ _)
   (tuple_addW0 a b ([]:List Value).toArray its2.toArray n n2 dd dd2 sl sl2 (by simp)) ⟨ho,ho2,⟨.ref b,H,I,rfl,q⟩⟩
theorem Q5{op:Operator}{m:Mk}:OpR X (binaryOp op) (rOp X.K (opD op m)):=by
 intro pins s σ H x y v u Q I rx ry ⟨ι,d,e,μ,hS,hd,he,h⟩
 unfold opD at h
 split at h
 ·rename_i i j
  cases cw hd
  cases cw he
  unfold opI at h
  split at h
  ·exact op_add pins s σ H _ _ v u Q I rx ry ⟨i,j,rfl,rfl,h.ok hS (by simp[IsD])⟩
  ·exact op_sub pins s σ H _ _ v u Q I rx ry ⟨i,j,rfl,rfl,h.ok hS (by simp[IsD])⟩
  ·split at h
   ·rename_i hc
    exact op_mul pins s σ H _ _ v u Q I rx ry ⟨i,j,rfl,rfl,hc,h.ok hS (by simp[IsD])⟩
   ·exact h.elim
  ·split at h
   ·rename_i hc
    exact Mr pins s σ H _ _ v u Q I rx ry ⟨i,j,rfl,rfl,hc,h.ok hS (by simp[IsD])⟩
   ·exact h.elim
  ·split at h
   ·rename_i hc
    exact op_mod pins s σ H _ _ v u Q I rx ry ⟨i,j,rfl,rfl,hc,h.ok hS (by simp[IsD])⟩
   ·exact h.elim
  ·split at h
   ·rename_i hc
    exact op_pow pins s σ H _ _ v u Q I rx ry ⟨i,j,rfl,rfl,hc,h.ok hS (by simp[IsD])⟩
   ·exact h.elim
  ·split at h
   ·rename_i hc
    exact op_shr pins s σ H _ _ v u Q I rx ry ⟨i,j,rfl,rfl,hc,h.ok hS (by simp[IsD])⟩
   ·exact h.elim
  ·split at h
   ·rename_i hc
    exact Pp pins s σ H _ _ v u Q I rx ry ⟨i,j,rfl,rfl,hc,h.ok hS (by simp[IsD])⟩
   ·exact h.elim
  ·split at h
   ·rename_i hc
    obtain⟨h0,rfl⟩:=hc
    refine Pq pins s σ H _ _ v u Q I rx ry ⟨i,1,rfl,rfl,?_⟩
    show Q (.int (Builtin.bitXor i 1)) H
    rw[Nq i h0]
    exact h.ok hS (by simp[IsD])
   ·exact h.elim
  ·exact h.elim
 ·rename_i xs ys
  split at h
  ·split at h
   ·rename_i hz
    obtain⟨a,vs,rfl,ha,hvs⟩:=fz hd
    obtain⟨b,ws,rfl,hb,hws⟩:=fz he
    cases rx
    cases ry
    rw[fu]at hz
    by_cases hx:vs=[]
    ·subst hx
     have e1:xs=[]:=by have:=hvs.length;simpa using this.symm
     subst e1
     exact Nr I ha hb (h.ok hS he)
    ·refine My pins s σ H (.ref a) (.ref b) _ _ Q I rfl rfl ⟨a,b,vs,ws,rfl,rfl,ha,hb,hx,by rw[hvs.length,hws.length];exact hz,λz=>?_,λz p hp=>rq hS (hvs.append hws) h hp⟩
     subst z
     have e1:ys=[]:=by have:=hws.length;simpa using this.symm
     subst e1
     exact h.ok hS (by simpa using hd)
   ·exact h.elim
  ·exact h.elim
 ·rename_i j _
  cases cw he
  split at h
  ·rename_i es
   split at h
   ·rename_i hz
    obtain⟨a,xs,rfl,ha,hxs⟩:=ic hS hd es
    cases rx
    obtain⟨t,rfl⟩:=ry
    rw[fu]at hz
    exact zy (Ic I ha hz.2.1 hz.2.2 (by rw[hxs.length];exact hz.1) λp hp=>i6 hS (hxs.rep _) h hp)
   ·exact h.elim
  ·exact h.elim
 ·split at h
  ·rename_i es1 es2
   split at h
   ·rename_i hz
    obtain⟨a,xs,rfl,ha,hxs⟩:=ic hS hd es1
    obtain⟨b,ys,rfl,hb,hys⟩:=ic hS he es2
    cases rx
    cases ry
    rw[fu]at hz
    exact zy (D7 I ha hb (by rw[hxs.length,hys.length];exact hz) λp hp=>i6 hS (hxs.append hys) h hp)
   ·exact h.elim
  ·exact h.elim
end
section
variable(K:PySem.W.Frag)(H:Hp)
mutual
noncomputable def IsW:D->V->Prop
 |.non,v=>v=.non
 |.bl b,v=>v=.bl b
 |.int i,v=>v=.int i
 |.str x,v=>v=.str x
 |.tup ds,v=>∃a xs,v=.ref a/\SqT K H a xs/\jg ds xs
 |.lst ds,v=>∃a xs,v=.ref a/\LsL K H a xs/\jg ds xs
 |.loc _,_=>False
noncomputable def jg:List D->List V->Prop
 | [],xs=>xs=[]
 |d::ds,xs=>∃v r,xs=v::r/\IsW d v/\jg ds r
end
end
section
variable{K:PySem.W.Frag}{H:Hp}
theorem jg.length:∀{ds:List D} {xs:List V},jg K H ds xs->xs.length=ds.length
 | [],xs,h=>by simp![jg]at h;subst h;rfl
 |d::ds,xs,h=>by
  simp![jg]at h
  obtain⟨v,r,rfl,_,t⟩:=h
  simp[jg.length t]
theorem jg.get:∀{ds:List D} {xs:List V} {i:Nat} {d:D},jg K H ds xs->ds[i]? = some d->∃v,xs[i]? = some v/\IsW K H d v
 | [],_,_,_,_,e=>by simp at e
 |d::ds,xs,0,_,h,e=>by
  simp![jg]at h
  obtain⟨v,r,rfl,q,_⟩:=h
  simp at e;subst e
  exact⟨v,rfl,q⟩
 |d::ds,xs,i+1,x,h,e=>by
  simp![jg]at h
  obtain⟨v,r,rfl,_,t⟩:=h
  obtain⟨w,h1,h2⟩:=jg.get (i:=i) (d:=x) t (by simpa using e)
  exact⟨w,by simpa using h1,h2⟩
theorem og{ds:List D}{v:V}(h:IsW K H (.tup ds) v):∃a xs,v=.ref a/\SqT K H a xs/\jg K H ds xs:=by simpa[IsW]using h
theorem D8{ι:List Addr}{μ:Sto}(S:Sim K ι H μ)(f:D->Option D)(hf:∀d e v,f d=some e->IsD K ι H d v->IsW K H e v):∀{ds es:List D} {xs:List V},c7 (ds.map f)=some es->ah K ι H ds xs->jg K H es xs
 | [],es,xs,h,hd=>by
  simp![CC,c7,BO]at h
  subst h
  simpa[ah,jg]using hd
 |d::ds,es,xs,h,hd=>by
  simp![AO]at h
  cases e1:f d with
  |none=>rw[e1]at h;simp[c7]at h
  |some e =>
   rw[e1]at h
   simp![c7]at h
   cases e2:c7 (ds.map f)with
   |none=>rw[e2]at h;cases h
   |some r =>
    rw[e2]at h
    cases h
    simp![ah]at hd
    obtain⟨v,t,rfl,q,hd⟩:=hd
    simp![jg]
    exact⟨v,t,rfl,hf d e v e1 q,D8 S f hf e2 hd⟩
theorem vh{ι:List Addr}{μ:Sto}(S:Sim K ι H μ):∀(k:Nat) (d e:D) (v:V),a7 μ k d=some e->IsD K ι H d v->IsW K H e v
 |0,d,e,v,h,hd=>by
  cases d<;>simp_all[a7,flat,IsD,IsW]<;>(subst h;simp[IsW])
 |k+1,d,e,v,h,hd=>by
  have ih:=vh S k
  have sub:∀{ι':List Addr} {ds es:List D} {xs:List V},ι' <+: ι->c7 (ds.map (a7 μ k))=some es->ah K ι' H ds xs->jg K H es xs:=λp h hd=>D8 S _ ih h (ah.mono p (.refl _) _ _ hd)
  cases d with
  |tup ds =>
   simp![a7]at h
   cases e1:c7 (ds.map (a7 μ k))with
   |none=>rw[e1]at h;cases h
   |some es =>
    rw[e1]at h;cases h
    obtain⟨a,xs,rfl,hq,hds⟩:=fz hd
    simp![IsW]
    exact⟨a,xs,rfl,hq,sub (AK _) e1 hds⟩
  |lst ds =>
   simp![a7]at h
   cases e1:c7 (ds.map (a7 μ k))with
   |none=>rw[e1]at h;cases h
   |some es =>
    rw[e1]at h;cases h
    obtain⟨a,xs,rfl,hq,hds⟩:∃a xs,v=.ref a/\FzL K H a xs/\ah K ι H ds xs:=by simpa[IsD]using hd
    simp![IsW]
    exact⟨a,xs,rfl,.inr hq,sub (AK _) e1 hds⟩
  |loc n =>
   obtain⟨a,rfl,hn⟩:∃a,v=.ref a/\ι[n]? = some a:=by simpa[IsD]using hd
   simp![a7]at h
   cases em:μ[n]? with
   |none=>rw[em]at h;cases h
   |some o =>
    obtain⟨a',q',ho⟩:=S.at em
    rw[hn]at q';cases q'
    rw[em]at h
    cases o with
    |l ds =>
     simp only at h
     obtain⟨xs,f1,f2⟩:=ho
     cases e1:c7 (ds.map (a7 μ k))with
     |none=>rw[e1]at h;cases h
     |some es =>
      rw[e1]at h;cases h
      simp![IsW]
      exact⟨a,xs,rfl,(.inl f1),sub CH e1 f2⟩
    |r ds =>
     simp only at h
     obtain⟨xs,f1,f2⟩:=ho
     cases e1:c7 (ds.map (a7 μ k))with
     |none=>rw[e1]at h;cases h
     |some es =>
      rw[e1]at h;cases h
      simp![IsW]
      exact⟨a,xs,rfl,(.inl f1),sub (AK _) e1 f2⟩
    |_=>cases h
  |_=>simp![a7]at h;cases h;simpa[IsD,IsW]using hd
mutual
theorem IsW.ofD:∀{d:D} {v:V},IsD K [] H d v->IsW K H d v
 |.non,v,h=>by simpa[IsD,IsW]using h
 |.bl _,v,h=>by simpa[IsD,IsW]using h
 |.int _,v,h=>by simpa[IsD,IsW]using h
 |.str _,v,h=>by simpa[IsD,IsW]using h
 |.tup ds,v,h=>by
  obtain⟨a,xs,rfl,hq,hds⟩:=fz h
  simp![IsW]
  exact⟨a,xs,rfl,hq,jg.ofD hds⟩
 |.lst ds,v,h=>by
  obtain⟨a,xs,rfl,hq,hds⟩:∃a xs,v=.ref a/\FzL K H a xs/\ah K [] H ds xs:=by simpa[IsD]using h
  simp![IsW]
  exact⟨a,xs,rfl,.inr hq,jg.ofD hds⟩
 |.loc n,v,h=>by simp[IsD]at h
theorem jg.ofD:∀{ds:List D} {xs:List V},ah K [] H ds xs->jg K H ds xs
 | [],xs,h=>by simpa[ah,jg]using h
 |d::ds,xs,h=>by
  simp![ah]at h
  obtain⟨v,r,rfl,q,t⟩:=h
  simp![jg]
  exact⟨v,r,rfl,IsW.ofD q,jg.ofD t⟩
end
theorem oh{μ:Sto}{k:Nat}(ih:∀d e,a7 μ k d=some e->D.pureN k e=true):∀{ds es:List D},c7 (ds.map (a7 μ k))=some es->es.all (D.pureN k)=true
 | [],es,h=>by simp![CC,c7,BO]at h;subst h;rfl
 |d::ds,es,h=>by
  simp![AO]at h
  cases e1:a7 μ k d with
  |none=>rw[e1]at h;simp[c7]at h
  |some e =>
   rw[e1]at h
   simp![c7]at h
   cases e2:c7 (ds.map (a7 μ k))with
   |none=>rw[e2]at h;cases h
   |some r =>
    rw[e2]at h;cases h
    simp![BX,ih d e e1,oh ih e2,Bool.and_self]
theorem ip{μ:Sto}:∀(k:Nat) (d e:D),a7 μ k d=some e->D.pureN k e=true
 |0,d,e,h=>by
  cases d<;>simp_all[a7,flat]<;>(subst h;rfl)
 |k+1,d,e,h=>by
  have ih:=ip (μ:=μ) k
  have mp:∀{ds:List D} {c:List D->D},(∀es,es.all (D.pureN k)=true->D.pureN (k+1) (c es)=true)->(c7 (ds.map (a7 μ k))).map c=some e->D.pureN (k+1) e=true:=λ{ds c} hc h=>by
   cases e1:c7 (ds.map (a7 μ k))with
   |none=>rw[e1]at h;cases h
   |some es=>rw[e1]at h;cases h;exact hc es (oh ih e1)
  cases d with
  |tup ds=>simp![a7]at h;exact mp (c:=.tup) (λes h=>h) h
  |lst ds=>simp![a7]at h;exact mp (c:=.lst) (λes h=>h) h
  |loc n =>
   simp![a7]at h
   cases em:μ[n]? with
   |none=>rw[em]at h;cases h
   |some o =>
    rw[em]at h
    cases o with
    |l ds=>exact mp (c:=.lst) (λes h=>h) h
    |r ds=>exact mp (c:=.lst) (λes h=>h) h
    |_=>cases h
  |_=>simp![a7]at h;cases h;rfl
end
open PySem.SeqAt (EqAt RcAt RcNeAt)
section
variable{X:Cx}{φ:Phi}{pins:List (Addr × Obj)}{σ:St}{H:Hp}{s:Shared}
theorem in1_units(A:Around):A.in1.units=A.units+1:=by
 first | rfl | simp[Around.in1]
theorem l7:∀(as bs:List D),as.length=bs.length->Hx as bs=(List.range as.length).all λj=>deq (as.getD j .non) (bs.getD j .non)
 | [],[],_=>rfl
 |a::as,b::bs,h=>by
  rw[Hx,l7 as bs (by simpa using h),AT,GD,BX,DN]
  rfl
 | [],_::_,h=>by simp at h
 |_::_,[],h=>by simp at h
theorem r6:∀(as bs:List D),as.length≠bs.length->Hx as bs=false
 | [],[],h=>absurd rfl h
 |a::as,b::bs,h=>by rw[Hx,r6 as bs (by simpa using h),JW]
 | [],_::_,_=>rfl
 |_::_,[],_=>rfl
theorem yh:∀(k:Nat) (a b:D) (v:V),D.pureN k a=true->D.pureN k b=true->IsW X.K H a v->IsW X.K H b v->Inv X pins σ H s->deq a b=true:=by
 intro k
 have list:∀k,(∀(a b:D) (v:V),D.pureN k a=true->D.pureN k b=true->IsW X.K H a v->IsW X.K H b v->Inv X pins σ H s->deq a b=true) ->
   ∀(as bs:List D) (xs:List V),as.all (D.pureN k)=true->bs.all (D.pureN k)=true->jg X.K H as xs->jg X.K H bs xs->Inv X pins σ H s->Hx as bs=true:=by
  intro k ih as
  induction as with
  |nil =>
   intro bs xs _ _ ha hb _
   have e:xs=[]:=by simpa[jg]using ha
   subst e
   have:=hb.length
   have e2:bs=[]:=by simpa using this.symm
   subst e2
   rfl
  |cons a as iha =>
   intro bs xs pa pb ha hb I
   cases bs with
   |nil =>
    have e:xs=[]:=by simpa[jg]using hb
    subst e
    have:=ha.length
    simp at this
   |cons b bs =>
    simp![jg]at ha hb
    obtain⟨v,r,e,q,t⟩:=ha
    obtain⟨v',r',e',q',t'⟩:=hb
    rw[e]at e'
    cases e'
    simp![BX,AX]at pa pb
    rw[Hx,ih a b v pa.1 pb.1 q q' I,iha bs r pa.2 pb.2 t t' I]
    rfl
 have flat:∀(a b:D) (v:V),(∀ds,a≠.tup ds)->(∀ds,a≠.lst ds)->(∀n,a≠.loc n)->(∀n,b≠.loc n)->IsW X.K H a v->IsW X.K H b v->deq a b=true:=by
  intro a b v h1 h2 h3 h4 ha hb
  cases a with
  |tup ds=>exact absurd rfl (h1 ds)
  |lst ds=>exact absurd rfl (h2 ds)
  |loc n=>exact absurd rfl (h3 n)
  |_=>cases b<;>simp_all[IsW,deq]
 induction k with
 |zero =>
  intro a b v pa pb ha hb I
  refine flat a b v ?_ ?_ ?_ ?_ ha hb
  ·intro z e;subst e;simp[D.pureN]at pa
  ·intro z e;subst e;simp[D.pureN]at pa
  ·intro z e;subst e;simp[D.pureN]at pa
  ·intro z e;subst e;simp[D.pureN]at pb
 |succ k ih =>
  intro a b v pa pb ha hb I
  cases a with
  |loc n=>simp[D.pureN]at pa
  |tup as =>
   simp![IsW]at ha
   obtain⟨p,xs,rfl,hq,hds⟩:=ha
   cases b with
   |tup bs =>
    simp![IsW]at hb
    obtain⟨p',xs',e,hq',hds'⟩:=hb
    cases e
    have:=I.tuple_inj hq hq'
    subst this
    rw[deq]
    exact list k ih as bs xs (by simpa[D.pureN]using pa) (by simpa[D.pureN]using pb) hds hds' I
   |lst bs =>
    simp![IsW]at hb
    obtain⟨p',xs',e,hq',hds'⟩:=hb
    cases e
    exfalso
    obtain⟨its,_,⟨o,e1,c1,_⟩,_⟩:=I.tuple hq
    obtain⟨its',_,⟨o',n',e2,c2,_⟩,_⟩:=I.list hq'.sq
    rw[e1]at e2;cases e2
    rw[c1]at c2
    injection c2 with c3
    exact absurd c3 (by decide)
   |loc n=>simp[D.pureN]at pb
   |_=>simp[IsW]at hb
  |lst as =>
   simp![IsW]at ha
   obtain⟨p,xs,rfl,hq,hds⟩:=ha
   cases b with
   |lst bs =>
    simp![IsW]at hb
    obtain⟨p',xs',e,hq',hds'⟩:=hb
    cases e
    have:=I.list_inj hq.sq hq'.sq
    subst this
    rw[deq]
    exact list k ih as bs xs (by simpa[D.pureN]using pa) (by simpa[D.pureN]using pb) hds hds' I
   |tup bs =>
    simp![IsW]at hb
    obtain⟨p',xs',e,hq',hds'⟩:=hb
    cases e
    exfalso
    obtain⟨its,_,⟨o,e1,c1,_⟩,_⟩:=I.tuple hq'
    obtain⟨its',_,⟨o',n',e2,c2,_⟩,_⟩:=I.list hq.sq
    rw[e1]at e2;cases e2
    rw[c1]at c2
    injection c2 with c3
    exact absurd c3 (by decide)
   |loc n=>simp[D.pureN]at pb
   |_=>simp[IsW]at hb
  |_ =>
   refine flat _ b v (by intro _ z;cases z) (by intro _ z;cases z) (by intro _ z;cases z) ?_ ha hb
   intro z e;subst e;simp[D.pureN]at pb
theorem Ie(I:Inv X pins σ H s){k:Nat}{A:Around}{a b:D}{x y:V}{u v:Value}(pa:D.pureN k a=true)(pb:D.pureN k b=true)(ha:IsW X.K H a x)(hb:IsW X.K H b y)(ru:RelV x u)(rv:RelV y v)(h:RcAt A s u v (deq a b)):EqAt A s u v (deq a b):=by
 intro prog w E Q q
 have fl:∀b t,u≠.float b t:=λb t z=>by
  subst z
  cases a with
  |non=>cases(show x=.non by simpa[IsW]using ha);exact nomatch (show Value.float b t=.none from ru)
  |bl c=>cases(show x=.bl c by simpa[IsW]using ha);exact nomatch (show Value.float b t=.bool c from ru)
  |int c=>cases(show x=.int c by simpa[IsW]using ha);obtain⟨_,z⟩:=ru;cases z
  |str c=>cases(show x=.str c by simpa[IsW]using ha);obtain⟨_,z⟩:=ru;cases z
  |loc n=>simp[IsW]at ha
  |tup _=>obtain⟨c,_,rfl,_⟩:=og ha;exact nomatch (show Value.float b t=.ref c from ru)
  |lst ds =>
        obtain⟨c,_,rfl,_⟩:∃a xs,x=.ref a/\LsL X.K H a xs/\jg X.K H ds xs:=by simpa[IsW]using ha
        exact nomatch (show Value.float b t=.ref c from ru)
 unfold eqBool
 refine BV ?_
 by_cases e:(u==v)=true
 ·rw[if_pos e]
  have e':u=v:=by simpa using e
  subst e'
  cases ru.inj rv
  rw[yh k _ _ _ pa pb ha hb I]at q
  exact AA (FV (AC q))
 ·rw[if_neg e]
  have go:wpAny (model prog w) A (do
    let r <-richCompare .Eq u v
    truthOfDropped r) Q E s:=AA (h prog w _ _ (by exact DF q))
  cases u with
  |float b t=>exact absurd rfl (fl b t)
  |_=>exact go
theorem D9(A:Around)(a b:D)(x y:V)(u v:Value)(pa:D.pureN 0 a=true)(pb:D.pureN 0 b=true)(ha:IsW X.K H a x)(hb:IsW X.K H b y)(ru:RelV x u)(rv:RelV y v):RcAt A s u v (deq a b)/\RcNeAt A s u v (!deq a b):=by
 have b2:∀(a b:Int),decide (a=b)=(a==b):=λa b=>(EU a b).symm
 cases a with
 |tup _=>simp[D.pureN]at pa
 |lst _=>simp[D.pureN]at pa
 |loc _=>simp[D.pureN]at pa
 |non =>
  have ex:x=.non:=by simpa[IsW]using ha
  subst ex
  cases(show u=Value.none from ru)
  cases b with
  |tup _=>simp[D.pureN]at pb
  |lst _=>simp[D.pureN]at pb
  |loc _=>simp[D.pureN]at pb
  |non=>cases(show y=.non by simpa[IsW]using hb);cases(show v=Value.none from rv);exact⟨RcAt.none_none,RcNeAt.none_none⟩
  |bl c=>cases(show y=.bl c by simpa[IsW]using hb);cases(show v=Value.bool c from rv);exact⟨RcAt.none_bool _,RcNeAt.none_bool _⟩
  |int c=>cases(show y=.int c by simpa[IsW]using hb);obtain⟨t,rfl⟩:=rv;exact⟨RcAt.none_int _ _,RcNeAt.none_int _ _⟩
  |str c=>cases(show y=.str c by simpa[IsW]using hb);obtain⟨t,rfl⟩:=rv;exact⟨RcAt.none_str _ _,RcNeAt.none_str _ _⟩
 |bl d =>
  have ex:x=.bl d:=by simpa[IsW]using ha
  subst ex
  cases(show u=Value.bool d from ru)
  cases b with
  |tup _=>simp[D.pureN]at pb
  |lst _=>simp[D.pureN]at pb
  |loc _=>simp[D.pureN]at pb
  |non=>cases(show y=.non by simpa[IsW]using hb);cases(show v=Value.none from rv);exact⟨RcAt.bool_none _,RcNeAt.bool_none _⟩
  |bl c=>cases(show y=.bl c by simpa[IsW]using hb);cases(show v=Value.bool c from rv);exact⟨RcAt.bool_bool _ _,RcNeAt.bool_bool _ _⟩
  |int c=>cases(show y=.int c by simpa[IsW]using hb);obtain⟨t,rfl⟩:=rv;rw[deq,b2];exact⟨RcAt.bool_int _ _ _,RcNeAt.bool_int _ _ _⟩
  |str c=>cases(show y=.str c by simpa[IsW]using hb);obtain⟨t,rfl⟩:=rv;exact⟨RcAt.bool_str _ _ _,RcNeAt.bool_str _ _ _⟩
 |int d =>
  have ex:x=.int d:=by simpa[IsW]using ha
  subst ex
  obtain⟨t',rfl⟩:=ru
  cases b with
  |tup _=>simp[D.pureN]at pb
  |lst _=>simp[D.pureN]at pb
  |loc _=>simp[D.pureN]at pb
  |non=>cases(show y=.non by simpa[IsW]using hb);cases(show v=Value.none from rv);exact⟨RcAt.int_none _ _,RcNeAt.int_none _ _⟩
  |bl c=>cases(show y=.bl c by simpa[IsW]using hb);cases(show v=Value.bool c from rv);rw[deq,b2];exact⟨RcAt.int_bool _ _ _,RcNeAt.int_bool _ _ _⟩
  |int c=>cases(show y=.int c by simpa[IsW]using hb);obtain⟨t,rfl⟩:=rv;rw[deq,b2];exact⟨RcAt.int_int _ _ _ _,RcNeAt.int_int _ _ _ _⟩
  |str c=>cases(show y=.str c by simpa[IsW]using hb);obtain⟨t,rfl⟩:=rv;exact⟨RcAt.int_str _ _ _ _,RcNeAt.int_str _ _ _ _⟩
 |str d =>
  have ex:x=.str d:=by simpa[IsW]using ha
  subst ex
  obtain⟨t',rfl⟩:=ru
  cases b with
  |tup _=>simp[D.pureN]at pb
  |lst _=>simp[D.pureN]at pb
  |loc _=>simp[D.pureN]at pb
  |non=>cases(show y=.non by simpa[IsW]using hb);cases(show v=Value.none from rv);exact⟨RcAt.str_none _ _,RcNeAt.str_none _ _⟩
  |bl c=>cases(show y=.bl c by simpa[IsW]using hb);cases(show v=Value.bool c from rv);exact⟨RcAt.str_bool _ _ _,RcNeAt.str_bool _ _ _⟩
  |int c=>cases(show y=.int c by simpa[IsW]using hb);obtain⟨t,rfl⟩:=rv;exact⟨RcAt.str_int _ _ _ _,RcNeAt.str_int _ _ _ _⟩
  |str c =>
   cases(show y=.str c by simpa[IsW]using hb);obtain⟨t,rfl⟩:=rv
   have e:deq (.str d) (.str c)=(d==c):=by rw[deq];exact(EU d c).symm
   rw[e];exact⟨RcAt.str_str _ _ _ _,RcNeAt.str_str _ _ _ _⟩
theorem T4(I:Inv X pins σ H s):∀(k:Nat) (A:Around) (a b:D) (x y:V) (u v:Value),A.units+k<cLine->D.pureN k a=true->D.pureN k b=true->IsW X.K H a x->IsW X.K H b y->RelV x u->RelV y v->RcAt A s u v (deq a b)/\RcNeAt A s u v (!deq a b):=by
 intro k
 induction k with
 |zero=>exact λA a b x y u v _ pa pb ha hb ru rv=>D9 A a b x y u v pa pb ha hb ru rv
 |succ k ih =>
  intro A a b x y u v hu pa pb ha hb ru rv
  have hu0:A.units<cLine:=by lia
  have each:∀(as bs:List D) (xs ys:List V) (is js:List Value),as.all (D.pureN k)=true->bs.all (D.pureN k)=true->jg X.K H as xs->jg X.K H bs ys->bo xs is->bo ys js ->
    ∀j (h1:j<is.toArray.size) (h2:j<js.toArray.size),EqAt A.in1 s is.toArray[j] js.toArray[j] (deq (as.getD j .non) (bs.getD j .non)):=by
   intro as bs xs ys is js pas pbs has hbs hvx hvy j h1 h2
   have l1:as.length=is.length:=by rw[<-has.length,hvx.length]
   have l2:bs.length=js.length:=by rw[<-hbs.length,hvy.length]
   have j1:j<as.length:=by rw[l1];simpa using h1
   have j2:j<bs.length:=by rw[l2];simpa using h2
   obtain⟨p,e1,q1⟩:=has.get (AD j1)
   obtain⟨p',e1',q1'⟩:=hbs.get (AD j2)
   obtain⟨w,e2,q2⟩:=hvx.get e1
   obtain⟨w',e2',q2'⟩:=hvy.get e1'
   have g1:is.toArray[j]=w:=by
    have:is[j]? = some is.toArray[j]:=by simp[AD (show j<is.length by lia)]
    rw[this]at e2;exact BY e2
   have g2:js.toArray[j]=w':=by
    have:js[j]? = some js.toArray[j]:=by simp[AD (show j<js.length by lia)]
    rw[this]at e2';exact BY e2'
   rw[g1,g2,BK,BK,AD j1,AD j2]
   have pa:=AW.mp pas _ (CO j1)
   have pb:=AW.mp pbs _ (CO j2)
   exact Ie I pa pb q1 q1' q2 q2' (ih A.in1 _ _ p p' w w' (by rw[in1_units];lia) pa pb q1 q1' q2 q2').1
  have flat0:∀d:D,D.pureN (k+1) d=true->(∀ds,d≠.tup ds)->(∀ds,d≠.lst ds)->D.pureN 0 d=true:=λd h h1 h2=>by
   cases d with
   |tup ds=>exact absurd rfl (h1 ds)
   |lst ds=>exact absurd rfl (h2 ds)
   |loc n=>simp[D.pureN]at h
   |_=>rfl
  cases a with
  |loc n=>simp[D.pureN]at pa
  |tup as =>
   have pas:as.all (D.pureN k)=true:=by simpa[D.pureN]using pa
   obtain⟨p,xs,rfl,hq,hds⟩:=og ha
   cases(show u=Value.ref p from ru)
   obtain⟨its,hv,ht,hz⟩:=I.tuple hq
   have ht':s.heap.IsTuple p its.toArray:=ht
   cases b with
   |loc n=>simp[D.pureN]at pb
   |tup bs =>
    have pbs:bs.all (D.pureN k)=true:=by simpa[D.pureN]using pb
    obtain⟨p',xs',rfl,hq',hds'⟩:=og hb
    cases(show v=Value.ref p' from rv)
    obtain⟨its',hv',ht2,hz'⟩:=I.tuple hq'
    ·skip
     have ea:=each as bs xs xs' its its' pas pbs hds hds' hv hv'
     have q:=RcAt.tuples (A:=A) ht' (show s.heap.IsTuple p' its'.toArray from ht2) hu0 ea
     have q':=RcNeAt.tuples (A:=A) ht' (show s.heap.IsTuple p' its'.toArray from ht2) hu0 ea
     have l1:as.length=its.length:=by rw[<-hds.length,hv.length]
     have l2:bs.length=its'.length:=by rw[<-hds'.length,hv'.length]
     have e:((List.range (min its.toArray.size its'.toArray.size)).all (λj=>deq (as.getD j .non) (bs.getD j .non))&&its.toArray.size==its'.toArray.size)=deq (.tup as) (.tup bs):=by
      rw[deq]
      simp![AE,<-l1,<-l2]
      by_cases hl:as.length=bs.length
      ·rw[l7 as bs hl,<-hl];simp
      ·rw[r6 as bs hl];simp[hl]
     rw[e]at q q'
     exact⟨q,q'⟩
   |lst bs =>
    obtain⟨p',xs',rfl,hq',hds'⟩:∃a xs,y=.ref a/\LsL X.K H a xs/\jg X.K H bs xs:=by simpa[IsW]using hb
    cases(show v=Value.ref p' from rv)
    obtain⟨z,its',n',hv',_,hg⟩:=I.ls hq'
    exact⟨RcAt.tuple_list ht' ⟨_,hg,rfl,n',rfl⟩ hu0,RcNeAt.tuple_list ht' ⟨_,hg,rfl,n',rfl⟩ hu0⟩
   |non=>cases(show y=.non by simpa[IsW]using hb);cases(show v=Value.none from rv);exact⟨RcAt.tuple_none ht' hu0,RcNeAt.tuple_none ht' hu0⟩
   |bl c=>cases(show y=.bl c by simpa[IsW]using hb);cases(show v=Value.bool c from rv);exact⟨RcAt.tuple_bool _ ht' hu0,RcNeAt.tuple_bool _ ht' hu0⟩
   |int c=>cases(show y=.int c by simpa[IsW]using hb);obtain⟨t,rfl⟩:=rv;exact⟨RcAt.tuple_int _ _ ht' hu0,RcNeAt.tuple_int _ _ ht' hu0⟩
   |str c=>cases(show y=.str c by simpa[IsW]using hb);obtain⟨t,rfl⟩:=rv;exact⟨RcAt.tuple_str _ _ ht' hu0,RcNeAt.tuple_str _ _ ht' hu0⟩
  |lst as =>
   have pas:as.all (D.pureN k)=true:=by simpa[D.pureN]using pa
   obtain⟨p,xs,rfl,hq,hds⟩:∃a xs,x=.ref a/\LsL X.K H a xs/\jg X.K H as xs:=by simpa[IsW]using ha
   cases(show u=Value.ref p from ru)
   obtain⟨z,its,n,hv,_,hg⟩:=I.ls hq
   have hl':s.heap.IsList p its.toArray:=⟨_,hg,rfl,n,rfl⟩
   cases b with
   |loc n=>simp[D.pureN]at pb
   |lst bs =>
    have pbs:bs.all (D.pureN k)=true:=by simpa[D.pureN]using pb
    obtain⟨p',xs',rfl,hq',hds'⟩:∃a xs,y=.ref a/\LsL X.K H a xs/\jg X.K H bs xs:=by simpa[IsW]using hb
    cases(show v=Value.ref p' from rv)
    obtain⟨z',its',n',hv',_,hg'⟩:=I.ls hq'
    have hl2:s.heap.IsList p' its'.toArray:=⟨_,hg',rfl,n',rfl⟩
    ·skip
     have l1:as.length=its.length:=by rw[<-hds.length,hv.length]
     have l2:bs.length=its'.length:=by rw[<-hds'.length,hv'.length]
     by_cases hl:as.length=bs.length
     ·have ea:=each as bs xs xs' its its' pas pbs hds hds' hv hv'
      have ez:its.toArray.size=its'.toArray.size:=by simp![AE];lia
      have q:=RcAt.lists (A:=A) hl' hl2 ez hu0 ea
      have q':=RcNeAt.lists (A:=A) hl' hl2 ez hu0 ea
      have e:(List.range its.toArray.size).all (λj=>deq (as.getD j .non) (bs.getD j .non))=deq (.lst as) (.lst bs):=by
       rw[deq,l7 as bs hl]
       simp![AE,<-l1]
      rw[e]at q q'
      exact⟨q,q'⟩
     ·rw[deq,r6 as bs hl]
      exact⟨RcAt.lists_lengths hl' hl2 (by simp![AE];simp;lia) hu0,RcNeAt.lists_lengths hl' hl2 (by simp![AE];simp;lia) hu0⟩
   |tup bs =>
    obtain⟨p',xs',rfl,hq',hds'⟩:=og hb
    cases(show v=Value.ref p' from rv)
    obtain⟨its',hv',ht2,hz'⟩:=I.tuple hq'
    exact⟨RcAt.list_tuple hl' (show s.heap.IsTuple p' its'.toArray from ht2) hu0,RcNeAt.list_tuple hl' (show s.heap.IsTuple p' its'.toArray from ht2) hu0⟩
   |non=>cases(show y=.non by simpa[IsW]using hb);cases(show v=Value.none from rv);exact⟨RcAt.list_none hl' hu0,RcNeAt.list_none hl' hu0⟩
   |bl c=>cases(show y=.bl c by simpa[IsW]using hb);cases(show v=Value.bool c from rv);exact⟨RcAt.list_bool _ hl' hu0,RcNeAt.list_bool _ hl' hu0⟩
   |int c=>cases(show y=.int c by simpa[IsW]using hb);obtain⟨t,rfl⟩:=rv;exact⟨RcAt.list_int _ _ hl' hu0,RcNeAt.list_int _ _ hl' hu0⟩
   |str c=>cases(show y=.str c by simpa[IsW]using hb);obtain⟨t,rfl⟩:=rv;exact⟨RcAt.list_str _ _ hl' hu0,RcNeAt.list_str _ _ hl' hu0⟩
  |_ =>
   cases b with
   |loc n=>simp[D.pureN]at pb
   |tup bs =>
    obtain⟨p',xs',rfl,hq',hds'⟩:=og hb
    cases(show v=Value.ref p' from rv)
    obtain⟨its',hv',ht2,hz'⟩:=I.tuple hq'
    have ht':s.heap.IsTuple p' its'.toArray:=ht2
    first
    |(cases(show x=.non by simpa[IsW]using ha);cases(show u=Value.none from ru);exact⟨RcAt.none_tuple ht' hu0,RcNeAt.none_tuple ht' hu0⟩)
    |(cases(show x=.bl _ by simpa[IsW]using ha);cases(show u=Value.bool _ from ru);exact⟨RcAt.bool_tuple _ ht' hu0,RcNeAt.bool_tuple _ ht' hu0⟩)
    |(cases(show x=.int _ by simpa[IsW]using ha);obtain⟨t,rfl⟩:=ru;exact⟨RcAt.int_tuple _ _ ht' hu0,RcNeAt.int_tuple _ _ ht' hu0⟩)
    |(cases(show x=.str _ by simpa[IsW]using ha);obtain⟨t,rfl⟩:=ru;exact⟨RcAt.str_tuple _ _ ht' hu0,RcNeAt.str_tuple _ _ ht' hu0⟩)
   |lst bs =>
    obtain⟨p',xs',rfl,hq',hds'⟩:∃a xs,y=.ref a/\LsL X.K H a xs/\jg X.K H bs xs:=by simpa[IsW]using hb
    cases(show v=Value.ref p' from rv)
    obtain⟨z',its',n',hv',_,hg'⟩:=I.ls hq'
    have hl':s.heap.IsList p' its'.toArray:=⟨_,hg',rfl,n',rfl⟩
    first
    |(cases(show x=.non by simpa[IsW]using ha);cases(show u=Value.none from ru);exact⟨RcAt.none_list hl' hu0,RcNeAt.none_list hl' hu0⟩)
    |(cases(show x=.bl _ by simpa[IsW]using ha);cases(show u=Value.bool _ from ru);exact⟨RcAt.bool_list _ hl' hu0,RcNeAt.bool_list _ hl' hu0⟩)
    |(cases(show x=.int _ by simpa[IsW]using ha);obtain⟨t,rfl⟩:=ru;exact⟨RcAt.int_list _ _ hl' hu0,RcNeAt.int_list _ _ hl' hu0⟩)
    |(cases(show x=.str _ by simpa[IsW]using ha);obtain⟨t,rfl⟩:=ru;exact⟨RcAt.str_list _ _ hl' hu0,RcNeAt.str_list _ _ hl' hu0⟩)
   |_=>exact D9 A _ _ x y u v rfl rfl ha hb ru rv
end
open PySem.SeqAt (EqAt RcAt)
section
variable{X:Cx}{φ:Phi}{pins:List (Addr × Obj)}{σ:St}{H:Hp}{s:Shared}
theorem Q6(hu:X.A.units+8<cLine):OpR X (compareOp .Eq) (rOp X.K (cpD .eq)):=by
 intro pins s σ H x y v u Q I rx ry ⟨ι,a,b,μ,hS,ha,hb,h⟩
 unfold cpD at h
 simp only at h
 split at h
 ·rename_i hp
  exact(T4 I 8 X.A a b x y v u hu hp.1 hp.2 (IsW.ofD (IsD.pur hp.1 ha)) (IsW.ofD (IsD.pur hp.2 hb)) rx ry).1 _ _ _ _ ⟨.bl (deq a b),H,I,rfl,h.ok hS (by simp[IsD])⟩
 ·exact h.elim
end
open PySem.SeqAt (EqAt RcNeAt)
section
variable{X:Cx}{φ:Phi}{pins:List (Addr × Obj)}{σ:St}{H:Hp}{s:Shared}
theorem Q7(hu:X.A.units+8<cLine):OpR X (compareOp .NotEq) (rOp X.K (cpD .ne)):=by
 intro pins s σ H x y v u Q I rx ry ⟨ι,a,b,μ,hS,ha,hb,h⟩
 unfold cpD at h
 simp only at h
 split at h
 ·rename_i hp
  exact(T4 I 8 X.A a b x y v u hu hp.1 hp.2 (IsW.ofD (IsD.pur hp.1 ha)) (IsW.ofD (IsD.pur hp.2 hb)) rx ry).2 _ _ _ _ ⟨.bl (!deq a b),H,I,rfl,h.ok hS (by simp[IsD])⟩
 ·exact h.elim
end
end Lp
namespace LT
open PySem PySem.Spec PyProof.Rows HT
open PySem.SeqAt
open PySem.AutoSeq1 (wpAny_loadPart')
open PySem.MeetsSeq PySem.MeetsSeq2 PySem.MeetsSeq3
theorem Y7(A:Around)(s:Shared)(a:Int)(t:Tok)(c:Int)(u:Tok)(prog:Program)(w:World)(E:Value->Shared->Prop)(Q:Value->Shared->Prop)(h:Q (.bool (decide (a<=c))) s) :
  wpAny (model prog w) A (richCompare .LtE (.int a t) (.int c u)) Q E s :=
 (PyProof.Rows.le_int h:wpAny (model prog w) A (compareOp .LtE (.int a t) (.int c u)) Q E s)
theorem Ig(l b:Addr)(items items2:Array Value)(n n2:Nat)(dd dd2:Option Addr)(sl sl2:Array (Option Value))(ns ms:List Int)(ii:IntsAre items.toList ns)(jj:IntsAre items2.toList ms) :
  Meets (Builtin.«tuple.__le__» ⟨[.ref l,.ref b],[]⟩) (λ_ R s=>s.heap.get? l=some {cls:=.type "tuple",dict:=dd,data:=.seq items n,slots:=sl}/\s.heap.get? b=some {cls:=.type "tuple",dict:=dd2,data:=.seq items2 n2,slots:=sl2}/\R (.ok (.ret (.bool (!lexLt ms ns)))) s) :=
 .of_wp λprog w A R s h=>by
  obtain⟨hh0,g,d,tk0,os0⟩:=s;obtain⟨ql,hb,h⟩:=h
  have sub0:=FG
  have n1:ns.length=items.size:=by rw[<-ii.length,AZ]
  have n2e:ms.length=items2.size:=by rw[<-jj.length,AZ]
  wp_walk using EL ql,EL hb,EG _ (λrest b s'=>b.1=none/\s'=⟨hh0,g,d,tk0,os0⟩/\∃(us1 us2:List Value) (ms1 ms2:List Int),rest=us1.zip us2 /\
   IntsAre us1 ms1/\IntsAre us2 ms2/\ms1.length+items2.size=ms2.length+items.size/\R (.ok (.ret (.bool (!lexLt ms2 ms1)))) ⟨hh0,g,d,tk0,os0⟩) _
  case turn =>
   rintro⟨y,x⟩ rest b s' ⟨p0,rfl,us1,us2,ms1,ms2,pz,pv,pw,pl,fin0⟩
   cases pv with
   |nil=>rw[If]at pz;cases pz
   |cons a t pv1 =>
    cases pw with
    |nil=>rw[FR]at pz;cases pz
    |cons c u pw1 =>
     rw[CZ]at pz
     injection pz with pyx pr
     injection pyx with py px
     subst py px
     rw[gn]at fin0
     simp![AT]at pl
     obtain⟨same,eq0,eqi⟩:=rl A.in1 ⟨hh0,g,d,tk0,os0⟩ a t c u
     refine AA (eq0 prog w _ _ ?_)
     cases same with
     |true =>
      rw[if_pos (eqi.mp rfl).symm]at fin0
      wp_walk
      exact⟨rfl,rfl,_,_,_,_,pr,pv1,pw1,by lia,fin0⟩
     |false =>
      have hne:¬c=a:=λq=>absurd (eqi.mpr q.symm) AU
      rw[if_neg hne]at fin0
      have ed:(!decide (c<a))=decide (a<=c):=by
       by_cases hc:c<a
       ·rw[decide_eq_true hc,decide_eq_false (by lia)];rfl
       ·rw[decide_eq_false hc,decide_eq_true (by lia)];rfl
      rw[ed]at fin0
      have low:=Y7 A.in1 ⟨hh0,g,d,tk0,os0⟩ a t c u prog w
      wp_walk using low
      exact⟨_,rfl,by simpa using fin0⟩
  case fin =>
   rintro⟨c1,c2⟩ s' ⟨p0,rfl,us1,us2,ms1,ms2,pz,pv,pw,pl,fin0⟩
   simp only at p0
   subst p0
   have hv:(!lexLt ms2 ms1)=decide (items.size<=items2.size):=by
    cases pv with
    |nil =>
     cases pw with
     |nil =>
      simp![BQ]at pl
      rw[iz,decide_eq_true (by lia)];rfl
     |cons c u hw =>
      simp![BQ,AT]at pl
      rw[ib,decide_eq_true (by lia)];rfl
    |cons a t hv =>
     cases pw with
     |nil =>
      simp![BQ,AT]at pl
      rw[ia,decide_eq_false (by lia)];rfl
     |cons c u hw =>
      rw[CZ]at pz
      cases pz
   rw[hv]at fin0
   wp_walk
   exact⟨_,rfl,by simpa[Builtin.Tuple.tupleCompareSizes]using fin0⟩
  case h =>
   exact⟨rfl,rfl,items.toList,items2.toList,ns,ms,rfl,ii,jj,by lia,h⟩
theorem Q8 {prog:Program} {w:World} {A:Around} {E:Value->Shared->Prop} {s:Shared} {l b:Addr} {items items2:Array Value} {ns ms:List Int} {Q:Value->Shared->Prop} (hl:IsTup s.heap l items) (hb:IsTup s.heap b items2) (hi:IntsAre items.toList ns) (hj:IntsAre items2.toList ms)
  (hu:A.units<cLine) (h:Q (.bool (!lexLt ms ns)) s):wpAny (model prog w) A (compareOp .LtE (.ref l) (.ref b)) Q E s:=by
 obtain⟨⟨_,dd,_,sl⟩,ho,rfl,n,rfl⟩:=id hl
 obtain⟨⟨_,dd2,_,sl2⟩,ho2,rfl,n2,rfl⟩:=id hb
 exact Gt (op:=.LtE) ⟨_,ho,rfl⟩ ⟨_,ho2,rfl⟩ PySem.F.slot_tuple_le PySem.F.entry_tuple_le (PySem.F.args_tuple_le_2 _ _) (Ig l b items items2 n n2 dd dd2 sl sl2 ns ms hi hj)
  ⟨ho,ho2,show Value.bool (!lexLt ms ns)≠Value.notImplemented/\Q (.bool (!lexLt ms ns)) s from⟨(λx=>nomatch x),h⟩⟩ hu
theorem Y8(A:Around)(s:Shared)(a:Int)(t:Tok)(c:Int)(u:Tok)(prog:Program)(w:World)(E:Value->Shared->Prop)(Q:Value->Shared->Prop)(h:Q (.bool (decide (c<=a))) s) :
  wpAny (model prog w) A (richCompare .GtE (.int a t) (.int c u)) Q E s :=
 (PyProof.Rows.ge_int h:wpAny (model prog w) A (compareOp .GtE (.int a t) (.int c u)) Q E s)
theorem Ih(l b:Addr)(items items2:Array Value)(n n2:Nat)(dd dd2:Option Addr)(sl sl2:Array (Option Value))(ns ms:List Int)(ii:IntsAre items.toList ns)(jj:IntsAre items2.toList ms) :
  Meets (Builtin.«tuple.__ge__» ⟨[.ref l,.ref b],[]⟩) (λ_ R s=>s.heap.get? l=some {cls:=.type "tuple",dict:=dd,data:=.seq items n,slots:=sl}/\s.heap.get? b=some {cls:=.type "tuple",dict:=dd2,data:=.seq items2 n2,slots:=sl2}/\R (.ok (.ret (.bool (!lexLt ns ms)))) s) :=
 .of_wp λprog w A R s h=>by
  obtain⟨hh0,g,d,tk0,os0⟩:=s;obtain⟨ql,hb,h⟩:=h
  have sub0:=FG
  have n1:ns.length=items.size:=by rw[<-ii.length,AZ]
  have n2e:ms.length=items2.size:=by rw[<-jj.length,AZ]
  wp_walk using EL ql,EL hb,EG _ (λrest b s'=>b.1=none/\s'=⟨hh0,g,d,tk0,os0⟩/\∃(us1 us2:List Value) (ms1 ms2:List Int),rest=us1.zip us2 /\
   IntsAre us1 ms1/\IntsAre us2 ms2/\ms1.length+items2.size=ms2.length+items.size/\R (.ok (.ret (.bool (!lexLt ms1 ms2)))) ⟨hh0,g,d,tk0,os0⟩) _
  case turn =>
   rintro⟨y,x⟩ rest b s' ⟨p0,rfl,us1,us2,ms1,ms2,pz,pv,pw,pl,fin0⟩
   cases pv with
   |nil=>rw[If]at pz;cases pz
   |cons a t pv1 =>
    cases pw with
    |nil=>rw[FR]at pz;cases pz
    |cons c u pw1 =>
     rw[CZ]at pz
     injection pz with pyx pr
     injection pyx with py px
     subst py px
     rw[gn]at fin0
     simp![AT]at pl
     obtain⟨same,eq0,eqi⟩:=rl A.in1 ⟨hh0,g,d,tk0,os0⟩ a t c u
     refine AA (eq0 prog w _ _ ?_)
     cases same with
     |true =>
      rw[if_pos (eqi.mp rfl)]at fin0
      wp_walk
      exact⟨rfl,rfl,_,_,_,_,pr,pv1,pw1,by lia,fin0⟩
     |false =>
      have hne:¬a=c:=λq=>absurd (eqi.mpr q) AU
      rw[if_neg hne]at fin0
      have ed:(!decide (a<c))=decide (c<=a):=by
       by_cases hc:a<c
       ·rw[decide_eq_true hc,decide_eq_false (by lia)];rfl
       ·rw[decide_eq_false hc,decide_eq_true (by lia)];rfl
      rw[ed]at fin0
      have low:=Y8 A.in1 ⟨hh0,g,d,tk0,os0⟩ a t c u prog w
      wp_walk using low
      exact⟨_,rfl,by simpa using fin0⟩
  case fin =>
   rintro⟨c1,c2⟩ s' ⟨p0,rfl,us1,us2,ms1,ms2,pz,pv,pw,pl,fin0⟩
   simp only at p0
   subst p0
   have hv:(!lexLt ms1 ms2)=decide (items2.size<=items.size):=by
    cases pv with
    |nil =>
     cases pw with
     |nil =>
      simp![BQ]at pl
      rw[iz,decide_eq_true (by lia)];rfl
     |cons c u hw =>
      simp![BQ,AT]at pl
      rw[ia,decide_eq_false (by lia)];rfl
    |cons a t hv =>
     cases pw with
     |nil =>
      simp![BQ,AT]at pl
      rw[ib,decide_eq_true (by lia)];rfl
     |cons c u hw =>
      rw[CZ]at pz
      cases pz
   rw[hv]at fin0
   wp_walk
   exact⟨_,rfl,by simpa[Builtin.Tuple.tupleCompareSizes]using fin0⟩
  case h =>
   exact⟨rfl,rfl,items.toList,items2.toList,ns,ms,rfl,ii,jj,by lia,h⟩
theorem Q9 {prog:Program} {w:World} {A:Around} {E:Value->Shared->Prop} {s:Shared} {l b:Addr} {items items2:Array Value} {ns ms:List Int} {Q:Value->Shared->Prop} (hl:IsTup s.heap l items) (hb:IsTup s.heap b items2) (hi:IntsAre items.toList ns) (hj:IntsAre items2.toList ms)
  (hu:A.units<cLine) (h:Q (.bool (!lexLt ns ms)) s):wpAny (model prog w) A (compareOp .GtE (.ref l) (.ref b)) Q E s:=by
 obtain⟨⟨_,dd,_,sl⟩,ho,rfl,n,rfl⟩:=id hl
 obtain⟨⟨_,dd2,_,sl2⟩,ho2,rfl,n2,rfl⟩:=id hb
 exact Gt (op:=.GtE) ⟨_,ho,rfl⟩ ⟨_,ho2,rfl⟩ PySem.F.slot_tuple_ge PySem.F.entry_tuple_ge (PySem.F.args_tuple_ge_2 _ _) (Ih l b items items2 n n2 dd dd2 sl sl2 ns ms hi hj)
  ⟨ho,ho2,show Value.bool (!lexLt ns ms)≠Value.notImplemented/\Q (.bool (!lexLt ns ms)) s from⟨(λx=>nomatch x),h⟩⟩ hu
end LT
namespace L2
open PySem PySem.Spec PyProof.Rows
variable{X:Cx}
theorem Ra(hu:X.A.units<cLine){pins s σ H x y v u Q}(I:Inv X pins σ H s)(rx:RelV x v)(ry:RelV y u)(h:∃a b ns ms,x=.ref a/\y=.ref b/\SqT X.K H a (ns.map V.int)/\SqT X.K H b (ms.map V.int)/\Q (.bl (!HT.lexLt ms ns)) H) :
  wpAny (model X.prog X.w) X.A (compareOp .LtE v u) (EP X pins σ Q) X.xe s:=by
 obtain⟨c,d,ns,ms,rfl,rfl,hc,hd,q⟩:=h
 cases rx
 cases ry
 obtain⟨us,r1,p1,_⟩:=I.tuple hc
 obtain⟨us2,r2,p2,_⟩:=I.tuple hd
 exact LT.Q8 p1 p2 (intsAre_of r1) (intsAre_of r2) hu ⟨.bl (!HT.lexLt ms ns),H,I,rfl,q⟩
theorem Rb(hu:X.A.units<cLine){pins s σ H x y v u Q}(I:Inv X pins σ H s)(rx:RelV x v)(ry:RelV y u)(h:∃a b ns ms,x=.ref a/\y=.ref b/\SqT X.K H a (ns.map V.int)/\SqT X.K H b (ms.map V.int)/\Q (.bl (!HT.lexLt ns ms)) H) :
  wpAny (model X.prog X.w) X.A (compareOp .GtE v u) (EP X pins σ Q) X.xe s:=by
 obtain⟨c,d,ns,ms,rfl,rfl,hc,hd,q⟩:=h
 cases rx
 cases ry
 obtain⟨us,r1,p1,_⟩:=I.tuple hc
 obtain⟨us2,r2,p2,_⟩:=I.tuple hd
 exact LT.Q9 p1 p2 (intsAre_of r1) (intsAre_of r2) hu ⟨.bl (!HT.lexLt ns ms),H,I,rfl,q⟩
end L2
namespace Lp
open PySem PySem.Spec PyProof.Rows L2
open PySem.SeqAt (EqAt RcAt)
noncomputable def opOf:Cp->CmpOp
 |.eq=>.Eq
 |.ne=>.NotEq
 |.eqM=>.Eq
 |.neM=>.NotEq
 |.lt=>.Lt
 |.le=>.LtE
 |.gt=>.Gt
 |.ge=>.GtE
 |.is=>.Is
 |.isnot=>.IsNot
 |.in_=>.In
 |.notin=>.NotIn
section
variable{X:Cx}{φ:Phi}{pins:List (Addr × Obj)}{σ:St}{H:Hp}{s:Shared}
theorem ints_of{K:PySem.W.Frag}{ι:List Addr}:∀{ds:List D} {xs:List V} {ns:List Int},ah K ι H ds xs->cy ds=some ns->xs=ns.map V.int
 | [],xs,ns,h,e=>by
  simp![cy,BO]at e
  subst e
  simpa[ah]using h
 |d::ds,xs,ns,h,e=>by
  simp![ah]at h
  obtain⟨v,r,rfl,q,t⟩:=h
  cases d with
  |int i =>
   simp![cy,DS]at e
   obtain⟨ms,e1,rfl⟩:=e
   cases cw q
   rw[ints_of t e1]
   rfl
  |_=>simp[cy]at e
theorem z7{K:PySem.W.Frag}{ι:List Addr}:∀{ds:List D} {xs:List V} {ns:List Bool},ah K ι H ds xs->j4 ds=some ns->xs=ns.map V.bl
 | [],xs,ns,h,e=>by
  simp![j4,BO]at e
  subst e
  simpa[ah]using h
 |d::ds,xs,ns,h,e=>by
  simp![ah]at h
  obtain⟨v,r,rfl,q,t⟩:=h
  cases d with
  |bl i =>
   simp![j4,DS]at e
   obtain⟨ms,e1,rfl⟩:=e
   cases vg q
   rw[z7 t e1]
   rfl
  |_=>simp[j4]at e
theorem yi{K:PySem.W.Frag}{ι:List Addr}{d:D}{v:V}(h:IsD K ι H d v)(hf:flat d=true):qa v=true:=by
 cases d with
 |tup _=>simp[flat]at hf
 |lst _=>simp[flat]at hf
 |loc _=>simp[flat]at hf
 |_=>have e:=h;simp![IsD]at e;subst e;rfl
theorem r8{K:PySem.W.Frag}{ι:List Addr}:∀{ds:List D} {xs:List V},ah K ι H ds xs->ds.all flat=true->xs.all qa=true
 | [],xs,h,_=>by
  have e:xs=[]:=by simpa[ah]using h
  subst e
  rfl
 |d::ds,xs,h,hf=>by
  simp![ah]at h
  obtain⟨v,r,rfl,q,t⟩:=h
  simp![BX,AX]at hf ⊢
  exact⟨yi q hf.1,r8 t hf.2⟩
theorem Rc{K:PySem.W.Frag}{ι:List Addr}{d e:D}{v w:V}(hd:IsD K ι H d v)(he:IsD K ι H e w)(fd:flat d=true)(fe:flat e=true):eqV v w=deq d e:=by
 have b2:∀(a b:Int),decide (a=b)=(a==b):=λa b=>(EU a b).symm
 have b3:∀(a b:Str),decide (a=b)=(a==b):=λa b=>(EU a b).symm
 cases d with
 |tup _=>simp[flat]at fd
 |lst _=>simp[flat]at fd
 |loc _=>simp[flat]at fd
 |_ =>
  cases e with
  |tup _=>simp[flat]at fe
  |lst _=>simp[flat]at fe
  |loc _=>simp[flat]at fe
  |_ =>
   simp![IsD]at hd he
   subst hd he
   simp![eqV,deq,b2,b3]
theorem Ea{K:PySem.W.Frag}{ι:List Addr}{e:D}{w:V}(he:IsD K ι H e w)(fe:flat e=true):∀{ds:List D} {xs:List V},ah K ι H ds xs->ds.all flat=true->inV w xs=ds.any λy=>deq y e
 | [],xs,h,_=>by
  have e:xs=[]:=by simpa[ah]using h
  subst e
  rfl
 |d::ds,xs,h,hf=>by
  simp![ah]at h
  obtain⟨v,r,rfl,q,t⟩:=h
  simp![BX,AX]at hf
  have ih:=Ea he fe t hf.2
  unfold inV at ih ⊢
  rw[CW,CW,Rc q he hf.1 fe,ih]
theorem is_bool{u:Bool}{v:Bool}{Q:VK}(I:Inv X pins σ H s)(q:Q (.bl (u==v)) H):wpAny (model X.prog X.w) X.A (compareOp .Is (.bool u) (.bool v)) (EP X pins σ Q) X.xe s:=by
 cases u<;>cases v<;>exact AC ⟨.bl _,H,I,rfl,q⟩
theorem isnot_bool{u:Bool}{v:Bool}{Q:VK}(I:Inv X pins σ H s)(q:Q (.bl (!(u==v))) H):wpAny (model X.prog X.w) X.A (compareOp .IsNot (.bool u) (.bool v)) (EP X pins σ Q) X.xe s:=by
 cases u<;>cases v<;>exact AC ⟨.bl _,H,I,rfl,q⟩
theorem vi{v:Bool}{Q:VK}(I:Inv X pins σ H s)(q:Q (.bl false) H):wpAny (model X.prog X.w) X.A (compareOp .Is .none (.bool v)) (EP X pins σ Q) X.xe s:=by
 cases v<;>exact AC ⟨.bl _,H,I,rfl,q⟩
theorem oi{v:Bool}{Q:VK}(I:Inv X pins σ H s)(q:Q (.bl true) H):wpAny (model X.prog X.w) X.A (compareOp .IsNot .none (.bool v)) (EP X pins σ Q) X.xe s:=by
 cases v<;>exact AC ⟨.bl _,H,I,rfl,q⟩
noncomputable def kD:Key->D
 |.inl i=>.int i
 |.inr x=>.str x
theorem yj{K:PySem.W.Frag}{ι:List Addr}{d:D}{x:V}(hk:zw d=true)(h:IsD K ι H d x):∃k,d=kD k/\x=kV k:=by
 cases d with
 |int i=>exact⟨.inl i,rfl,by simpa[IsD,kV]using h⟩
 |str i=>exact⟨.inr i,rfl,by simpa[IsD,kV]using h⟩
 |_=>simp[zw]at hk
theorem yk{K:PySem.W.Frag}{ι:List Addr}{d:D}{k:Key}(h:IsD K ι H d (kV k)):d=kD k:=by
 cases k with
 |inl i=>cases d<;>simp_all[IsD,kV,kD]
 |inr i=>cases d<;>simp_all[IsD,kV,kD]
theorem vj(a b:Key):deq (kD a) (kD b)=decide (a=b):=by
 cases a<;>cases b<;>simp[kD,deq]
noncomputable def OR(K:PySem.W.Frag)(ι:List Addr)(H:Hp):Option D->Option V->Prop
 |some d,some v=>IsD K ι H d v
 |none,none=>True
 |_,_=>False
theorem OR.isSome{K:PySem.W.Frag}{ι:List Addr}{o:Option D}{p:Option V}(h:OR K ι H o p):p.isSome=o.isSome:=by
 cases o<;>cases p<;>first | rfl | exact h.elim
theorem OR.getD{K:PySem.W.Frag}{ι:List Addr}{o:Option D}{p:Option V}{d:D}{v:V}(h:OR K ι H o p)(hd:IsD K ι H d v):IsD K ι H (o.getD d) (p.getD v):=by
 cases o with
 |none=>cases p with
  |none=>exact hd
  |some _=>exact h.elim
 |some _=>cases p with
  |none=>exact h.elim
  |some _=>exact h
theorem nk{K:PySem.W.Frag}{ι:List Addr}{k:Key}:∀{kvs:List (D×D)} {xs:List (Key×V)},yd K ι H kvs xs->OR K ι H (B6 (kD k) kvs) (B4 xs k)
 |_,_,.nil=>True.intro
 |p::kvs,q::xs,.cons h t=>by
  obtain⟨d,e⟩:=p
  have hk:=yk h.1
  dsimp only at hk
  subst hk
  have ih:=nk (k:=k) (kvs:=kvs) (xs:=xs) t
  by_cases z:q.1=k
  ·rw[ni z,B6,vj,if_pos (by simpa using z)]
   exact h.2
  ·rw[nj z,B6,vj,if_neg (by simpa using z)]
   exact ih
theorem Eb{K:PySem.W.Frag}{ι:List Addr}{k:Key}:∀{kvs:List (D×D)} {xs:List (Key×V)},yd K ι H kvs xs->(kvs.any λp=>deq p.1 (kD k))=xs.any λkv=>decide (kv.1=k)
 |_,_,.nil=>rfl
 |p::kvs,q::xs,.cons h t=>by
  obtain⟨d,e⟩:=p
  have hk:=yk h.1
  dsimp only at hk
  subst hk
  rw[CW,CW,Eb t,vj]
theorem z8{K:PySem.W.Frag}{ι:List Addr}{k:Key}{d:D}{v:V}(hv:IsD K ι H d v):∀{kvs:List (D×D)} {xs:List (Key×V)},yd K ι H kvs xs ->
  yd K ι H (kvs.map λp=>if deq p.1 (kD k)=true then(p.1,d)else p) (xs.map λkv=>if kv.1=k then(kv.1,v)else kv)
 |_,_,.nil=>.nil
 |p::kvs,q::xs,.cons h t=>by
  obtain⟨e,w⟩:=p
  have hk:=yk h.1
  dsimp only at hk
  subst hk
  rw[AO,AO]
  refine .cons ?_ (z8 hv t)
  by_cases z:q.1=k
  ·rw[if_pos z,vj,if_pos (by simpa using z)]
   exact⟨h.1,hv⟩
  ·rw[if_neg z,vj,if_neg (by simpa using z)]
   exact h
theorem oj{α β:Type}{F:α->β->Prop}:∀{xs:List α} {ys:List β} {x:α} {y:β},Paired F xs ys->F x y->Paired F (xs++[x]) (ys++[y])
 |_,_,_,_,.nil,h=>.cons h .nil
 |_,_,_,_,.cons a t,h=>.cons a (oj t h)
theorem r9{K:PySem.W.Frag}{ι:List Addr}{k:Key}{d:D}{v:V}(hv:IsD K ι H d v){kvs:List (D×D)}{xs:List (Key×V)}(h:yd K ι H kvs xs):yd K ι H (dput (kD k) d kvs) (putK xs k v):=by
 unfold dput putK
 rw[Eb h]
 split
 ·exact z8 hv h
 ·refine oj h ⟨?_,hv⟩
  cases k<;>simp[kD,kV,IsD]
theorem ym{K:PySem.W.Frag}{ι:List Addr}{μ:Sto}{o k:D}{x y:V}{kvs:List (D×D)}(hS:Sim K ι H μ)(ho:IsD K ι H o x)(hk:IsD K ι H k y)(h:dictAt μ o k=some kvs) :
  ∃p q xs,x=.ref p/\y=kV q/\k=kD q/\Rd H p (.dK xs)/\yd K ι H kvs xs:=by
 cases o with
 |loc n =>
  obtain⟨p,rfl,hp⟩:∃p,x=.ref p/\ι[n]? = some p:=by simpa[IsD]using ho
  simp![dictAt]at h
  have up:∀{xs:List (Key×V)},yd K [] H kvs xs->yd K ι H kvs xs:=λz=>Paired.mapP z λp r z=>⟨z.1,IsD.mono CH (.refl _) _ _ z.2⟩
  have fin:∀{ob:O} {kvs':List (D×D)},μ[n]? = some ob->(if zw k=true then some kvs' else none)=some kvs->(OIs K ι H p ob->∃xs,Rd H p (.dK xs)/\(kvs'=kvs->yd K ι H kvs xs)) ->
    ∃p' q xs,V.ref p=.ref p'/\y=kV q/\k=kD q/\Rd H p' (.dK xs)/\yd K ι H kvs xs:=by
   intro ob kvs' em h f
   split at h
   ·rename_i hkey
    cases h
    obtain⟨a',q',ob⟩:=hS.at em
    rw[hp]at q';cases q'
    obtain⟨xs,e1,e2⟩:=f ob
    obtain⟨q,rfl,rfl⟩:=yj hkey hk
    exact⟨p,q,xs,rfl,rfl,rfl,e1,e2 rfl⟩
   ·cases h
  split at h
  ·rename_i kvs' em
   exact fin em h fun⟨xs,e1,e2⟩=>⟨xs,.inl e1,λz=>by subst z;exact up e2⟩
  ·rename_i kvs' em
   exact fin em h fun⟨xs,e1,e2⟩=>⟨xs,.inl e1,λz=>by subst z;exact e2⟩
  ·rename_i kvs' em
   exact fin em h fun⟨o,xs,e1,e2⟩=>⟨xs,.inr ⟨o,e1⟩,λz=>by subst z;exact up e2⟩
  ·cases h
 |_=>simp[dictAt]at h
theorem Ec(cp:Cp)(hu:X.A.units+8<cLine):OpR X (compareOp (opOf cp)) (rOp X.K (cpD cp)):=by
 have hu0:X.A.units<cLine:=by lia
 cases cp with
 |eq=>exact Q6 hu
 |ne=>exact Q7 hu
 |eqM =>
  intro pins s σ H x y v u Q I rx ry ⟨ι,a,b,μ,hS,ha,hb,h⟩
  simp![cpD]at h
  cases e1:a7 μ 8 a with
  |none=>simp![e1]at h;exact h.elim
  |some a1 =>
   cases e2:a7 μ 8 b with
   |none=>simp![e1,e2]at h;exact h.elim
   |some b1 =>
    simp![e1,e2]at h
    exact(T4 I 8 X.A a1 b1 x y v u hu (ip 8 _ _ e1) (ip 8 _ _ e2) (vh hS 8 _ _ _ e1 ha) (vh hS 8 _ _ _ e2 hb) rx ry).1 _ _ _ _ ⟨.bl (deq a1 b1),H,I,rfl,h.ok hS (by simp[IsD])⟩
 |neM =>
  intro pins s σ H x y v u Q I rx ry ⟨ι,a,b,μ,hS,ha,hb,h⟩
  simp![cpD]at h
  cases e1:a7 μ 8 a with
  |none=>simp![e1]at h;exact h.elim
  |some a1 =>
   cases e2:a7 μ 8 b with
   |none=>simp![e1,e2]at h;exact h.elim
   |some b1 =>
    simp![e1,e2]at h
    exact(T4 I 8 X.A a1 b1 x y v u hu (ip 8 _ _ e1) (ip 8 _ _ e2) (vh hS 8 _ _ _ e1 ha) (vh hS 8 _ _ _ e2 hb) rx ry).2 _ _ _ _ ⟨.bl (!deq a1 b1),H,I,rfl,h.ok hS (by simp[IsD])⟩
 |lt =>
  intro pins s σ H x y v u Q I rx ry ⟨ι,a,b,μ,hS,ha,hb,h⟩
  simp![cpD]at h
  split at h
  ·cases cw ha;cases cw hb
   exact Uq pins s σ H _ _ v u Q I rx ry ⟨_,_,rfl,rfl,h.ok hS (by simp[IsD])⟩
  ·obtain⟨p,xs,rfl,hq,hds⟩:=fz ha
   obtain⟨p',xs',rfl,hq',hds'⟩:=fz hb
   split at h
   ·rename_i ns ms e1 e2
    have:=ints_of hds e1
    subst this
    have:=ints_of hds' e2
    subst this
    refine P0 hu0 pins s σ H _ _ v u Q I rx ry ⟨p,p',ns,ms,rfl,rfl,hq,hq',?_⟩
    have el:∀(a b:List Int),HT.lexLt a b=Lp.lexLt a b:=by
     intro a
     induction a with
     |nil=>intro b;cases b<;>rfl
     |cons x r ih=>intro b;cases b with
      |nil=>rfl
      |cons y q=>rw[HT.gn,Lp.lexLt,ih]
    rw[el]
    exact h.ok hS (by simp[IsD])
   ·exact h.elim
  ·exact h.elim
 |le =>
  intro pins s σ H x y v u Q I rx ry ⟨ι,a,b,μ,hS,ha,hb,h⟩
  simp![cpD]at h
  split at h
  ·cases cw ha;cases cw hb
   exact Ur pins s σ H _ _ v u Q I rx ry ⟨_,_,rfl,rfl,h.ok hS (by simp[IsD])⟩
  ·obtain⟨p,xs,rfl,hq,hds⟩:=fz ha
   obtain⟨p',xs',rfl,hq',hds'⟩:=fz hb
   split at h
   ·rename_i ns ms e1 e2
    have:=ints_of hds e1
    subst this
    have:=ints_of hds' e2
    subst this
    refine Ra hu0 I rx ry ⟨p,p',ns,ms,rfl,rfl,hq,hq',?_⟩
    have el:∀(a b:List Int),HT.lexLt a b=Lp.lexLt a b:=by
     intro a
     induction a with
     |nil=>intro b;cases b<;>rfl
     |cons x r ih=>intro b;cases b with
      |nil=>rfl
      |cons y q=>rw[HT.gn,Lp.lexLt,ih]
    rw[el]
    exact h.ok hS (by simp[IsD])
   ·exact h.elim
  ·exact h.elim
 |gt =>
  refine OpR.imp Us λx y H Q ⟨ι,a,b,μ,hS,ha,hb,h⟩=>?_
  simp![cpD]at h
  split at h
  ·cases cw ha;cases cw hb
   exact⟨_,_,rfl,rfl,h.ok hS (by simp[IsD])⟩
  ·exact h.elim
 |ge =>
  intro pins s σ H x y v u Q I rx ry ⟨ι,a,b,μ,hS,ha,hb,h⟩
  simp![cpD]at h
  split at h
  ·cases cw ha;cases cw hb
   exact Ut pins s σ H _ _ v u Q I rx ry ⟨_,_,rfl,rfl,h.ok hS (by simp[IsD])⟩
  ·obtain⟨p,xs,rfl,hq,hds⟩:=fz ha
   obtain⟨p',xs',rfl,hq',hds'⟩:=fz hb
   split at h
   ·rename_i ns ms e1 e2
    have:=ints_of hds e1
    subst this
    have:=ints_of hds' e2
    subst this
    refine Rb hu0 I rx ry ⟨p,p',ns,ms,rfl,rfl,hq,hq',?_⟩
    have el:∀(a b:List Int),HT.lexLt a b=Lp.lexLt a b:=by
     intro a
     induction a with
     |nil=>intro b;cases b<;>rfl
     |cons x r ih=>intro b;cases b with
      |nil=>rfl
      |cons y q=>rw[HT.gn,Lp.lexLt,ih]
    rw[el]
    exact h.ok hS (by simp[IsD])
   ·exact h.elim
  ·exact h.elim
 |is =>
  intro pins s σ H x y v u Q I rx ry ⟨ι,a,b,μ,hS,ha,hb,h⟩
  simp![cpD]at h
  split at h
  ·refine Pr pins s σ H x y v u Q I rx ry ⟨by simpa[IsD]using hb,?_⟩
   cases a with
   |tup ds=>obtain⟨p,xs,rfl,_⟩:=fz ha;exact h.ok hS (by simp[IsD])
   |lst ds =>
         obtain⟨p,xs,rfl,_⟩:∃p xs,x=V.ref p/\FzL X.K H p xs/\ah X.K ι H ds xs:=by simpa[IsD]using ha
         exact h.ok hS (by simp[IsD])
   |loc n =>
        obtain⟨p,rfl,_⟩:∃p,x=V.ref p/\ι[n]? = some p:=by simpa[IsD]using ha
        exact h.ok hS (by simp[IsD])
   |_=>have e:=ha;simp![IsD]at e;subst e;exact h.ok hS (by simp[IsD])
  ·cases vg hb
   cases(show u=Value.bool _ from ry)
   split at h
   ·cases vg ha
    cases(show v=Value.bool _ from rx)
    exact is_bool I (h.ok hS (by simp[IsD]))
   ·cases(show x=.non by simpa[IsD]using ha)
    cases(show v=Value.none from rx)
    exact vi I (h.ok hS (by simp[IsD]))
   ·exact h.elim
  ·exact h.elim
 |isnot =>
  intro pins s σ H x y v u Q I rx ry ⟨ι,a,b,μ,hS,ha,hb,h⟩
  simp![cpD]at h
  split at h
  ·refine Ms pins s σ H x y v u Q I rx ry ⟨by simpa[IsD]using hb,?_⟩
   cases a with
   |tup ds=>obtain⟨p,xs,rfl,_⟩:=fz ha;exact h.ok hS (by simp[IsD])
   |lst ds =>
         obtain⟨p,xs,rfl,_⟩:∃p xs,x=V.ref p/\FzL X.K H p xs/\ah X.K ι H ds xs:=by simpa[IsD]using ha
         exact h.ok hS (by simp[IsD])
   |loc n =>
        obtain⟨p,rfl,_⟩:∃p,x=V.ref p/\ι[n]? = some p:=by simpa[IsD]using ha
        exact h.ok hS (by simp[IsD])
   |_=>have e:=ha;simp![IsD]at e;subst e;exact h.ok hS (by simp[IsD])
  ·cases vg hb
   cases(show u=Value.bool _ from ry)
   split at h
   ·cases vg ha
    cases(show v=Value.bool _ from rx)
    exact isnot_bool I (h.ok hS (by simp[IsD]))
   ·cases(show x=.non by simpa[IsD]using ha)
    cases(show v=Value.none from rx)
    exact oi I (h.ok hS (by simp[IsD]))
   ·exact h.elim
  ·exact h.elim
 |in_ =>
  intro pins s σ H x y v u Q I rx ry ⟨ι,a,b,μ,hS,ha,hb,h⟩
  simp![cpD]at h
  split at h
  ·rename_i ds e
   obtain⟨p,xs,rfl,hq,hds⟩:=qj hS hb e
   split at h
   ·rename_i hf
    refine Dr pins s σ H _ _ v u Q I rx ry ⟨p,xs,rfl,hq.imp (·.sq) id,yi ha hf.1,r8 hds hf.2,?_⟩
    simp![AQ,if_false]
    rw[Ea ha hf.1 hds hf.2]
    exact h.ok hS (by simp[IsD])
   ·exact h.elim
  ·split at h
   ·rename_i kvs e
    obtain⟨p,q,xs,rfl,rfl,rfl,hp,hk⟩:=ym hS hb ha e
    cases(show u=Value.ref p from ry)
    refine Yq (by lia) I (.inl ⟨_,_,hp,rfl,rfl⟩) rx λs' I'=>⟨.bl (B4 xs q).isSome,H,I',rfl,?_⟩
    rw[(nk hk).isSome]
    exact h.ok hS (by simp[IsD])
   ·exact h.elim
 |notin =>
  intro pins s σ H x y v u Q I rx ry ⟨ι,a,b,μ,hS,ha,hb,h⟩
  simp![cpD]at h
  split at h
  ·rename_i ds e
   obtain⟨p,xs,rfl,hq,hds⟩:=qj hS hb e
   split at h
   ·rename_i hf
    refine u0 pins s σ H _ _ v u Q I rx ry ⟨p,xs,rfl,hq.imp (·.sq) id,yi ha hf.1,r8 hds hf.2,?_⟩
    simp![if_true]
    rw[Ea ha hf.1 hds hf.2]
    exact h.ok hS (by simp[IsD])
   ·exact h.elim
  ·split at h
   ·rename_i kvs e
    obtain⟨p,q,xs,rfl,rfl,rfl,hp,hk⟩:=ym hS hb ha e
    cases(show u=Value.ref p from ry)
    refine M3 (by lia) I (.inl ⟨_,_,hp,rfl,rfl⟩) rx λs' I'=>⟨.bl (!(B4 xs q).isSome),H,I',rfl,?_⟩
    rw[(nk hk).isSome]
    exact h.ok hS (by simp[IsD])
   ·exact h.elim
end
open PySem.SeqAt (EqAt RcAt)
section
variable{X:Cx}{φ:Phi}{pins:List (Addr × Obj)}{σ:St}{H:Hp}{s:Shared}
noncomputable def PCh(X:Cx)(ops:List CmpOp)(es:List Expr)(t:V->TE):Prop :=
 ∀(pos:Pos) (pins:List (Addr×Obj)) (s:Shared) (σ:St) (H:Hp) (Q:VK) (x:V) (v:Value),Inv X pins σ H s->RelV x v->t x σ H Q ->
  wpAny (model X.prog X.w) X.A (compareChain pos v ops (evalEach es X.env)) (EP X pins σ Q) X.xe s
noncomputable def PTh(X:Cx)(ops:List CmpOp)(es:List Expr)(t:V->TT):Prop :=
 ∀(pos:Pos) (pins:List (Addr×Obj)) (s:Shared) (σ:St) (H:Hp) (Q:Bool->Hp->Prop) (x:V) (v:Value),Inv X pins σ H s->RelV x v->t x σ H Q ->
  wpAny (model X.prog X.w) X.A (testChain pos v ops (evalEach es X.env)) (TP X pins σ Q) X.xe s
noncomputable def tCh(K:PySem.W.Frag)(φ:Phi)(r:Cps):V->TE:=λx σv H Q=>∃ι σ μ d,Sim K ι H μ/\l0 K ι H σ σv/\IsD K ι H d x/\ft K (RD K) ι H (evC φ r d σ μ) Q
noncomputable def tTh(K:PySem.W.Frag)(φ:Phi)(r:Cps):V->TT:=λx σv H Q=>∃ι σ μ d,Sim K ι H μ/\l0 K ι H σ σv/\IsD K ι H d x/\ft K RB ι H ((evC φ r d σ μ).bind λz μ=>T3 z μ) Q
theorem Ed{op:Cp}{xe:Ex}{d:D}{σ:Sl}{μ:Sto}:evC φ (.cons op xe .nil) d σ μ=(evE φ xe σ μ).bind λy μ=>cpD op d y μ:=by
 simp![evC]
 cases evE φ xe σ μ with
 |ok y μ1 =>
  simp![Res.bg]
  cases cpD op d y μ1<;>rfl
 |exc _ _ _=>rfl
 |stuck=>rfl
theorem Ii{op op':Cp}{xe xe':Ex}{r:Cps}{d:D}{σ:Sl}{μ:Sto}:evC φ (.cons op xe (.cons op' xe' r)) d σ μ=(evE φ xe σ μ).bind λy μ=>(cpD op d y μ).bind λz μ=>match z with
  |.bl b=>if b=true then evC φ (.cons op' xe' r) y σ μ else .ok (.bl false) μ
  |_=>.stuck:=by
 rw[evC]
 all_goals rfl
theorem Nt{op:Cp}{e:Expr}{xe:Ex}(ho:OpR X (compareOp (opOf op)) (rOp X.K (cpD op)))(he:PE X e (tE X.K φ xe)):PCh X [opOf op] [e] (tCh X.K φ (.cons op xe .nil)):=by
 intro pos pins s σv H Q x v I rx ⟨ι,σ,μ,d,hS,hL,hd,h⟩
 rw[Ed]at h
 obtain⟨y,μ1,e1,h⟩:=h.bind
 refine chain_last (thn (he pins s σv H (λw H1=>rOp X.K (cpD op) x w H1 Q) I ⟨ι,σ,μ,hS,hL,?_⟩) λu s1 ⟨w,H1,I1,r1,q1⟩=>ho pins s1 σv H1 x w v u Q I1 rx r1 q1)
 rw[e1]
 exact λι1 w H1 p1 x1 s1 d1=>⟨ι1,d,y,μ1,s1,IsD.mono p1 x1 _ _ hd,d1,h.mono p1 x1⟩
theorem Nu{op:Cp}{e:Expr}{xe:Ex}(ho:OpR X (compareOp (opOf op)) (rOp X.K (cpD op)))(he:PE X e (tE X.K φ xe)):PTh X [opOf op] [e] (tTh X.K φ (.cons op xe .nil)):=by
 intro pos pins s σv H Q x v I rx ⟨ι,σ,μ,d,hS,hL,hd,h⟩
 rw[Ed,Res.bind_assoc]at h
 obtain⟨y,μ1,e1,h⟩:=h.bind
 refine test_last (thn (he pins s σv H (λw H1=>rOp X.K (cpD op) x w H1 (λz H2=>∃k,z=.bl k/\Q k H2)) I ⟨ι,σ,μ,hS,hL,?_⟩) λu s1 ⟨w,H1,I1,r1,q1⟩=>thn (ho pins s1 σv H1 x w v u _ I1 rx r1 q1) λc s2 ⟨z,H2,I2,r2,k,ek,q2⟩=>?_)
 ·rw[e1]
  intro ι1 w H1 p1 x1 s1 d1
  obtain⟨z,μ2,e2,h⟩:=h.bind
  refine⟨ι1,d,y,μ1,s1,IsD.mono p1 x1 _ _ hd,d1,?_⟩
  rw[e2]
  intro ι2 z' H2 p2 x2 s2 d2
  cases z with
  |bl k=>exact⟨k,vg d2,h ι2 k H2 (p1.trans p2) (x1.trans x2) s2 rfl⟩
  |_=>exact h.elim
 ·subst ek
  cases r2
  exact DF ⟨H2,I2,q2⟩
theorem Nv{op op':Cp}{e e':Expr}{es:List Expr}{ops:List CmpOp}{xe xe':Ex}{r:Cps}(ho:OpR X (compareOp (opOf op)) (rOp X.K (cpD op)))(he:PE X e (tE X.K φ xe))(hr:PTh X (opOf op'::ops) (e'::es) (tTh X.K φ (.cons op' xe' r))) :
  PTh X (opOf op::opOf op'::ops) (e::e'::es) (tTh X.K φ (.cons op xe (.cons op' xe' r))):=by
 intro pos pins s σv H Q x v I rx ⟨ι,σ,μ,d,hS,hL,hd,h⟩
 rw[Ii,Res.bind_assoc]at h
 obtain⟨y,μ1,e1,h⟩:=h.bind
 refine test_link (thn (he pins s σv H (λw H1=>rOp X.K (cpD op) x w H1 (λz H2=>∃k,z=.bl k/\if k=true then tTh X.K φ (.cons op' xe' r) w σv H2 Q else Q false H2)) I ⟨ι,σ,μ,hS,hL,?_⟩) λu s1 ⟨w,H1,I1,r1,q1⟩ =>
  thn (ho pins s1 σv H1 x w v u _ I1 rx r1 q1) λc s2 ⟨z,H2,I2,r2,k,ek,q2⟩=>?_)
 ·rw[e1]
  intro ι1 w H1 p1 x1 s1 d1
  rw[Res.bind_assoc]at h
  obtain⟨z,μ2,e2,h⟩:=h.bind
  refine⟨ι1,d,y,μ1,s1,IsD.mono p1 x1 _ _ hd,d1,?_⟩
  rw[e2]
  intro ι2 z' H2 p2 x2 s2 d2
  cases z with
  |bl k =>
   refine⟨k,vg d2,?_⟩
   cases k with
   |true=>exact⟨ι2,σ,μ2,y,s2,(hL.mono p1 x1).mono p2 x2,IsD.mono p2 x2 _ _ d1,(show ft _ _ _ _ ((evC φ (.cons op' xe' r) y σ μ2).bind _) _ from h).mono (p1.trans p2) (x1.trans x2)⟩
   |false=>exact h ι2 false H2 (p1.trans p2) (x1.trans x2) s2 rfl
  |_=>exact h.elim
 ·subst ek
  cases r2
  refine DF ?_
  cases k with
  |false=>exact ite_ff ⟨H2,I2,q2⟩
  |true=>exact ite_tt (hr pos pins s2 σv H2 Q w u I2 r1 q2)
theorem Vw{a:Expr}{xa:Ex}{ops:List CmpOp}{es:List Expr}{r:Cps}{pos:Pos}(ha:PE X a (tE X.K φ xa))(hr:PCh X ops es (tCh X.K φ r))(hm:lastMarks ops es=false):PE X (.Compare a ops es pos) (tE X.K φ (.cmp xa r)):=by
 intro pins s σv H Q I ⟨ι,σ,μ,hS,hL,h⟩
 simp![evE]at h
 obtain⟨d,μ1,e1,h⟩:=h.bind
 show wpAny _ _ (do compareChain pos (<-eval a X.env) ops (markedEach ops es (evalEach es X.env))) _ _ _
 rw[markedEach_of_false _ _ _ hm]
 refine AA (thn (ha pins s σv H (λx H1=>tCh X.K φ r x σv H1 Q) I ⟨ι,σ,μ,hS,hL,?_⟩) λv s1 ⟨x,H1,I1,r1,q1⟩=>hr pos pins s1 σv H1 Q x v I1 r1 q1)
 rw[e1]
 exact λι1 x H1 p1 x1 s1 d1=>⟨ι1,σ,μ1,d,s1,hL.mono p1 x1,d1,h.mono p1 x1⟩
theorem Rf{a:Expr}{xa:Ex}{ops:List CmpOp}{es:List Expr}{r:Cps}{pos:Pos}(ha:PE X a (tE X.K φ xa))(hr:PTh X ops es (tTh X.K φ r))(hm:lastMarks ops es=false):PT X (.Compare a ops es pos) (tT X.K φ (.cmp xa r)):=by
 intro pins s σv H Q I ⟨ι,σ,μ,hS,hL,h⟩
 simp![evE]at h
 rw[Res.bind_assoc]at h
 obtain⟨d,μ1,e1,h⟩:=h.bind
 show wpAny _ _ (do testChain pos (<-eval a X.env) ops (markedEach ops es (evalEach es X.env))) _ _ _
 rw[markedEach_of_false _ _ _ hm]
 refine AA (thn (ha pins s σv H (λx H1=>tTh X.K φ r x σv H1 Q) I ⟨ι,σ,μ,hS,hL,?_⟩) λv s1 ⟨x,H1,I1,r1,q1⟩=>hr pos pins s1 σv H1 Q x v I1 r1 q1)
 rw[e1]
 exact λι1 x H1 p1 x1 s1 d1=>⟨ι1,σ,μ1,d,s1,hL.mono p1 x1,d1,h.mono p1 x1⟩
theorem Rg{l:Expr}{xl:Ex}{tg:Expr}(hl:PE X l (tE X.K φ xl)):PI X tg l (tI X.K φ (.seq xl)):=by
 intro pins s σv H R I ⟨ι,σ,μ,hS,hL,h⟩
 simp![evI]at h
 cases e1:evE φ xl σ μ with
 |exc _ _ _=>rw[e1]at h;exact h.elim
 |stuck=>rw[e1]at h;exact h.elim
 |ok d μ1 =>
 rw[e1]at h
 simp![Res.bg]at h
 have hq:tE X.K φ xl σv H (λv H1=>∃ι1,ι <+: ι1/\Ext H H1/\Sim X.K ι1 H1 μ1/\IsD X.K ι1 H1 d v):=⟨ι,σ,μ,hS,hL,by rw[e1];exact λι1 v H1 p1 x1 s1 d1=>⟨ι1,p1,x1,s1,d1⟩⟩
 refine thn (hl pins s σv H _ I hq) λu s1 ⟨v,H1,I1,r1,ι1,p1,x1,S1,d1⟩=>?_
 -- a list,at a,whatever its items
 have lst:∀(a:Addr) (xs:List V) (ds:List D) (g:Gd),v=.ref a->LsL X.K H1 a xs->ah X.K ι1 H1 ds xs->(∀ι2 H2 μ2,ι1 <+: ι2->Ext H1 H2->Sim X.K ι2 H2 μ2->gd g μ2->∃ys,LsL X.K H2 a ys/\ah X.K ι2 H2 ds ys) ->
   (∀ι' H' J,ι <+: ι'->Ext H H'->Sim X.K ι' H' μ1->Walk X.K ι' H' J ds g->R J H')->wpAny (model X.prog X.w) X.A (pyIter u) (PIE X pins σv tg R) X.xe s1:=by
  intro a xs ds g ev hls hds stay hR
  subst ev
  cases(show u=Value.ref a from r1)
  obtain⟨its,rv,p,hz⟩:=I1.list hls.sq
  refine IB p.isList ?_
  refine⟨s1.heap.objs.size,[s1.heap.objs.size],_,_,H1,rfl,I1.kept (t':=s1.toks) λb o e=>AB _ e,De a _,⟨_,AI _ rfl,rfl,rfl⟩,λb hb=>?_,hR ι1 H1 _ p1 x1 S1 ?_⟩
  ·have e:b=s1.heap.objs.size:=by simpa using hb
   subst e
   exact I1.fpOk (AH _) (I1.hok.fresh (AH _))
  ·refine⟨by rw[<-hds.length];exact hz,λi ι2 H2 μ2 q1 q2 q3 q4 hi=>?_,λi ι2 H2 μ2 w H3 q1 q2 q3 q4 hi hy=>?_,λι2 H2 μ2 q1 q2 q3 q4=>?_⟩
   ·obtain⟨ys,y1,y2⟩:=stay ι2 H2 μ2 q1 q2 q3 q4
    obtain⟨w,e,_⟩:=y2.get (AD hi)
    exact⟨ys,w,y1.sq,e⟩
   ·obtain⟨ys,y1,y2⟩:=stay ι2 H2 μ2 q1 q2 q3 q4
    obtain⟨e,hy⟩:=hy
    subst e
    obtain⟨w',e',q'⟩:=y2.get (AD hi)
    have:=hy ys y1.sq
    rw[e']at this;cases this
    exact⟨.refl _,q3,_,AD hi,q'⟩
   ·obtain⟨ys,y1,y2⟩:=stay ι2 H2 μ2 q1 q2 q3 q4
    exact⟨ys,y1.sq,by rw[y2.length];exact AH _⟩
 cases d with
 |tup ds =>
  simp![bu]at h
  obtain⟨a,xs,rfl,hq,hds⟩:=fz d1
  cases(show u=Value.ref a from r1)
  obtain⟨its,rv,p,hz⟩:=I1.tuple hq
  refine HR (show s1.heap.IsTuple a its.toArray from p) ?_
  refine⟨s1.heap.objs.size,[s1.heap.objs.size],_,_,H1,rfl,I1.kept (t':=s1.toks) λb o e=>AB _ e,Bq a _,⟨_,AI _ rfl,rfl,rfl⟩,λb hb=>?_,h ι1 H1 _ p1 x1 S1 ?_⟩
  ·have e:b=s1.heap.objs.size:=by simpa using hb
   subst e
   exact I1.fpOk (AH _) (I1.hok.fresh (AH _))
  ·refine⟨by rw[<-hds.length];exact hz,λi ι2 H2 μ2 q1 q2 q3 q4 hi=>?_,λi ι2 H2 μ2 w H3 q1 q2 q3 q4 hi hy=>?_,λι2 H2 μ2 q1 q2 q3 q4=>?_⟩
   ·obtain⟨w,e,_⟩:=hds.get (AD hi)
    exact⟨xs,w,hq.ext q2,e⟩
   ·obtain⟨e,hy⟩:=hy
    subst e
    obtain⟨w',e',q'⟩:=hds.get (AD hi)
    have:=hy xs (hq.ext q2)
    rw[e']at this;cases this
    exact⟨.refl _,q3,_,AD hi,IsD.mono q1 q2 _ _ q'⟩
   ·exact⟨xs,hq.ext q2,by rw[hds.length];exact AH _⟩
 |lst ds =>
  simp![bu]at h
  obtain⟨a,xs,rfl,hq,hds⟩:∃a xs,v=.ref a/\FzL X.K H1 a xs/\ah X.K ι1 H1 ds xs:=by simpa[IsD]using d1
  exact lst a xs ds none rfl (.inr hq) hds (λι2 H2 μ2 q1 q2 q3 q4=>⟨xs,.inr (hq.ext q2),ah.mono q1 q2 _ _ hds⟩) h
 |loc n =>
  obtain⟨a,rfl,hn⟩:∃a,v=.ref a/\ι1[n]? = some a:=by simpa[IsD]using d1
  have pre:∀{ι2:List Addr},ι1 <+: ι2->ι2[n]? = some a:=λhp=>by
   obtain⟨t,rfl⟩:=hp
   rw[AV (AL.mp hn).1];exact hn
  cases em:μ1[n]? with
  |none=>simp![bu,em]at h
  |some o =>
   simp![bu,em]at h
   cases o with
   |l ds =>
    simp only at h
    obtain⟨a',q',ho⟩:=S1.at em
    rw[hn]at q';cases q'
    obtain⟨xs,f1,f2⟩:=ho
    refine lst a xs ds (some (n,.l ds)) rfl (.inl f1) (ah.mono (CH) (.refl _) _ _ f2) (λι2 H2 μ2 q1 q2 q3 q4=>?_) h
    obtain⟨a2,e2,o2⟩:=q3.at (show μ2[n]? = some (.l ds)from q4)
    rw[pre q1]at e2;cases e2
    obtain⟨ys,g1,g2⟩:=o2
    exact⟨ys,.inl g1,ah.mono (CH) (.refl _) _ _ g2⟩
   |r ds =>
    simp only at h
    obtain⟨a',q',ho⟩:=S1.at em
    rw[hn]at q';cases q'
    obtain⟨xs,f1,f2⟩:=ho
    refine lst a xs ds (some (n,.r ds)) rfl (.inl f1) f2 (λι2 H2 μ2 q1 q2 q3 q4=>?_) h
    obtain⟨a2,e2,o2⟩:=q3.at (show μ2[n]? = some (.r ds)from q4)
    rw[pre q1]at e2;cases e2
    obtain⟨ys,g1,g2⟩:=o2
    exact⟨ys,.inl g1,g2⟩
   |d kvs=>simp only at h
   |dt kvs=>simp only at h
   |x _=>simp only at h
   |o _ _=>simp only at h
   |dr _=>simp only at h
   |fd _=>simp only at h
   |dead=>simp only at h
 |_=>simp![bu]at h
theorem Cb{K:PySem.W.Frag}{ι:List Addr}{H:Hp}(lo:Int)(n:Nat)(hn:n<=sizeLine):Walk K ι H (Itr lo n) ((List.range n).map fun(k:Nat)=>D.int (lo+k)) none:=by
 refine⟨by simpa using hn,λi ι2 H2 μ2 q1 q2 q3 q4 hi=>by simpa[Itr]using hi,λi ι2 H2 μ2 w H3 q1 q2 q3 q4 hi hy=>?_,λι2 H2 μ2 q1 q2 q3 q4=>by simp[Itr]⟩
 obtain⟨e,hy⟩:=hy
 subst e
 have hi':i<n:=by simpa using hi
 exact⟨.refl _,q3,.int (lo+i),by simp[hi'],by simp[IsD,hy]⟩
theorem Rh{a:Expr}{xa:Ex}{tg:Expr}{p pos:Pos}(hg:Gl X "range")(hm:X.mg "range"=none)(ha:PE X a (tE X.K φ xa))(hs:starEach [a] X.env=[(false,eval a X.env)]):PI X tg (.Call (.Name "range" p) [a] [] pos) (tI X.K φ (.rng xa)) :=
 PI.imp (Dg hg hm (zx ha Nh hs) hs) λσv H R ⟨ι,σ,μ,hS,hL,h⟩=>by
  simp![evI]at h
  refine⟨ι,σ,μ,hS,hL,?_⟩
  simp![fj]
  cases e1:evE φ xa σ μ with
  |exc _ _ _=>rw[e1]at h;exact h.elim
  |stuck=>rw[e1]at h;exact h.elim
  |ok d μ1 =>
   rw[e1]at h
   simp![Res.bg]at h ⊢
   cases d with
   |int j =>
    simp only at h
    by_cases hj:-(lim:Int)<=j/\j<=lim
    ·rw[if_pos hj]at h
     rw[fu]at hj
     have h24:sizeLine=16777216:=CB
     rw[h24]at hj
     intro ι1 vs H1 p1 x1 s1 d1
     have e:vs=[.int j]:=by
      have q:ah X.K ι1 H1 [.int j] vs:=d1
      simp![ah]at q
      obtain⟨v,r,rfl,q1,rfl⟩:=q
      cases cw q1
      rfl
     refine⟨j,e,by lia,by lia,h ι1 H1 _ p1 x1 s1 ?_⟩
     have w:=Cb (K:=X.K) (ι:=ι1) (H:=H1) 0 j.toNat (by lia)
     simpa using w
    ·rw[if_neg hj]at h
     exact h.elim
   |_=>exact h.elim
noncomputable def se(K:PySem.W.Frag)(f:List D->Sto->Res D):List V->Hp->VK->Prop:=λxs H Q=>∃ι ds μ,Sim K ι H μ/\ah K ι H ds xs/\ft K (RD K) ι H (f ds μ) Q
theorem Kl{K:PySem.W.Frag}{ι:List Addr}{d:D}{xs:List V}(h:ah K ι H [d] xs):∃v,xs=[v]/\IsD K ι H d v:=by
 simp![ah]at h
 obtain⟨v,r,rfl,q,rfl⟩:=h
 exact⟨v,rfl,q⟩
theorem Ee{K:PySem.W.Frag}{ι:List Addr}{d e:D}{xs:List V}(h:ah K ι H [d,e] xs):∃v w,xs=[v,w]/\IsD K ι H d v/\IsD K ι H e w:=by
 simp![ah]at h
 obtain⟨v,r,rfl,q,w,r2,rfl,q2,rfl⟩:=h
 exact⟨v,w,rfl,q,q2⟩
theorem jk{K:PySem.W.Frag}{ι:List Addr}{ds:List D}{xs:List V}{μ:Sto}{f:D->Sto->Res D}{Q:VK}(hds:ah K ι H ds xs)(h:ft K (RD K) ι H (kn f ds μ) Q) :
  ∃d v,xs=[v]/\IsD K ι H d v/\ft K (RD K) ι H (f d μ) Q:=by
 unfold kn at h
 split at h
 ·rename_i d
  obtain⟨v,rfl,hv⟩:=Kl hds
  exact⟨d,v,rfl,hv,h⟩
 ·exact h.elim
theorem yn{K:PySem.W.Frag}{ι:List Addr}{d:D}{v:V}{μ:Sto}{f:List D->Sto->Res D}{Q:VK}(hS:Sim K ι H μ)(hd:IsD K ι H d v)(h:ft K (RD K) ι H (seq1 f d μ) Q) :
  ∃a xs ds,v=.ref a/\(LsL K H a xs\/SqT K H a xs)/\ah K ι H ds xs/\ft K (RD K) ι H (f ds μ) Q:=by
 unfold seq1 at h
 split at h
 ·rename_i ds e
  obtain⟨a,xs,rfl,hq,hxs⟩:=qj hS hd e
  exact⟨a,xs,ds,rfl,hq,hxs,h⟩
 ·exact h.elim
theorem Nw{K:PySem.W.Frag}{ι:List Addr}{d:D}{v:V}{μ:Sto}{f:List Int->Sto->Res D}{Q:VK}(hS:Sim K ι H μ)(hd:IsD K ι H d v)(h:ft K (RD K) ι H (M9 f d μ) Q) :
  ∃a ns,v=.ref a/\(LsL K H a (ns.map V.int)\/SqT K H a (ns.map V.int))/\ft K (RD K) ι H (f ns μ) Q:=by
 unfold M9 at h
 cases e:dn μ d with
 |none=>rw[e]at h;exact h.elim
 |some ds =>
  rw[e]at h
  simp![DT]at h
  split at h
  ·rename_i ns e2
   obtain⟨a,xs,rfl,hq,hxs⟩:=qj hS hd e
   rw[ints_of hxs e2]at hq
   exact⟨a,ns,rfl,hq,h⟩
  ·exact h.elim
theorem z9{K:PySem.W.Frag}{ι:List Addr}{d:D}{v:V}{μ:Sto}{f:List Bool->Sto->Res D}{Q:VK}(hS:Sim K ι H μ)(hd:IsD K ι H d v)(h:ft K (RD K) ι H (B7 f d μ) Q) :
  ∃a ns,v=.ref a/\(LsL K H a (ns.map V.bl)\/SqT K H a (ns.map V.bl))/\ft K (RD K) ι H (f ns μ) Q:=by
 unfold B7 at h
 cases e:dn μ d with
 |none=>rw[e]at h;exact h.elim
 |some ds =>
  rw[e]at h
  simp![DT]at h
  split at h
  ·rename_i ns e2
   obtain⟨a,xs,rfl,hq,hxs⟩:=qj hS hd e
   rw[z7 hxs e2]at hq
   exact⟨a,ns,rfl,hq,h⟩
  ·exact h.elim
theorem bt_len{m:Mk}:fi X (.builtin "len") (se X.K (btD .len m)):=fi.imp u3 λxs H Q ⟨ι,ds,μ,hS,hds,h⟩=>by
 obtain⟨d,v,rfl,hv,h⟩:=jk hds h
 obtain⟨a,xs,es,rfl,hq,hxs,h⟩:=yn hS hv h
 exact⟨a,xs,rfl,hq.imp (·.sq) id,by rw[hxs.length];exact h.ok hS (by simp[IsD])⟩
theorem bt_tuple{m:Mk}:fi X (.type "tuple") (se X.K (btD .tuple m)):=fi.imp rp λxs H Q ⟨ι,ds,μ,hS,hds,h⟩=>by
 obtain⟨d,v,rfl,hv,h⟩:=jk hds h
 obtain⟨a,xs,es,rfl,hq,hxs,h⟩:=yn hS hv h
 refine⟨a,xs,rfl,?_⟩
 rcases hq with hq | hq
 ·exact .inl ⟨hq.sq,λl hl=>rq hS hxs h hl⟩
 ·exact .inr ⟨hq,h.ok hS (tup_is hq hxs)⟩
theorem bt_list{m:Mk}:fi X (.type "list") (se X.K (btD .list m)):=fi.imp (fi.fq u4) λxs H Q ⟨ι,ds,μ,hS,hds,h⟩=>by
 obtain⟨d,v,rfl,hv,h⟩:=jk hds h
 obtain⟨a,xs,es,rfl,hq,hxs,h⟩:=yn hS hv h
 exact⟨a,xs,rfl,hq.imp (·.sq) id,λl hl=>i6 hS hxs h hl⟩
theorem bt_min{m:Mk}(hc:X.calm=true):fi X (.builtin "min") (se X.K (btD .min m)):=fi.imp (Dj hc) λxs H Q ⟨ι,ds,μ,hS,hds,h⟩=>by
 simp![btD,minD]at h
 split at h
 ·rename_i i j
  obtain⟨v,w,rfl,hv,hw⟩:=Ee hds
  cases cw hv
  cases cw hw
  exact⟨i,j,rfl,h.ok hS (by simp[IsD])⟩
 ·exact h.elim
theorem bt_max{m:Mk}(hc:X.calm=true):fi X (.builtin "max") (se X.K (btD .max m)):=fi.imp (Di hc) λxs H Q ⟨ι,ds,μ,hS,hds,h⟩=>by
 simp![btD,maxD]at h
 split at h
 ·rename_i i j
  obtain⟨v,w,rfl,hv,hw⟩:=Ee hds
  cases cw hv
  cases cw hw
  exact⟨i,j,rfl,h.ok hS (by simp[IsD])⟩
 ·exact h.elim
theorem Aa {A:Around} {E:Value->Shared->Prop} {a:Addr} {xs:List V} (I:Inv X pins σ H s) (hq:LsL X.K H a xs\/SqT X.K H a xs) (hh:A.handled=none) {Q:Value->Shared->Prop}
  (h:∀(it:Addr) (fp:List Addr) (its:List Value) St s2,bo xs its->Walks X.prog X.w A it fp [it] its.length (λi v=>its[i]? = some v) St->St 0 s2.heap->(∀b∈fp,b<s2.heap.objs.size) ->
   (∀h' tk,(∀b o,b∉[it]->s2.heap.get? b=some o->h'.get? b=some o)->Inv X pins σ H {s2 with heap:=h',toks:=tk})->Q (.ref it) s2) :
  wpAny (model X.prog X.w) A (pyIter (.ref a)) Q E s:=by
 have fin:∀(ob:Obj) (h':Heap) (tk:Nat),(∀b o,b∉[s.heap.objs.size]->(s.heap.push ob).get? b=some o->h'.get? b=some o)->Inv X pins σ H {s with heap:=h',toks:=tk}:=λob h' tk hk =>
  I.kept λb u e=>hk b u (by simp;exact AR (AJ e)) (AB _ e)
 rcases hq with hq | hq
 ·obtain⟨z,its,n,hv,hl,hg⟩:=I.ls hq
  have hil:s.heap.IsList a its.toArray:=⟨_,hg,rfl,n,rfl⟩
  refine IB hil ?_
  have hne:a≠s.heap.objs.size:=AR (AJ hg)
  have W:=Walks.list (prog:=X.prog) (w:=X.w) (A:=A) hh s.heap.objs.size a hne its.toArray
  simp![AE,JM]at W
  refine h s.heap.objs.size _ its _ _ hv W ⟨⟨_,AI _ rfl,rfl,rfl⟩,hil.at λo e=>AB _ e⟩ (λb hb=>?_) (λh' tk hk=>fin _ h' tk hk)
  simp![AN,BD,or_false]at hb
  rw[CM]
  rcases hb with rfl | rfl
  ·exact GR _
  ·exact EB (AJ hg)
 ·obtain⟨its,hv,ht,hz⟩:=I.tuple hq
  have hit:s.heap.IsTuple a its.toArray:=ht
  refine HR hit ?_
  obtain⟨o,ho,_⟩:=id hit
  have hne:a≠s.heap.objs.size:=AR (AJ ho)
  have W:=Walks.tuple (prog:=X.prog) (w:=X.w) (A:=A) hh s.heap.objs.size a hne its.toArray
  simp![AE,JM]at W
  refine h s.heap.objs.size _ its _ _ hv W ⟨⟨_,AI _ rfl,rfl,rfl⟩,hit.at λo e=>AB _ e⟩ (λb hb=>?_) (λh' tk hk=>fin _ h' tk hk)
  simp![AN,BD,or_false]at hb
  rw[CM]
  rcases hb with rfl | rfl
  ·exact GR _
  ·exact EB (AJ ho)
theorem all_range(bs:List Bool):(List.range bs.length).all (λi=>bs.getD i false)=bs.all id:=by
 induction bs with
 |nil=>rfl
 |cons b r ih=>rw[AT,GD,BX,DN,BX];exact congrArg _ ih
theorem any_range(bs:List Bool):(List.range bs.length).any (λi=>bs.getD i false)=bs.any id:=by
 induction bs with
 |nil=>rfl
 |cons b r ih=>rw[AT,GD,CW,List.any_map,CW];exact congrArg _ ih
theorem Ab{A:Around}{bs:List Bool}{its:List Value}(hvs:bo (bs.map V.bl) its):TruthOf X.prog X.w A (λi v=>its[i]? = some v) (λi=>bs.getD i false):=by
 intro i v s Q E e q
 have hl:bs.length=its.length:=by have:=hvs.length;simpa using this
 have hi:i<bs.length:=by rw[hl];exact(AL.mp e).1
 obtain⟨u',e1,e2⟩:=hvs.get (i:=i) (x:=.bl bs[i]) (by simp[AD hi])
 rw[e]at e1;cases e1
 cases(show v=Value.bool bs[i]from e2)
 refine DF ?_
 simpa[BK,AD hi]using q
theorem bt_all{m:Mk}(hc:X.calm=true):fi X (.builtin "all") (se X.K (btD .all m)):=by
 intro pins s σ H xs us Q I r ⟨ι,ds,μ,hS,hds,h⟩
 obtain⟨d,v,rfl,hv,h⟩:=jk hds h
 obtain⟨a,bs,rfl,hq,h⟩:=z9 hS hv h
 obtain⟨u,rfl,ru⟩:=vals1 r
 cases(show u=Value.ref a from ru)
 refine call_all_walk (Aa I hq (show X.A.in1.handled=none from I.ok.hd hc) λit fp its St s2 hvs W st hfp hI=>?_)
 have hl:bs.length=its.length:=by have:=hvs.length;simpa using this
 refine⟨it,fp,[it],its.length,_,St,λi=>bs.getD i false,rfl,W,st,Ab hvs,λh' tk hk=>?_⟩
 refine⟨.bl (bs.all id),H,hI h' tk hk,?_,h.ok hS (by simp[IsD])⟩
 rw[<-hl,all_range]
 rfl
theorem bt_any{m:Mk}(hc:X.calm=true):fi X (.builtin "any") (se X.K (btD .any m)):=by
 intro pins s σ H xs us Q I r ⟨ι,ds,μ,hS,hds,h⟩
 obtain⟨d,v,rfl,hv,h⟩:=jk hds h
 obtain⟨a,bs,rfl,hq,h⟩:=z9 hS hv h
 obtain⟨u,rfl,ru⟩:=vals1 r
 cases(show u=Value.ref a from ru)
 refine call_any_walk (Aa I hq (show X.A.in1.handled=none from I.ok.hd hc) λit fp its St s2 hvs W st hfp hI=>?_)
 have hl:bs.length=its.length:=by have:=hvs.length;simpa using this
 refine⟨it,fp,[it],its.length,_,St,λi=>bs.getD i false,rfl,W,st,Ab hvs,λh' tk hk=>?_⟩
 refine⟨.bl (bs.any id),H,hI h' tk hk,?_,h.ok hS (by simp[IsD])⟩
 rw[<-hl,any_range]
 rfl
end
theorem yo {prog:Program} {w:World} {A:Around} {E:Value->Shared->Prop} {s:Shared} {t sl:Addr} {items:Array Value} {vl vu:Value} {lo hi:Option Int} {Q:Value->Shared->Prop} (ht:IsTup s.heap t items) (hs:s.heap.IsSliceOf sl vl vu .none) (pl:IsPart vl lo) (pu:IsPart vu hi)
  (hw:HT.sIx items.size 0 lo=0/\HT.sIx items.size items.size hi=items.size) (h:Q (.ref t) s):wpAny (model prog w) A (getItem (.ref t) (.ref sl)) Q E s:=by
 obtain⟨os,hos,hcs,hds⟩:=id hs
 have hTs:s.TypeIs (.ref sl) "slice":=⟨os,hos,hcs⟩
 unfold getItem
 try with_reducible refine BV ?_
 first | refine AA (AC ?_) | skip
 refine AA (wpAny_sequenceKey ht.typeIs (by decide) ?_)
 refine AA (BM (name:=Str.ofString "__getitem__") ht.typeIs CA
  (BI CA ht.typeIs entry_tuple_getitem ?_ (args_tuple_getitem _ _)))
 show wpAny _ _ (Builtin.Tuple.tupleItemsOf (.ref t)>>=_) _ _ s
 refine AA (tupleItemsOf_ ht ?_)
 refine AA (GB hTs ?_)
 rw[if_pos (by decide)]
 refine AA (HT.jd hs pl pu ?_)
 have hyes:(((HT.sIx items.size 0 lo:Nat):Int)==0&&(1:Int)==1&&(HT.sIx items.size items.size hi-HT.sIx items.size 0 lo)==items.size)=true:=by
  rw[hw.1,hw.2];simp
 show wpAny _ _ (if(((HT.sIx items.size 0 lo:Nat):Int)==0&&(1:Int)==1&&(HT.sIx items.size items.size hi-HT.sIx items.size 0 lo)==items.size)=true then _ else _) _ _ s
 rw[if_pos hyes]
 refine AA ?_
 unfold Builtin.Tuple.tupleIsExact
 refine AA (GB ht.typeIs (AC ?_))
 rw[if_pos (by decide)]
 exact AA (FV (AC ⟨_,rfl,AC h⟩))
section
variable{X:Cx}{φ:Phi}{pins:List (Addr × Obj)}{σ:St}{H:Hp}{s:Shared}
theorem Vx{m:Mk}:SlR X (λx lo hi H Q=>∃ι d μ,Sim X.K ι H μ/\IsD X.K ι H d x/\ft X.K (RD X.K) ι H (slD m d lo hi μ) Q):=by
 intro pins s σ H x v vl vu lo hi sl Q I rx hs pl pu ⟨ι,d,μ,hS,hd,h⟩
 unfold slD at h
 split at h
 ·rename_i ds
  obtain⟨a,xs,rfl,hq,hxs⟩:=fz hd
  by_cases hw:HT.sIx xs.length 0 lo=0/\HT.sIx xs.length xs.length hi=xs.length
  ·cases(show v=Value.ref a from rx)
   obtain⟨its,r,ht,hz⟩:=I.tuple hq
   have hlen:its.toArray.size=xs.length:=by rw[AE];exact r.length.symm
   refine⟨"tuple",_,CA.lookup,ht.typeIs,yo ht hs pl pu (by rw[hlen];exact hw) ⟨.ref a,H,I,rfl,h.ok hS ?_⟩⟩
   have e1:∀n d o,Lp.sIx n d o=HT.sIx n d o:=λn d o=>by cases o<;>rfl
   have ec:cut ds lo hi=ds:=by
    unfold cut
    rw[e1,e1,<-hxs.length,hw.1,hw.2]
    simp[hxs.length]
   rw[ec]
   exact hd
  ·exact Pz pins s σ H _ v vl vu lo hi sl Q I rx hs pl pu ⟨a,xs,rfl,hq,hw,λp hp=>rq hS (Kk hxs lo hi) h hp⟩
 ·split at h
  ·rename_i es
   obtain⟨a,xs,rfl,ha,hxs⟩:=ic hS hd es
   exact SlR.fq M0 pins s σ H _ v vl vu lo hi sl Q I rx hs pl pu ⟨a,xs,rfl,ha.sq,λp hp=>i6 hS (Kk hxs lo hi) h hp⟩
  ·exact h.elim
theorem PO.imp{e:Option Expr}{t t':TO}(h:PO X e t)(i:∀σ H Q,t' σ H Q->t σ H Q):PO X e t':=by
 intro pins s σ H Q I q
 exact h pins s σ H Q I (i _ _ _ q)
theorem Y9:PO X none (tEo X.K φ .no):=PO.imp Mw λσv H Q ⟨ι,σ,μ,hS,hL,h⟩=>by
 simp![evO]at h
 exact h.ok hS rfl
theorem Za{e:Expr}{x:Ex}(he:PE X e (tE X.K φ x)):PO X (some e) (tEo X.K φ (.so x)):=PO.imp (Mx he) λσv H Q ⟨ι,σ,μ,hS,hL,h⟩=>by
 simp![evO]at h
 obtain⟨d,μ1,e1,h⟩:=h.bind
 refine⟨ι,σ,μ,hS,hL,?_⟩
 rw[e1]
 intro ι1 v H1 p1 x1 s1 d1
 cases d with
 |int i=>exact⟨i,cw d1,h ι1 (some i) H1 p1 x1 s1 rfl⟩
 |_=>exact h.elim
theorem Zb{e:Expr}{lo hi:Option Expr}{x:Ex}{xl xh:ExO}{m:Mk}{p2 pos:Pos}(he:PE X e (tE X.K φ x))(hl:PO X lo (tEo X.K φ xl))(hh:PO X hi (tEo X.K φ xh)):PE X (.Subscript e (.Slice lo hi none p2) pos) (tE X.K φ (.sl m x xl xh)) :=
 PE.imp (Hr Vx he hl hh) λσv H Q ⟨ι,σ,μ,hS,hL,h⟩=>by
  simp![evE]at h
  obtain⟨d,μ1,e1,h⟩:=h.bind
  refine⟨ι,σ,μ,hS,hL,?_⟩
  rw[e1]
  intro ι1 v H1 p1 x1 s1 d1
  obtain⟨l,μ2,e2,h⟩:=h.bind
  refine⟨ι1,σ,μ1,s1,hL.mono p1 x1,?_⟩
  rw[e2]
  intro ι2 l' H2 p2 x2 s2 d2
  cases d2
  obtain⟨u,μ3,e3,h⟩:=h.bind
  refine⟨ι2,σ,μ2,s2,(hL.mono p1 x1).mono p2 x2,?_⟩
  rw[e3]
  intro ι3 u' H3 p3 x3 s3 d3
  cases d3
  exact⟨ι3,d,μ3,s3,IsD.mono p3 x3 _ _ (IsD.mono p2 x2 _ _ d1),h.mono ((p1.trans p2).trans p3) ((x1.trans x2).trans x3)⟩
noncomputable def mr:Cl->String
 |.int=>"int"
 |.bool=>"bool"
 |.tuple=>"tuple"
 |.list=>"list"
 |.str=>"str"
 |.own _=>""
noncomputable def sf:String->Cl->Bool
 | "bool",.int=>true
 | "bool",.bool=>true
 | "int",.int=>true
 | "str",.str=>true
 | "tuple",.tuple=>true
 | "list",.list=>true
 |_,_=>false
theorem om(K:PySem.W.Frag)(t:String)(c:Cl)(hc:∀n,c≠.own n)(ht:t∈["NoneType","bool","int","str","tuple","list"]):PySem.W.kitOne K (.type t) (.type (mr c))=some (sf t c):=by
 simp![AN,BD,or_false]at ht
 rcases ht with rfl | rfl | rfl | rfl | rfl | rfl<;>cases c<;>first | rfl | exact absurd rfl (hc _)
theorem Ri{c:Cl}(hc:∀n,c≠.own n):fi X (.builtin "isinstance") (λxs H Q=>∃ι d μ v,xs=[v,.ty (mr c)]/\Sim X.K ι H μ/\IsD X.K ι H d v/\ft X.K (RD X.K) ι H (Qn c d μ) Q):=by
 intro pins s σ H xs us Q I r ⟨ι,d,μ,v,e,hS,hd,h⟩
 subst e
 obtain⟨u,w,rfl,ru,rw'⟩:=vals2 r
 cases(show w=Value.type (mr c)from rw')
 have key:∀(t:String),t∈["NoneType","bool","int","str","tuple","list"]->(∀tk,EP X pins σ Q (.bool (sf t c)) {s with toks:=tk})->PySem.W.kitOne X.K (.type t) (.type (mr c))=some (sf t c)/\∀tk,EP X pins σ Q (.bool (sf t c)) {s with toks:=tk}:=λt ht hq=>⟨om X.K t c hc ht,hq⟩
 have lst:∀a xs,v=.ref a->LsL X.K H a xs->Q (.bl (sf "list" c)) H->wpAny (model X.prog X.w) X.A (call (.builtin "isinstance") [u,.type (mr c)]) (EP X pins σ Q) X.xe s:=λa xs e hq q=>by
  subst e
  cases(show u=Value.ref a from ru)
  obtain⟨z,its,n,hv,_,hg⟩:=I.ls hq
  exact EO PySem.W.kitx_list I.kIn ⟨_,hg,rfl⟩ (om X.K "list" c hc (by decide)) (λz=>nomatch z) λtk=>⟨.bl (sf "list" c),H,I.tok tk,rfl,q⟩
 cases d with
 |non =>
  cases(show v=.non by simpa[IsD]using hd)
  cases(show u=Value.none from ru)
  refine EO PySem.W.kitx_none I.kIn True.intro (om X.K "NoneType" c hc (by decide)) (λz=>nomatch z) λtk=>⟨.bl (sf "NoneType" c),H,I.tok tk,rfl,?_⟩
  cases c<;>first | exact absurd rfl (hc _) | exact h.ok hS (by simp[IsD,sf])
 |bl b =>
  cases vg hd
  cases(show u=Value.bool b from ru)
  refine EO PySem.W.kitx_bool I.kIn True.intro (om X.K "bool" c hc (by decide)) (λz=>nomatch z) λtk=>⟨.bl (sf "bool" c),H,I.tok tk,rfl,?_⟩
  cases c<;>first | exact absurd rfl (hc _) | exact h.ok hS (by simp[IsD,sf])
 |int i =>
  cases cw hd
  obtain⟨t,rfl⟩:=(show ∃t,u=Value.int i t from ru)
  refine EO PySem.W.kitx_int I.kIn True.intro (om X.K "int" c hc (by decide)) (λz=>nomatch z) λtk=>⟨.bl (sf "int" c),H,I.tok tk,rfl,?_⟩
  cases c<;>first | exact absurd rfl (hc _) | exact h.ok hS (by simp[IsD,sf])
 |str x =>
  cases(show v=.str x by simpa[IsD]using hd)
  obtain⟨t,rfl⟩:=(show ∃t,u=Value.str x t from ru)
  refine EO PySem.W.kitx_str I.kIn True.intro (om X.K "str" c hc (by decide)) (λz=>nomatch z) λtk=>⟨.bl (sf "str" c),H,I.tok tk,rfl,?_⟩
  cases c<;>first | exact absurd rfl (hc _) | exact h.ok hS (by simp[IsD,sf])
 |tup ds =>
  obtain⟨a,xs,rfl,hq,hxs⟩:=fz hd
  cases(show u=Value.ref a from ru)
  obtain⟨its,hv,⟨o,h1,h2,_⟩,hz⟩:=I.tuple hq
  refine EO PySem.W.kitx_tuple I.kIn ⟨o,h1,h2⟩ (om X.K "tuple" c hc (by decide)) (λz=>nomatch z) λtk=>⟨.bl (sf "tuple" c),H,I.tok tk,rfl,?_⟩
  cases c<;>first | exact absurd rfl (hc _) | exact h.ok hS (by simp[IsD,sf])
 |lst ds =>
  obtain⟨a,xs,rfl,hq,hxs⟩:∃a xs,v=.ref a/\FzL X.K H a xs/\ah X.K ι H ds xs:=by simpa[IsD]using hd
  refine lst a xs rfl (.inr hq) ?_
  cases c<;>first | exact absurd rfl (hc _) | exact h.ok hS (by simp[IsD,sf])
 |loc n =>
  cases c with
  |list =>
   simp![Qn]at h
   split at h
   ·rename_i ds em
    obtain⟨a,xs,rfl,hq,hxs⟩:=ic (ds:=ds) hS hd (by simp[listOf,em])
    exact lst a xs rfl hq (h.ok hS (by simp[IsD,sf]))
   ·rename_i ds em
    obtain⟨a,xs,rfl,hq,hxs⟩:=ic (ds:=ds) hS hd (by simp[listOf,em])
    exact lst a xs rfl hq (h.ok hS (by simp[IsD,sf]))
   ·exact h.elim
  |own k=>exact absurd rfl (hc k)
  |_=>exact h.elim
theorem Vy {a:Expr} {xa:Ex} {c:Cl} {cn:Str} {p cp pos:Pos} (hc:∀n,c≠.own n) (ha:PE X a (tE X.K φ xa)) (hgi:Gl X "isinstance") (hmi:X.mg "isinstance"=none) (hgc:Gl X cn) (hmc:X.mg cn=none) (hbc:bootBuiltins cn=some (.type (mr c)))
  (hn:cn≠"__name__") (hd:(cn==("__debug__":Str))=false) (hs:starEach [a,.Name cn cp] X.env=(false,eval a X.env)::starEach [.Name cn cp] X.env) :
  PE X (.Call (.Name "isinstance" p) [a,.Name cn cp] [] pos) (tE X.K φ (.isi xa c)):=by
 have hb:PE X (.Name cn cp) (tC (.ty (mr c))):=Ml hgc hmc hbc rfl hn hd
 refine PE.imp (iy (Ri hc) hgi hmi boot_isinstance (xp ha (xp hb Kb) hs) (by decide) (by decide) hs) λσv H Q ⟨ι,σ,μ,hS,hL,h⟩=>?_
 simp![evE]at h
 obtain⟨d,μ1,e1,h⟩:=h.bind
 refine⟨ι,σ,μ,hS,hL,?_⟩
 rw[e1]
 exact λι1 v H1 p1 x1 s1 d1=>⟨ι1,d,μ1,v,rfl,s1,d1,h.mono p1 x1⟩
theorem Km{K:PySem.W.Frag}{ι:List Addr}{μ:Sto}{n:Nat}{v:V}{ob:O}{xs:List D}(hS:Sim K ι H μ)(hd:IsD K ι H (.loc n) v)(e:μ[n]? = some ob)(hi:gi ob=some xs) :
  ∃a vs,v=.ref a/\ι[n]? = some a/\H a=some (.lst vs)/\ah K ι H xs vs/\(∀ds,ob=.l ds->ah K [] H xs vs):=by
 obtain⟨a,rfl,ha⟩:∃a,v=.ref a/\ι[n]? = some a:=by simpa[IsD]using hd
 obtain⟨a',ea,ho⟩:=hS.at e
 rw[ha]at ea;cases ea
 cases ob with
 |l ds =>
  cases hi
  obtain⟨vs,e1,e2⟩:=ho
  exact⟨a,vs,rfl,ha,e1,ah.mono (CH) (.refl _) _ _ e2,λ_ _=>e2⟩
 |r ds =>
  cases hi
  obtain⟨vs,e1,e2⟩:=ho
  exact⟨a,vs,rfl,ha,e1,e2,λ_ z=>by cases z⟩
 |d _=>cases hi
 |dt _=>cases hi
 |x _=>cases hi
 |o _ _=>cases hi
 |dr _=>cases hi
 |fd _=>cases hi
 |dead=>cases hi
theorem ju {K:PySem.W.Frag} {ι:List Addr} {μ:Sto} {n:Nat} {ob:O} {ys:List D} {vs ws:List V} {d:D} {v:V} {a:Addr} {Q:VK} (hS:Sim K ι H μ) (ha:ι[n]? = some a) (hH:H a=some (.lst vs))
  (hw:ah K ι H ys ws) (hw0:∀ds,ob=.l ds->ah K [] H ys ws) (hd:IsD K ι H d v) (h:ft K (RD K) ι H (putL n ob ys d μ) Q):Q v (upd H a (.lst ws)):=by
 cases ob with
 |l ds =>
  exact h ι v _ (AK _) (.lst hH) (hS.put ha (.lst hH) ⟨ws,ax,ah.mono (AK _) (.lst hH) _ _ (hw0 ds rfl)⟩) (IsD.mono (AK _) (.lst hH) _ _ hd)
 |r ds =>
  exact h ι v _ (AK _) (.lst hH) (hS.put ha (.lst hH) ⟨ws,ax,ah.mono (AK _) (.lst hH) _ _ hw⟩) (IsD.mono (AK _) (.lst hH) _ _ hd)
 |d _=>exact h.elim
 |dt _=>exact h.elim
 |x _=>exact h.elim
 |o _ _=>exact h.elim
 |dr _=>exact h.elim
 |fd _=>exact h.elim
 |dead=>exact h.elim
theorem oo{K:PySem.W.Frag}{ι:List Addr}{ob:O}{d:D}{v:V}(hf:fits ob d=true)(hd:IsD K ι H d v):∀ds,ob=.l ds->IsD K [] H d v:=λds e=>by
 subst e
 exact IsD.pur hf hd
noncomputable def rMt(K:PySem.W.Frag)(mt:Mt):V->List V->Hp->VK->Prop:=λx vs H Q=>∃ι d ds μ,Sim K ι H μ/\IsD K ι H d x/\ah K ι H ds vs/\ft K (RD K) ι H (mtD mt d ds μ) Q
theorem Ij{mt:Mt}(hne:mt≠.count/\mt≠.countL/\mt≠.get){x:V}{vs:List V}{Q:VK}(h:rMt X.K mt x vs H Q):∃ι n ob xs ds μ a ws,Sim X.K ι H μ/\ah X.K ι H ds vs/\x=.ref a/\ι[n]? = some a/\H a=some (.lst ws)/\ah X.K ι H xs ws /\
  (∀es,ob=.l es->ah X.K [] H xs ws)/\ft X.K (RD X.K) ι H (mtL mt n ob xs ds μ) Q:=by
 obtain⟨ι,d,ds,μ,hS,hd,hds,h⟩:=h
 have e0:mtD mt d ds μ=vd mt d ds μ:=by
  cases mt<;>first | exact absurd rfl hne.1 | exact absurd rfl hne.2.1 | exact absurd rfl hne.2.2 | rfl
 rw[e0]at h
 cases d with
 |loc n =>
  simp![vd]at h
  cases em:μ[n]? with
  |none=>rw[em]at h;exact h.elim
  |some ob =>
   rw[em]at h
   simp only at h
   cases ei:gi ob with
   |none=>rw[ei]at h;exact h.elim
   |some xs =>
    rw[ei]at h
    obtain⟨a,ws,ex,ha,hH,h1,h2⟩:=Km hS hd em ei
    exact⟨ι,n,ob,xs,ds,μ,a,ws,hS,hds,ex,ha,hH,h1,h2,h⟩
 |_=>exact h.elim
theorem Ik:MtR X "list.append" (rMt X.K .append):=MtR.imp Ds λx vs H Q h0=>by
 obtain⟨ι,n,ob,xs,ds,μ,a,ws,hS,hds,rfl,ha,hH,h1,h2,h⟩:=Ij (by decide) h0
 clear h0
 simp![mtL]at h
 obtain⟨d,v,rfl,hv,h⟩:=jk hds h
 split at h
 ·rename_i hf
  rw[fu]at hf
  refine⟨a,ws,v,rfl,rfl,hH,by rw[h1.length];exact hf.2,ju hS ha hH (h1.append (.one hv)) (λes e=>(h2 es e).append (.one (oo hf.1 hv es e))) (by simp[IsD]) h⟩
 ·exact h.elim
theorem Vz:MtR X "list.pop" (rMt X.K .pop):=by
 intro pins s σ H x vs v us Q I rx rv h0
 obtain⟨ι,n,ob,xs,ds,μ,a,ws,hS,hds,rfl,ha,hH,h1,h2,h⟩:=Ij (by decide) h0
 clear h0
 simp![mtL]at h
 split at h
 ·have e:vs=[]:=by simpa[ah]using hds
  subst e
  split at h
  ·rename_i d ed
   have hl:xs[xs.length-1]? = some d:=by rw[<-List.getLast?_eq_getElem?];exact ed
   obtain⟨w,ew,hw⟩:=h1.get hl
   refine P9 pins s σ H _ _ v us Q I rx rv ⟨a,ws,w,rfl,rfl,hH,by rw[h1.length];exact ew,ju hS ha hH h1.dropLast (λes e=>(h2 es e).dropLast) hw h⟩
  ·exact h.elim
 ·rename_i i
  obtain⟨w0,rfl,hw0⟩:=Kl hds
  cases cw hw0
  split at h
  ·rename_i hi
   rw[fu]at hi
   have h24:sizeLine=16777216:=CB
   rw[h24]at hi
   split at h
   ·rename_i d ed
    obtain⟨w,ew,hw⟩:=h1.get ed
    have hlt:i.toNat<xs.length:=(AL.mp ed).1
    refine Ht pins s σ H _ _ v us Q I rx rv ⟨a,ws,i,i.toNat,w,rfl,rfl,hH,by lia,by lia,?_,ew,ju hS ha hH (h1.eraseIdx _) (λes e=>(h2 es e).eraseIdx _) hw h⟩
    rw[h1.length]
    exact PySem.StrLaws.seqIndex_nonneg hi.1 (by lia)
   ·exact h.elim
  ·exact h.elim
 ·exact h.elim
theorem Il:MtR X "list.extend" (rMt X.K .extend):=by
 intro pins s σ H x vs v us Q I rx rv h0
 obtain⟨ι,n,ob,xs,ds,μ,a,ws,hS,hds,rfl,ha,hH,h1,h2,h⟩:=Ij (by decide) h0
 clear h0
 simp![mtL]at h
 obtain⟨d,w0,rfl,hv,h⟩:=jk hds h
 split at h
 ·rename_i ys ey
  split at h
  ·rename_i hf
   rw[fu]at hf
   obtain⟨b,zs,rfl,hb,hzs⟩:=ic hS hv ey
   cases(show v=Value.ref a from rx)
   obtain⟨u,rfl,ru⟩:=rv.one
   cases(show u=Value.ref b from ru)
   obtain⟨z,its,n1,r,hl,e⟩:=I.lstM hH
   obtain⟨z2,its2,n2,r2,hl2,e2⟩:=I.ls hb
   have l1:=h1.length
   have l2:=hzs.length
   have hsz:its.toArray.size+its2.toArray.size<=sizeLine:=by rw[AE,AE];lia
   have hlong:¬(!its.toArray.isEmpty&&Builtin.List.listTooLong (its.toArray.size+its2.toArray.size))=true:=by
    rw[zr hsz,JW]
    exact AU
   refine GP F.slot_list_extend ⟨_,e,rfl⟩ F.entry_list_extend (F.args_list_extend_2 _ _)
    (AutoSeq1.list_extend_list_list_0 a its.toArray n1 b its2.toArray n2 hlong (by rw[AE];lia) (by lia)) ⟨e,e2,?_⟩
   refine⟨.non,_,I.lset (its':=its++its2) hH e (by simp) (r.append r2) ?_,rfl,ju hS ha hH (h1.append hzs) (λes ee=>(h2 es ee).append ?_) (by simp[IsD]) h⟩
   ·rw[AY]
    lia
   ·subst ee
    exact ah.pur (by simpa[fits]using hf.1) hzs
  ·exact h.elim
 ·exact h.elim
end
theorem IsD.belowN{K:PySem.W.Frag}{ι ι':List Addr}{H:Hp}(hp:ι <+: ι'):∀(k:Nat) (d:D) (v:V),D.belowN ι.length k d=true->IsD K ι' H d v->IsD K ι H d v:=by
 have list:∀(k:Nat),(∀(d:D) (v:V),D.belowN ι.length k d=true->IsD K ι' H d v->IsD K ι H d v) ->
   ∀(ds:List D) (xs:List V),ds.all (D.belowN ι.length k)=true->ah K ι' H ds xs->ah K ι H ds xs:=by
  intro k ih ds
  induction ds with
  |nil=>intro xs _ h;simpa[ah]using h
  |cons d ds ihd =>
   intro xs hp h
   simp![ah]at h ⊢
   simp![BX,AX]at hp
   obtain⟨v,r,e,q,t⟩:=h
   exact⟨v,r,e,ih d v hp.1 q,ihd r hp.2 t⟩
 have loc:∀(n:Nat) (v:V),n<ι.length->IsD K ι' H (.loc n) v->IsD K ι H (.loc n) v:=λn v hn h=>by
  simp![IsD]at h ⊢
  obtain⟨a,e,q⟩:=h
  obtain⟨t,rfl⟩:=hp
  rw[AV hn]at q
  exact⟨a,e,q⟩
 intro k
 induction k with
 |zero =>
  intro d v hb h
  cases d with
  |loc n=>exact loc n v (by simpa[D.belowN]using hb) h
  |tup ds=>simp[D.belowN]at hb
  |lst ds=>simp[D.belowN]at hb
  |_=>simpa[IsD]using h
 |succ k ih =>
  intro d v hb h
  cases d with
  |tup ds =>
   simp![D.belowN]at hb
   simp![IsD]at h ⊢
   obtain⟨a,xs,e,q,r⟩:=h
   exact⟨a,xs,e,q,list k ih ds xs hb r⟩
  |lst ds =>
   simp![D.belowN]at hb
   simp![IsD]at h ⊢
   obtain⟨a,xs,e,q,r⟩:=h
   exact⟨a,xs,e,q,list k ih ds xs hb r⟩
  |loc n=>exact loc n v (by simpa[D.belowN]using hb) h
  |_=>simpa[IsD]using h
theorem ah.belowN{K:PySem.W.Frag}{ι ι':List Addr}{H:Hp}(hp:ι <+: ι'){k:Nat}:∀(ds:List D) (xs:List V),ds.all (D.belowN ι.length k)=true->ah K ι' H ds xs->ah K ι H ds xs
 | [],xs,_,h=>by simpa[ah]using h
 |d::ds,xs,hb,h=>by
  simp![ah]at h ⊢
  simp![BX,AX]at hb
  obtain⟨v,r,e,q,t⟩:=h
  exact⟨v,r,e,IsD.belowN hp k d v hb.1 q,ah.belowN hp ds r hb.2 t⟩
theorem Ef{K:PySem.W.Frag}{ι ι':List Addr}{H:Hp}(hp:ι <+: ι'):∀{fs:List (Str×D)} {xs:List (Str×V)},(fs.all λp=>D.belowN ι.length 8 p.2)=true->FsD K ι' H fs xs->FsD K ι H fs xs
 |_,_,_,.nil=>.nil
 |(f,d)::r,(g,v)::q,h,.cons z t=>by
  simp![BX,AX]at h
  exact .cons ⟨z.1,IsD.belowN hp 8 d v h.1 z.2⟩ (Ef hp h.2 t)
theorem Eg{K:PySem.W.Frag}{ι ι':List Addr}{H:Hp}(hp:ι <+: ι'):∀{fs:List (D×D)} {xs:List (Key×V)},(fs.all λp=>D.belowN ι.length 8 p.2)=true->yd K ι' H fs xs->yd K ι H fs xs
 |_,_,_,.nil=>.nil
 |(f,d)::r,(g,v)::q,h,.cons z t=>by
  simp![BX,AX]at h
  exact .cons ⟨z.1,IsD.belowN hp 8 d v h.1 z.2⟩ (Eg hp h.2 t)
theorem Sim.cut{K:PySem.W.Frag}{ι ι':List Addr}{H:Hp}{μ:Sto}(h:Sim K ι' H μ)(hp:ι <+: ι')(hc:(μ.take ι.length).all (gh ι.length)=true):Sim K ι H (μ.take ι.length):=by
 have hl:ι.length<=μ.length:=by rw[<-h.len];exact hp.length_le
 refine⟨by rw[EE];lia,hp.sublist.nodup h.nd,λn a o e1 e2=>?_⟩
 have hn:n<ι.length:=(AL.mp e1).1
 have e1':ι'[n]? = some a:=by
  obtain⟨t,rfl⟩:=hp
  rw[AV hn];exact e1
 have e2':μ[n]? = some o:=by
  rw[IH hn]at e2;exact e2
 have q:=h.obj n a o e1' e2'
 have c:gh ι.length o=true:=AW.mp hc o (CL e2)
 cases o with
 |l ds=>exact q
 |r ds =>
  obtain⟨xs,e,r⟩:=q
  exact⟨xs,e,ah.belowN hp ds xs c r⟩
 |d kvs=>exact q
 |dt kvs=>exact q
 |x c=>exact q
 |o c' fs =>
  obtain⟨C,dx,xs,n,e,r⟩:=q
  exact⟨C,dx,xs,n,e,Ef hp c r⟩
 |dr kvs =>
  obtain⟨xs,e,r⟩:=q
  exact⟨xs,e,Eg hp c r⟩
 |fd kvs=>exact q
 |dead=>exact q
theorem Eh{K:PySem.W.Frag}{ι:List Addr}{H:Hp}{μ:Sto}{keep:Bool}{r:Res D}{Q:VK}(hS:Sim K ι H μ)(h:ft K (RD K) ι H (l5 keep μ.length r) Q):ft K (RD K) ι H r Q:=by
 cases r with
 |exc c ds μ'=>exact h
 |stuck=>exact h
 |ok d μ' =>
  cases keep with
  |true=>simpa[l5]using h
  |false =>
   simp![l5,AQ,if_false]at h
   split at h
   ·rename_i hc
    rw[<-hS.len]at hc h
    exact λι' v H' p e s q=>h ι v H' (AK _) e (s.cut p hc.2) (IsD.belowN p 8 d v hc.1 q)
   ·exact h.elim
noncomputable def spD(K:PySem.W.Frag)(φ:Phi)(f:Nat):Sp:=λvs H Q _=>∃ι ds μ,Sim K ι H μ/\ah K ι H ds vs/\ft K (RD K) ι H (φ f ds μ) Q
noncomputable def Callee(P:Program)(w:World)(K:PySem.W.Frag)(mg:Str->Option Value)(base:Heap)(A:Around)(φ:Phi)(f:Nat)(x:Str):Prop :=
 ∃(k:Nat) (fa:Addr) (fd:FuncData) (ps:List Str),FnOk P w K mg base CX0 k fa fd ps (spD K φ f)/\Dk k A/\mg x=some (.ref fa)/\PySem.W.keepIn K (.ref fa)=true/\Binds K fd ps []
section
variable{X:Cx}{φ:Phi}{x:Str}{p pos:Pos}{e:Expr}{es:List Expr}{xs:Exs}{f:Nat}{keep:Bool}
theorem s_call (C:Callee X.prog X.w X.K X.mg X.base X.A φ f x) (hg:Gl X x) (ha:PA X (e::es) (tEs X.K φ xs)) (hdb:(x==("__debug__":Str))=false)
  (he:starEach (e::es) X.env=(false,eval e X.env)::starEach es X.env) (hpl:(backTo pos (starEach es X.env)).any (·.1)=false):PE X (.Call (.Name x p) (e::es) [] pos) (tE X.K φ (.call keep f xs)):=by
 obtain⟨k,fa,fd,ps,F,hr,hm,hk,hb⟩:=C
 refine PE.imp (Mu F hr.1 hg hm hk hb .nil U3 ha hdb he hpl) λσv H Q ⟨ι,σ,μ,hS,hL,h⟩=>?_
 simp![evE]at h
 obtain⟨ds,μ1,e1,h⟩:=h.bind
 refine⟨ι,σ,μ,hS,hL,?_⟩
 rw[e1]
 intro ι1 vs H1 p1 x1 s1 d1
 exact⟨ι1,ds,μ1,s1,by rw[JD];exact d1,Eh s1 (h.mono p1 x1)⟩
end
theorem Nx {P:Program} {w:World} {K:PySem.W.Frag} {mg:Str->Option Value} {base:Heap} {x qual:Str} {st:Stmt} {fa:Addr} {fd:FuncData} {N ps:List Str} {n f:Nat} {T:List Df} {df:Df} (F:Fun K x qual st fa fd) (S:FnScope N ps (bf st))
  (hd:T[f]? = some df) (hnp:df.np=ps.length) (hnn:df.nn=N.length)
  (hb:∀(cdv:Value) (A:Around) (outer:List Env) (s:Shared) (H:Hp) (E:XK),Dk n (A.deeper (envOfC qual (bf st) s.heap.objs.size fa cdv)) ->
   PSs (Hn CX0 P w K mg base N qual (bf st) fa cdv A outer s H E).nox (i4 st) (tSs K (aq T n) df.body)):FnOk P w K mg base CX0 (n+1) fa fd ps (spD K (aq T (n+1)) f):=by
 have len:∀{vs:List V} {H:Hp} {ds:List D} {ι:List Addr} {μ:Sto} {Q:VK},ah K ι H ds vs->ft K (RD K) ι H (aq T (n+1) f ds μ) Q->ds.length=df.np:=λ{vs H ds ι μ Q} hds h=>by
  simp![aq,hd,O4]at h
  split at h
  ·assumption
  ·exact h.elim
 refine F.ok S (λvs H Q E ⟨ι,ds,μ,hS,hds,h⟩=>?_) λcdv A outer s H vs Q E hr ⟨ι,ds,μ,hS,hds,h⟩=>⟨_,hb cdv A outer s H E hr,?_⟩
 ·rw[hds.length,len hds h,hnp]
 ·have hl:=len hds h
  refine⟨ι,ds.map some++List.replicate (df.nn-df.np) none,μ,hS,λi d e=>?_,?_,?_⟩
  ·by_cases hi:i<ds.length
   ·rw[AV (by simpa using hi),BL]at e
    cases ed:ds[i]? with
    |none=>rw[ed]at e;cases e
    |some d' =>
     rw[ed]at e
     simp![JG,BO]at e
     subst e
     obtain⟨v,ev,hv⟩:=hds.get ed
     refine⟨v,?_,hv⟩
     unfold L2.start
     rw[AV (by rw[AG,hds.length];exact hi),BL,ev]
     rfl
   ·rw[DG (by simpa using hi),DO]at e
    split at e<;>cases e
  ·unfold L2.start
   simp![AY,AG,JK,hds.length]
   lia
  ·simp![aq,hd,O4,if_pos hl]at h
   cases er:k6 (aq T n) df.body (ds.map some++List.replicate (df.nn-df.np) none) μ with
   |exc c es μ'=>rw[er]at h;exact h.elim
   |stuck=>rw[er]at h;exact h.elim
   |ok fl μ' =>
    rw[er]at h
    simp![Res.bg]at h
    cases fl with
    |nx σ'=>exact λι' σv H' p e s' l z=>h ι' .non H' p e s' (by simp[IsD])
    |rt d=>exact λι' v H' p e s' q=>h ι' v H' p e s' q
    |bk σ'=>exact h.elim
    |ct σ'=>exact h.elim
theorem Ny{P:Program}{w:World}{K:PySem.W.Frag}{mg:Str->Option Value}{base:Heap}{fa:Addr}{fd:FuncData}{ps:List Str}{f:Nat}{T:List Df}:FnOk P w K mg base CX0 0 fa fd ps (spD K (aq T 0) f) :=
 ⟨λvs H Q E ⟨ι,ds,μ,hS,hds,h⟩=>h.elim,λA outer s H args us vs Q E hr he hb hv ⟨ι,ds,μ,hS,hds,h⟩=>h.elim⟩
structure Ent where
 id:Nat
 name:Str
 st:Stmt
 N:List Str
 ps:List Str
 df:Df
structure ModOf (K:PySem.W.Frag) (mg:Str->Option Value) (e:Ent):Prop where
 ex:∃(fa:Addr) (fd:FuncData),mg e.name=some (.ref fa)/\Fun K e.name e.name e.st fa fd/\∀us:List Value,us.length=e.ps.length->bindArgs fd ⟨us,[]⟩=pure (e.ps.zip us)
theorem dz {K:PySem.W.Frag} {h:Heap} {mg:Str->Option Value} {e:Ent} {f:Addr} {oc:Value} {od an:Option Addr} {sl:Array (Option Value)} {kV dc pm cd ct:Value} (X:K.In h) (G:h.Ns mainGlobals mg) (a:PySem.W.nsIn K mainGlobals e.name=some (some (.ref f)))
  (l:K.lookup f=some ⟨oc,od,.func (PySem.W.fnOf e.name e.name (n4 e.st) (i4 e.st) (bf e.st) .none kV dc pm an cd ct),sl⟩) (c:PySem.W.codeIn K cd e.name=true) (k:PySem.W.keepIn K (.ref f)=true)
  (hb:∀(kV doc pm:Value) (an:Option Addr) (cdv ct:Value) (us:List Value),us.length=e.ps.length->bindArgs (PySem.W.fnOf e.name e.name (n4 e.st) (i4 e.st) (bf e.st) .none kV doc pm an cdv ct) ⟨us,[]⟩=pure (e.ps.zip us)):ModOf K mg e :=
 ⟨f,_,PySem.W.mg_of X G a,Qe l c k,hb kV dc pm an cd ct⟩
structure Derived (T:List Df) (P:Program) (w:World) (K:PySem.W.Frag) (mg:Str->Option Value) (base:Heap) (es:List Ent) (e:Ent):Prop where
 sc:FnScope e.N e.ps (bf e.st)
 tb:T[e.id]? = some e.df
 np:e.df.np=e.ps.length
 nn:e.df.nn=e.N.length
 dv:∀(n:Nat) (fa:Addr) (cdv:Value) (A:Around) (outer:List Env) (s:Shared) (H:Hp) (E:XK),(A.deeper (envOfC e.name (bf e.st) s.heap.objs.size fa cdv)).units+64<cLine ->
  (∀(j:Nat) e',es[j]? = some e'->Callee P w K mg base (A.deeper (envOfC e.name (bf e.st) s.heap.objs.size fa cdv)) (aq T n) e'.id e'.name) ->
  PSs (Hn CX0 P w K mg base e.N e.name (bf e.st) fa cdv A outer s H E).nox (i4 e.st) (tSs K (aq T n) e.df.body)
theorem Kn{T:List Df}{P:Program}{w:World}{K:PySem.W.Frag}{mg:Str->Option Value}{base:Heap}{es:List Ent}(M:∀(j:Nat) e,es[j]? = some e->ModOf K mg e)(Dv:∀(j:Nat) e,es[j]? = some e->Derived T P w K mg base es e) :
  ∀(n:Nat) (j:Nat) e,es[j]? = some e->∀(fa:Addr) (fd:FuncData),mg e.name=some (.ref fa)->Fun K e.name e.name e.st fa fd->FnOk P w K mg base CX0 n fa fd e.ps (spD K (aq T n) e.id)
 |0,j,e,_,fa,fd,_,_=>Ny
 |n+1,j,e,he,fa,fd,hm,hF=>by
  have d:=Dv j e he
  refine Nx hF d.sc d.tb d.np d.nn λcdv A outer s H E hr=>d.dv n fa cdv A outer s H E hr.1.units λi e' he'=>?_
  obtain⟨fa',fd',hm',hF',hb'⟩:=(M i e' he').ex
  exact⟨n,fa',fd',e'.ps,Kn M Dv n i e' he' fa' fd' hm' hF',hr,hm',hF'.kp,.all hb'⟩
noncomputable def Im(K:PySem.W.Frag):Sp:=λvs H Q _=>∃(a:Addr) (ns:List Int),vs=[.ref a]/\FzL K H a (ns.map V.int)/\ns.length<=63/\∀H',Q (.bl true) H'
theorem Rj {T:List Df} {P:Program} {w:World} {K:PySem.W.Frag} {mg:Str->Option Value} {base:Heap} {es:List Ent} {n j:Nat} {e:Ent} {fa:Addr} {fd:FuncData} (M:∀(j:Nat) e,es[j]? = some e->ModOf K mg e) (Dv:∀(j:Nat) e,es[j]? = some e->Derived T P w K mg base es e)
  (he:es[j]? = some e) (hm:mg e.name=some (.ref fa)) (hF:Fun K e.name e.name e.st fa fd) (hps:e.ps.length=1)
  (hlaw:∀ns:List Int,ns.length<=63->∃μ',aq T n e.id [.lst (ns.map D.int)] []=.ok (.bl true) μ'):FnOk P w K mg base CX0 n fa fd e.ps (Im K):=by
 refine(Kn M Dv n j e he fa fd hm hF).imp λvs H Q E ⟨a,ns,ev,hS,hl,q⟩=>?_
 subst ev
 obtain⟨μ',el⟩:=hlaw ns hl
 refine⟨[],[.lst (ns.map D.int)],[],⟨rfl,List.nodup_nil,λn a o e1 e2=>by simp at e1⟩,?_,?_⟩
 ·simp![ah,IsD]
  exact⟨.ref a,[],rfl,⟨a,_,rfl,hS,ah.ints ns⟩,rfl⟩
 ·rw[el]
  intro ι' v H' p x s' d
  have ev:v=.bl true:=by simpa[IsD]using d
  subst ev
  exact q H'
theorem Nz {T:List Df} {P:Program} {w:World} {K:PySem.W.Frag} {mg:Str->Option Value} {es:List Ent} {n j:Nat} {e:Ent} {fa:Addr} (M:∀(j:Nat) e,es[j]? = some e->ModOf K mg e) (Dv:∀(base:Heap) (j:Nat) e,es[j]? = some e->Derived T P w K mg base es e)
  (he:es[j]? = some e) (hfa:mg e.name=some (.ref fa)) (hps:e.ps=[("script":Str)])
  (hlaw:∀ns:List Int,ns.length<=63->∃μ',aq T n e.id [.lst (ns.map D.int)] []=.ok (.bl true) μ') :
  ∃fd:FuncData,(∀(s:Shared) (v:Value),BindsTo s fd ⟨[v],[]⟩ [("script",v)])/\∀base:Heap,K.In base->base.Ns mainGlobals mg->FnOk P w K mg base CX0 n fa fd ["script"] (Im K):=by
 obtain⟨fa',fd,hm,hF,hb⟩:=(M j e he).ex
 have z:=hfa.symm.trans hm
 cases z
 rw[hps]at hb
 refine⟨fd,λs v=>.of_eq (hb [v] rfl),λbase _ _=>?_⟩
 have q:=Rj M (Dv base) he hm hF (by rw[hps];rfl) hlaw
 rw[hps]at q
 exact q
theorem Io {l:PySem.W.OpenLaw} {n:Nat} {q:Program} {loose:List Str} {XP:(Str->Option Value)->Heap->Prop} {YP:World->Heap->Prop} {d:DefRec} {K:Params->PySem.W.Frag} (hr:Room n callerA) (hn:l.most=some 63) (hdf:d.params.defaults=[])
  (hY:∀(w:World) (h:Heap),YP w h->(K w.params).In h)
  (F:∀(w:World) (mg:Str->Option Value) (fa:Addr) (h:Heap),(K w.params).In h->h.Ns mainGlobals mg->mg d.name=some (.ref fa) ->
   ∃fd:FuncData,(∀(s:Shared) (u:Value),BindsTo s fd ⟨[u],[]⟩ [("script",u)])/\∀base:Heap,(K w.params).In base->base.Ns mainGlobals mg->FnOk l.prog w (K w.params) mg base CX0 n fa fd ["script"] (Im (K w.params))) :
  PySem.W.WalkO q loose XP YP l.row.toRowW d [] (λf vs=>PySem.call f vs) :=
 L2.M6 (n:=63) (k:=n) (x:="script") (CX:=λ_=>CX0) (sp:=λw=>Im (K w.params)) hn (by decide) hdf hr hY F (λ_ _ a ns hl _ hS=>⟨a,ns,rfl,hS,hl,λ_=>rfl⟩) λ_ _ _ _ _ z=>z
noncomputable def Exs.len:Exs->Nat
 |.nil=>0
 |.cons _ r=>r.len+1
theorem sg{φ:Phi}:∀{xs:Exs} {σ:Sl} {μ:Sto} {ds:List D} {μ':Sto},fj φ xs σ μ=.ok ds μ'->ds.length=xs.len
 |.nil,σ,μ,ds,μ',h=>by
  simp![fj]at h
  cases h;rfl
 |.cons e r,σ,μ,ds,μ',h=>by
  simp![fj]at h
  cases e1:evE φ e σ μ with
  |exc _ _ _=>rw[e1]at h;cases h
  |stuck=>rw[e1]at h;cases h
  |ok d μ1 =>
   rw[e1]at h
   simp![Res.bg]at h
   cases e2:fj φ r σ μ1 with
   |exc _ _ _=>rw[e2]at h;cases h
   |stuck=>rw[e2]at h;cases h
   |ok es μ2 =>
    rw[e2]at h
    cases h
    simp[Exs.len,sg e2]
noncomputable def Ac(sc scope:Scope)(N Nb:List Str)(cap:List Nat)(nl:Nat):Bool :=
 decide (scope.kind=.function)&&scope.names.all (λy=>decide (scope.names.lookup y.1=some y.2)
  && (!decide (y.2=.free) || decide (sc.names.lookup y.1=some .cell) || decide (sc.names.lookup y.1=some .free)))
 && decide Nb.Nodup&&decide (Nb.length=cap.length+nl)
 && (List.range cap.length).all (λj=>match cap[j]?,Nb[j]? with
  |some i,some x=>decide (N[i]? = some x)&&scope.names.any λy=>decide (y.1=x)&&decide (y.2=.free)
  |_,_=>false)
theorem lookup_mem{l:List (Str×NameKind)}{n:Str}{k:NameKind}(h:l.lookup n=some k):(n,k)∈l:=by
 induction l with
 |nil=>cases h
 |cons a r ih =>
  obtain⟨m,j⟩:=a
  rw[EH]at h
  cases hb:n==m with
  |true =>
   rw[hb]at h
   cases h
   have:n=m:=by simpa using hb
   subst this
   exact AM
  |false =>
   rw[hb]at h
   exact AF _ (ih h)
theorem oq{scope:Scope}{env:Env}{n:Str}{k:NameKind}(h:(n,k)∈(relabel scope env).names):(n,k)∈scope.names\/(k=.cell/\(n,NameKind.free)∈scope.names):=by
 have h2:(n,k)∈scope.names.map (fun(n,k)=>if(k==NameKind.free&&env.scope.kind==.function&&env.kindOf n==some .cell)then(n,NameKind.cell)else(n,k)):=h
 obtain⟨⟨m,j⟩,hm,e⟩:=BJ.mp h2
 dsimp only at e
 split at e
 ·rename_i hc
  cases e
  simp![AX,beq_iff_eq]at hc
  obtain⟨⟨rfl,_⟩,_⟩:=hc
  exact .inr ⟨rfl,hm⟩
 ·cases e
  exact .inl hm
theorem qo{sc scope:Scope}{N Nb:List Str}{cap:List Nat}{nl:Nat}(h:Ac sc scope N Nb cap nl=true):CompScope sc scope N Nb cap nl:=by
 simp![Ac,AX,AW,decide_eq_true_eq,Bool.or_eq_true,Bool.not_eq_true',decide_eq_false_iff_not]at h
 obtain⟨⟨⟨⟨h1,h2⟩,h3⟩,h4⟩,h5⟩:=h
 refine⟨h1,λy hy=>(h2 y hy).1,λn hn=>?_,λn hn=>?_,h3,h4,λj i e=>?_⟩
 ·rcases(h2 (n,.free) hn).2 with(z | z) | z
  ·exact absurd rfl z
  ·exact .inl z
  ·exact .inr z
 ·rcases hn with hn | hn
  ·rcases oq (lookup_mem hn)with z | z
   ·exact .inr z
   ·exact .inl z.2
  ·rcases oq (lookup_mem hn)with z | z
   ·exact .inl z
   ·exact .inl z.2
 ·have hj:j<cap.length:=(AL.mp e).1
  have q:=h5 j (CK.mpr hj)
  rw[e]at q
  cases ex:Nb[j]? with
  |none=>rw[ex]at q;simp at q
  |some x =>
   rw[ex]at q
   simp![AX,decide_eq_true_eq,DU]at q
   obtain⟨q1,⟨y,k⟩,hy,e1,e2⟩:=q
   dsimp only at e1 e2
   subst e1;subst e2
   exact⟨y,rfl,q1,hy⟩
noncomputable def ndB(l:List Str):Bool:=decide l.Nodup
theorem Ad{l:List Str}(h:ndB l=true):l.Nodup:=of_decide_eq_true h
section
variable{X:Cx}{φ:Phi}{a b c e:Expr}{es:List Expr}{xa xb xc xe:Ex}{xs:Exs}{pos:Pos}
theorem aa (i:Nat) {x:Str} (hN:X.N[i]? = some x:=by rfl) (hv:Vis X.env.scope x:=by first | exact Or.inl rfl | exact Or.inr (Or.inl rfl) | exact Or.inr (Or.inr rfl)) (hd:(x==("__debug__":Str))=false:=by decide)
  (hcd:(x==("__classdict__":Str))=false:=by decide):PE X (.Name x pos) (tE X.K φ (.var i)):=Vf hN hv hd hcd
theorem Ei (i:Nat) {x:Str} (hN:X.N[i]? = some x:=by rfl) (hv:Vis X.env.scope x:=by first | exact Or.inl rfl | exact Or.inr (Or.inl rfl) | exact Or.inr (Or.inr rfl)) (hd:(x==("__debug__":Str))=false:=by decide)
  (hcd:(x==("__classdict__":Str))=false:=by decide):PE X (.Name x pos) (tE X.K φ (.frz i)):=Vu hN hv hd hcd
theorem ag{i:Int}{j:Nat}:PE X (.Constant (.int i) j pos) (tE X.K φ (.cst (.int i))):=Vg
theorem Ip{i:Bool}{j:Nat}:PE X (.Constant (.bool i) j pos) (tE X.K φ (.cst (.bl i))):=Y4
theorem ai:PA X [] (tEs X.K φ .nil):=Nh
theorem ae(ha:PE X a (tE X.K φ xa))(hb:PA X es (tEs X.K φ xs))(hs:starEach (a::es) X.env=(false,eval a X.env)::starEach es X.env:=by rfl):PA X (a::es) (tEs X.K φ (.cons xa xs)):=zx ha hb hs
theorem au{op:Operator}{m:Mk}(ha:PE X a (tE X.K φ xa))(hb:PE X b (tE X.K φ xb)):PE X (.BinOp a op b pos) (tE X.K φ (.bin op m xa xb)):=Vh Q5 ha hb
theorem Rk(ha:PE X a (tE X.K φ xa)):PE X (.UnaryOp .USub a pos) (tE X.K φ (.neg xa)):=Vk ha
theorem N0(ha:PE X a (tE X.K φ xa)):PE X (.UnaryOp .Not a pos) (tE X.K φ (.not xa)):=Qu ha
theorem Cc{rest:List Expr}(ha:PE X a (tE X.K φ xa))(hb:PE X (.BoolOp .And (b::rest) pos) (tE X.K φ xb)):PE X (.BoolOp .And (a::b::rest) pos) (tE X.K φ (.and xa xb)):=Qv ha hb
theorem Zc{rest:List Expr}(ha:PE X a (tE X.K φ xa))(hb:PE X (.BoolOp .Or (b::rest) pos) (tE X.K φ xb)):PE X (.BoolOp .Or (a::b::rest) pos) (tE X.K φ (.or xa xb)):=Vl ha hb
theorem Ej{t:TE}(h:PE X a t):PE X (.BoolOp .And [a] pos) t:=J7 h
theorem V0{t:TE}(h:PE X a t):PE X (.BoolOp .Or [a] pos) t:=J7 h
theorem Ek{k:Nat}(h:PA X es (tEs X.K φ xs))(hl:xs.len<=1000:=by decide):PE X (.Tuple es k pos) (tE X.K φ (.tup xs)):=Vi h λσ μ ds μ' e=>by
 rw[sg e];exact DZ (vc hl)
theorem jh{m:Mk}(h:PA X es (tEs X.K φ xs))(hl:xs.len<=1000:=by decide):PE X (.List es pos) (tE X.K φ (.lst m xs)):=Vt h λσ μ ds μ' e=>by
 rw[sg e];exact DZ (vc hl)
theorem gs(ha:PE X a (tE X.K φ xa))(hb:PE X b (tE X.K φ xb))(hs:xu b:=by intro _ _;rfl):PE X (.Subscript a b pos) (tE X.K φ (.ix xa xb)):=Y5 Vv ha hb hs
theorem Rl:PO X none (tEo X.K φ .no):=Y9
theorem N1(he:PE X e (tE X.K φ xe)):PO X (some e) (tEo X.K φ (.so xe)):=Za he
theorem O5{lo hi:Option Expr}{xl xh:ExO}{m:Mk}{p2:Pos}(he:PE X e (tE X.K φ xe))(hl:PO X lo (tEo X.K φ xl))(hh:PO X hi (tEo X.K φ xh)):PE X (.Subscript e (.Slice lo hi none p2) pos) (tE X.K φ (.sl m xe xl xh)):=Zb he hl hh
theorem sh(hu:X.A.units+64<cLine)(op:Cp)(he:PE X e (tE X.K φ xe)):PCh X [opOf op] [e] (tCh X.K φ (.cons op xe .nil)):=Nt (Ec op (by lia)) he
theorem dq(hu:X.A.units+64<cLine)(op:Cp)(he:PE X e (tE X.K φ xe)):PTh X [opOf op] [e] (tTh X.K φ (.cons op xe .nil)):=Nu (Ec op (by lia)) he
theorem T5(hu:X.A.units+64<cLine)(op:Cp){op':Cp}{e':Expr}{ops:List CmpOp}{xe':Ex}{r:Cps}(he:PE X e (tE X.K φ xe))(hr:PTh X (opOf op'::ops) (e'::es) (tTh X.K φ (.cons op' xe' r))) :
  PTh X (opOf op::opOf op'::ops) (e::e'::es) (tTh X.K φ (.cons op xe (.cons op' xe' r))):=Nv (Ec op (by lia)) he hr
theorem si{ops:List CmpOp}{r:Cps}(ha:PE X a (tE X.K φ xa))(hr:PCh X ops es (tCh X.K φ r))(hm:lastMarks ops es=false:=by rfl):PE X (.Compare a ops es pos) (tE X.K φ (.cmp xa r)):=Vw ha hr hm
theorem bp{ops:List CmpOp}{r:Cps}(ha:PE X a (tE X.K φ xa))(hr:PTh X ops es (tTh X.K φ r))(hm:lastMarks ops es=false:=by rfl):PT X (.Compare a ops es pos) (tT X.K φ (.cmp xa r)):=Rf ha hr hm
theorem yp(ha:PE X a (tE X.K φ xa))(he:∀whole,isTrue a X.env whole=(do let v <-whole;standAt a.pos;holding [v] (truthy v)):=by intro _;rfl):PT X a (tT X.K φ xa):=Ni ha he
theorem Ae(ha:PT X a (tT X.K φ xa)):PT X (.UnaryOp .Not a pos) (tT X.K φ (.not xa)):=Qt ha
theorem l8(ha:PT X a (tT X.K φ xa)):PW X (.BoolOp .And [a] pos) (tT X.K φ xa):=Mm ha
theorem El(ha:PT X a (tT X.K φ xa)):PW X (.BoolOp .Or [a] pos) (tT X.K φ xa):=Pd ha
theorem ou{rest:List Expr}(ha:PT X a (tT X.K φ xa))(hb:PW X (.BoolOp .And (b::rest) pos) (tT X.K φ xb)):PW X (.BoolOp .And (a::b::rest) pos) (tT X.K φ (.and xa xb)):=Qw ha hb
theorem N2{rest:List Expr}(ha:PT X a (tT X.K φ xa))(hb:PW X (.BoolOp .Or (b::rest) pos) (tT X.K φ xb)):PW X (.BoolOp .Or (a::b::rest) pos) (tT X.K φ (.or xa xb)):=Vm ha hb
theorem Iq{t:TT}(h:PW X a t):PT X a t:=h.pt
theorem bw {x:Str} {p:Pos} {f:Nat} {keep:Bool} (C:Callee X.prog X.w X.K X.mg X.base X.A φ f x) (ha:PA X (e::es) (tEs X.K φ xs)) (hg:Gl X x:=by rfl) (hdb:(x==("__debug__":Str))=false:=by decide)
  (he:starEach (e::es) X.env=(false,eval e X.env)::starEach es X.env:=by rfl) (hpl:(backTo pos (starEach es X.env)).any (·.1)=false:=by rfl):PE X (.Call (.Name x p) (e::es) [] pos) (tE X.K φ (.call keep f xs)):=s_call C hg ha hdb he hpl
theorem jl{r:List V->Hp->VK->Prop}{b:Bt}{m:Mk}{es:List Expr}(h:PE X e (tCB (se X.K (btD b m)) (tEs X.K φ xs))):PE X e (tE X.K φ (.blt b m xs)) :=
 PE.imp h λσv H Q ⟨ι,σ,μ,hS,hL,h⟩=>by
  simp![evE]at h
  obtain⟨ds,μ1,e1,h⟩:=h.bind
  refine⟨ι,σ,μ,hS,hL,?_⟩
  rw[e1]
  exact λι1 vs H1 p1 x1 s1 d1=>⟨ι1,ds,μ1,s1,d1,h.mono p1 x1⟩
theorem i7{m:Mk}{p:Pos}(hm:X.mg "len"=none)(ha:PA X (e::es) (tEs X.K φ xs))(hg:Gl X "len":=by rfl)(he:starEach (e::es) X.env=(false,eval e X.env)::starEach es X.env:=by rfl)(hpl:(backTo pos (starEach es X.env)).any (·.1)=false:=by rfl) :
  PE X (.Call (.Name "len" p) (e::es) [] pos) (tE X.K φ (.blt .len m xs)):=jl (r:=λ_ _ _=>True) (es:=es) (iy bt_len hg hm PySem.boot_len ha (by decide) (by decide) he hpl)
theorem vk{m:Mk}{p:Pos}(hm:X.mg "tuple"=none)(ha:PA X (e::es) (tEs X.K φ xs))(hg:Gl X "tuple":=by rfl)(he:starEach (e::es) X.env=(false,eval e X.env)::starEach es X.env:=by rfl)(hpl:(backTo pos (starEach es X.env)).any (·.1)=false:=by rfl) :
  PE X (.Call (.Name "tuple" p) (e::es) [] pos) (tE X.K φ (.blt .tuple m xs)):=jl (r:=λ_ _ _=>True) (es:=es) (uy bt_tuple hg hm (by first | exact PyProof.Rows.boot_tuple | decide +kernel) ha (by decide) (by decide) he hpl)
theorem Ir{m:Mk}{p:Pos}(hm:X.mg "list"=none)(ha:PA X (e::es) (tEs X.K φ xs))(hg:Gl X "list":=by rfl)(he:starEach (e::es) X.env=(false,eval e X.env)::starEach es X.env:=by rfl)(hpl:(backTo pos (starEach es X.env)).any (·.1)=false:=by rfl) :
  PE X (.Call (.Name "list" p) (e::es) [] pos) (tE X.K φ (.blt .list m xs)):=jl (r:=λ_ _ _=>True) (es:=es) (uy bt_list hg hm (by first | exact PyProof.Rows.boot_list | decide +kernel) ha (by decide) (by decide) he hpl)
theorem oy{m:Mk}{p:Pos}(hm:X.mg "min"=none)(ha:PA X (e::es) (tEs X.K φ xs))(hc:X.calm=true:=by rfl)(hg:Gl X "min":=by rfl)(he:starEach (e::es) X.env=(false,eval e X.env)::starEach es X.env:=by rfl)(hpl:(backTo pos (starEach es X.env)).any (·.1)=false:=by rfl) :
  PE X (.Call (.Name "min" p) (e::es) [] pos) (tE X.K φ (.blt .min m xs)):=jl (r:=λ_ _ _=>True) (es:=es) (iy (bt_min hc) hg hm (by first | exact PyProof.Rows.boot_min | decide +kernel) ha (by decide) (by decide) he hpl)
theorem sj{m:Mk}{p:Pos}(hm:X.mg "max"=none)(ha:PA X (e::es) (tEs X.K φ xs))(hc:X.calm=true:=by rfl)(hg:Gl X "max":=by rfl)(he:starEach (e::es) X.env=(false,eval e X.env)::starEach es X.env:=by rfl)(hpl:(backTo pos (starEach es X.env)).any (·.1)=false:=by rfl) :
  PE X (.Call (.Name "max" p) (e::es) [] pos) (tE X.K φ (.blt .max m xs)):=jl (r:=λ_ _ _=>True) (es:=es) (iy (bt_max hc) hg hm (by first | exact PyProof.Rows.boot_max | decide +kernel) ha (by decide) (by decide) he hpl)
theorem N3{m:Mk}{p:Pos}(hm:X.mg "all"=none)(ha:PA X (e::es) (tEs X.K φ xs))(hc:X.calm=true:=by rfl)(hg:Gl X "all":=by rfl)(he:starEach (e::es) X.env=(false,eval e X.env)::starEach es X.env:=by rfl)(hpl:(backTo pos (starEach es X.env)).any (·.1)=false:=by rfl) :
  PE X (.Call (.Name "all" p) (e::es) [] pos) (tE X.K φ (.blt .all m xs)):=jl (r:=λ_ _ _=>True) (es:=es) (iy (bt_all hc) hg hm (by first | exact PyProof.Rows.boot_all | decide +kernel) ha (by decide) (by decide) he hpl)
theorem Em{m:Mk}{p:Pos}(hm:X.mg "any"=none)(ha:PA X (e::es) (tEs X.K φ xs))(hc:X.calm=true:=by rfl)(hg:Gl X "any":=by rfl)(he:starEach (e::es) X.env=(false,eval e X.env)::starEach es X.env:=by rfl)(hpl:(backTo pos (starEach es X.env)).any (·.1)=false:=by rfl) :
  PE X (.Call (.Name "any" p) (e::es) [] pos) (tE X.K φ (.blt .any m xs)):=jl (r:=λ_ _ _=>True) (es:=es) (iy (bt_any hc) hg hm (by first | exact PyProof.Rows.boot_any | decide +kernel) ha (by decide) (by decide) he hpl)
theorem V2 {c:Cl} {cn:Str} {p cp:Pos} (ha:PE X a (tE X.K φ xa)) (hmi:X.mg "isinstance"=none) (hmc:X.mg cn=none) (hc:∀n,c≠.own n:=by intro _ h;cases h) (hgi:Gl X "isinstance":=by rfl) (hgc:Gl X cn:=by rfl)
  (hbc:bootBuiltins cn=some (.type (mr c)):=by first | boot_by_name | rfl | kernel_rfl) (hn:cn≠"__name__":=by decide) (hd:(cn==("__debug__":Str))=false:=by decide) (hs:starEach [a,.Name cn cp] X.env=(false,eval a X.env)::starEach [.Name cn cp] X.env:=by rfl) :
  PE X (.Call (.Name "isinstance" p) [a,.Name cn cp] [] pos) (tE X.K φ (.isi xa c)):=Vy hc ha hgi hmi hgc hmc hbc hn hd hs
theorem gx{tg:Expr}(hl:PE X e (tE X.K φ xe)):PI X tg e (tI X.K φ (.seq xe)):=Rg hl
theorem En{tg:Expr}{p:Pos}(hm:X.mg "range"=none)(ha:PE X a (tE X.K φ xa))(hg:Gl X "range":=by rfl)(hs:starEach [a] X.env=[(false,eval a X.env)]:=by rfl):PI X tg (.Call (.Name "range" p) [a] [] pos) (tI X.K φ (.rng xa)):=Rh hg hm ha hs
theorem di(i:Nat){y:Str}(hi:X.N[i]? = some y:=by rfl)(hN:ndB X.N=true:=by first | rfl | kernel_rfl)(hx:Loc X.env.scope y:=by first | exact Or.inl rfl | exact Or.inr rfl)(hf:X.fn y=true\/X.env.scope.names.lookup y=some .local:=by first | exact Or.inl rfl | exact Or.inr rfl) :
  PG X (.Name y pos) (tG X.K (.one i)):=Qz (Ad hN) hi hx hf
theorem vm:PGs X [] (tGs X.K []):=Q0
theorem fk (i:Nat) {is:List Nat} {y:Str} (h2:PGs X es (tGs X.K is)) (hi:X.N[i]? = some y:=by rfl) (hN:ndB X.N=true:=by first | rfl | kernel_rfl) (hx:Loc X.env.scope y:=by first | exact Or.inl rfl | exact Or.inr rfl) (hf:X.fn y=true\/X.env.scope.names.lookup y=some .local:=by first | exact Or.inl rfl | exact Or.inr rfl)
  (hs:(assignEach (.Name y pos::es) X.env).map (·.2)=assign (.Name y pos) X.env::(assignEach es X.env).map (·.2):=by rfl):PGs X (.Name y pos::es) (tGs X.K (i::is)):=Nj (Dd (Ad hN) hi hx hf) h2 hs
theorem vn{is:List Nat}{k:Nat}(h:PGs X es (tGs X.K is))(hc:X.calm=true:=by rfl)(hn:(assignEach es X.env).length=is.length:=by rfl)(hst:(assignEach es X.env).findIdx? (·.1)=none:=by rfl):PG X (.Tuple es k pos) (tG X.K (.many is)):=Vp hc h hn hst
theorem kb:PTs X [] (tTs X.K φ .nil):=Q3
theorem nq{r:List Expr}{xr:Exs}(h1:PT X c (tT X.K φ xc))(h2:PTs X r (tTs X.K φ xr)):PTs X (c::r) (tTs X.K φ (.cons xc xr)):=Np h1 h2
theorem qq (Nb:List Str) {target iter:Expr} {ifs:List Expr} {scope:Scope} {cap:List Nat} {nl:Nat} {m:Mk} {tg:Tg} {it:It} {cs:Exs} {elt:Ex} (hi:PI X target iter (tI X.K φ it))
  (B:yg X scope Nb target ifs e (tG X.K tg) (tTs X.K φ cs) (tE X.K φ elt)) (S:Ac X.env.scope scope X.N Nb cap nl=true:=by first | rfl | kernel_rfl) (hc:X.calm=true:=by rfl) (hf:∀x,foldedSetIterable iter X.env x=pure x:=by intro _;rfl) (hs:∀j∈slots tg,cap.length<=j:=by decide) :
  PE X (.ListComp e [⟨target,iter,ifs,0⟩] scope pos) (tE X.K φ (.comp m cap nl tg it cs elt)):=Q4 (qo S) hc hi B hf hs
theorem Eo (i:Nat) (Nb:List Str) {target iter:Expr} {ifs:List Expr} {scope:Scope} {cap:List Nat} {nl:Nat} {m:Mk} {tg:Tg} {it:It} {cs:Exs} {elt:Ex} {spos py:Pos} {y:Str} (hi:PI X target iter (tI X.K φ it))
  (B:yg X scope Nb target ifs e (tG X.K tg) (tTs X.K φ cs) (tE X.K φ elt)) (S:Ac X.env.scope scope X.N Nb cap nl=true:=by first | rfl | kernel_rfl) (hc:X.calm=true:=by rfl) (hf:∀x,foldedSetIterable iter X.env x=pure x:=by intro _;rfl) (hs:∀j∈slots tg,cap.length<=j:=by decide)
  (hsw:swapsWith (.ListComp e [⟨target,iter,ifs,0⟩] scope pos) (some (.Name y py)) spos.line X.env=pure true:=by rfl) (hiN:X.N[i]? = some y:=by rfl) (hN:ndB X.N=true:=by first | rfl | kernel_rfl) (hy:X.env.scope.names.lookup y=some .local:=by rfl) :
  PS X (.Assign [.Name y py] (.ListComp e [⟨target,iter,ifs,0⟩] scope pos) spos) (tS X.K φ (.set i (.comp m cap nl tg it cs elt))):=D6 (qo S) hc hi B hf hs hsw (Ad hN) hiN hy
theorem cz:PSs X [] (tSs X.K φ .nil):=Vn
theorem az{s:Stmt}{ss:List Stmt}{x:Sm}{xss:Sms}(h1:PS X s (tS X.K φ x))(h2:PSs X ss (tSs X.K φ xss)):PSs X (s::ss) (tSs X.K φ (.cons x xss)):=Qx h1 h2
theorem Iu(he:PE X e (tE X.K φ xe))(hs:swapsWith e none pos.line X.env=pure false:=by rfl):PS X (.Expr e pos) (tS X.K φ (.ex xe)):=Qy he hs
theorem dj(he:PE X e (tE X.K φ xe)):PS X (.Return (some e) pos) (tS X.K φ (.ret xe)):=Vo he
theorem qr{x y:List Stmt}{xx xy:Sms}(hc:PT X c (tT X.K φ xc))(ha:PSs X x (tSs X.K φ xx))(hb:PSs X y (tSs X.K φ xy)):PS X (.If c x y pos) (tS X.K φ (.ite xc xx xy)):=Y6 hc ha hb
theorem c6 (i:Nat) {y:Str} {pos':Pos} (he:PE X e (tE X.K φ xe)) (hi:X.N[i]? = some y:=by rfl) (hN:ndB X.N=true:=by first | rfl | kernel_rfl) (hx:Loc X.env.scope y:=by first | exact Or.inl rfl | exact Or.inr rfl) (hf:X.fn y=true\/X.env.scope.names.lookup y=some .local:=by first | exact Or.inl rfl | exact Or.inr rfl)
  (hs:swapsWith e (some (.Name y pos')) pos.line X.env=pure false:=by rfl):PS X (.Assign [.Name y pos'] e pos) (tS X.K φ (.set i xe)):=Vq (Ad hN) hi hx hf he hs
theorem V3 {is:List Nat} {tg:Expr} (hg:PG X tg (tG X.K (.many is))) (he:PE X e (tE X.K φ xe)) (hs:swapsWithSole [tg] e pos.line X.env=pure false:=by rfl) (hw:swappedStores [tg] e X.env=pure none:=by rfl)
  (h1:(assignEach [tg] X.env).map (·.2)=[assign tg X.env]:=by rfl):PS X (.Assign [tg] e pos) (tS X.K φ (.unp is xe)):=Vr hg he hs hw h1
theorem l9 {tg it:Expr} {body:List Stmt} {xt:Tg} {xi:It} {xb:Sms} (hi:PI X tg it (tI X.K φ xi)) (hg:PG X tg (tG X.K xt)) (hb:PSs X body (tSs X.K φ xb)) (hp:PassesOwn (model X.prog X.w) X.A X.env X.xe:=by exact PassesOwn.never) (hc:X.calm=true:=by rfl)
  (hs:∀x,foldedSetIterable it X.env x=pure x:=by intro _;rfl):PS X (.For tg it body [] pos) (tS X.K φ (.loop xt xi xb)):=Vs hp hc hi hg hb hs
end
structure Ma (X:Cx) (o:Expr) (nm:Str) (e:Expr) (es:List Expr) (apos cpos:Pos):Prop where
 b:attributeBase o nm X.env (eval o X.env)=eval o X.env
 f:((backTo cpos (starEach (e::es) X.env)).all (λx=>!x.1)&&(backToKw cpos (keywordEach [] X.env)).all (λx=>x.1.isSome)&&decide ((e::es).length+([]:List Keyword).length+(if([]:List Keyword).isEmpty then 0 else 1)<30))=true
 l:(apos.endLine==cpos.line)=true
 s:starEach (e::es) X.env=(false,eval e X.env)::starEach es X.env
 p:(backTo cpos (starEach es X.env)).any (·.1)=false
section
variable{X:Cx}{φ:Phi}{o e:Expr}{es:List Expr}{xo:Ex}{xs:Exs}{apos cpos:Pos}{T id:String}{name:Str}{mt:Mt}
theorem Af(hT:∀(ι:List Addr) (H:Hp) (μ:Sto) (d:D) (x:V),Sim X.K ι H μ->IsD X.K ι H d x->gv mt d μ=true->tyV X.K T x H)(h:PE X e (tBM X.K T (rMt X.K mt) (tE X.K φ xo) (tEs X.K φ xs))):PE X e (tE X.K φ (.meth mt xo xs)) :=
 PE.imp h λσv H Q ⟨ι,σ,μ,hS,hL,h⟩=>by
  simp![evE]at h
  obtain⟨d,μ1,e1,h⟩:=h.bind
  refine⟨ι,σ,μ,hS,hL,?_⟩
  rw[e1]
  intro ι1 x H1 p1 x1 s1 d1
  split at h
  ·rename_i hm
   refine⟨hT ι1 H1 μ1 d x s1 d1 hm,ι1,σ,μ1,s1,hL.mono p1 x1,?_⟩
   obtain⟨ds,μ2,e2,h⟩:=h.bind
   rw[e2]
   exact λι2 vs H2 p2 x2 s2 d2=>⟨ι2,d,ds,μ2,s2,IsD.mono p2 x2 _ _ d1,d2,h.mono (p1.trans p2) (x1.trans x2)⟩
  ·exact h.elim
theorem jv(hmt:∀d μ,gv mt d μ=(listOf μ d).isSome)(ι:List Addr)(H:Hp)(μ:Sto)(d:D)(x:V)(hS:Sim X.K ι H μ)(hd:IsD X.K ι H d x)(hm:gv mt d μ=true):tyV X.K "list" x H:=by
 rw[hmt]at hm
 obtain⟨ds,e⟩:=EC.mp hm
 obtain⟨a,xs,rfl,hls,_⟩:=ic hS hd e
 exact .inl ⟨rfl,_,hls.sq⟩
theorem Ag(ho:PE X o (tE X.K φ xo))(ha:PA X (e::es) (tEs X.K φ xs))(h5:Ma X o "pop" e es apos cpos:=by exact⟨rfl,rfl,rfl,rfl,rfl⟩):PE X (.Call (.Attribute o "pop" apos) (e::es) [] cpos) (tE X.K φ (.meth .pop xo xs)) :=
 Af (jv λ_ _=>rfl) (Hs GF JF F.type_list_pop Vz ho ha h5.b h5.f h5.l h5.s h5.p)
theorem i8(ho:PE X o (tE X.K φ xo))(ha:PA X (e::es) (tEs X.K φ xs))(h5:Ma X o "append" e es apos cpos:=by exact⟨rfl,rfl,rfl,rfl,rfl⟩):PE X (.Call (.Attribute o "append" apos) (e::es) [] cpos) (tE X.K φ (.meth .append xo xs)) :=
 Af (jv λ_ _=>rfl) (Hs GF F.slot_list_append F.type_list_append Ik ho ha h5.b h5.f h5.l h5.s h5.p)
theorem kc(ho:PE X o (tE X.K φ xo))(ha:PA X (e::es) (tEs X.K φ xs))(h5:Ma X o "extend" e es apos cpos:=by exact⟨rfl,rfl,rfl,rfl,rfl⟩):PE X (.Call (.Attribute o "extend" apos) (e::es) [] cpos) (tE X.K φ (.meth .extend xo xs)) :=
 Af (jv λ_ _=>rfl) (Hs GF F.slot_list_extend F.type_list_extend Il ho ha h5.b h5.f h5.l h5.s h5.p)
end
section
variable{X:Cx}{φ:Phi}{a:Expr}{xa:Ex}{p p2 pos pos2:Pos}{m:Mk}
theorem Rm(hu:X.A.units+64<cLine):Tu X (Xe X.K):=by
 intro pins s σ H o i v ov iv u Q I ro ri rv ⟨ι,a,b,d,μ,hS,ha,hb,hd,h⟩
 cases a with
 |loc n =>
  simp![yb]at h
  cases em:μ[n]? with
  |none=>rw[em]at h;exact h.elim
  |some ob =>
   rw[em]at h
   obtain⟨q,rfl,hq⟩:∃q,o=.ref q/\ι[n]? = some q:=by simpa[IsD]using ha
   obtain⟨q',eq',hob⟩:=hS.at em
   rw[hq]at eq';cases eq'
   have lst:∀(ob:O) (xs:List D),gi ob=some xs->μ[n]? = some ob->OIs X.K ι H q ob->ft X.K (λ_ _ _ (_:Unit)=>True) ι H (match some xs,b with
     |some xs,.int i=>match ixN xs.length i with
      |some j=>if fits ob d=true then(putL n ob (xs.set j d) .non μ).bind λ_ μ=>.ok () μ else .stuck
      |none=>.stuck
     |_,_=>.stuck) (λ_ H'=>Q H')->wpAny (model X.prog X.w) X.A (setItem ov iv u) (λ_ s'=>∃H',Inv X pins σ H' s'/\Q H') X.xe s:=by
    intro ob xs ei em ho h
    cases b with
    |int k =>
     simp only at h
     split at h
     ·rename_i j ej
      split at h
      ·rename_i hf
       obtain⟨a',vs,ea,hι,hH,h1,h2⟩:=Km hS ha em ei
       cases ea
       cases cw hb
       refine set_list pins s σ H _ _ v ov iv u Q I ro ri rv ⟨_,vs,k,j,rfl,rfl,hH,by rw[h1.length];exact ej,?_⟩
       have h':ft X.K (RD X.K) ι H (putL n ob (xs.set j d) .non μ) λ_ H'=>Q H':=by
        cases ob with
        |l _=>exact λι' v' H' p e s' _=>h ι' () H' p e s' trivial
        |r _=>exact λι' v' H' p e s' _=>h ι' () H' p e s' trivial
        |d _=>exact h.elim
        |dt _=>exact h.elim
        |x _=>exact h.elim
        |o _ _=>exact h.elim
        |dr _=>exact h.elim
        |fd _=>exact h.elim
        |dead=>exact h.elim
       exact ju (v:=.non) hS hι hH (h1.set hd j) (λes e=>(h2 es e).set (oo hf hd es e) j) (by simp[IsD]) h'
      ·exact h.elim
     ·exact h.elim
    |_=>exact h.elim
   cases ob with
   |l xs=>exact lst (.l xs) xs rfl em hob h
   |r xs=>exact lst (.r xs) xs rfl em hob h
   |d kvs =>
    simp only at h
    split at h
    ·rename_i hc
     obtain⟨hk,hv,hl⟩:=hc
     obtain⟨xs,hH,hkv⟩:=hob
     obtain⟨k,rfl,rfl⟩:=yj hk hb
     cases(show ov=Value.ref q from ro)
     have hlen:xs.length=kvs.length:=(DC hkv).symm
     refine u9 (by lia) I (Qb.k (k:=k) (v:=v) hH (by rw[hlen,<-fu];exact hl)) ri rv λs' I'=>⟨_,I',?_⟩
     exact h ι () _ (AK _) (.dK hH) (hS.put hq (.dK hH) ⟨_,ax,Paired.mapP (r9 (IsD.pur hv hd) hkv) λp r z=>⟨IsD.mono (AK _) (.dK hH) _ _ z.1,IsD.mono (AK _) (.dK hH) _ _ z.2⟩⟩) trivial
    ·exact h.elim
   |dr kvs =>
    simp only at h
    split at h
    ·rename_i hc
     obtain⟨hk,hl⟩:=hc
     obtain⟨xs,hH,hkv⟩:=hob
     obtain⟨k,rfl,rfl⟩:=yj hk hb
     cases(show ov=Value.ref q from ro)
     have hlen:xs.length=kvs.length:=(DC hkv).symm
     refine u9 (by lia) I (Qb.k (k:=k) (v:=v) hH (by rw[hlen,<-fu];exact hl)) ri rv λs' I'=>⟨_,I',?_⟩
     exact h ι () _ (AK _) (.dK hH) (hS.put hq (.dK hH) ⟨_,ax,Paired.mapP (r9 hd hkv) λp r z=>⟨IsD.mono (AK _) (.dK hH) _ _ z.1,IsD.mono (AK _) (.dK hH) _ _ z.2⟩⟩) trivial
    ·exact h.elim
   |dt kvs=>simp![gi]at h;exact h.elim
   |x _=>simp![gi]at h;exact h.elim
   |o _ _=>simp![gi]at h;exact h.elim
   |fd _=>simp![gi]at h;exact h.elim
   |dead=>simp![gi]at h;exact h.elim
 |_=>exact h.elim
theorem Ah (hu:X.A.units+64<cLine) {o i e:Expr} {xo xi x:Ex} {tp:Pos} (ho:PE X o (tE X.K φ xo)) (hi:PE X i (tE X.K φ xi)) (he:PE X e (tE X.K φ x))
  (ha:∀v,assign (.Subscript o i tp) X.env v=(do
   let ov <-holding [v] (eval o X.env)
   let iv <-holding [v,ov] (eval i X.env)
   standAt tp
   holding [v,ov,iv] (setItem ov iv v)
   release [v,ov,iv] []):=by intro _;rfl) (hs:swapsWithSole [.Subscript o i tp] e pos.line X.env=pure false:=by rfl) (hw:swappedStores [.Subscript o i tp] e X.env=pure none:=by rfl)
  (h1:(assignEach [.Subscript o i tp] X.env).map (·.2)=[assign (.Subscript o i tp) X.env]:=by rfl):PS X (.Assign [.Subscript o i tp] e pos) (tS X.K φ (.setx xo xi x)):=Q1 (Rm hu) ho hi he ha hs hw h1
end
noncomputable def SI(b:Bool)(h:Heap)(it l:Addr)(i:Nat):Prop:=match b with
 |true=>h.IsListIter it l i
 |false=>h.IsTupleIter it l i
noncomputable def SQ(b:Bool)(h:Heap)(l:Addr)(xs:Array Value):Prop:=match b with
 |true=>h.IsList l xs
 |false=>h.IsTuple l xs
noncomputable def Rn:Bool->String
 |true=>"list_iterator"
 |false=>"tuple_iterator"
theorem SI.keep{b:Bool}{h h':Heap}{it l:Addr}{i:Nat}(x:SI b h it l i)(e:∀o,h.get? it=some o->h'.get? it=some o):SI b h' it l i:=by
 cases b
 ·exact Heap.IsTupleIter.at x e
 ·exact Heap.IsListIter.at x e
theorem SI.but{b:Bool}{h h':Heap}{it l c:Addr}{i:Nat}(x:SI b h it l i)(e:Heap.ExtBut c h h')(n:it≠c):SI b h' it l i:=x.keep λo q=>e it o n q
theorem SI.obj{b:Bool}{h:Heap}{it l:Addr}{i:Nat}(x:SI b h it l i):∃o,h.get? it=some o/\o.cls=.type (Rn b)/\o.data=.fields #[.ref l,.int i 0]:=by
 cases b<;>exact x
theorem SQ.but{b:Bool}{h h':Heap}{l c:Addr}{xs:Array Value}(x:SQ b h l xs)(e:Heap.ExtBut c h h')(n:l≠c):SQ b h' l xs:=by
 cases b
 ·exact Heap.IsTuple.at x λo q=>e l o n q
 ·exact Heap.IsList.at x λo q=>e l o n q
theorem SQ.lt{b:Bool}{h:Heap}{l:Addr}{xs:Array Value}(x:SQ b h l xs):l<h.objs.size:=by
 cases b
 ·obtain⟨o,e,_⟩:=x;exact AJ e
 ·obtain⟨o,e,_⟩:=x;exact AJ e
theorem SQ.push{b:Bool}{h:Heap}{l:Addr}{xs:Array Value}(x:SQ b h l xs)(o:Obj):SQ b (h.push o) l xs:=by
 cases b
 ·exact Heap.IsTuple.push x o
 ·exact Heap.IsList.push x o
section
variable{prog:Program}{w:World}{A:Around}{E:Value -> Shared -> Prop}{s:Shared}
theorem sk{b:Bool}{l:Addr}{xs:Array Value}{Q:Value->Shared->Prop}(x:SQ b s.heap l xs)(hQ:Q (.ref s.heap.objs.size) {s with heap:=s.heap.push {cls:=.type (Rn b),data:=.fields #[.ref l,.int 0 0]}}) :
  wpAny (model prog w) A (pyIter (.ref l)) Q E s:=by
 cases b
 ·exact HR x hQ
 ·exact IB x hQ
theorem yq {b:Bool} {it l:Addr} {i:Nat} {xs:Array Value} {x:Value} {Q:Value->Shared->Prop} (hit:SI b s.heap it l i) (hl:SQ b s.heap l xs) (hx:xs[i]? = some x)
  (hQ:∀h',SI b h' it l (i+1)->Heap.SameBut it s.heap h'->Q x {s with heap:=h'}):wpAny (model prog w) A (Builtin.SmallTypes.nextOf (.ref it)) Q E s:=by
 cases b
 ·obtain⟨o,ho,hc,hd⟩:=hit.obj
  obtain⟨ol,hol,_,nl,hdl⟩:=hl
  have ht:s.TypeIs (.ref it) "tuple_iterator":=⟨o,ho,hc⟩
  unfold Builtin.SmallTypes.nextOf
  refine AA (BM (name:=Str.ofString "__next__") ht DW (BI DW ht HK ?_ (HE _)))
  show wpAny _ _ (field (.ref it) 0>>=_) _ _ s
  refine AA (CT ho hd (x:=.ref l) rfl ?_)
  show wpAny _ _ (if(Value.ref l==Value.none)=true then _ else _) _ _ s
  rw[if_neg (show ¬((Value.ref l==Value.none)=true)from AU)]
  show wpAny _ _ (field (.ref it) 1>>=_) _ _ s
  refine AA (CT ho hd (x:=.int i 0) rfl ?_)
  show wpAny _ _ (seqItems? (.ref l)>>=_) _ _ s
  refine AA (CN hol hdl ?_)
  simp![BH,hx]
  refine AA (wpAny_setField ho hd (by simp) (AC ⟨x,rfl,AC (hQ _ ?_ (DQ ..))⟩))
  exact⟨_,CV _ ho (Obj.isFreed_of_fields (Obj.data_mapFields hd _)),(Obj.cls_mapFields ..).trans hc,by rw[Obj.data_mapFields hd];simp[rawInt]⟩
 ·exact wpAny_nextOf_list_item hit hl hx hQ
theorem Ko {b:Bool} {it l:Addr} {i:Nat} {xs:Array Value} {Q:Value->Shared->Prop} (hh:A.handled=none) (hit:SI b s.heap it l i) (hl:SQ b s.heap l xs) (hx:xs[i]? = none)
  (hE:∀h' e,Heap.ExtBut it s.heap h'->(∃o,h'.get? e=some o/\o.cls=.type "StopIteration")->E (.ref e) {s with heap:=h'}):wpAny (model prog w) A (Builtin.SmallTypes.nextOf (.ref it)) Q E s:=by
 cases b
 ·obtain⟨o,ho,hc,hd⟩:=hit.obj
  obtain⟨ol,hol,_,nl,hdl⟩:=hl
  have ht:s.TypeIs (.ref it) "tuple_iterator":=⟨o,ho,hc⟩
  unfold Builtin.SmallTypes.nextOf
  refine AA (BM (name:=Str.ofString "__next__") ht DW (BI DW ht HK ?_ (HE _)))
  show wpAny _ _ (field (.ref it) 0>>=_) _ _ s
  refine AA (CT ho hd (x:=.ref l) rfl ?_)
  show wpAny _ _ (if(Value.ref l==Value.none)=true then _ else _) _ _ s
  rw[if_neg (show ¬((Value.ref l==Value.none)=true)from AU)]
  show wpAny _ _ (field (.ref it) 1>>=_) _ _ s
  refine AA (CT ho hd (x:=.int i 0) rfl ?_)
  show wpAny _ _ (seqItems? (.ref l)>>=_) _ _ s
  refine AA (CN hol hdl ?_)
  simp![BH,hx]
  refine AA (FV (AA (wpAny_setField ho hd (by simp) ?_)))
  show wpAny _ _ (newExc (.type "StopIteration") []>>=_) _ _ _
  refine AA ?_
  simp![newExc,newTuple]
  refine AA (BN ?_ (by size_fits))
  refine AA (m:=firstArgMember _ _) (IC (a:=Value.none) (by first | rfl | (simp![firstArgMember];rfl)) ?_)
  refine BN ?_ (by size_fits)
  simp![raiseNew]
  refine AA (wpAny_handled ?_)
  first | rw[show A.in1.handled=none from hh] | rw[hh]
  refine AA (AC (wpAny_throw ?_))
  exact hE _ _ (((DQ ..).extBut.push _).push _) ⟨_,AI _ rfl,rfl⟩
 ·exact wpAny_nextOf_list_end hh hit hl hx hE
variable{b1 b2:Bool}{z TI TO i1 i2 l1 l2:Addr}{k1 k2:Nat}{xs ys:Array Value}{x y a b:Value}
theorem N4 {Q:Option Value->Shared->Prop} (D:ZipApart z TI TO i1 i2 l1 l2)
  (hz:IsZip s.heap z TI TO .none) (hTI:IsPair s.heap TI (.ref i1) (.ref i2)) (hTO:IsPair s.heap TO a b)
  (h1:SI b1 s.heap i1 l1 k1) (h2:SI b2 s.heap i2 l2 k2) (hl1:SQ b1 s.heap l1 xs) (hl2:SQ b2 s.heap l2 ys) (hx:xs[k1]? = some x) (hy:ys[k2]? = some y)
  (hQ:∀h',IsZip h' z TI TO (rawInt s.heap.objs.size)->IsPair h' TO x y->SI b1 h' i1 l1 (k1+1)->SI b2 h' i2 l2 (k2+1)->IsPair h' s.heap.objs.size x y ->
   (∀c o,c≠z->c≠TO->c≠i1->c≠i2->s.heap.get? c=some o->h'.get? c=some o)->Q (some (.ref s.heap.objs.size)) {s with heap:=h'}) :
  wpAny (model prog w) A (pyNext (.ref z)) Q E s:=by
 have hT:s.TypeIs (.ref z) "zip":=⟨_,hz,rfl⟩
 unfold pyNext
 refine AA (FI (BM (name:=Str.ofString "__next__") hT HF (BI HF hT F.entry_zip_next ?_ (F.args_zip_next_1 _))))
 show wpAny _ _ (field (.ref z) 2>>=_) _ _ _
 refine AA (CT hz rfl (x:=.bool false) rfl ?_)
 show wpAny _ _ (field (.ref z) 3>>=_) _ _ _
 refine AA (CT hz rfl (x:=.ref TI) rfl ?_)
 refine AA (CN hTI rfl ?_)
 show wpAny _ _ (Builtin.SmallTypes.ownedTupleIsFree (.ref z)>>=_) _ _ _
 refine AA ?_
 unfold Builtin.SmallTypes.ownedTupleIsFree
 refine AA (CT hz rfl (x:=.none) rfl (AC ?_))
 simp![if_true]
 refine AA (FV ?_)
 refine AA (CT hz rfl (x:=.ref TO) rfl ?_)
 refine AA (BW hz (by simp) λh₁ hz₁ hs₁=>?_)
 replace hz₁:IsZip h₁ z TI TO .ellipsis:=hz₁
 refine AA ?_
 simp![List.zipIdx_cons,List.zipIdx_nil,FO,JV]
 refine AA (AA (II ?_))
 show wpAny _ _ (Builtin.SmallTypes.nextOf (.ref i1)>>=_) _ _ _
 refine AA (yq (h1.but hs₁.extBut D.i1z) (hl1.but hs₁.extBut D.l1z) hx λh₂ h1₂ hs₂=>AC ?_)
 have hTO₂:IsPair h₂ TO a b:=hs₂.extBut _ _ D.TOi1 (hs₁.extBut _ _ D.TOz hTO)
 refine AA (CN hTO₂ rfl ?_)
 refine AA (GZ hTO₂ λh₃ hTO₃ hs₃=>?_)
 replace hTO₃:IsPair h₃ TO x b:=hTO₃
 refine AA (wpAny_letGo (AC ?_))
 refine AA (AA (II ?_))
 show wpAny _ _ (Builtin.SmallTypes.nextOf (.ref i2)>>=_) _ _ _
 refine AA (yq (((h2.but hs₁.extBut D.i2z).but hs₂.extBut D.i12.symm).but hs₃.extBut D.TOi2.symm) (((hl2.but hs₁.extBut D.l2z).but hs₂.extBut D.l2i1).but hs₃.extBut D.l2TO) hy λh₄ h2₄ hs₄=>AC ?_)
 have hTO₄:IsPair h₄ TO x b:=hs₄.extBut _ _ D.TOi2 hTO₃
 refine AA (CN hTO₄ rfl ?_)
 refine AA (GZ hTO₄ λh₅ hTO₅ hs₅=>?_)
 replace hTO₅:IsPair h₅ TO x y:=hTO₅
 refine AA (wpAny_letGo (AC (AC ?_)))
 refine AA (CN hTO₅ rfl ?_)
 refine AA (wpAny_newTuple ?_)
 have hsz:h₅.objs.size=s.heap.objs.size:=by rw[hs₅.1,hs₄.1,hs₃.1,hs₂.1,hs₁.1]
 have hz₅:IsZip h₅ z TI TO .ellipsis:=hs₅.extBut _ _ D.TOz.symm (hs₄.extBut _ _ D.i2z.symm (hs₃.extBut _ _ D.TOz.symm (hs₂.extBut _ _ D.i1z.symm hz₁)))
 have hk₅:∀c o,c≠z->c≠TO->c≠i1->c≠i2->s.heap.get? c=some o->h₅.get? c=some o:=λc o c1 c2 c3 c4 e=>hs₅.extBut _ _ c2 (hs₄.extBut _ _ c4 (hs₃.extBut _ _ c2 (hs₂.extBut _ _ c3 (hs₁.extBut _ _ c1 e))))
 have h1₅:SI b1 h₅ i1 l1 (k1+1):=((h1₂.but hs₃.extBut D.TOi1.symm).but hs₄.extBut D.i12).but hs₅.extBut D.TOi1.symm
 have h2₅:SI b2 h₅ i2 l2 (k2+1):=h2₄.but hs₅.extBut D.TOi2.symm
 have hzlt:z<h₅.objs.size:=AJ hz₅
 show wpAny _ _ (Builtin.SmallTypes.ownedTupleHandOut (.ref z) (.ref h₅.objs.size)>>=_) _ _ _
 refine AA ?_
 unfold Builtin.SmallTypes.ownedTupleHandOut
 have hz₆:IsZip (h₅.push {cls:=.type "tuple",data:=.seq #[x,y]}) z TI TO .ellipsis:=AB _ hz₅
 refine AA (BW hz₆ (by simp) λh₇ hz₇ hs₇=>?_)
 replace hz₇:IsZip h₇ z TI TO (rawInt h₅.objs.size):=hz₇
 refine BW hz₇ (by simp) λh₈ hz₈ hs₈=>?_
 replace hz₈:IsZip h₈ z TI TO (rawInt h₅.objs.size):=hz₈
 have up:∀c o,c≠z->h₅.get? c=some o->h₈.get? c=some o:=λc o c1 e=>hs₈.extBut _ _ c1 (hs₇.extBut _ _ c1 (AB _ e))
 have hT₈:IsPair h₈ h₅.objs.size x y:=hs₈.extBut _ _ (CJ hzlt) (hs₇.extBut _ _ (CJ hzlt) (AI _ rfl))
 rw[hsz]at hz₈ hT₈
 refine AC ⟨_,rfl,?_⟩
 show wpAny _ _ (pure (some (Value.ref h₅.objs.size))) _ _ _
 rw[hsz]
 exact AC (hQ h₈ hz₈ (up _ _ D.TOz hTO₅) (h1₅.keep λo e=>up _ o D.i1z e) (h2₅.keep λo e=>up _ o D.i2z e) hT₈ λc o c1 c2 c3 c4 e=>up c o c1 (hk₅ c o c1 c2 c3 c4 e))
theorem N5 {Q:Fin->Shared->Prop} (hh:A.handled=none) (D:ZipApart z TI TO i1 i2 l1 l2)
  (hz:IsZip s.heap z TI TO .none) (hTI:IsPair s.heap TI (.ref i1) (.ref i2)) (hTO:IsPair s.heap TO a b)
  (h1:SI b1 s.heap i1 l1 k1) (h2:SI b2 s.heap i2 l2 k2) (hl1:SQ b1 s.heap l1 xs) (hl2:SQ b2 s.heap l2 ys) (hend:xs[k1]? = none\/ys[k2]? = none)
  (hE:∀h' e,(∀c o,c≠z->c≠TO->c≠i1->c≠i2->s.heap.get? c=some o->h'.get? c=some o)->(∃o,h'.get? e=some o/\o.cls=.type "StopIteration")->E (.ref e) {s with heap:=h'}) :
  wpAny (model prog w) A (Builtin.«zip.__next__» ⟨[.ref z],[]⟩) Q E s:=by
 show wpAny _ _ (field (.ref z) 2>>=_) _ _ _
 refine AA (CT hz rfl (x:=.bool false) rfl ?_)
 show wpAny _ _ (field (.ref z) 3>>=_) _ _ _
 refine AA (CT hz rfl (x:=.ref TI) rfl ?_)
 refine AA (CN hTI rfl ?_)
 show wpAny _ _ (Builtin.SmallTypes.ownedTupleIsFree (.ref z)>>=_) _ _ _
 refine AA ?_
 unfold Builtin.SmallTypes.ownedTupleIsFree
 refine AA (CT hz rfl (x:=.none) rfl (AC ?_))
 simp![if_true]
 refine AA (FV ?_)
 refine AA (CT hz rfl (x:=.ref TO) rfl ?_)
 refine AA (BW hz (by simp) λh₁ hz₁ hs₁=>?_)
 replace hz₁:IsZip h₁ z TI TO .ellipsis:=hz₁
 refine AA ?_
 simp![List.zipIdx_cons,List.zipIdx_nil,FO,JV]
 refine AA (AA (II ?_))
 show wpAny _ _ (Builtin.SmallTypes.nextOf (.ref i1)>>=_) _ _ _
 cases hx:xs[k1]? with
 |none =>
  refine AA (Ko hh (h1.but hs₁.extBut D.i1z) (hl1.but hs₁.extBut D.l1z) hx λh₂ e hs₂ ⟨oe,hoe,hce⟩=>?_)
  have hz₂:IsZip h₂ z TI TO .ellipsis:=hs₂ _ _ D.i1z.symm hz₁
  have hez:e≠z:=λx=>by subst x;rw[hz₂]at hoe;cases hoe;simp at hce
  exact BW hz₂ (by simp) λh₃ _ hs₃=>hE h₃ e (λc o c1 _ c3 _ x=>hs₃.extBut _ _ c1 (hs₂ _ _ c3 (hs₁.extBut _ _ c1 x))) ⟨oe,hs₃.extBut _ _ hez hoe,hce⟩
 |some x =>
  have hy:ys[k2]? = none:=by rcases hend with h | h;rw[hx]at h;cases h;exact h
  refine AA (yq (h1.but hs₁.extBut D.i1z) (hl1.but hs₁.extBut D.l1z) hx λh₂ h1₂ hs₂=>AC ?_)
  have hTO₂:IsPair h₂ TO a b:=hs₂.extBut _ _ D.TOi1 (hs₁.extBut _ _ D.TOz hTO)
  refine AA (CN hTO₂ rfl ?_)
  refine AA (GZ hTO₂ λh₃ hTO₃ hs₃=>?_)
  refine AA (wpAny_letGo (AC ?_))
  refine AA (AA (II ?_))
  show wpAny _ _ (Builtin.SmallTypes.nextOf (.ref i2)>>=_) _ _ _
  refine AA (Ko hh (((h2.but hs₁.extBut D.i2z).but hs₂.extBut D.i12.symm).but hs₃.extBut D.TOi2.symm) (((hl2.but hs₁.extBut D.l2z).but hs₂.extBut D.l2i1).but hs₃.extBut D.l2TO) hy λh₄ e hs₄ ⟨oe,hoe,hce⟩=>?_)
  have hz₄:IsZip h₄ z TI TO .ellipsis:=hs₄ _ _ D.i2z.symm (hs₃.extBut _ _ D.TOz.symm (hs₂.extBut _ _ D.i1z.symm hz₁))
  have hez:e≠z:=λx=>by subst x;rw[hz₄]at hoe;cases hoe;simp at hce
  exact BW hz₄ (by simp) λh₅ _ hs₅=>hE h₅ e (λc o c1 c2 c3 c4 x=>hs₅.extBut _ _ c1 (hs₄ _ _ c4 (hs₃.extBut _ _ c2 (hs₂.extBut _ _ c3 (hs₁.extBut _ _ c1 x))))) ⟨oe,hs₅.extBut _ _ hez hoe,hce⟩
theorem Ro {Q:Option Value->Shared->Prop} (hh:A.handled=none) (D:ZipApart z TI TO i1 i2 l1 l2)
  (hz:IsZip s.heap z TI TO .none) (hTI:IsPair s.heap TI (.ref i1) (.ref i2)) (hTO:IsPair s.heap TO a b)
  (h1:SI b1 s.heap i1 l1 k1) (h2:SI b2 s.heap i2 l2 k2) (hl1:SQ b1 s.heap l1 xs) (hl2:SQ b2 s.heap l2 ys) (hend:xs[k1]? = none\/ys[k2]? = none)
  (hQ:∀h',(∀c o,c≠z->c≠TO->c≠i1->c≠i2->s.heap.get? c=some o->h'.get? c=some o)->Q none {s with heap:=h'}):wpAny (model prog w) A (pyNext (.ref z)) Q E s:=by
 have hT:s.TypeIs (.ref z) "zip":=⟨_,hz,rfl⟩
 unfold pyNext
 refine AA (FI (BM (name:=Str.ofString "__next__") hT HF
  (BI HF hT F.entry_zip_next (N5 hh D hz hTI hTO h1 h2 hl1 hl2 hend λh' e hk he=>?_) (F.args_zip_next_1 _))))
 obtain⟨o,ho,hc⟩:=he
 exact AA (GS (T:="StopIteration") (b:=true) ⟨o,ho,hc⟩ isSubtype_stop (AC (hQ _ hk)))
noncomputable abbrev zp1(b1:Bool)(h:Heap)(l1:Addr):Heap:=h.push {cls:=.type (Rn b1),data:=.fields #[.ref l1,.int 0 0]}
noncomputable abbrev zp2(b1 b2:Bool)(h:Heap)(l1 l2:Addr):Heap:=(zp1 b1 h l1).push {cls:=.type (Rn b2),data:=.fields #[.ref l2,.int 0 0]}
noncomputable abbrev zp3(b1 b2:Bool)(h:Heap)(l1 l2:Addr):Heap:=(zp2 b1 b2 h l1 l2).push {cls:=.type "tuple",data:=.seq #[.ref h.objs.size,.ref (zp1 b1 h l1).objs.size]}
noncomputable abbrev zp4(b1 b2:Bool)(h:Heap)(l1 l2:Addr):Heap:=(zp3 b1 b2 h l1 l2).push {cls:=.type "tuple",data:=.seq #[.none,.none]}
noncomputable abbrev zp5(b1 b2:Bool)(h:Heap)(l1 l2:Addr):Heap:=(zp4 b1 b2 h l1 l2).push {cls:=.type "zip",data:=.fields #[.none,.bool false,.bool false,.ref (zp2 b1 b2 h l1 l2).objs.size,.ref (zp3 b1 b2 h l1 l2).objs.size]}
theorem Rp(b1 b2:Bool)(l1 l2:Addr)(xs ys:Array Value) :
  Meets (Builtin.«zip.__new__» ⟨[.type "zip",.ref l1,.ref l2],[]⟩) (λ_ R s=>SQ b1 s.heap l1 xs/\SQ b2 s.heap l2 ys /\
   R (.ok (.ret (.ref (zp4 b1 b2 s.heap l1 l2).objs.size))) {s with heap:=zp5 b1 b2 s.heap l1 l2}) :=
 .of_wp λprog w A R s h=>by
  obtain⟨hp,g,d,tk,os⟩:=s;obtain⟨hl1,hl2,h⟩:=h
  have hsub:=sub_zip
  have hL1:SQ b1 (Shared.heap ⟨hp,g,d,tk,os⟩) l1 xs:=hl1
  have hL2:SQ b2 (Shared.heap ⟨hp.push {cls:=.type (Rn b1),data:=.fields #[.ref l1,.int 0 0]},g,d,tk,os⟩) l2 ys:=SQ.push hl2 _
  wp_walk using sk hL1,sk hL2
  exact⟨_,rfl,h⟩
theorem N6 {Q:Value->Shared->Prop} (hl1:SQ b1 s.heap l1 xs) (hl2:SQ b2 s.heap l2 ys)
  (h:∀h',IsZip h' (s.heap.objs.size+4) (s.heap.objs.size+2) (s.heap.objs.size+3) .none->IsPair h' (s.heap.objs.size+2) (.ref s.heap.objs.size) (.ref (s.heap.objs.size+1)) ->
   IsPair h' (s.heap.objs.size+3) .none .none->SI b1 h' s.heap.objs.size l1 0->SI b2 h' (s.heap.objs.size+1) l2 0 ->
   (∀c o,s.heap.get? c=some o->h'.get? c=some o)->Q (.ref (s.heap.objs.size+4)) {s with heap:=h'}) :
  wpAny (model prog w) A (call (.type "zip") [.ref l1,.ref l2]) Q E s:=by
 refine callType_new F.called_zip (by decide) (F.typeCall_zip_2 _ _) (F.newCall_zip_2 _ _) (λobj=>F.args_object_init_3 obj _ _) F.entry_zip_new (Rp b1 b2 l1 l2 xs ys) ⟨hl1,hl2,?_⟩
 have z1:(zp1 b1 s.heap l1).objs.size=s.heap.objs.size+1:=CM ..
 have z2:(zp2 b1 b2 s.heap l1 l2).objs.size=s.heap.objs.size+2:=by rw[CM,z1]
 have z3:(zp3 b1 b2 s.heap l1 l2).objs.size=s.heap.objs.size+3:=by rw[CM,z2]
 have z4:(zp4 b1 b2 s.heap l1 l2).objs.size=s.heap.objs.size+4:=by rw[CM,z3]
 have g5:(zp5 b1 b2 s.heap l1 l2).get? (zp4 b1 b2 s.heap l1 l2).objs.size=some _:=AI _ rfl
 have g4:(zp5 b1 b2 s.heap l1 l2).get? (zp3 b1 b2 s.heap l1 l2).objs.size=some _:=AB _ (AI _ rfl)
 have g3:(zp5 b1 b2 s.heap l1 l2).get? (zp2 b1 b2 s.heap l1 l2).objs.size=some _:=AB _ (AB _ (AI _ rfl))
 have g2:(zp5 b1 b2 s.heap l1 l2).get? (zp1 b1 s.heap l1).objs.size=some _:=AB _ (AB _ (AB _ (AI _ rfl)))
 have g1:(zp5 b1 b2 s.heap l1 l2).get? s.heap.objs.size=some _:=AB _ (AB _ (AB _ (AB _ (AI _ rfl))))
 have s1:SI b1 (zp5 b1 b2 s.heap l1 l2) s.heap.objs.size l1 0:=by cases b1<;>exact⟨_,g1,rfl,rfl⟩
 have s2:SI b2 (zp5 b1 b2 s.heap l1 l2) (zp1 b1 s.heap l1).objs.size l2 0:=by cases b2<;>exact⟨_,g2,rfl,rfl⟩
 show _/\_
 rw[z2,z3,z4]at g5
 rw[z1,z2]at g3
 rw[z3]at g4
 rw[z1]at s2
 rw[z4]
 exact⟨⟨_,g5,rfl⟩,h _ g5 g3 g4 s1 s2 λc o x=>AB _ (AB _ (AB _ (AB _ (AB _ x))))⟩
end
section
variable{X:Cx}{pins:List (Addr × Obj)}{σ:St}{H:Hp}{s:Shared}{φ:Phi}
theorem Ep{h':Heap}{t':Nat}{ch:List Addr}(I:Inv X pins σ H s)(k:∀b o,b∉ch->s.heap.get? b=some o->h'.get? b=some o)(hf:∀b∈ch,C4 X pins H b):Inv X pins σ H {s with heap:=h',toks:=t'}:=by
 have nit:∀b u,H b=some u->b∉ch:=λb u e z=>by rw[(hf b z).1]at e;cases e
 refine I.step (g':=s.gens) (d':=s.drawn) (ch:=ch) (λb hb=>⟨(hf b hb).2.2.2.1,(hf b hb).2.1,(hf b hb).2.2.2.2.1,(hf b hb).2.2.2.2.2⟩) (λb o _ _ hc e _=>k b o hc e) (λb o _ _ hc e _=>⟨o.slots,k b o hc e⟩) (λ_ _ _ _ n=>n)
  (λb o hc e=>⟨o,k b o hc e⟩) (λ_ _ e=>e) (λ_ _ _ e=>e) (λb ps e=>⟨#[],by rw[e];simp⟩) (λm hm=>?_) (λb u e=>?_) I.bare
 ·obtain⟨o,es,ep,ho,r⟩:=hm
  exact⟨o,es,ep,k _ o (λz=>(hf _ z).2.1 rfl) ho,r⟩
 ·refine(I.hok b u e).stay (λc v hc q=>k c v ?_ q) (λ_ q=>q) λ_ _ q=>q
  rcases hc with z | z
  ·rw[z];exact nit b u e
  ·exact nit c _ z
noncomputable def Sq(b:Bool)(K:PySem.W.Frag)(H:Hp)(a:Addr)(xs:List V):Prop:=match b with
 |true=>SqL K H a xs
 |false=>SqT K H a xs
theorem Sq.vals{b:Bool}{a:Addr}{xs:List V}(h:Sq b X.K H a xs)(I:Inv X pins σ H s):∃its:List Value,bo xs its/\SQ b s.heap a its.toArray/\xs.length<=sizeLine:=by
 cases b
 ·obtain⟨its,rv,p,hz⟩:=I.tuple h
  exact⟨its,rv,p,hz⟩
 ·obtain⟨its,rv,p,hz⟩:=I.list h
  exact⟨its,rv,p.isList,hz⟩
theorem Sq.inj{b:Bool}{a:Addr}{xs ys:List V}(h:Sq b X.K H a xs)(I:Inv X pins σ H s)(h':Sq b X.K H a ys):ys=xs:=by
 cases b
 ·exact I.tuple_inj h' h
 ·exact I.list_inj h' h
noncomputable def Itz(K:PySem.W.Frag)(b1 b2:Bool)(a1 a2:Addr):L2.It :=
 ⟨λi H=>∃xs ys x y,Sq b1 K H a1 xs/\Sq b2 K H a2 ys/\xs[i]? = some x/\ys[i]? = some y,
 λi H v H'=>∃p x y,v=.ref p/\H p=none/\H'=upd H p (.tup [x,y])/\(∀xs,Sq b1 K H a1 xs->xs[i]? = some x)/\(∀ys,Sq b2 K H a2 ys->ys[i]? = some y),
 λi H=>∃xs ys,Sq b1 K H a1 xs/\Sq b2 K H a2 ys/\(xs.length<=i\/ys.length<=i)⟩
theorem Iv{P:Program}{w:World}{K:PySem.W.Frag}{elts:List Expr}{k:Nat}{tp:Pos}{b1 b2:Bool}{z TI TO i1 i2 a1 a2:Addr}(D:ZipApart z TI TO i1 i2 a1 a2) :
  Turn P w K (.Tuple elts k tp) (Itz K b1 b2 a1 a2) [z,TI,TO,i1,i2] z (λi h=>IsZip h z TI TO .none/\IsPair h TI (.ref i1) (.ref i2)/\(∃a b,IsPair h TO a b)/\SI b1 h i1 a1 i/\SI b2 h i2 a2 i) where
 mem:=by simp
 obj:=λi h ⟨hz,hTI,⟨ta,tb,hTO⟩,s1,s2⟩ b hb=>by
  simp![AN,BD,or_false]at hb
  rcases hb with rfl | rfl | rfl | rfl | rfl
  ·exact⟨_,hz,λv e=>by cases e⟩
  ·exact⟨_,hTI,λv e=>by cases e⟩
  ·exact⟨_,hTO,λv e=>by cases e⟩
  ·obtain⟨o,e,_,d⟩:=s1.obj
   exact⟨o,e,λv q=>by rw[d]at q;cases q⟩
  ·obtain⟨o,e,_,d⟩:=s2.obj
   exact⟨o,e,λv q=>by rw[d]at q;cases q⟩
 keep:=λi h h' ⟨hz,hTI,⟨ta,tb,hTO⟩,s1,s2⟩ k=>⟨k z (by simp) _ hz,k TI (by simp) _ hTI,⟨ta,tb,k TO (by simp) _ hTO⟩,s1.keep λo e=>k i1 (by simp) o e,s2.keep λo e=>k i2 (by simp) o e⟩
 item:=by
  intro X hP hw hK hc i pins s σ H E I hf ⟨hz,hTI,⟨ta,tb,hTO⟩,s1,s2⟩ hg
  subst hP hw hK
  obtain⟨xs,ys,x,y,q1,q2,ex,ey⟩:=hg
  obtain⟨is1,rv1,p1,_⟩:=q1.vals I
  obtain⟨is2,rv2,p2,_⟩:=q2.vals I
  obtain⟨u1,hu1,ru1⟩:=rv1.get ex
  obtain⟨u2,hu2,ru2⟩:=rv2.get ey
  refine N4 D hz hTI hTO s1 s2 p1 p2 (x:=u1) (y:=u2) (by simpa using hu1) (by simpa using hu2) λh' c1 c2 c3 c4 c5 kk=>⟨_,rfl,wpAny_letOwnedTupleGo_zip c1 λh'' z'' sb=>?_⟩
  have fr:H s.heap.objs.size=none:=I.hok.fresh (AH _)
  have lt:∀b∈[z,TI,TO,i1,i2],b≠s.heap.objs.size:=by
   intro b hb
   simp![AN,BD,or_false]at hb
   rcases hb with rfl | rfl | rfl | rfl | rfl
   ·exact AR (AJ hz)
   ·exact AR (AJ hTI)
   ·exact AR (AJ hTO)
   ·obtain⟨o,e,_⟩:=s1.obj;exact AR (AJ e)
   ·obtain⟨o,e,_⟩:=s2.obj;exact AR (AJ e)
  have I1:Inv X pins σ (upd H s.heap.objs.size (.tup [x,y])) {s with heap:=s.heap.push {cls:=.type "tuple",data:=.seq #[u1,u2]},toks:=s.toks} :=
   I.laid (λb u e=>AB _ e) (AH _) ⟨by show 2<=sizeLine;rw[CB];decide,[u1,u2],.cons ru1 (.cons ru2 .nil),⟨_,AI _ rfl,rfl,rfl,_,rfl⟩⟩
  have hf':∀b∈[z,TI,TO,i1,i2],C4 X pins (upd H s.heap.objs.size (.tup [x,y])) b:=λb hb=>by
   obtain⟨f0,f⟩:=hf b hb
   exact⟨by rw[ao (lt b hb)];exact f0,f⟩
  have up:∀c o,c≠z->h'.get? c=some o->h''.get? c=some o:=λc o n e=>sb.extBut _ _ n e
  have I2:=Ep (s:={s with heap:=s.heap.push {cls:=.type "tuple",data:=.seq #[u1,u2]},toks:=s.toks}) (h':=h'') (t':=s.toks) (ch:=[z,TI,TO,i1,i2]) I1 (λb o hb e=>by
   simp![AN,BD,or_false,not_or]at hb
   rcases Heap.get?_push_cases e with⟨rfl,rfl⟩ | e
   ·exact up _ _ hb.1 c5
   ·exact up _ _ hb.1 (kk b o hb.1 hb.2.2.1 hb.2.2.2.1 hb.2.2.2.2 e)) hf'
  refine⟨.ref s.heap.objs.size,_,I2,rfl,⟨_,x,y,rfl,fr,rfl,λzs hz'=>by rw[q1.inj I hz'];exact ex,λzs hz'=>by rw[q2.inj I hz'];exact ey⟩,?_,λb hb=>(hf' b hb).1⟩
  ·exact⟨z'',up _ _ D.TIz (kk _ _ D.TIz D.TITO D.TIi1 D.TIi2 hTI),⟨u1,u2,up _ _ D.TOz c2⟩,c3.keep λo e=>up _ o D.i1z e,c4.keep λo e=>up _ o D.i2z e⟩
 done:=by
  intro X hP hw hK hc i pins s σ H E I hf ⟨hz,hTI,⟨ta,tb,hTO⟩,s1,s2⟩ hg
  subst hP hw hK
  obtain⟨xs,ys,q1,q2,en⟩:=hg
  obtain⟨is1,rv1,p1,_⟩:=q1.vals I
  obtain⟨is2,rv2,p2,_⟩:=q2.vals I
  have l1:=rv1.length
  have l2:=rv2.length
  refine Ro (I.ok.hd hc) D hz hTI hTO s1 s2 p1 p2 (by rcases en with en | en;exact .inl (by simp;lia);exact .inr (by simp;lia)) λh' kk=>⟨rfl,Ep I (h':=h') (t':=s.toks) (ch:=[z,TI,TO,i1,i2]) (λb o hb e=>?_) hf⟩
  simp![AN,BD,or_false,not_or]at hb
  exact kk b o hb.1 hb.2.2.1 hb.2.2.2.1 hb.2.2.2.2 e
 self:=λ_ _ _ _ _ st h=>wpAny_pyIter_zip st.1 h
theorem Er{K:PySem.W.Frag}{ι:List Addr}{H:Hp}{μ:Sto}{d:D}{v:V}{ds:List D}{g:Gd}(S:Sim K ι H μ)(hd:IsD K ι H d v)(hw:bu μ d=some (ds,g)) :
  ∃b a xs,v=.ref a/\Sq b K H a xs/\ah K ι H ds xs/\∀ι2 H2 μ2,ι <+: ι2->Ext H H2->Sim K ι2 H2 μ2->gd g μ2->∃ys,Sq b K H2 a ys/\ah K ι2 H2 ds ys:=by
 cases d with
 |tup es =>
  simp![bu,BO,GX]at hw
  obtain⟨rfl,rfl⟩:=hw
  obtain⟨a,xs,rfl,hq,hds⟩:=fz hd
  exact⟨false,a,xs,rfl,hq,hds,λι2 H2 μ2 q1 q2 q3 q4=>⟨xs,hq.ext q2,ah.mono q1 q2 _ _ hds⟩⟩
 |lst es =>
  simp![bu,BO,GX]at hw
  obtain⟨rfl,rfl⟩:=hw
  obtain⟨a,xs,rfl,hq,hds⟩:∃a xs,v=.ref a/\FzL K H a xs/\ah K ι H es xs:=by simpa[IsD]using hd
  exact⟨true,a,xs,rfl,hq.sq,hds,λι2 H2 μ2 q1 q2 q3 q4=>⟨xs,(hq.ext q2).sq,ah.mono q1 q2 _ _ hds⟩⟩
 |loc n =>
  obtain⟨a,rfl,hn⟩:∃a,v=.ref a/\ι[n]? = some a:=by simpa[IsD]using hd
  have pre:∀{ι2:List Addr},ι <+: ι2->ι2[n]? = some a:=λhp=>by
   obtain⟨t,rfl⟩:=hp
   rw[AV (AL.mp hn).1];exact hn
  cases em:μ[n]? with
  |none=>simp[bu,em]at hw
  |some o =>
   cases o with
   |l es =>
    simp![bu,em,BO,GX]at hw
    obtain⟨rfl,rfl⟩:=hw
    obtain⟨a',q',ho⟩:=S.at em
    rw[hn]at q';cases q'
    obtain⟨xs,f1,f2⟩:=ho
    refine⟨true,a,xs,rfl,(show LsL K H a xs from .inl f1).sq,ah.mono (CH) (.refl _) _ _ f2,λι2 H2 μ2 q1 q2 q3 q4=>?_⟩
    obtain⟨a2,e2,o2⟩:=q3.at (show μ2[n]? = some (.l es)from q4)
    rw[pre q1]at e2;cases e2
    obtain⟨ys,g1,g2⟩:=o2
    exact⟨ys,(show LsL K H2 a ys from .inl g1).sq,ah.mono (CH) (.refl _) _ _ g2⟩
   |r es =>
    simp![bu,em,BO,GX]at hw
    obtain⟨rfl,rfl⟩:=hw
    obtain⟨a',q',ho⟩:=S.at em
    rw[hn]at q';cases q'
    obtain⟨xs,f1,f2⟩:=ho
    refine⟨true,a,xs,rfl,(show LsL K H a xs from .inl f1).sq,f2,λι2 H2 μ2 q1 q2 q3 q4=>?_⟩
    obtain⟨a2,e2,o2⟩:=q3.at (show μ2[n]? = some (.r es)from q4)
    rw[pre q1]at e2;cases e2
    obtain⟨ys,g1,g2⟩:=o2
    exact⟨ys,(show LsL K H2 a ys from .inl g1).sq,g2⟩
   |d kvs=>simp[bu,em]at hw
   |dt kvs=>simp[bu,em]at hw
   |x _=>simp[bu,em]at hw
   |o _ _=>simp[bu,em]at hw
   |dr _=>simp[bu,em]at hw
   |fd _=>simp[bu,em]at hw
   |dead=>simp[bu,em]at hw
 |_=>simp[bu]at hw
theorem Iw{y:D}{ys:List D}(h:dn [] y=some ys)(μ:Sto):bu μ y=some (ys,none):=by
 cases y<;>simp_all[dn,bu]
theorem Rq {a b:Expr} {xa xb:Ex} {elts:List Expr} {k:Nat} {tp:Pos} {p pos:Pos} (hg:Gl X "zip") (hm:X.mg "zip"=none) (ha:PE X a (tE X.K φ xa)) (hb:PE X b (tE X.K φ xb)) (hs:starEach [a,b] X.env=[(false,eval a X.env),(false,eval b X.env)])
  (hs2:starEach [b] X.env=[(false,eval b X.env)]):PI X (.Tuple elts k tp) (.Call (.Name "zip" p) [a,b] [] pos) (tI X.K φ (.zip xa xb)):=by
 intro pins s σv H R I ⟨ι,σ,μ,hS,hL,h⟩
 simp![evI]at h
 cases e1:evE φ xa σ μ with
 |exc _ _ _=>rw[e1]at h;exact h.elim
 |stuck=>rw[e1]at h;exact h.elim
 |ok d μ1 =>
 rw[e1]at h
 simp![Res.bg]at h
 cases e2:evE φ xb σ μ1 with
 |exc _ _ _=>rw[e2]at h;exact h.elim
 |stuck=>rw[e2]at h;exact h.elim
 |ok d2 μ2 =>
 rw[e2]at h
 simp![Res.bg]at h
 have hq:tEs X.K φ (.cons xa (.cons xb .nil)) σv H (λvs H1=>∃ι1,ι <+: ι1/\Ext H H1/\Sim X.K ι1 H1 μ2/\ah X.K ι1 H1 [d,d2] vs):=⟨ι,σ,μ,hS,hL,by
  simp![fj,e1,e2,Res.bg]
  exact λι1 v H1 p1 x1 s1 d1=>⟨ι1,p1,x1,s1,d1⟩⟩
 refine Call_ (ko I hg hm PyProof.Rows.boot_zip (DB (thn (zx ha (zx hb Nh hs2) (by rw[hs,hs2]) pos pins s σv H _ I hq) λus s1 ⟨vs,H1,I1,r1,ι1,p1,x1,S1,d1⟩=>?_) (by rw[hs,hs2]) (by rw[hs2];rfl)))
 simp![ah]at d1
 obtain⟨v1,_,rfl,q1,v2,_,rfl,q2,rfl⟩:=d1
 cases r1 with
 |cons ra rr =>
 cases rr with
 |cons rb rr =>
 cases rr
 cases ew:bu μ2 d with
 |none=>simp![ew]at h
 |some wg =>
 obtain⟨ds,g⟩:=wg
 cases ey:dn [] d2 with
 |none=>simp![ew,ey]at h
 |some es =>
 simp![ew,ey]at h
 obtain⟨b1,a1,xs,rfl,sq1,ds1,st1⟩:=Er S1 q1 ew
 obtain⟨b2,a2,ys,rfl,sq2,ds2,st2⟩:=Er S1 q2 (Iw ey μ2)
 cases ra
 cases rb
 obtain⟨i1,rv1,p1',z1⟩:=sq1.vals I1
 obtain⟨i2,rv2,p2',z2⟩:=sq2.vals I1
 refine N6 p1' p2' λh' c1 c2 c3 c4 c5 kk=>?_
 refine wpAny_pyIter_zip c1 ?_
 have I2:Inv X pins σv H1 {s1 with heap:=h'}:=I1.kept (t':=s1.toks) kk
 refine⟨_,[s1.heap.objs.size+4,s1.heap.objs.size+2,s1.heap.objs.size+3,s1.heap.objs.size,s1.heap.objs.size+1],_,_,H1,rfl,I2,Iv (b1:=b1) (b2:=b2) (zipApart_new p1'.lt p2'.lt),⟨c1,c2,⟨_,_,c3⟩,c4,c5⟩,λb hb=>?_,h ι1 H1 _ p1 x1 S1 ?_⟩
 ·have hb':s1.heap.objs.size<=b:=by
   simp![AN,BD,or_false]at hb
   rcases hb with rfl | rfl | rfl | rfl | rfl<;>first | exact AH _ | exact GU _ _
  exact I1.fpOk hb' (I1.hok.fresh hb')
 ·have hlen:((ds.zip es).map λp=>D.tup [p.1,p.2]).length=min ds.length es.length:=by simp
  have n1:=ds1.length
  have n2:=ds2.length
  refine⟨by rw[hlen];lia,λi ι2 H2 μ3 q1 q2 q3 q4 hi=>?_,λi ι2 H2 μ3 w H3 q1 q2 q3 q4 hi hy=>?_,λι2 H2 μ3 q1 q2 q3 q4=>?_⟩
  ·rw[hlen]at hi
   obtain⟨xs',y1,y2⟩:=st1 ι2 H2 μ3 q1 q2 q3 q4
   obtain⟨ys',y3,y4⟩:=st2 ι2 H2 μ3 q1 q2 q3 trivial
   obtain⟨v,ev,_⟩:=y2.get (AD (by lia:i<ds.length))
   obtain⟨v',ev',_⟩:=y4.get (AD (by lia:i<es.length))
   exact⟨xs',ys',v,v',y1,y3,ev,ev'⟩
  ·rw[hlen]at hi
   obtain⟨xs',y1,y2⟩:=st1 ι2 H2 μ3 q1 q2 q3 q4
   obtain⟨ys',y3,y4⟩:=st2 ι2 H2 μ3 q1 q2 q3 trivial
   have hi1:i<ds.length:=by lia
   have hi2:i<es.length:=by lia
   obtain⟨v,ev,hv⟩:=y2.get (AD hi1)
   obtain⟨v',ev',hv'⟩:=y4.get (AD hi2)
   obtain⟨p,x,y,rfl,hp,rfl,f1,f2⟩:=hy
   have e1':=f1 _ y1
   rw[ev]at e1';cases e1'
   have e2':=f2 _ y3
   rw[ev']at e2';cases e2'
   have X1:Ext H2 (upd H2 p (.tup [v,v'])):=Ext.new hp
   refine⟨X1,q3.new hp,.tup [ds[i],es[i]],by simp[HZ,hi1,hi2],tup_is (xs:=[v,v']) (.inl ?_) ?_⟩
   ·exact .inl ax
   ·simp![ah]
    exact⟨v,_,rfl,IsD.mono (AK _) X1 _ _ hv,v',_,rfl,IsD.mono (AK _) X1 _ _ hv',rfl⟩
  ·obtain⟨xs',y1,y2⟩:=st1 ι2 H2 μ3 q1 q2 q3 q4
   obtain⟨ys',y3,y4⟩:=st2 ι2 H2 μ3 q1 q2 q3 trivial
   have m1:=y2.length
   have m2:=y4.length
   rw[hlen]
   exact⟨xs',ys',y1,y3,by lia⟩
theorem Kp{a b:Expr}{xa xb:Ex}{elts:List Expr}{k:Nat}{tp:Pos}{p pos:Pos}(hm:X.mg "zip"=none)(ha:PE X a (tE X.K φ xa))(hb:PE X b (tE X.K φ xb))(hg:Gl X "zip":=by rfl)(hs:starEach [a,b] X.env=[(false,eval a X.env),(false,eval b X.env)]:=by rfl)(hs2:starEach [b] X.env=[(false,eval b X.env)]:=by rfl) :
  PI X (.Tuple elts k tp) (.Call (.Name "zip" p) [a,b] [] pos) (tI X.K φ (.zip xa xb)):=Rq hg hm ha hb hs hs2
end
section
variable{X:Cx}{φ:Phi}{o e f:Expr}{xo xe xf:Ex}{pos apos cpos:Pos}
theorem Es(hu:X.A.units+64<cLine)(ho:PE X o (tE X.K φ xo))(he:PE X e (tE X.K φ xe))(hf:PE X f (tE X.K φ xf))(m:M2 X o "get" apos e f cpos:=by exact⟨rfl,rfl,rfl,rfl⟩) :
  PE X (.Call (.Attribute o "get" apos) [e,f] [] cpos) (tE X.K φ (.meth .get xo (.cons xe (.cons xf .nil)))):=by
 refine PE.imp (Hv (by lia) ho he hf m) λσv H Q ⟨ι,σ,μ,hS,hL,h⟩=>?_
 simp![evE,fj]at h
 obtain⟨d,μ1,e1,h⟩:=h.bind
 refine⟨ι,σ,μ,hS,hL,?_⟩
 rw[e1]
 intro ι1 x H1 p1 x1 s1 d1
 cases d with
 |loc n =>
  obtain⟨a,rfl,hn⟩:∃a,x=.ref a/\ι1[n]? = some a:=by simpa[Lp.IsD]using d1
  cases em:μ1[n]? with
  |none=>simp[gv,em,ft]at h
  |some ob =>
   cases ob with
   |d kvs =>
    simp![gv,em,if_true,Res.bind_assoc,Res.bg]at h
    obtain⟨a',q',kx,hk1,hk2⟩:=s1.at em
    rw[hn]at q';cases q'
    obtain⟨y,μ2,e2,h⟩:=h.bind
    refine⟨a,rfl,.inl ⟨_,.inl hk1⟩,ι1,σ,μ1,s1,hL.mono p1 x1,?_⟩
    rw[e2]
    intro ι2 yv H2 p2 x2 s2 d2
    obtain⟨z,μ3,e3,h⟩:=h.bind
    refine⟨ι2,σ,μ2,s2,(hL.mono p1 x1).mono p2 x2,?_⟩
    rw[e3]
    intro ι3 zv H3 p3 x3 s3 d3
    simp![mtD,Nd]at h
    cases ed:dictAt μ3 (.loc n) y with
    |none=>simp![ed]at h;exact h.elim
    |some kvs3 =>
     simp![ed]at h
     obtain⟨p,q,xs,e4,rfl,rfl,hp,hk⟩:=ym s3 (IsD.mono p3 x3 _ _ (IsD.mono p2 x2 _ _ d1)) (IsD.mono p3 x3 _ _ d2) ed
     cases e4
     exact⟨_,.inl ⟨_,_,hp,rfl,rfl⟩,h ι3 _ H3 ((p1.trans p2).trans p3) ((x1.trans x2).trans x3) s3 ((nk hk).getD d3)⟩
   |_=>simp[gv,em,ft]at h
 |_=>simp[gv,ft]at h
end
section
variable{X:Cx}{pins:List (Addr × Obj)}{σ:St}{H:Hp}{s:Shared}{φ:Phi}
theorem N7{p:Addr}{xs:List (Key×V)}(I:Inv X pins σ H s)(h:H p=some (.dK xs)):∃o,Inv X pins σ (upd H p (.frz o (.dK xs))) s:=by
 have hp:=I.hok p _ h
 obtain⟨hz,hsys,vs,rel,o,es,ep,hget,r⟩:=id hp
 refine⟨o,I.ok,I.os,I.bare,⟨I.base.keep,I.base.slot,λb o e hn hx=>?_,I.base.there,λb ys e=>?_,λb o u e=>?_,λb ps e=>?_⟩,I.loc,I.cell,?_,λx c e=>?_,λq hq=>?_,λb u e=>?_,I.len⟩
 ·have q:=I.base.free b o e hn hx
  rw[ao (λz=>by subst z;rw[h]at q;cases q)]
  exact q
 ·have q:=I.base.tups b ys e
  rw[ao (j6 q h (by intro z;cases z))];exact q
 ·have q:=I.base.frzs b o u e
  rw[ao (j6 q h (by intro z;cases z))];exact q
 ·obtain⟨more,q⟩:=I.base.tbls b ps e
  exact⟨more,by rw[ao (j6 q h (by intro z;cases z))];exact q⟩
 ·rw[ao (λz=>by rw[<-z,I.free]at h;cases h)];exact I.free
 ·rw[ao (λz=>by rw[<-z,I.freeC x c e]at h;cases h)];exact I.freeC x c e
 ·obtain⟨e1,e2,e3⟩:=I.pin q hq
  refine⟨e1,?_,e3⟩
  rw[ao (λz=>by rw[<-z,e2]at h;cases h)];exact e2
 ·by_cases hb:b=p
  ·subst hb
   rw[ax]at e;cases e
   exact⟨hget,hz,hsys,vs,rel,o,es,ep,hget,r⟩
  ·rw[ao hb]at e
   refine(I.hok b u e).stay (λc v _ q=>q) (λc q=>?_) (λc ys q=>?_)
   ·rw[ao (j6 q h (by intro z;cases z))];exact q
   ·rw[ao (j6 q h (by intro z;cases z))];exact q
theorem qu{α β:Type}{F:α->β->Prop}:∀{xs:List α} {ys:List β} {i:Nat} {y:β},Paired F xs ys->ys[i]? = some y->∃x,xs[i]? = some x/\F x y
 |_,_,_,_,.nil,e=>by simp at e
 |x::_,_::_,0,_,.cons h _,e=>by simp at e;subst e;exact⟨x,rfl,h⟩
 |_::_,_::_,i+1,_,.cons _ t,e=>by
  obtain⟨x,h1,h2⟩:=qu (i:=i) t (by simpa using e)
  exact⟨x,by simpa using h1,h2⟩
theorem sr:entryFor table "dict_valueiterator.__iter__"=some Builtin.«dict_keyiterator.__iter__» :=
 entryFor_alias (id':="dict_keyiterator.__iter__") (by kernel_rfl) (by first | rfl | decide +kernel | (unfold String.splitOn;simp +decide [String.splitOnAux])) (by decide +kernel) (by kernel_rfl)
noncomputable def Itv(a:Addr)(o:Obj)(xs:List (Key×V)):L2.It :=
 ⟨λi H=>H a=some (.frz o (.dK xs))/\i<xs.length,λi H x H'=>H'=H/\∃k,xs[i]? = some (k,x),λi H=>H a=some (.frz o (.dK xs))/\xs.length<=i⟩
theorem Kq:∀{kvs:List (Key×V)} {vs:List (Key×Value)} {i:Nat} {p:Key×V},KV kvs vs->kvs[i]? = some p->∃u,vs[i]? = some (p.1,u)/\RelV p.2 u
 |_,_,_,_,.nil,e=>by simp at e
 |q::_,r::_,0,p,.cons h _,e=>by
  simp at e;subst e
  exact⟨r.2,by rw[h.1];rfl,h.2⟩
 |q::kvs,r::vs,i+1,p,.cons _ t,e=>by
  obtain⟨u,h1,h2⟩:=Kq (i:=i) t (by simpa using e)
  exact⟨u,by simpa using h1,h2⟩
theorem Kr{a:Addr}{o:Obj}{xs:List (Key×V)}{ep:Nat}(I:Inv X pins σ H s)(hep:∃es,o.data=.dict es ep)(e:H a=some (.frz o (.dK xs))):∃vs,KV xs vs/\s.heap.DictAt (br X.prog X.w) a vs ep:=by
 obtain⟨hget,hz,hsys,vs,rel,o',es',ep',hget',r1,r2,r3⟩:=(show gj X.prog X.w H s.heap a (.frz o (.dK xs))from I.hok a _ e)
 rw[hget]at hget';cases hget'
 obtain⟨es,h⟩:=hep
 rw[h]at r2;cases r2
 exact⟨vs,rel,o,_,hget,r1,h,r3⟩
theorem Et{P:Program}{w:World}{K:PySem.W.Frag}{tg:Expr}{a it:Addr}{o:Obj}{xs:List (Key×V)}{ep:Nat}(hep:∃es,o.data=.dict es ep) :
  Turn P w K tg (Itv a o xs) [it] it (λi h=>h.IsValIter it a i xs.length ep) where
 mem:=by simp
 obj:=λi h st b hb=>by
  have e:b=it:=by simpa using hb
  subst e
  obtain⟨o,e,c,d⟩:=st
  exact⟨o,e,λv z=>by rw[d]at z;cases z⟩
 keep:=λi h h' ⟨o,e,r⟩ k=>⟨o,k it (by simp) o e,r⟩
 item:=by
  intro X hP hw hK hc i pins s σ H E I hf st hg
  subst hP hw hK
  obtain⟨hq,hi⟩:=hg
  obtain⟨vs,rel,dd⟩:=Kr I hep hq
  have hl:vs.length=xs.length:=(DC rel).symm
  obtain⟨u,hu,ru⟩:=Kq rel (AD hi)
  obtain⟨f0,f1,f2,f3,f4,f5⟩:=hf it (by simp)
  refine wpAny_pyNext_values_item (by rw[hl];exact st) dd hu λh' st' sb=>?_
  rw[hl]at st'
  have I1:Inv X pins σ H {s with heap:=h'}:=I.turned (t':=s.toks) (λb o hb e=>(sb.2 b hb).trans e) f0 f1 f3 f4 f5
  obtain⟨o',e',c',d'⟩:=id st'
  exact⟨u,rfl,Hk (s:={s with heap:=h'}) e' c' d' (by decide) ⟨_,H,I1,ru,⟨rfl,_,AD hi⟩,st',λb hb=>(hf b hb).1⟩⟩
 done:=by
  intro X hP hw hK hc i pins s σ H E I hf st hg
  subst hP hw hK
  obtain⟨hq,hi⟩:=hg
  obtain⟨vs,rel,dd⟩:=Kr I hep hq
  have hl:vs.length=xs.length:=(DC rel).symm
  obtain⟨f0,f1,f2,f3,f4,f5⟩:=hf it (by simp)
  exact wpAny_pyNext_values_end (I.ok.hd hc) (by rw[hl];exact st) dd (DX (by lia)) λh' eb=>⟨rfl,I.turned (t':=s.toks) (λb o hb e=>eb b o hb e) f0 f1 f3 f4 f5⟩
 self:=λA i s Q E st h=>by
  have hT:s.TypeIs (.ref it) "dict_valueiterator":=st.typeIs
  refine ID hT GV (BI GV hT sr ?_ (F.args_dict_valueiterator_iter_1 _))
  show wpAny _ _ (ret (.ref it)) _ _ s
  exact AC ⟨_,rfl,"dict_valueiterator",_,hT,F.slot_dict_valueiterator_next.lookup,h⟩
theorem N8{o tg:Expr}{xo:Ex}{apos cpos:Pos}(ho:PE X o (tE X.K φ xo))(hbase:attributeBase o "values" X.env (eval o X.env)=eval o X.env)(hline:(apos.endLine==cpos.line)=true) :
  PI X tg (.Call (.Attribute o "values" apos) [] [] cpos) (tI X.K φ (.vals xo)):=by
 intro pins s σv H R I ⟨ι,σ,μ,hS,hL,h⟩
 simp![evI]at h
 cases e1:evE φ xo σ μ with
 |exc _ _ _=>rw[e1]at h;exact h.elim
 |stuck=>rw[e1]at h;exact h.elim
 |ok d μ1 =>
 rw[e1]at h
 simp![Res.bg]at h
 cases d with
 |loc n =>
  simp only at h
  cases em:μ1[n]? with
  |none=>rw[em]at h;exact h.elim
  |some ob =>
   rw[em]at h
   cases ob with
   |d kvs =>
    simp only at h
    have hq:tE X.K φ xo σv H (λv H1=>∃ι1,ι <+: ι1/\Ext H H1/\Sim X.K ι1 H1 μ1/\Lp.IsD X.K ι1 H1 (.loc n) v):=⟨ι,σ,μ,hS,hL,by rw[e1];exact λι1 v H1 p1 x1 s1 d1=>⟨ι1,p1,x1,s1,d1⟩⟩
    refine wpAny_Call_method0_late hbase hline (thn (ho pins s σv H _ I hq) λu s1 ⟨v,H1,I1,r1,ι1,p1,x1,S1,d1⟩=>?_)
    obtain⟨a,rfl,hn⟩:∃a,v=.ref a/\ι1[n]? = some a:=by simpa[Lp.IsD]using d1
    obtain⟨a',q',xs,hH,hkv⟩:=S1.at em
    rw[hn]at q';cases q'
    obtain rfl:u=Value.ref a:=r1
    obtain⟨t1,t2,hsys⟩:=Kf I1 (.inl ⟨_,.inl hH⟩)
    obtain⟨_,_,vs0,_,dd0⟩:=M1 I1.hok hH
    refine⟨"dict","dict.values",IP,IJ,PySem.F.type_dict_values,t1,t2,GC rfl (PySem.evalArgs_none ?_)⟩
    refine call_meetsIn IJ t1 PySem.F.entry_dict_values (PySem.F.args_dict_values_1 _) (meets_dict_values (br X.prog X.w) a hsys) ⟨⟨vs0,dd0⟩,?_⟩
    have I1':Inv X pins σv H1 {s1 with heap:=s1.heap.push {cls:=.type "dict_values",data:=.fields #[.ref a]}}:=I1.kept (t':=s1.toks) λb o e=>AB _ e
    obtain⟨fo,I2⟩:=N7 I1' hH
    obtain⟨hget,hz,_,vs,rel,o',es,ep,hget',r⟩:=(show gj X.prog X.w _ _ a (.frz fo (.dK xs))from I2.hok a _ ax)
    rw[hget]at hget';cases hget'
    have dat:Heap.DictAt (br X.prog X.w) (s1.heap.push {cls:=.type "dict_values",data:=.fields #[.ref a]}) a vs ep:=⟨fo,es,hget,r⟩
    have hl:vs.length=xs.length:=(DC rel).symm
    show wpAny _ _ (pyIter (.ref s1.heap.objs.size)) _ _ _
    refine wpAny_pyIter_values (s:={s1 with heap:=s1.heap.push {cls:=.type "dict_values",data:=.fields #[.ref a]}}) (knd:=br X.prog X.w) (v:=s1.heap.objs.size) ⟨_,AI _ rfl,rfl,rfl⟩ dat ?_
    have X2:Ext H1 (upd H1 a (.frz fo (.dK xs))):=.dK hH
    refine⟨_,[(s1.heap.push {cls:=.type "dict_values",data:=.fields #[.ref a]}).objs.size],_,_,_,rfl,I2.kept (t':=s1.toks) λb o e=>AB _ e,Et (a:=a) (o:=fo) (xs:=xs) (ep:=ep) ⟨es,r.2.1⟩,⟨_,AI _ rfl,rfl,by rw[hl];rfl⟩,λb hb=>?_,h ι1 _ _ p1 (x1.trans X2) (S1.put hn X2 ⟨_,ax⟩) ?_⟩
    ·have e:b=(s1.heap.push {cls:=.type "dict_values",data:=.fields #[.ref a]}).objs.size:=by simpa using hb
     subst e
     exact I2.fpOk (AH _) (I2.hok.fresh (AH _))
    ·have hk:kvs.length=xs.length:=DC hkv
     have get:∀(i:Nat) (hi:i<xs.length) k x,xs[i]? = some (k,x)->∃d,(kvs.map (·.2))[i]? = some d/\Lp.IsD X.K [] H1 d x:=λi hi k x e=>by
      obtain⟨p,e1,_,q⟩:=qu hkv e
      exact⟨p.2,by rw[BL,e1];rfl,q⟩
     refine⟨by rw[AG,hk];exact hz,λi ι2 H2 μ3 q1 q2 q3 q4 hi=>?_,λi ι2 H2 μ3 w H3 q1 q2 q3 q4 hi hy=>?_,λι2 H2 μ3 q1 q2 q3 q4=>?_⟩
     ·exact⟨q2.frzs _ _ _ ax,by rw[AG,hk]at hi;exact hi⟩
     ·obtain⟨rfl,k,e⟩:=hy
      rw[AG,hk]at hi
      obtain⟨d,e2,hd⟩:=get i hi k w e
      exact⟨.refl _,q3,d,e2,IsD.mono CH (X2.trans q2) _ _ hd⟩
     ·exact⟨q2.frzs _ _ _ ax,by rw[AG,hk];exact AH _⟩
   |_=>exact h.elim
 |_=>exact h.elim
theorem N9{o tg:Expr}{xo:Ex}{apos cpos:Pos}(ho:PE X o (tE X.K φ xo))(hbase:attributeBase o "values" X.env (eval o X.env)=eval o X.env:=by rfl)(hline:(apos.endLine==cpos.line)=true:=by rfl) :
  PI X tg (.Call (.Attribute o "values" apos) [] [] cpos) (tI X.K φ (.vals xo)):=N8 ho hbase hline
theorem Rr (iw il iw':Nat) {c:Int} {j:Nat} {xw xl xw':Str} {p0 p1 p2 p3 p4 pos:Pos}
  (hNw:X.N[iw]? = some xw:=by rfl) (hvw:Vis X.env.scope xw:=by first | exact Or.inl rfl | exact Or.inr (Or.inl rfl) | exact Or.inr (Or.inr rfl)) (hdw:(xw==("__debug__":Str))=false:=by decide) (hcw:(xw==("__classdict__":Str))=false:=by decide)
  (hNl:X.N[il]? = some xl:=by rfl) (hvl:Vis X.env.scope xl:=by first | exact Or.inl rfl | exact Or.inr (Or.inl rfl) | exact Or.inr (Or.inr rfl)) (hdl:(xl==("__debug__":Str))=false:=by decide) (hcl:(xl==("__classdict__":Str))=false:=by decide)
  (hNv:X.N[iw']? = some xw':=by rfl) (hvv:Vis X.env.scope xw':=by first | exact Or.inl rfl | exact Or.inr (Or.inl rfl) | exact Or.inr (Or.inr rfl)) (hdv:(xw'==("__debug__":Str))=false:=by decide) (hcv:(xw'==("__classdict__":Str))=false:=by decide) :
  PE X (.Dict [some (.Constant (.int c) j p0),some (.Name xl p1)] [.UnaryOp .USub (.Name xw p2) p3,.Name xw' p4] pos)
   (tE X.K φ (.dic false (.cons (.cst (.int c)) (.cons (.neg (.var iw)) (.cons (.var il) (.cons (.var iw') .nil)))))):=by
 refine PE.imp (M5 (zu J6 (Po J9 (qe hNw hvw hdw hcw)) (zu (qe hNl hvl hdl hcl) (qe hNv hvv hdv hcv) M4)) rfl rfl (by simp) (by simp)) λσv H Q ⟨ι,σ,μ,hS,hL,h⟩=>?_
 simp![evE,fj,Res.bg]at h
 intro p hp
 cases ew:σ[iw]? with
 |none=>rw[ew]at h;exact h.elim
 |some ow =>
 cases ow with
 |none=>rw[ew]at h;exact h.elim
 |some dw =>
 rw[ew]at h
 simp![Res.bg]at h
 cases dw with
 |int w =>
  simp![Res.bg]at h
  cases el:σ[il]? with
  |none=>rw[el]at h;exact h.elim
  |some ol =>
  cases ol with
  |none=>rw[el]at h;exact h.elim
  |some dl =>
  rw[el]at h
  simp![Res.bg]at h
  cases ev:σ[iw']? with
  |none=>rw[ev]at h;exact h.elim
  |some ov =>
  cases ov with
  |none=>rw[ev]at h;exact h.elim
  |some dv =>
  rw[ev]at h
  simp![Res.bg]at h
  cases dl with
  |int l =>
   simp![Qp]at h
   split at h
   ·rename_i hc
    obtain⟨_,_,hpv⟩:=hc
    obtain⟨vw,e1,q1⟩:=hL _ _ ew
    obtain⟨vl,e2,q2⟩:=hL _ _ el
    obtain⟨vv,e3,q3⟩:=hL _ _ ev
    cases cw q1
    cases cw q2
    refine⟨.int w,e1,w,rfl,.int l,e2,vv,e3,ax,[(.inl c,.int (-w)),(.inl l,vv)],rfl,by simp,?_⟩
    rw[C9]
    refine h (ι++[p]) _ _ (List.prefix_append _ _) (Ext.new hp) (hS.push hp ⟨_,ax,?_⟩) ?_
    ·have X1:Ext H (upd H p (.dK (nz [] [(.inl c,.int (-w)),(.inl l,vv)]))):=Ext.new hp
     have k0:Ve X.K (upd H p (.dK (nz [] [(.inl c,.int (-w)),(.inl l,vv)]))) [(.int c,.int (-w))] [(.inl c,.int (-w))]:=.cons ⟨by simp[Lp.IsD,kV],by simp[Lp.IsD]⟩ .nil
     exact r9 (k:=.inl l) (IsD.mono CH X1 _ _ (IsD.pur hpv q3)) k0
    ·simp![Lp.IsD]
     exact⟨p,rfl,by rw[<-hS.len];simp⟩
   ·exact h.elim
  |_=>exact h.elim
 |_=>exact h.elim
end
end Lp
namespace Lp.Srt
open PySem PySem.W PyProof.Rows
noncomputable def KW{α:Type}(lt:Nat->Nat->Bool)(n:Nat):KasT α->(α->Prop)->Prop
 |.ret a,Q=>Q a
 |.ask i j k,Q=>i<n/\j<n/\KW lt n (k (lt i j)) Q
theorem KW.bd{α β:Type}{lt:Nat->Nat->Bool}{n:Nat}{f:α->KasT β}{Q:β->Prop}:∀{t:KasT α},KW lt n t (λa=>KW lt n (f a) Q)->KW lt n (t.bind f) Q
 |.ret _,h=>h
 |.ask i j k,h=>⟨h.1,h.2.1,KW.bd h.2.2⟩
theorem KW.weak{α:Type}{lt:Nat->Nat->Bool}{n:Nat}{Q Q':α->Prop}(hq:∀a,Q a->Q' a):∀{t:KasT α},KW lt n t Q->KW lt n t Q'
 |.ret _,h=>hq _ h
 |.ask _ _ _,h=>⟨h.1,h.2.1,KW.weak hq h.2.2⟩
section
variable{r:Nat -> Nat}{n:Nat}
noncomputable abbrev ltR(r:Nat->Nat)(i j:Nat):Bool:=decide (r i<r j)
noncomputable def PP(n:Nat)(p:Array Nat):Prop:=p.toList.Perm (List.range n)
noncomputable def Ky(r:Nat->Nat)(p:Array Nat)(x:Nat):Nat:=r (p.getD x 0)
noncomputable def Up(r:Nat->Nat)(p:Array Nat)(k:Nat):Prop:=∀i j,i<=j->j<k->Ky r p i<=Ky r p j
noncomputable def Dn(r:Nat->Nat)(p:Array Nat)(k:Nat):Prop:=∀i j,i<=j->j<k->Ky r p j<=Ky r p i
theorem PP.sz{p:Array Nat}(h:PP n p):p.size=n:=by
 have:=h.length_eq
 simpa using this
theorem PP.inb{p:Array Nat}(h:PP n p)(hn:0<n)(x:Nat):p.getD x 0<n:=by
 by_cases hx:x<p.size
 ·have e:p.getD x 0=p[x]:=by simp[hx]
  rw[e]
  have:p[x]∈List.range n:=h.mem_iff.mp (by simp)
  simpa using this
 ·have e:p.getD x 0=0:=by simp[hx]
  rw[e];exact hn
theorem vo(p:Array Nat)(x:Nat):Ky r p x=r ((p[x]?).getD 0):=by
 unfold Ky
 rw[HL]
theorem PP.rev{p:Array Nat}(h:PP n p)(i j:Nat):PP n (kas_rev p i j):=(HS.mp (mirror_perm p i j ((j-i) / 2))).trans h
theorem PP.bub{p:Array Nat}(h:PP n p)(i d:Nat):PP n (bubble p i d):=(HS.mp (bubble_perm p i d)).trans h
theorem Ai{p:Array Nat}{i j:Nat}(hj:j<=p.size)(hij:i<=j)(x:Nat):Ky r (kas_rev p i j) x=if i<=x/\x<j then Ky r p (i+j-1-x)else Ky r p x:=by
 rw[vo]
 unfold kas_rev
 rw[getElem?_mirror hj ((j-i) / 2) (by lia) x]
 by_cases h:i<=x/\x<j
 ·rw[if_pos h]
  split
  ·rw[vo]
  ·rename_i hm
   have:x=i+j-1-x:=by lia
   rw[vo,<-this]
 ·rw[if_neg h,if_neg (by lia),vo]
theorem Ks{p:Array Nat}{k d:Nat}(hk:k<p.size)(hd:d<=k)(x:Nat):Ky r (bubble p k d) x=if x=k-d then Ky r p k else if k-d<x/\x<=k then Ky r p (x-1)else Ky r p x:=by
 rw[vo,getElem?_bubble hk d hd x]
 split
 ·rw[vo]
 ·split
  ·rw[vo]
  ·rw[vo]
theorem Eu{p:Array Nat}(hp:PP n p)(hn:0<n):∀(f m:Nat),1<=m->m+f<=n->Up r p m->KW (ltR r) n (kas_asc p f m) (λq=>m<=q/\q<=m+f/\Up r p q/\(q<m+f->Ky r p q<Ky r p (q-1)))
 |0,m,_,_,hu=>⟨AH _,AH _,hu,λh=>absurd h (by lia)⟩
 |f+1,m,h1,h2,hu=>by
  refine⟨hp.inb hn _,hp.inb hn _,?_⟩
  by_cases hc:Ky r p m<Ky r p (m-1)
  ·have e:ltR r (p.getD m 0) (p.getD (m-1) 0)=true:=decide_eq_true hc
   (rw[e];dsimp only;rw[if_pos rfl])
   exact⟨AH _,by lia,hu,λ_=>hc⟩
  ·have e:ltR r (p.getD m 0) (p.getD (m-1) 0)=false:=decide_eq_false hc
   (rw[e];dsimp only;rw[if_neg AU])
   refine(Eu hp hn f (m+1) (by lia) (by lia) λi j hij hj=>?_).weak λq hq=>⟨by lia,by lia,hq.2.2.1,λh=>hq.2.2.2 (by lia)⟩
   by_cases hj':j<m
   ·exact hu i j hij hj'
   ·have ej:j=m:=by lia
    subst ej
    by_cases hi:i=j
    ·rw[hi];exact AH _
    ·have:=hu i (j-1) (by lia) (by lia)
     lia
noncomputable def Bk(r:Nat->Nat)(p:Array Nat)(m q:Nat):Prop:=∀x,m-(q+1)<=x->x<m->Ky r p x=Ky r p (m-1)
theorem Ew{p:Array Nat}{m q:Nat}(hm:m<=p.size)(hq:q+1<=m)(hb:Bk r p m q)(x:Nat):Ky r (kas_rev p (m-(q+1)) m) x=Ky r p x:=by
 rw[Ai hm (by lia)]
 split
 ·rename_i h
  rw[hb x h.1 h.2,hb _ (by lia) (by lia)]
 ·rfl
theorem su(hn:0<n):∀(f:Nat) (p:Array Nat) (m q:Nat),PP n p->1<=m->m+f<=n->q+1<=m->Dn r p m->Bk r p m q ->
  KW (ltR r) n (kas_desc f p m q) (λz=>PP n z.1/\m<=z.2.1/\z.2.1<=m+f/\z.2.2+1<=z.2.1/\Dn r z.1 z.2.1/\Bk r z.1 z.2.1 z.2.2)
 |0,p,m,q,hp,h1,h2,hq,hd,hb=>⟨hp,AH _,AH _,hq,hd,hb⟩
 |f+1,p,m,q,hp,h1,h2,hq,hd,hb=>by
  have hsz:=hp.sz
  have dn1:∀p':Array Nat,(∀x,Ky r p' x=Ky r p x)->Ky r p m<=Ky r p (m-1)->Dn r p' (m+1):=λp' he hle i j hij hj=>by
   rw[he,he]
   by_cases hj':j<m
   ·exact hd i j hij hj'
   ·have ej:j=m:=by lia
    subst ej
    by_cases hi:i=j
    ·rw[hi];exact AH _
    ·have:=hd i (j-1) (by lia) (by lia)
     lia
  have bk0:∀p':Array Nat,Bk r p' (m+1) 0:=λp' x hx hx'=>by
   have:x=m:=by lia
   rw[this];rfl
  refine⟨hp.inb hn _,hp.inb hn _,?_⟩
  by_cases hc:Ky r p m<Ky r p (m-1)
  ·have e:ltR r (p.getD m 0) (p.getD (m-1) 0)=true:=decide_eq_true hc
   (rw[e];dsimp only;rw[if_pos rfl])
   by_cases h0:q > 0
   ·rw[if_pos h0]
    exact(su hn f _ (m+1) 0 (hp.rev _ _) (by lia) (by lia) (by lia) (dn1 _ (Ew (by lia) hq hb) (by lia)) (bk0 _)).weak λz hz=>⟨hz.1,by lia,by lia,hz.2.2.2⟩
   ·rw[if_neg h0]
    exact(su hn f p (m+1) 0 hp (by lia) (by lia) (by lia) (dn1 p (λ_=>rfl) (by lia)) (bk0 _)).weak λz hz=>⟨hz.1,by lia,by lia,hz.2.2.2⟩
  ·have e:ltR r (p.getD m 0) (p.getD (m-1) 0)=false:=decide_eq_false hc
   (rw[e];dsimp only;rw[if_neg AU])
   refine⟨hp.inb hn _,hp.inb hn _,?_⟩
   by_cases hc2:Ky r p (m-1)<Ky r p m
   ·have e2:ltR r (p.getD (m-1) 0) (p.getD m 0)=true:=decide_eq_true hc2
    (rw[e2];dsimp only;rw[if_pos rfl])
    exact⟨hp,AH _,GU _ _,hq,hd,hb⟩
   ·have e2:ltR r (p.getD (m-1) 0) (p.getD m 0)=false:=decide_eq_false hc2
    (rw[e2];dsimp only;rw[if_neg AU])
    refine(su hn f p (m+1) (q+1) hp (by lia) (by lia) (by lia) (dn1 p (λ_=>rfl) (by lia)) λx hx hx'=>?_).weak λz hz=>⟨hz.1,by lia,by lia,hz.2.2.2⟩
    show Ky r p x=Ky r p m
    by_cases hx2:x=m
    ·rw[hx2]
    ·rw[hb x (by lia) (by lia)];lia
theorem Rt{p:Array Nat}{m:Nat}(hm:m<=p.size)(hd:Dn r p m):Up r (kas_rev p 0 m) m:=λi j hij hj=>by
 rw[Ai hm (CU _),Ai hm (CU _),if_pos (by lia),if_pos (by lia)]
 exact hd _ _ (by lia) (by lia)
theorem Ey{p:Array Nat}{m:Nat}(hp:PP n p)(hn:0<n)(h1:1<=m)(h2:m<=n)(hd:Dn r p m):KW (ltR r) n (kas_tail3 m n p) (λz=>1<=z.1/\z.1<=n/\PP n z.2/\Up r z.2 z.1):=by
 unfold kas_tail3
 refine KW.bd ((Eu (hp.rev _ _) hn (n-m) m h1 (by lia) (Rt (by rw[hp.sz];exact h2) hd)).weak λq hq=>?_)
 exact⟨by lia,by lia,hp.rev _ _,hq.2.2.1⟩
theorem Ez{p:Array Nat}{m:Nat}(hp:PP n p)(hn:0<n)(h1:1<=m)(h2:m<n)(hd:Dn r p m)(hlt:Ky r p m<Ky r p (m-1)):KW (ltR r) n (kas_descPart m n p) (λz=>1<=z.1/\z.1<=n/\PP n z.2/\Up r z.2 z.1):=by
 unfold kas_descPart
 have hd1:Dn r p (m+1):=λi j hij hj=>by
  by_cases hj':j<m
  ·exact hd i j hij hj'
  ·have ej:j=m:=by lia
   subst ej
   by_cases hi:i=j
   ·rw[hi];exact AH _
   ·have:=hd i (j-1) (by lia) (by lia)
    lia
 refine KW.bd ((su hn (n-(m+1)) p (m+1) 0 hp (by lia) (by lia) (by lia) hd1 λx hx hx'=>by rw[show x=m by lia];rfl).weak λz hz=>?_)
 obtain⟨hp',g1,g2,g3,g4,g5⟩:=hz
 by_cases h0:z.2.2 > 0
 ·rw[if_pos h0]
  refine Ey (hp'.rev _ _) hn (by lia) (by lia) λi j hij hj=>?_
  rw[Ew (by rw[hp'.sz];lia) g3 g5,Ew (by rw[hp'.sz];lia) g3 g5]
  exact g4 i j hij hj
 ·rw[if_neg h0]
  exact Ey hp' hn (by lia) (by lia) g4
theorem Iy{p:Array Nat}(hp:PP n p)(hn:2<=n):KW (ltR r) n (kas_count n p) (λz=>1<=z.1/\z.1<=n/\PP n z.2/\Up r z.2 z.1):=by
 unfold kas_count
 have hn0:0<n:=by lia
 refine KW.bd ((Eu hp hn0 (n-1) 1 (AH _) (by lia) λi j hij hj=>by rw[show i=j by lia];exact AH _).weak λq hq=>?_)
 obtain⟨g1,g2,g3,g4⟩:=hq
 by_cases h0:q=n
 ·rw[if_pos (by simp[h0])]
  exact⟨by lia,by lia,hp,g3⟩
 ·rw[if_neg (by simp[h0])]
  have hlt:=g4 (by lia)
  by_cases h1:q > 1
  ·rw[if_pos h1]
   refine⟨hp.inb hn0 _,hp.inb hn0 _,?_⟩
   by_cases hc:Ky r p 0<Ky r p (q-1)
   ·have e:ltR r (p.getD 0 0) (p.getD (q-1) 0)=true:=decide_eq_true hc
    (rw[e];dsimp only;rw[if_pos rfl])
    exact⟨by lia,by lia,hp,g3⟩
   ·have e:ltR r (p.getD 0 0) (p.getD (q-1) 0)=false:=decide_eq_false hc
    (rw[e];dsimp only;rw[if_neg AU])
    have all:∀x,x<q->Ky r p x=Ky r p 0:=λx hx=>by
     have a:=g3 0 x (by lia) hx
     have b:=g3 x (q-1) (by lia) (by lia)
     lia
    have same:∀x,Ky r (kas_rev p 0 q) x=Ky r p x:=λx=>by
     rw[Ai (by rw[hp.sz];lia) (by lia)]
     split
     ·rw[all x (by lia),all _ (by lia)]
     ·rfl
    refine Ez (hp.rev _ _) hn0 (by lia) (by lia) (λi j hij hj=>?_) ?_
    ·rw[same,same,all i (by lia),all j hj]
     exact AH _
    ·rw[same,same];exact hlt
  ·rw[if_neg h1]
   have e1:q=1:=by lia
   subst e1
   exact Ez hp hn0 (by lia) (by lia) (λi j hij hj=>by rw[show i=j by lia];exact AH _) hlt
theorem sv{p:Array Nat}{k:Nat}(hp:PP n p)(hn:0<n)(hu:Up r p k):∀(f l q:Nat),l<=q->q<=k->q-l<=f->(∀x,x<l->Ky r p x<=Ky r p k)->(∀x,q<=x->x<k->Ky r p k<Ky r p x) ->
  KW (ltR r) n (kas_place p k f l q) (λz=>z<=k/\(∀x,x<z->Ky r p x<=Ky r p k)/\∀x,z<=x->x<k->Ky r p k<Ky r p x)
 |0,l,q,h1,h2,h3,ha,hb=>⟨by lia,ha,λx hx=>hb x (by lia)⟩
 |f+1,l,q,h1,h2,h3,ha,hb=>by
  unfold kas_place
  by_cases h0:l≥q
  ·rw[if_pos h0]
   exact⟨by lia,ha,λx hx=>hb x (by lia)⟩
  ·rw[if_neg h0]
   refine⟨hp.inb hn _,hp.inb hn _,?_⟩
   by_cases hc:Ky r p k<Ky r p ((l+q) / 2)
   ·have e:ltR r (p.getD k 0) (p.getD ((l+q) / 2) 0)=true:=decide_eq_true hc
    (rw[e];dsimp only;rw[if_pos rfl])
    refine sv hp hn hu f l ((l+q) / 2) (by lia) (by lia) (by lia) ha λx hx hx'=>?_
    have:=hu ((l+q) / 2) x hx hx'
    lia
   ·have e:ltR r (p.getD k 0) (p.getD ((l+q) / 2) 0)=false:=decide_eq_false hc
    (rw[e];dsimp only;rw[if_neg AU])
    refine sv hp hn hu f ((l+q) / 2+1) q (by lia) h2 (by lia) (λx hx=>?_) hb
    have:=hu x ((l+q) / 2) (by lia) (by lia)
    lia
theorem Kt(hn:0<n):∀(f:Nat) (p:Array Nat) (k:Nat),PP n p->k+f=n->1<=k->Up r p k->KW (ltR r) n (kas_bin f p k) (λz=>PP n z/\Up r z n)
 |0,p,k,hp,h1,_,hu=>⟨hp,by rw[<-h1];exact hu⟩
 |f+1,p,k,hp,h1,h2,hu=>by
  unfold kas_bin
  refine KW.bd ((sv hp hn hu k 0 k (by lia) (AH _) (by lia) (λx hx=>absurd hx (by lia)) (λx hx hx'=>absurd hx' (by lia))).weak λl hl=>?_)
  obtain⟨g1,g2,g3⟩:=hl
  refine Kt hn f _ (k+1) (hp.bub _ _) (by lia) (by lia) λi j hij hj=>?_
  have hsz:=hp.sz
  have ek:k-(k-l)=l:=by lia
  rw[Ks (by lia) (by lia),Ks (by lia) (by lia),ek]
  by_cases i1:i=l
  ·rw[if_pos i1]
   by_cases j1:j=l
   ·rw[if_pos j1];exact AH _
   ·rw[if_neg j1,if_pos (by lia)]
    exact DZ (g3 (j-1) (by lia) (by lia))
  ·rw[if_neg i1]
   by_cases i2:l<i/\i<=k
   ·rw[if_pos i2,if_neg (show ¬j=l by lia),if_pos (by lia)]
    exact hu (i-1) (j-1) (by lia) (by lia)
   ·rw[if_neg i2]
    by_cases j1:j=l
    ·rw[if_pos j1];exact g2 i (by lia)
    ·rw[if_neg j1]
     by_cases j2:l<j/\j<=k
     ·rw[if_pos j2]
      exact hu i (j-1) (by lia) (by lia)
     ·rw[if_neg j2]
      exact hu i j hij (by lia)
theorem Oa(hn:2<=n):KW (ltR r) n (kas_sort n) (λz=>PP n z/\Up r z n):=by
 unfold kas_sort
 have hp:PP n (List.toArray (List.range n)):=by unfold PP;rw[HJ]
 refine KW.bd ((Iy hp hn).weak λz hz=>?_)
 obtain⟨g1,g2,g3,g4⟩:=hz
 by_cases h:z.1<n
 ·rw[if_pos h]
  have em:max z.1 1=z.1:=by lia
  rw[em]
  exact Kt (by lia) (n-z.1) z.2 z.1 g3 (by lia) g1 g4
 ·rw[if_neg h]
  have:z.1=n:=by lia
  rw[this]at g4
  exact⟨g3,g4⟩
end
open PySem PySem.W PyProof.Rows PySem.Calls
section
variable{prog:Program}{w:World}{A:Around}{E:Value -> Shared -> Prop}{s:Shared}
theorem Ru{α:Type}{lt:Nat->Nat->Bool}{n:Nat}{cmp:Nat->Nat->(Bool->Shared->Prop)->Shared->Prop}{s1:Shared}{Q:α->Prop}(hc:∀i j C,i<n->j<n->C (lt i j) s1->cmp i j C s1) :
  ∀{t:KasT α},KW lt n t Q->t.kasWp cmp (λa s'=>s'=s1/\Q a) s1
 |.ret _,h=>⟨rfl,h⟩
 |.ask i j _,h=>hc i j _ h.1 h.2.1 (Ru hc h.2.2)
theorem j5(vs:List Value):(List.range vs.length).map (λi=>vs.getD i Value.none)=vs:=by
 apply EX
 intro i
 by_cases h:i<vs.length
 ·simp[h]
 ·simp[h]
theorem mw {a:Addr} {vs:List Value} {c0:Nat} {P:PySem.Fin->Shared->Prop} (q0:s.heap.get? a=some (seqObj "list" vs.toArray c0)) (hsm:vs.length<64) (rk:Nat->Nat)
  (hk:2<=vs.length->∀g:Heap,(∀b o,b≠a->s.heap.get? b=some o->g.get? b=some o)->∃κ:SortKind,(∀(Q:SortKind->Shared->Prop) (E':Value->Shared->Prop),Q κ {s with heap:=g}->wpAny (model prog w) A (keyKind' vs.toArray) Q E' {s with heap:=g}) /\
   ∀(i j:Nat) (C:Bool->Shared->Prop),i<vs.length->j<vs.length->C (decide (rk i<rk j)) {s with heap:=g}->wpAny (model prog w) A (keyLt' κ (vs.getD i Value.none) (vs.getD j Value.none)) C (λ_ _=>False) {s with heap:=g})
  (fin:∀p:Array Nat,PP vs.length p->Up rk p vs.length->P (.done (.ret .none)) {s with heap:=sortedHeap s.heap a vs (List.toArray (p.toList.map λi=>vs.getD i Value.none))}) :
  wpAny (model prog w) A (Builtin.«list.sort» ⟨[.ref a],[]⟩) P E s:=by
 rw[list_sort_plain]
 have lta:a<s.heap.objs.size:=AJ q0
 have small:vs.toArray.size<=sizeLine:=by rw[AE,CB];lia
 refine AA (listItems_at q0 rfl (AA (listUpdate_at q0 rfl ?_ small (CU _))))
 obtain⟨e1,q1⟩:∃e1,(s.heap.update a (Obj.mapSeq λ_=>(#[]:Array Value))).get? a=some (seqObj "list" #[] e1):=⟨_,FP q0 (λ_=>#[])⟩
 refine AA (seqEpoch_at q1 rfl (AA (wpAny_newTuple (AA (IK (BV ?_) (CU _))) (by simpa using small))))
 have sz1:(s.heap.update a (Obj.mapSeq λ_=>(#[]:Array Value))).objs.size=s.heap.objs.size:=Heap.size_update _ _ _
 have q6:(((s.heap.update a (Obj.mapSeq λ_=>(#[]:Array Value))).push (seqObj "tuple" vs.toArray 0)).push (seqObj "list" #[] 0)).get? a=some (seqObj "list" #[] e1):=AB _ (AB _ q1)
 have old:∀b o,b≠a->s.heap.get? b=some o->(((s.heap.update a (Obj.mapSeq λ_=>(#[]:Array Value))).push (seqObj "tuple" vs.toArray 0)).push (seqObj "list" #[] 0)).get? b=some o:=λb o hb e =>
  AB _ (AB _ (by rw[CS _ _ _ _ hb];exact e))
 show wpAny (model prog w) A _ P E {s with heap:=((s.heap.update a (Obj.mapSeq λ_=>(#[]:Array Value))).push (seqObj "tuple" vs.toArray 0)).push (seqObj "list" #[] 0)}
 dsimp only
 by_cases hs2:vs.toArray.size<2
 ·have hs2':vs.length<2:=by simpa using hs2
  rw[if_pos hs2,if_pos hs2]
  refine AA (AC ?_)
  rw[StateT.run_pure]
  refine AA (AC ?_)
  dsimp only
  have eo:(arrOf (SortSt.mk' general' (vs.toArray.zip vs.toArray) #[] 7 none)).map (·.2)=List.toArray ((List.toArray (List.range vs.length)).toList.map λi=>vs.getD i Value.none):=by
   show(vs.toArray.zip vs.toArray).map (·.2)=_
   rw[HJ,j5]
   apply Array.toList_inj.mp
   simp[List.map_snd_zip]
  rw[eo]
  refine AA (seqEpoch_at q6 rfl (AA (listUpdate_at q6 rfl ?_ (CU _) (by rw[HJ,j5];lia))))
  simp![bne_self_eq_false,AQ,if_false]
  refine AC (fin (List.toArray (List.range vs.length)) (List.Perm.refl _) λi j hij hj=>?_)
  rw[show i=j by lia]
  exact AH _
 ·have h2:2<=vs.length:=by simp at hs2;lia
  rw[if_neg hs2,if_neg hs2]
  obtain⟨κ,k1,k2⟩:=hk h2 _ old
  refine AA (k1 _ _ ?_)
  have run:=kat_run (prog:=prog) (w:=w) (A:=A) (E:=E) (κ:=κ) (ks:=vs) (vs:=vs) (s:={s with heap:=((s.heap.update a (Obj.mapSeq λ_=>(#[]:Array Value))).push (seqObj "tuple" vs.toArray 0)).push (seqObj "list" #[] 0)})
   (Q:=λst' s'=>s'={s with heap:=((s.heap.update a (Obj.mapSeq λ_=>(#[]:Array Value))).push (seqObj "tuple" vs.toArray 0)).push (seqObj "list" #[] 0)}/\failedOf st'=none/\∃p:Array Nat,PP vs.length p/\Up rk p vs.length/\(arrOf st').map (·.2)=List.toArray (p.toList.map λi=>vs.getD i Value.none))
   (G:=λp s'=>s'={s with heap:=((s.heap.update a (Obj.mapSeq λ_=>(#[]:Array Value))).push (seqObj "tuple" vs.toArray 0)).push (seqObj "list" #[] 0)}/\PP vs.length p/\Up rk p vs.length)
   rfl h2 hsm (λp st' s' _ har hf hg=>⟨hg.1,hf,p,hg.2.1,hg.2.2,kat_snds rfl har⟩) (Ru (lt:=ltR rk) (λi j C hi hj hC=>k2 i j C hi hj hC) (Oa h2))
  refine AA (DV run ?_ λ_ _ x=>x)
  rintro⟨⟨⟩,st'⟩ s' ⟨rfl,hf,p,hp,hu,ho⟩
  dsimp only
  rw[ho]
  refine AA (seqEpoch_at q6 rfl (AA (listUpdate_at q6 rfl ?_ (CU _) (by rw[AE,AG,AZ,hp.sz];simp at small;lia))))
  rw[hf]
  simp![bne_self_eq_false,AQ,if_false]
  exact AC (fin p hp hu)
theorem E1 {l:Addr} {vs:List Value} {Q:Value->Shared->Prop} (hl:s.heap.IsList l vs.toArray) (hsm:vs.length<64) (rk:Nat->Nat)
  (hk:2<=vs.length->∀(A':Around) (g:Heap),(∀b o,s.heap.get? b=some o->g.get? b=some o)->∃κ:SortKind,(∀(Q:SortKind->Shared->Prop) (E':Value->Shared->Prop),Q κ {s with heap:=g}->wpAny (model prog w) A' (keyKind' vs.toArray) Q E' {s with heap:=g}) /\
   ∀(i j:Nat) (C:Bool->Shared->Prop),i<vs.length->j<vs.length->C (decide (rk i<rk j)) {s with heap:=g}->wpAny (model prog w) A' (keyLt' κ (vs.getD i Value.none) (vs.getD j Value.none)) C (λ_ _=>False) {s with heap:=g})
  (fin:∀p:Array Nat,PP vs.length p->Up rk p vs.length->Q (.ref (s.heap.objs.size+1)) {s with heap:=sortedAll s.heap vs (List.toArray (p.toList.map λi=>vs.getD i Value.none))}) :
  wpAny (model prog w) A (call (.builtin "sorted") [.ref l]) Q E s:=by
 have small:vs.length<=sizeLine:=by rw[CB];lia
 refine FC kind_sorted plain_sorted entry_sorted (args_sorted1 _) ?_
 unfold Builtin.«sorted»
 refine AA (m:=checkCount "sorted" 1 1 _) (AC (AA (collect_list hl (AA (IK ?_ small)) small)))
 have szL:((s.heap.push (seqObj "list" #[] 0)).update s.heap.objs.size (Obj.mapSeq (·++vs.toArray))).objs.size=s.heap.objs.size+1:=by rw[Heap.size_update,size_push']
 have qL:(((s.heap.push (seqObj "list" #[] 0)).update s.heap.objs.size (Obj.mapSeq (·++vs.toArray))).push (seqObj "list" vs.toArray 0)).get? (s.heap.objs.size+1)=some (seqObj "list" vs.toArray 0):=szL ▸ AI _ rfl
 have old:∀b o,s.heap.get? b=some o->(((s.heap.push (seqObj "list" #[] 0)).update s.heap.objs.size (Obj.mapSeq (·++vs.toArray))).push (seqObj "list" vs.toArray 0)).get? b=some o:=λb o e =>
  AB _ (by rw[CS _ _ _ _ (AR (AJ e))];exact AB _ e)
 show wpAny _ _ _ _ _ {s with heap:=(((s.heap.push (seqObj "list" #[] 0)).update s.heap.objs.size (Obj.mapSeq (·++vs.toArray))).push (seqObj "list" vs.toArray 0))}
 rw[szL]
 refine AA (BV (BI slot_list_sort ⟨_,qL,rfl⟩ JI ?go (args_list_sort _)))
 case go =>
  refine mw (s:={s with heap:=(((s.heap.push (seqObj "list" #[] 0)).update s.heap.objs.size (Obj.mapSeq (·++vs.toArray))).push (seqObj "list" vs.toArray 0))}) qL hsm rk (λh2 g hg=>hk h2 _ g λb o e=>hg b o (AR (EB (AJ e))) (old b o e)) λp hp hu=>⟨_,rfl,?_⟩
  exact AC ⟨_,rfl,fin p hp hu⟩
end
theorem yr:∀a:List Int,lexLt a a=false
 | []=>rfl
 |x::xs=>by simp[lexLt,yr xs]
theorem Aj:∀{a b c:List Int},lexLt a b=true->lexLt b c=true->lexLt a c=true
 |a,b,[],_,h=>by cases b<;>simp[lexLt]at h
 | [],_,_::_,_,_=>rfl
 |x::xs,[],c::cs,h,_=>by simp[lexLt]at h
 |x::xs,y::ys,z::zs,h1,h2=>by
  simp![lexLt]at h1 h2 ⊢
  by_cases e1:x=y
  ·subst e1
   by_cases e2:x=z
   ·subst e2
    simp![if_true]at h1 h2 ⊢
    exact Aj h1 h2
   ·simp![if_true]at h1
    rw[if_neg e2]at h2 ⊢
    exact h2
  ·rw[if_neg e1]at h1
   have h1':=of_decide_eq_true h1
   by_cases e2:y=z
   ·subst e2
    rw[if_neg e1]
    exact h1
   ·rw[if_neg e2]at h2
    have h2':=of_decide_eq_true h2
    rw[if_neg (show ¬x=z by lia)]
    exact decide_eq_true (by lia)
theorem sx:∀{a b:List Int},lexLt a b=false->lexLt b a=false->a=b
 | [],[],_,_=>rfl
 | [],_::_,h,_=>by simp[lexLt]at h
 |_::_,[],_,h=>by simp[lexLt]at h
 |x::xs,y::ys,h1,h2=>by
  simp![lexLt]at h1 h2
  by_cases e:x=y
  ·subst e
   simp![if_true]at h1 h2
   rw[sx h1 h2]
  ·rw[if_neg e]at h1
   rw[if_neg (Ne.symm e)]at h2
   have a1:=of_decide_eq_false h1
   have a2:=of_decide_eq_false h2
   lia
theorem Ku{r a b:List Int}(h1:lexLt r b=true)(h2:lexLt a b=false):lexLt r a=true:=by
 cases e:lexLt r a with
 |true=>rfl
 |false =>
  cases e2:lexLt a r with
  |true=>rw[Aj e2 h1]at h2;cases h2
  |false=>rw[sx e e2,h2]at h1;cases h1
theorem Rv{a b:List Int}(h:lexLt a b=true):lexLt b a=false:=by
 cases e:lexLt b a with
 |false=>rfl
 |true=>have:=Aj h e;rw[yr]at this;cases this
theorem vp{α:Type}{p q:α->Bool}:∀{l:List α},(∀x∈l,p x=true->q x=true)->(∃x∈l,q x=true/\p x=false)->l.countP p<l.countP q
 | [],_,h=>by obtain⟨x,hx,_⟩:=h;simp at hx
 |y::r,h1,h2=>by
  have le:r.countP p<=r.countP q:=JN λx hx=>h1 x (AF _ hx)
  obtain⟨x,hx,hq,hp⟩:=h2
  rcases AN.mp hx with rfl | hx
  ·simp[GW,hq,hp];lia
  ·have:=vp (l:=r) (λz hz=>h1 z (AF _ hz)) ⟨x,hx,hq,hp⟩
   have h0:=h1 y AM
   simp![GW]
   cases e1:p y with
   |true=>simp[h0 e1];lia
   |false=>simp;lia
noncomputable def rkL(rs:List (List Int))(i:Nat):Nat:=rs.countP λr=>lexLt r (rs.getD i [])
theorem Ob{rs:List (List Int)}{i j:Nat}(hi:i<rs.length)(hj:j<rs.length):decide (rkL rs i<rkL rs j)=lexLt (rs.getD i []) (rs.getD j []):=by
 have mi:rs.getD i []∈rs:=by rw[show rs.getD i []=rs[i]by simp[hi]];exact CO hi
 cases e:lexLt (rs.getD i []) (rs.getD j [])with
 |true=>exact decide_eq_true (vp (λx _ h=>Aj h e) ⟨_,mi,e,yr _⟩)
 |false =>
  refine decide_eq_false (KC.mpr ?_)
  exact JN λx _ h=>Ku h e
theorem tf(x:List Int):∀l:List (List Int),(M8 x l).Perm (x::l)
 | []=>.refl _
 |y::r=>by
  unfold M8
  split
  ·exact((tf x r).cons y).trans (.swap x y r)
  ·exact .refl _
theorem fm:∀l:List (List Int),(i5 l).Perm l
 | []=>.refl _
 |x::r=>(tf x (i5 r)).trans ((fm r).cons x)
theorem Kv(x:List Int):∀l:List (List Int),l.Pairwise (λa b=>lexLt b a=false)->(M8 x l).Pairwise (λa b=>lexLt b a=false)
 | [],_=>by simp[M8]
 |y::r,h=>by
  unfold M8
  have h':=BA.mp h
  split
  ·rename_i hc
   refine BA.mpr ⟨λz hz=>?_,Kv x r h'.2⟩
   rcases AN.mp ((tf x r).mem_iff.mp hz)with rfl | hz
   ·exact Rv hc
   ·exact h'.1 z hz
  ·rename_i hc
   have hc':lexLt y x=false:=by simpa using hc
   refine BA.mpr ⟨λz hz=>?_,h⟩
   rcases AN.mp hz with rfl | hz
   ·exact hc'
   ·cases e:lexLt z x with
    |false=>rfl
    |true=>have:=Ku e hc';rw[h'.1 z hz]at this;cases this
theorem k7:∀l:List (List Int),(i5 l).Pairwise (λa b=>lexLt b a=false)
 | []=>.nil
 |x::r=>Kv x _ (k7 r)
theorem range_getD{α:Type}(d:α)(l:List α):(List.range l.length).map (λi=>l.getD i d)=l:=by
 apply EX
 intro i
 by_cases h:i<l.length<;>simp[h]
theorem vq{rs:List (List Int)}{p:Array Nat}(hp:PP rs.length p)(hu:Up (rkL rs) p rs.length):p.toList.map (λi=>rs.getD i [])=i5 rs:=by
 have p1:(p.toList.map λi=>rs.getD i []).Perm rs:=by
  have:=hp.map λi=>rs.getD i []
  rwa [range_getD]at this
 refine List.Perm.eq_of_pairwise (le:=λa b=>lexLt b a=false) (λa b _ _ h1 h2=>sx h2 h1) ?_ (k7 rs) (p1.trans (fm rs).symm)
 rw[DY]
 intro i j hi hj hij
 have hsz:=hp.sz
 simp![AG,AZ]at hi hj
 simp![List.getElem_map,Array.getElem_toList]
 have bi:p[i]<rs.length:=by simpa using hp.mem_iff.mp (show p[i]∈p.toList by simp)
 have bj:p[j]<rs.length:=by simpa using hp.mem_iff.mp (show p[j]∈p.toList by simp)
 rw[<-Ob bj bi]
 refine decide_eq_false (KC.mpr ?_)
 have:=hu i j (by lia) (by lia)
 unfold Ky at this
 simpa[hi,hj]using this
end Lp.Srt
namespace Lp
open PySem PySem.Spec PyProof.Rows L2 Lp.Srt
section
variable{X:Cx}{φ:Phi}{pos:Pos}
theorem yt{prog:Program}{w:World}{A:Around}{s:Shared}{fin:Bool}{Q:Bool->Shared->Prop}:∀(r1 r2:List Int) (u1 u2:List Value) (i:Nat),bo (r1.map V.int) u1->bo (r2.map V.int) u2->fin=decide (r1.length<r2.length)->Q (lexLt r1 r2) s ->
  PySem.W.KatLex prog w A true fin Q (u1.zip u2) i s
 | [],[],u1,u2,i,h1,h2,hf,q=>by
  cases h1;cases h2
  rw[hf];exact q
 | [],_::_,u1,u2,i,h1,h2,hf,q=>by
  cases h1
  rw[hf];simpa[PySem.W.KatLex,lexLt]using q
 |_::_,[],u1,u2,i,h1,h2,hf,q=>by
  cases h2
  rw[hf,FR];simpa[PySem.W.KatLex,lexLt]using q
 |x::r1,y::r2,u1,u2,i,h1,h2,hf,q=>by
  rw[AO]at h1 h2
  cases h1 with
  |cons a1 b1 =>
   cases h2 with
   |cons a2 b2 =>
    obtain⟨t1,rfl⟩:=a1
    obtain⟨t2,rfl⟩:=a2
    rw[CZ]
    refine PySem.W.kat_cons (wpAny_eqBool_int (PySem.W.kat_go (λe=>PySem.W.kat_yes ?_) λe=>PySem.W.kat_no ?_))
    ·have e':x=y:=by simpa using e
     refine yt r1 r2 _ _ (i+1) b1 b2 (by rw[hf];simp) ?_
     simpa[lexLt,e']using q
    ·have e':¬x=y:=by simpa using e
     have q':Q (decide (x<y)) s:=by simpa[lexLt,e']using q
     cases hi:(true&&i==0)with
     |true=>exact oneLt_int q'
     |false=>exact PySem.W.kat_one _ _ (lt_int (show PySem.W.BoolBack Q (.bool (decide (x<y))) s from q'))
theorem Ak(ns:List Int):cy (ns.map D.int)=some ns:=by
 induction ns with
 |nil=>rfl
 |cons n r ih=>simp[cy,ih]
theorem Al:∀{ds:List D} {ns:List Int},cy ds=some ns->ns.map D.int=ds
 | [],ns,h=>by simp[cy]at h;subst h;rfl
 |.int i::r,ns,h=>by
  simp![cy]at h
  cases e:cy r with
  |none=>rw[e]at h;simp at h
  |some q =>
   rw[e]at h
   simp at h
   subst h
   rw[AO,Al e]
 |.non::_,_,h=>by simp[cy]at h
 |.bl _::_,_,h=>by simp[cy]at h
 |.str _::_,_,h=>by simp[cy]at h
 |.tup _::_,_,h=>by simp[cy]at h
 |.lst _::_,_,h=>by simp[cy]at h
 |.loc _::_,_,h=>by simp[cy]at h
theorem Rw{ι:List Addr}{H:Hp}{pins:List (Addr×Obj)}{σ:St}{s:Shared}(I:Inv X pins σ H s){r:List Int}{v:V}{u:Value}(hd:IsD X.K ι H (.tup (r.map D.int)) v)(hu:RelV v u):∃a its,u=.ref a/\IsTup s.heap a (List.toArray its)/\bo (r.map V.int) its:=by
 simp![IsD]at hd
 obtain⟨a,xs,rfl,hq,hx⟩:=hd
 cases(show u=Value.ref a from hu)
 obtain⟨its,rv,tp,_⟩:=I.tuple hq
 refine⟨a,its,rfl,tp,?_⟩
 have e:xs=r.map V.int:=ints_of hx (Ak r)
 rw[<-e];exact rv
theorem oz:∀{xs:List D} {rs:List (List Int)},rowsOf xs=some rs->xs=rs.map λr=>D.tup (r.map D.int)
 | [],rs,h=>by simp[rowsOf]at h;subst h;rfl
 |.tup ds::r,rs,h=>by
  simp![rowsOf]at h
  cases e1:cy ds with
  |none=>rw[e1]at h;simp at h
  |some ns =>
   rw[e1]at h
   cases e2:rowsOf r with
   |none=>rw[e2]at h;simp at h
   |some q =>
    rw[e2]at h
    simp at h
    subst h
    rw[AO,Al e1,<-oz e2]
 |.non::_,_,h=>by simp[rowsOf]at h
 |.bl _::_,_,h=>by simp[rowsOf]at h
 |.int _::_,_,h=>by simp[rowsOf]at h
 |.str _::_,_,h=>by simp[rowsOf]at h
 |.lst _::_,_,h=>by simp[rowsOf]at h
 |.loc _::_,_,h=>by simp[rowsOf]at h
noncomputable def k8(g:Heap)(r:List Int)(u:Value):Prop:=r≠[]/\∃a its,u=Value.ref a/\IsTup g a (List.toArray its)/\bo (r.map V.int) its
theorem E2{ι:List Addr}{H:Hp}{pins:List (Addr×Obj)}{σ:St}{s:Shared}(I:Inv X pins σ H s):∀{rs:List (List Int)} {xs:List V} {us:List Value},(rs.all λr=>!r.isEmpty)=true->ah X.K ι H (rs.map λr=>D.tup (r.map D.int)) xs->bo xs us->Paired (k8 s.heap) rs us
 | [],xs,us,_,h1,h2=>by
  have:xs=[]:=by simpa[ah]using h1
  subst this
  cases h2
  exact .nil
 |r::rs,xs,us,hn,h1,h2=>by
  rw[AO]at h1
  simp![ah]at h1
  obtain⟨v,q,rfl,hd,ht⟩:=h1
  rw[BX,AX]at hn
  cases h2 with
  |cons a b=>exact .cons ⟨λz=>by rw[z]at hn;simp at hn,Rw I hd a⟩ (E2 I hn.2 ht b)
theorem k8.keep{g g':Heap}{r:List Int}{u:Value}(h:k8 g r u)(k:∀b o,g.get? b=some o->g'.get? b=some o):k8 g' r u:=by
 obtain⟨h0,a,its,e,⟨o,q1,q2,q3⟩,v⟩:=h
 exact⟨h0,a,its,e,⟨o,k _ _ q1,q2,q3⟩,v⟩
theorem o3{g:Heap}:∀{rs:List (List Int)} {us:List Value},Paired (k8 g) rs us->∃fs,PySem.W.KatTups g us fs/\fs.length=us.length/\∀v∈fs,∃i t,v=Value.int i t
 |_,_,.nil=>⟨[],.nil,rfl,by simp⟩
 |r::rs,_,.cons h t=>by
  obtain⟨fs,f1,f2,f3⟩:=o3 t
  obtain⟨h0,a,its,rfl,⟨o,q1,q2,n,q3⟩,v⟩:=h
  cases r with
  |nil=>exact absurd rfl h0
  |cons x r =>
   rw[AO]at v
   cases v with
   |cons a1 b1 =>
    obtain⟨t1,rfl⟩:=a1
    refine⟨.int x t1::fs,.cons q1 q2 q3 (by simp) f1,by simp[f2],λz hz=>?_⟩
    rcases AN.mp hz with rfl | hz
    ·exact⟨_,_,rfl⟩
    ·exact f3 z hz
theorem f9{α β:Type}{R:α->β->Prop}{d:α}{e:β}:∀{xs:List α} {ys:List β},Paired R xs ys->∀i,i<xs.length->R (xs.getD i d) (ys.getD i e)
 |_,_,.nil,i,h=>by simp at h
 |_,_,.cons a _,0,_=>by simpa using a
 |_,_,.cons _ t,i+1,h=>by simpa using f9 t i (by simpa using h)
theorem Am{K:PySem.W.Frag}{ι:List Addr}{H:Hp}{f:Nat->D}{g:Nat->V}:∀{l:List Nat},(∀i∈l,IsD K ι H (f i) (g i))->ah K ι H (l.map f) (l.map g)
 | [],_=>by simp[ah]
 |i::l,h=>by
  rw[AO,AO]
  simp![ah]
  exact⟨_,_,rfl,h i AM,Am λj hj=>h j (AF _ hj)⟩
theorem An{f:Nat->V}{g:Nat->Value}:∀{l:List Nat},(∀i∈l,RelV (f i) (g i))->bo (l.map f) (l.map g)
 | [],_=>.nil
 |i::l,h=>.cons (h i AM) (An λj hj=>h j (AF _ hj))
theorem Oc{K:PySem.W.Frag}{ι:List Addr}{H:Hp}{ds:List D}{xs:List V}(h:ah K ι H ds xs){i:Nat}(hi:i<ds.length):IsD K ι H (ds.getD i .non) (xs.getD i .non):=by
 obtain⟨v,e,q⟩:=h.get (show ds[i]? = some (ds.getD i .non)by simp[hi])
 have:xs.getD i .non=v:=by rw[BK,e];rfl
 rw[this];exact q
theorem E3{m:Mk}:fi X (.builtin "sorted") (se X.K (btD .sorted m)):=by
 intro pins s σ H xs us Q I r ⟨ι,ds,μ,hS,hds,h⟩
 obtain⟨d,v,rfl,hv,h⟩:=jk hds h
 unfold D0 at h
 cases el:Lp.listOf μ d with
 |none=>rw[el]at h;exact h.elim
 |some zs =>
 rw[el]at h
 simp only at h
 split at h
 ·rename_i h64
  unfold x9 at h
  cases er:rowsOf zs with
  |none=>rw[er]at h;exact h.elim
  |some rs =>
  rw[er]at h
  simp only at h
  split at h
  ·rename_i hne
   obtain⟨a,vV,rfl,hq,hz⟩:=ic hS hv el
   obtain⟨u,rfl,ru⟩:=vals1 r
   cases(show u=Value.ref a from ru)
   obtain⟨its,rv,pl,hlen⟩:=I.list hq.sq
   have ez:=oz er
   subst ez
   have l1:vV.length=rs.length:=by rw[hz.length,AG]
   have l2:its.length=rs.length:=by rw[<-rv.length];exact l1
   have hrs:rs.length<64:=by simpa using h64
   have pr:=E2 I hne hz rv
   refine E1 pl.isList (by lia) (rkL rs) (λ_ A' g hg=>⟨tuples' true,λQ' E' q=>?_,λi j C hi hj hC=>?_⟩) λp hp hu=>D1 ?_
   ·have pg:Paired (k8 g) rs its:=Paired.mapP pr λr u h=>k8.keep h hg
    obtain⟨fs,f1,f2,f3⟩:=o3 pg
    exact PySem.W.kat_kind (s:={s with heap:=g}) (T:=.type "int") f1 (by lia) (λv hv=>by obtain⟨i,t,rfl⟩:=f3 v hv;exact JO rfl) (by decide) q
   ·have pg:Paired (k8 g) rs its:=Paired.mapP pr λr u h=>k8.keep h hg
    rw[Ob (by lia) (by lia)]at hC
    obtain⟨_,a1,i1,e1,⟨o1,g1,_,n1,d1⟩,v1⟩:=f9 (d:=[]) (e:=Value.none) pg i (by lia)
    obtain⟨_,a2,i2,e2,⟨o2,g2,_,n2,d2⟩,v2⟩:=f9 (d:=[]) (e:=Value.none) pg j (by lia)
    rw[e1,e2]
    refine PySem.W.kat_lt (s:={s with heap:=g}) g1 d1 g2 d2 ?_
    have z1:=v1.length
    have z2:=v2.length
    rw[AG]at z1 z2
    exact yt _ _ i1 i2 0 v1 v2 (by simp![AE,z1,z2]) hC
   ·rw[l2]at hp hu
    obtain⟨e',he⟩:=sortedAll_at s.heap its (List.toArray (p.toList.map λi=>its.getD i Value.none))
    have mem:∀i∈p.toList,i<rs.length:=λi hi=>by simpa using hp.mem_iff.mp hi
    have hd:ah X.K ι H ((i5 rs).map λr=>D.tup (r.map D.int)) (p.toList.map λi=>vV.getD i .non):=by
     rw[<-vq hp hu,BU]
     refine Am λi hi=>?_
     have:=Oc hz (i:=i) (by rw[AG];exact mem i hi)
     have e3:(rs.map λr=>D.tup (r.map D.int)).getD i .non=D.tup ((rs.getD i []).map D.int):=by simp[mem i hi]
     rw[e3]at this
     exact this
    have hv2:bo (p.toList.map λi=>vV.getD i .non) (p.toList.map λi=>its.getD i Value.none):=An λi hi=>f9 rv i (by have:=mem i hi;lia)
    exact⟨.ref (s.heap.objs.size+1),upd H (s.heap.objs.size+1) (.lst (p.toList.map λi=>vV.getD i .non)),I.laid (t':=s.toks) (λb u e=>sortedAll_old e) (FY _) ⟨by rw[AG,AZ,hp.sz,CB];lia,_,e',hv2,he⟩,rfl,i6 hS hd h (I.hok.fresh (FY _))⟩
  ·exact h.elim
 ·exact h.elim
theorem Cd{m:Mk}{p:Pos}{e:Expr}{es:List Expr}{xs:Exs}(hm:X.mg "sorted"=none)(ha:PA X (e::es) (tEs X.K φ xs))(hg:Gl X "sorted":=by rfl)(he:starEach (e::es) X.env=(false,eval e X.env)::starEach es X.env:=by rfl)(hpl:(backTo pos (starEach es X.env)).any (·.1)=false:=by rfl) :
  PE X (.Call (.Name "sorted" p) (e::es) [] pos) (tE X.K φ (.blt .sorted m xs)):=jl (r:=λ_ _ _=>True) (es:=es) (iy E3 hg hm (by first | exact FJ | decide +kernel) ha (by decide) (by decide) he hpl)
end
end Lp
namespace Lp.Sets
open PySem PySem.W PyProof.Rows
noncomputable def Od(xs:Array Nat):Prop:=∀i j,i<j->j<xs.size->xs.getD i 0<xs.getD j 0
theorem getD_in{xs:Array Nat}{i:Nat}(d:Nat)(h:i<xs.size):xs.getD i d=xs.getD i 0:=by simp[h]
noncomputable def Rx(xs:Array Nat)(j p:Nat):Prop:=p<=xs.size/\(∀i,i<p->xs.getD i 0<j)/\∀i,p<=i->i<xs.size->j<=xs.getD i 0
theorem tj{xs:Array Nat}{j:Nat}(hr:Od xs):∀(f lo hi:Nat),hi-lo<=f->lo<=hi->hi<=xs.size->(∀i,i<lo->xs.getD i 0<j)->(∀i,hi<=i->i<xs.size->j<=xs.getD i 0)->Rx xs j (SetTable.below.go xs j f lo hi)
 |0,lo,hi,h1,h2,h3,ha,hb=>by
  have e:lo=hi:=by lia
  subst e
  exact⟨h3,ha,hb⟩
 |f+1,lo,hi,h1,h2,h3,ha,hb=>by
  unfold SetTable.below.go
  by_cases hlt:lo<hi
  ·rw[if_pos hlt]
   dsimp only
   have hm:(lo+hi) / 2<xs.size:=by lia
   rw[getD_in j hm]
   by_cases hc:xs.getD ((lo+hi) / 2) 0<j
   ·rw[if_pos hc]
    refine tj hr f _ hi (by lia) (by lia) h3 (λi hi'=>?_) hb
    by_cases e:i=(lo+hi) / 2
    ·rw[e];exact hc
    ·have:=hr i ((lo+hi) / 2) (by lia) hm
     lia
   ·rw[if_neg hc]
    refine tj hr f lo _ (by lia) (by lia) (by lia) ha λi hi' hs=>?_
    by_cases e:i=(lo+hi) / 2
    ·rw[e];lia
    ·have:=hr ((lo+hi) / 2) i (by lia) hs
     lia
  ·rw[if_neg hlt]
   have e:lo=hi:=by lia
   subst e
   exact⟨h3,ha,hb⟩
theorem ke{xs:Array Nat}(hr:Od xs)(j:Nat):Rx xs j (SetTable.below xs j):=tj hr xs.size 0 xs.size (by lia) (by lia) (by lia) (λi h=>absurd h (by lia)) λi h h'=>absurd h' (by lia)
theorem i9{α:Type}(xs:Array α)(p:Nat)(x:α):(SetTable.insertAt xs p x).toList=xs.toList.take p++x::xs.toList.drop p:=by
 unfold SetTable.insertAt
 simp[Array.toList_extract,DH]
theorem jm{xs:Array Nat}:Od xs↔xs.toList.Pairwise (· < ·):=by
 rw[DY]
 constructor
 ·intro h i j hi hj hij
  have h':=h i j hij (by simpa using hj)
  have e1:i<xs.size:=by simpa using hi
  have e2:j<xs.size:=by simpa using hj
  simpa[e1,e2]using h'
 ·intro h i j hij hj
  have:=h i j (by simp;lia) (by simpa using hj) hij
  have e1:i<xs.size:=by lia
  simpa[e1,hj]using this
theorem o4{xs:Array Nat}{j:Nat}(hr:Od xs)(hn:xs[SetTable.below xs j]?≠some j):Od (SetTable.insertAt xs (SetTable.below xs j) j):=by
 obtain⟨h1,h2,h3⟩:=ke hr j
 have hr':=jm.mp hr
 generalize SetTable.below xs j=p at *
 rw[jm,i9,HA]
 have hd:∀b∈xs.toList.drop p,j<b:=by
  intro b hb
  obtain⟨i,hi,e⟩:=Db.mp hb
  rw[List.getElem_drop]at e
  have hs:p+i<xs.size:=by simp at hi;lia
  have g:=h3 (p+i) (by lia) hs
  have e':xs.getD (p+i) 0=b:=by simp[hs];simpa using e
  rw[e']at g
  by_cases h0:j=b
  ·exfalso
   subst h0
   have hp:xs[p]? = some (xs.getD p 0):=by
    have:p<xs.size:=by lia
    simp[this]
   have hjp:j<=xs.getD p 0:=h3 p (AH _) (by lia)
   have hpj:xs.getD p 0<=j:=by
    by_cases hi0:i=0
    ·subst hi0;rw[<-e'];exact AH _
    ·have:=hr p (p+i) (by lia) hs
     lia
   exact hn (by rw[hp];congr 1;lia)
  ·lia
 refine⟨hr'.sublist (List.take_sublist _ _),BA.mpr ⟨hd,hr'.sublist (List.drop_sublist _ _)⟩,?_⟩
 intro a ha b hb
 have haj:a<j:=by
  obtain⟨i,hi,e⟩:=Db.mp ha
  rw[List.getElem_take]at e
  have hs:i<xs.size:=by simp at hi;lia
  have g:=h2 i (by simp at hi;lia)
  have e':xs.getD i 0=a:=by simp[hs];simpa using e
  lia
 rcases AN.mp hb with rfl | hb
 ·exact haj
 ·have:=hd b hb
  lia
theorem Ce(n:Nat):Od (Array.range n):=by
 rw[jm]
 simpa using GG
structure Tidy (t:SetTable) (l:Bool):Prop where
 rose:Od t.place
 none:t.dummies=#[]
 led:t.led=l
theorem has_none(j:Nat):SetTable.has #[] j=false:=rfl
theorem qw{t:SetTable}{l:Bool}(h:Tidy t l){k:Int}:∀(f:Nat) (p:SetTable.Probe),p.dummy=none->∀{j d},SetTable.probe.go t (λ_=>k+1) k f p=some (.empty j d)->d=none/\t.place[SetTable.below t.place j]?≠some j
 |0,p,_,j,d,e=>by simp[SetTable.probe.go]at e
 |f+1,p,hp,j,d,e=>by
  unfold SetTable.probe.go at e
  have hs:t.slot p.j=if t.place[SetTable.below t.place p.j]?==some p.j then .live (SetTable.below t.place p.j)else .empty:=by
   unfold SetTable.slot
   rw[h.none]
   simp![has_none,AQ,if_false]
  rw[hs]at e
  by_cases hc:(t.place[SetTable.below t.place p.j]?==some p.j)=true
  ·rw[if_pos hc]at e
   dsimp only at e
   have hne:(k+1==k)=false:=by simp;lia
   rw[hne]at e
   refine qw h f (t.advance p) ?_ e
   unfold SetTable.advance
   split
   ·exact hp
   ·exact hp
  ·rw[if_neg hc]at e
   injection e with e
   injection e with e1 e2
   subst e1
   refine⟨by rw[<-e2,hp],λhx=>hc (by rw[hx];simp)⟩
theorem gy{t:SetTable}{l:Bool}(h:Tidy t l)(n:Nat):Tidy (t.standIn n) l:=⟨Ce n,rfl,h.led⟩
theorem Oe{t:SetTable}{l:Bool}(h:Tidy t l)(n:Nat):Tidy (t.orStandIn n) l:=by
 unfold SetTable.orStandIn
 split
 ·exact h
 ·exact gy h n
theorem yu{t:SetTable}{l:Bool}(h:Tidy t l)(es:Array (Int×Value))(k:Int)(x:Value):Tidy (layNew t es k x).2.1 l:=by
 unfold layNew
 cases e:t.freeSlot k with
 |none=>exact gy h _
 |some z =>
  obtain⟨sl,wd⟩:=z
  dsimp only
  refine Oe ?_ _
  unfold SetTable.freeSlot at e
  have hr:t.place[SetTable.below t.place sl]?≠some sl:=by
   split at e
   ·rename_i j d em
    obtain⟨rfl,q⟩:=qw h _ _ rfl em
    simp at e
    rw[<-e.1];exact q
   ·simp at e
  refine⟨o4 h.rose hr,?_,h.led⟩
  show(if SetTable.has t.dummies sl=true then _ else t.dummies)=#[]
  rw[h.none,has_none];rfl
theorem tm{t:SetTable}{l:Bool}(h:Tidy t l)(es:Array (Int×Value))(n:Nat):Tidy (relayAll t es n).2.1 l:=by
 unfold relayAll
 split
 ·rename_i t' order e
  dsimp only
  split
  ·dsimp only
   unfold SetTable.relaid SetTable.laid at e
   simp![FE,Option.bind_eq_some_iff]at e
   obtain⟨owner,_,e⟩:=e
   simp![HG,BO,GX]at e
   obtain⟨rfl,_⟩:=e
   refine⟨?_,rfl,h.led⟩
   rw[jm]
   dsimp only
   rw[IE]
   refine IQ _ (R:=(· < ·)) ?_ GG
   intro a a' hlt b hb b' hb'
   simp![Option.mem_def,DS]at hb hb'
   obtain⟨_,_,rfl⟩:=hb
   obtain⟨_,_,rfl⟩:=hb'
   exact hlt
  ·exact gy h _
 ·exact gy h _
theorem qy(l:Bool):Tidy (.fresh 0 0 l) l:=⟨λi j _ h=>absurd h (by simp[SetTable.fresh]),rfl,rfl⟩
structure Laid (o:Obj) (es:Array (Int×Value)) (ep:Nat) (t:SetTable) (l:Bool):Prop where
 set:o.ExactSet
 data:o.data=.set es ep t
 tidy:Tidy t l
 fits:t.fits es.size=true
 few:es.size<scanBound
open PySem PySem.W PyProof.Rows PySem.Calls
structure Holds (prog:Program) (w:World) (o:Obj) (es:Array (Int×Value)) (ep:Nat) (t:SetTable) (σ:List Int) (l:Bool):Prop extends Laid o es ep t l where
 elems:ElemsOf (intKind prog w) es.toList
 vals:∃vs,(es.toList.map (·.2)).Perm vs/\IntsAre vs σ
noncomputable def Cf(prog:Program)(w:World)(h:Heap)(a:Addr)(σ:List Int)(l:Bool):Prop:=∃o es ep t,h.get? a=some o/\Holds prog w o es ep t σ l
theorem tq:∀{vs:List Value} {ns:List Int},IntsAre vs ns->vs.length=ns.length
 |_,_,.nil=>rfl
 |_,_,.cons n t r=>by simp[tq r]
theorem ints_snoc{n:Int}{t:Tok}:∀{vs:List Value} {ns:List Int},IntsAre vs ns->IntsAre (vs++[.int n t]) (ns++[n])
 |_,_,.nil=>.cons n t .nil
 |_,_,.cons m u r=>.cons m u (ints_snoc r)
theorem tu:∀{vs:List Value} {ns:List Int},IntsAre vs ns->∀k:Int,k∈ns↔∃v∈vs,Value.isInt k v=true
 |_,_,.nil,k=>by simp
 |_,_,.cons m u r,k=>by
  rw[AN,tu r k]
  constructor
  ·rintro(rfl | ⟨v,hv,e⟩)
   ·exact⟨_,AM,by simp[Value.isInt]⟩
   ·exact⟨v,AF _ hv,e⟩
  ·rintro⟨v,hv,e⟩
   rcases AN.mp hv with rfl | hv
   ·left;simp[Value.isInt]at e;exact e.symm
   ·exact .inr ⟨v,hv,e⟩
section
variable{prog:Program}{w:World}{A:Around}{E:Value -> Shared -> Prop}{s:Shared}
theorem Holds.len{o:Obj}{es:Array (Int×Value)}{ep:Nat}{t:SetTable}{σ:List Int}{l:Bool}(H:Holds prog w o es ep t σ l):es.size=σ.length:=by
 obtain⟨vs,p,i⟩:=H.vals
 rw[<-tq i,<-p.length_eq];simp
theorem Holds.found{o:Obj}{es:Array (Int×Value)}{ep:Nat}{t:SetTable}{σ:List Int}{l:Bool}(H:Holds prog w o es ep t σ l)(k:Int) :
  (es.toList.findIdx? λe=>(intKind prog w).is k e.2).isSome=σ.any (·==k):=by
 obtain⟨vs,p,i⟩:=H.vals
 rw[Bool.eq_iff_iff,List.findIdx?_isSome,DU,DU]
 constructor
 ·rintro⟨e,he,q⟩
  exact⟨k,(tu i k).mpr ⟨e.2,p.mem_iff.mp (List.mem_map_of_mem he),q⟩,by simp⟩
 ·rintro⟨k',hk,q⟩
  have:k'=k:=by simpa using q
  subst this
  obtain⟨v,hv,q⟩:=(tu i k').mp hk
  obtain⟨e,he,rfl⟩:=BJ.mp (p.mem_iff.mpr hv)
  exact⟨e,he,q⟩
theorem Holds.stored {h:Heap} {a:Addr} {o:Obj} {es es':Array (Int×Value)} {ep:Nat} {t t':SetTable} {σ σ':List Int} {l:Bool} (q:h.get? a=some o) (H:Holds prog w o es ep t σ l)
  (T:Tidy t' l) (F:t'.fits es'.size=true) (B:es'.size<scanBound) (L:ElemsOf (intKind prog w) es'.toList) (V:∃vs,(es'.toList.map (·.2)).Perm vs/\IntsAre vs σ') :
  ∃o',(h.update a (Obj.putSet es' t')).get? a=some o'/\Holds prog w o' es' (ep+1) t' σ' l:=by
 refine⟨{o with data:=.set es' (ep+1) t'},?_,⟨⟨H.set,rfl,T,F,B⟩,L,V⟩⟩
 have q':=CV (Obj.putSet es' t') q (by rw[IR es' t' H.data];rfl)
 rwa [IR es' t' H.data]at q'
theorem Ao {g:Bool->Sem Unit} (hg:∀(b:Bool) (s₁:Shared) (Q':Unit->Shared->Prop),Q' () s₁->wpAny (model prog w) A (g b) Q' E s₁) {a:Addr} {o:Obj} {es es':Array (Int×Value)} {ep:Nat} {t t':SetTable} {σ σ':List Int} {l wd:Bool} {R:Option Bool->Shared->Prop}
  (q:s.heap.get? a=some o) (H:Holds prog w o es ep t σ l) (T:Tidy t' l) (F:t'.fits es'.size=true) (B:es'.size<scanBound) (L:ElemsOf (intKind prog w) es'.toList) (V:∃vs,(es'.toList.map (·.2)).Perm vs/\IntsAre vs σ')
  (h:∀h',Heap.SameBut a s.heap h'->Cf prog w h' a σ' l->R (some true) {s with heap:=h'}) :
  wpAny (model prog w) A (do
   storeSet a es' t'
   if(!wd&&t'.tooFull)=true then do
    g (relayAll t' es' (SetTable.grown es'.size)).2.2
    storeSet a (relayAll t' es' (SetTable.grown es'.size)).1 (relayAll t' es' (SetTable.grown es'.size)).2.1
    pure (some true)
   else pure (some true)) R E s:=by
 refine AA (GH q H.data ?_ (fits_of_scanBound B))
 obtain⟨o1,q1,H1⟩:=H.stored q T F B L V
 have b1:=DQ s.heap a (Obj.putSet es' t')
 by_cases hc:(!wd&&t'.tooFull)=true
 ·rw[if_pos hc]
  have P2:=relayAll_perm t' es' (SetTable.grown es'.size)
  have F2:=relayAll_fits t' es' (SetTable.grown es'.size)
  have T2:=tm T es' (SetTable.grown es'.size)
  generalize relayAll t' es' (SetTable.grown es'.size)=z at P2 F2 T2 ⊢
  obtain⟨es2,t2,g2⟩:=z
  dsimp only at P2 F2 T2 ⊢
  have B2:es2.size<scanBound:=by
   have e:=P2.length_eq
   simp![AZ]at e
   lia
  obtain⟨vs,p,i⟩:=V
  obtain⟨o2,q2,H2⟩:=H1.stored q1 T2 F2 B2 (L.perm P2) ⟨vs,(P2.map _).trans p,i⟩
  exact AA (hg _ _ _ (AA (GH q1 H1.data (AC (h _ (b1.trans (DQ _ a _)) ⟨o2,_,_,_,q2,H2⟩)) (fits_of_scanBound B2))))
 ·rw[if_neg hc]
  exact AC (h _ b1 ⟨o1,_,_,_,q1,H1⟩)
theorem Iz {a:Addr} {σ:List Int} {l:Bool} {k:Int} {t:Tok} {Q:Bool->Shared->Prop} (hS:Cf prog w s.heap a σ l) (room:σ.length+1<scanBound)
  (h:∀b h',Heap.SameBut a s.heap h'->Cf prog w h' a (step_dedup σ k) l->Q b {s with heap:=h'}):wpAny (model prog w) A (setAddHashed a (.int k t) ((intKind prog w).hash k)) Q E s:=by
 obtain⟨o,es,ep,tb,q,H⟩:=hS
 have hlen:=H.len
 unfold setAddHashed setAddHashedIn
 refine BV (AA (CF q H.data H.fits ?_))
 dsimp only
 rw[byScan_of rfl H.few H.elems,if_pos rfl]
 refine AA ?_
 unfold setAddByScan
 refine AA (FV (AA (wpAny_setScan_of (intKind_is _ _ _ _) q H.data H.fits H.elems ?_)))
 have hf:=H.found k
 cases hr:List.findIdx? (λe=>(intKind prog w).is k e.2) es.toList with
 |some j =>
  rw[hr]at hf
  dsimp only
  refine AC (AC (h _ s.heap (KF a s.heap) ?_))
  have e:step_dedup σ k=σ:=by unfold step_dedup;rw[if_pos];exact hf.symm
  rw[e]
  exact⟨o,es,ep,tb,q,H⟩
 |none =>
  rw[hr]at hf
  dsimp only
  have e:step_dedup σ k=σ++[k]:=by
   unfold step_dedup;rw[if_neg]
   rw[<-hf];simp
  have P1:=layNew_perm tb es ((intKind prog w).hash k) (.int k t)
  have F1:=layNew_fits tb es ((intKind prog w).hash k) (.int k t)
  have T1:=yu H.tidy es ((intKind prog w).hash k) (.int k t)
  generalize layNew tb es ((intKind prog w).hash k) (.int k t)=z at P1 F1 T1 ⊢
  obtain⟨es1,t1,wd,gave⟩:=z
  dsimp only at P1 F1 T1 ⊢
  rw[Array.toList_push]at P1
  have B1:es1.size<scanBound:=by
   have e:=P1.length_eq
   simp![AZ,AY,ES]at e
   lia
  have V1:∃vs,(es1.toList.map (·.2)).Perm vs/\IntsAre vs (step_dedup σ k):=by
   obtain⟨vs,p,i⟩:=H.vals
   refine⟨vs++[.int k t],(P1.map _).trans ?_,by rw[e];exact ints_snoc i⟩
   rw[CD]
   exact p.append_right _
  have L1:=(H.elems.push (intKind_is prog w k t) rfl).perm P1
  refine AA ?_
  have gw:∀(b:Bool) (s₁:Shared) (Q':Unit->Shared->Prop),Q' () s₁->wpAny (model prog w) A (match b with | true=>rule "set.scan.the-table-gave-way" | false=>pure ()) Q' E s₁:=by
   intro b s₁ Q' hq
   cases b
   ·exact AC hq
   ·exact FV hq
  refine gw gave _ _ ?_
  split
  ·refine AA (IC (hashByValue_scannable 8 rfl) ?_)
   refine AA (m:=pure _) (AC ?_)
   exact Ao gw q H T1 F1 B1 L1 V1 λh' hb hh=>AC (h _ h' hb hh)
  ·refine AA (AC ?_)
   exact Ao gw q H T1 F1 B1 L1 V1 λh' hb hh=>AC (h _ h' hb hh)
end
theorem Cf.at{prog:Program}{w:World}{h h':Heap}{a:Addr}{σ:List Int}{l:Bool}(H:Cf prog w h a σ l)(k:∀o,h.get? a=some o->h'.get? a=some o):Cf prog w h' a σ l:=by
 obtain⟨o,es,ep,t,q,z⟩:=H
 exact⟨o,es,ep,t,k o q,z⟩
section
variable{prog:Program}{w:World}{A:Around}{R:Result -> Shared -> Prop}{I:Addr}{fp wr:List Addr}{G:Array GenState -> Array GenState -> Prop}{n:Nat}{P:Nat -> Value -> Prop}{St:Nat -> Shared -> Prop}{l:Bool}
theorem E4(W:WalksS prog w A.in1 I fp wr G n P St)(a:Addr)(af:a∉fp)(val:Nat->Int)(hv:∀i v,P i v->∃t,v=.int (val i) t)(few:n+1<scanBound) :
  ∀(d i:Nat) (s:Shared),n-i=d->i<=n->St i s->Cf prog w s.heap a (firstMet val i) l->(∀s',Moved (a::wr) G s s'->Cf prog w s'.heap a (firstMet val n) l->R (.ok (.ret .none)) s') ->
   codeAny (model prog w) A (.builtin "set.update.loop" ⟨[.ref a,.ref I],[]⟩) R s:=by
 have aw:a∉wr:=λz=>af (W.sub _ z)
 intro d
 induction d with
 |zero =>
  intro i s hd hi st H fin
  have e:i=n:=by lia
  subst e
  refine DK EI ?_
  rw[Do DA]
  show wpAny (model prog w) A.in1 (pyNext (.ref I)>>=_) _ _ s
  refine AA (W.done s _ _ st λs' m=>?_)
  show wpAny (model prog w) A.in1 (ret Value.none) _ _ s'
  exact AC (fin s' (m.mono λb z=>AF _ z) (H.at λo z=>m.heap a o aw z))
 |succ d ih =>
  intro i s hd hi st H fin
  refine DK EI ?_
  rw[Do DA]
  show wpAny (model prog w) A.in1 (pyNext (.ref I)>>=_) _ _ s
  refine AA (W.item i s _ _ (by lia) st λv s' p st' m=>?_)
  obtain⟨t,rfl⟩:=hv i v p
  have H':Cf prog w s'.heap a (firstMet val i) l:=H.at λo z=>m.heap a o aw z
  show wpAny (model prog w) A.in1 (holding [Value.int (val i) t] (setAdd a (.int (val i) t))>>=_) _ _ s'
  unfold setAdd
  refine AA (BV (BV (AA ((intKind prog w).pyHash (k:=val i) (intKind_is ..) ?_))))
  have:=firstMet_length_le val i
  refine Iz (s:={s' with toks:=s'.toks+1}) H' (by lia) λb h' sb H2=>?_
  rw[<-firstMet_succ]at H2
  refine AC ⟨GY DA _,ih (i+1) _ (by lia) (by lia) (W.frame _ s' _ _ st' (FY _) λb hb o z=>?_) H2 λs2 m2 H3=>?_⟩
  ·rw[sb.2 b λe=>af (e ▸ hb)];exact z
  ·refine fin s2 (Moved.trans W.gtrans ((m.mono λb z=>AF _ z).then_heap (FY _) λb o hb z=>?_) m2) H3
   rw[sb.2 b λe=>hb (e ▸ AM)];exact z
end
section
variable{prog:Program}{w:World}{A:Around}{E:Value -> Shared -> Prop}{s:Shared}
noncomputable abbrev jn(w:World):Bool:=!w.params.followText "set-order"
noncomputable abbrev cf(w:World):Obj:={cls:=.type "set",dict:=none,data:=.set #[] 0 (.fresh 0 0 (jn w))}
theorem Cg{h:Heap}{a:Addr}(q:h.get? a=some (cf w)):Cf prog w h a [] (jn w) :=
 ⟨_,#[],0,_,q,⟨⟨⟨rfl,rfl,rfl⟩,rfl,qy _,rfl,by decide⟩,λe z=>by simp at z,[],.refl _,.nil⟩⟩
theorem E5(x:Value){Q₁:Value->Shared->Prop}(h:Q₁ (.ref s.heap.objs.size) {s with heap:=s.heap.push (cf w)}) :
  codeAny (model prog w) A (.call (.builtin "set.__new__") ⟨[.type "set",x],[]⟩) (wants Q₁ E) s:=by
 refine JJ ?_
 show wpAny (model prog w) A.in1 (do checkBuiltinCall "set.__new__" ⟨[.type "set",x],[]⟩;again (.builtin "set.__new__" ⟨[.type "set",x],[]⟩)) _ _ s
 refine AA (IC (PySem.F.newCall_set_1 x) (AC ⟨GY JP _,DK PySem.F.entry_set_new ?_⟩))
 rw[Do JP]
 unfold Builtin.«set.__new__» Builtin.Frozenset.newClass
 have e1:=sub_set_self
 obtain⟨hp,g,d,tk,os⟩:=s
 dsimp only
 wp_walk
 refine EJ (AC ?_)
 dsimp only
 simp![newObj]
 exact AA (wpAny_alloc (AC (AC h)))
end
theorem E6{T:String}(e:T="list"\/T="tuple"):isSubtype (.type T) (.type "set")=pure false/\isSubtype (.type T) (.type "frozenset")=pure false:=by
 rcases e with rfl | rfl
 ·exact⟨PySem.F.sub_list_set,PySem.F.sub_list_frozenset⟩
 ·constructor
  ·rw[GI];kernel_rfl
  ·rw[GI];kernel_rfl
noncomputable def I0:Bool->String
 |true=>"list"
 |false=>"tuple"
theorem Kw{b:Bool}{h:Heap}{x:Addr}{items:Array Value}(q:SQ b h x items):∃o,h.get? x=some o/\o.cls=.type (I0 b):=by
 cases b
 ·obtain⟨o,e,c,_⟩:=q;exact⟨o,e,c⟩
 ·obtain⟨o,e,c,_⟩:=q;exact⟨o,e,c⟩
section
variable{prog:Program}{w:World}{A:Around}{E:Value -> Shared -> Prop}{s:Shared}
theorem Ap{b:Bool}(hh:A.handled=none)(I x:Addr)(ne:x≠I)(items:Array Value):Walks prog w A I [I,x] [I] items.size (λi v=>items[i]? = some v) (λi h=>SI b h I x i/\SQ b h x items):=by
 cases b
 ·exact Walks.tuple hh I x ne items
 ·exact Walks.list hh I x ne items
theorem Ja {b:Bool} {a x:Addr} {items:Array Value} {ns:List Int} {Q:Shared->Prop} {P:PySem.Fin->Shared->Prop} (hh:A.handled=none) (hL:SQ b s.heap x items) (hi:IntsAre items.toList ns) (few:items.size+1<scanBound)
  (q:s.heap.get? a=some (cf w)) (ne:a≠x)
  (fin:∀h' tk,Cf prog w h' a (firstMet (λi=>ns.getD i 0) items.size) (jn w)->(∀c o,c≠a->s.heap.get? c=some o->h'.get? c=some o)->P (.done (.ret .none)) {s with heap:=h',toks:=tk}) :
  wpAny (model prog w) A (Builtin.«set.__init__» ⟨[.ref a,.ref x],[]⟩) P E s:=by
 obtain⟨ox,qx,cx⟩:=Kw hL
 obtain⟨n1,n2⟩:=E6 (T:=I0 b) (by cases b<;>simp[I0])
 have hT:s.TypeIs (.ref x) (I0 b):=⟨ox,qx,cx⟩
 have nd:(Value.type (I0 b)==Value.type "dict")=false:=by cases b<;>decide
 have hS:s.TypeIs (.ref a) "set":=⟨_,q,rfl⟩
 unfold Builtin.«set.__init__» noKeywords Builtin.Frozenset.updateFrom
 generalize hPI:pyIter=PI
 obtain⟨hp,g,d,tk,os⟩:=s
 wp_walk
 subst hPI
 refine sk hL (AA (wpAny_runValue ?_))
 have lx:x<hp.objs.size:=SQ.lt hL
 have la:a<hp.objs.size:=AJ q
 refine E4 ((Ap (b:=b) (A:=A.in1) (show A.in1.handled=none from hh) hp.objs.size x (AR lx) items).toS) a (l:=jn w) ?_ (λi=>ns.getD i 0) (λi v z=>IntsAre.int_at hi i v (by rw[ET];exact z)) few items.size 0 _ (by lia) (CU _)
  ⟨?_,SQ.push hL _⟩ (Cg (AB _ q)) λs' m H=>?_
 ·simp![AN,BD,or_false,not_or]
  exact⟨AR la,ne⟩
 ·cases b
  ·exact⟨_,AI _ rfl,rfl,rfl⟩
  ·exact⟨_,AI _ rfl,rfl,rfl⟩
 ·rw[JY m]
  refine AC (AC (fin s'.heap s'.toks H λc o hc z=>m.heap c o ?_ (AB _ z)))
  simp![AN,BD,or_false,not_or]
  exact⟨hc,AR (AJ z)⟩
theorem Jb {b:Bool} {x:Addr} {items:Array Value} {ns:List Int} {Q:Value->Shared->Prop} (hh:A.handled=none) (hL:SQ b s.heap x items) (hi:IntsAre items.toList ns) (few:items.size+1<scanBound)
  (h:∀h' tk,Cf prog w h' s.heap.objs.size (firstMet (λi=>ns.getD i 0) items.size) (jn w)->(∀c o,s.heap.get? c=some o->h'.get? c=some o)->Q (.ref s.heap.objs.size) {s with heap:=h',toks:=tk}) :
  wpAny (model prog w) A (call (.type "set") [.ref x]) Q E s:=by
 obtain⟨c,tl,hmro⟩:=BC.mro
 have hm:=BC.made
 have hs:=BC.sub
 have hn:=BC.notType
 have hcc:=BC.canCreate
 have hct:=IZ (.ref x)
 refine wpAny_call (JJ ?_)
 show wpAny (model prog w) _ (callAny (.type "set") _) _ _ _
 refine AC ⟨Code.quiet_builtin _ (by decide +kernel),DK IS ?_⟩
 rw[Around.under_plain (weight_type_call_type "set" [.ref x] []) rfl]
 repeat (any_goals (first | assumption | wp_step))
 refine EK (E5 (w:=w) (.ref x) (E:=E) (Q₁:=λobj s₁=>obj=.ref s.heap.objs.size/\s₁={s with heap:=s.heap.push (cf w)}) ⟨rfl,rfl⟩) λr s₁ hr=>?_
 cases r with
 |error e=>exact hr
 |ok fl =>
  cases fl with
  |ret obj =>
   obtain⟨rfl,rfl⟩:=hr
   have q:(s.heap.push (cf w)).get? s.heap.objs.size=some (cf w):=AI _ rfl
   have hT:Shared.TypeIs {s with heap:=s.heap.push (cf w)} (.ref s.heap.objs.size) "set":=⟨_,q,rfl⟩
   have hli:=BC.init.lookup
   have hbi:=BC.init.bind (.ref s.heap.objs.size)
   repeat (any_goals (first | assumption | wp_step))
   refine EK (codeAny_call_builtin (R:=wants (λr s₂=>r=.none/\Q (.ref s.heap.objs.size) s₂) E) BC.init.plain JA (check_set_init_1 hT ?_)) λr₂ s₂ z=>?_
   ·refine Ja (Q:=λ_=>True) (b:=b) (s:={s with heap:=s.heap.push (cf w)}) (by simpa using hh) (SQ.push hL _) hi few q (CJ (SQ.lt hL)) λh' tk H k=>?_
    exact⟨rfl,h h' tk H λc o e=>k c o (AR (AJ e)) (AB _ e)⟩
   ·cases r₂ with
    |error e=>exact z
    |ok fl₂ =>
     cases fl₂ with
     |ret r =>
      obtain⟨rfl,z⟩:=z
      repeat (any_goals (first | assumption | wp_step))
     |_=>exact z
  |_=>exact hr
end
section
theorem ma{α:Type}:∀(l:List α) (i:Nat) (h:i<l.length),(l[i]::l.eraseIdx i).Perm l
 |x::xs,0,_=>.refl _
 |x::xs,i+1,h=>by
  have hi:i<xs.length:=by simpa using h
  have ih:=ma xs i hi
  show(xs[i]::x::xs.eraseIdx i).Perm (x::xs)
  exact(List.Perm.swap ..).trans (ih.cons x)
theorem E7{α:Type}(next:Nat->Nat):∀(f k:Nat) (left:List α) (out:Array α),left.length=f->(pickOrder.go next f k left out).toList.Perm (out.toList++left)
 |0,k,left,out,h=>by
  have e:left=[]:=FZ.mp h
  subst e
  simp[pickOrder.go]
 |f+1,k,left,out,h=>by
  unfold pickOrder.go
  have hl:next k % left.length<left.length:=HU _ (by lia)
  rw[AD hl]
  dsimp only
  refine(E7 next f (k+1) _ _ (by rw[List.length_eraseIdx,if_pos hl];lia)).trans ?_
  rw[Array.toList_push,Ix]
  refine List.Perm.append_left _ ?_
  show(left[next k % left.length]::left.eraseIdx (next k % left.length)).Perm left
  exact ma _ _ hl
theorem o5{α:Type}(next:Nat->Nat)(xs:Array α):(pickOrder next xs).toList.Perm xs.toList:=by
 have:=E7 next xs.size 0 xs.toList #[] (by simp)
 simpa[pickOrder]using this
end
section
variable{prog:Program}{w:World}{A:Around}{E:Value -> Shared -> Prop}{s:Shared}
theorem vt{α:Type}:∀(n:Nat) (xs:List α) (s:Shared) {Q:List α->Shared->Prop},xs.length=n->(∀ys d,ys.Perm xs->Q ys {s with drawn:=d})->wpAny (model prog w) A (drawOrder n xs) Q E s
 |0,xs,s,Q,hn,h=>by
  have e:xs=[]:=FZ.mp hn
  subst e
  unfold drawOrder
  exact AC (h [] s.drawn (.refl _))
 |n+1,[],s,Q,hn,h=>by simp at hn
 |n+1,x::xs,s,Q,hn,h=>by
  unfold drawOrder
  refine AA ?_
  have hc:∀(Q':Nat->Shared->Prop),(∀i,i<(x::xs).length->∀d,Q' i {s with drawn:=d})->wpAny (model prog w) A (choose .order (x::xs).length) Q' E s:=λQ' hq Γ p _=>⟨by simp,hq _ (HU _ (by simp)) _⟩
  refine hc _ λi hi d=>?_
  rw[AD hi]
  dsimp only
  refine AA (vt n _ _ (by rw[List.length_eraseIdx,if_pos hi];simp at hn ⊢;lia) λys d' p=>?_)
  exact AC (h _ d' ((p.cons _).trans (ma _ _ hi)))
theorem slot_next:Slot "set_iterator" "__next__" "set_iterator.__next__":=Slot.of (owner:="set_iterator") (n:="__next__")
 (by rw[typeLookup_type,builtinLookup_eq_fast];kernel_rfl)
 (by decide +kernel)
 (by decide +kernel) (by decide +kernel)
 (by first | exact .inl (by decide +kernel) | exact .inr (by decide +kernel))
 (by rw[GI];kernel_rfl)
theorem entry_next:entryFor table "set_iterator.__next__"=some Builtin.«set_iterator.__next__»:=entryFor_of_tree (by kernel_rfl)
theorem Ci:entryFor table "set.__iter__"=some Builtin.«frozenset.__iter__»:=entryFor_alias (id':="frozenset.__iter__") (by kernel_rfl) rfl (by decide +kernel) (by kernel_rfl)
theorem args_next(a:Value):argsOk "set_iterator.__next__" ⟨[a],[]⟩:=by
 unfold argsOk
 kernel_rfl
end
noncomputable abbrev mz(first:Value)(i:Nat)(a:Addr)(n ep:Nat):Obj:={cls:=.type "set_iterator",dict:=none,data:=.fields #[first,rawInt i,.ref a,rawInt n,rawInt ep],slots:=#[]}
section
variable{prog:Program}{w:World}{A:Around}{E:Value -> Shared -> Prop}{s:Shared}{I a:Addr}{first:Value}{i n slot:Nat}{o:Obj}{es:Array (Int × Value)}{ep:Nat}{t:SetTable}{l:Bool}
theorem E8 {x:Value} {nx:Nat} {Q:Option Value->Shared->Prop} (hI:s.heap.get? I=some (mz (rawInt slot) i a n ep)) (q:s.heap.get? a=some o) (H:Laid o es ep t l) (hn:es.size=n)
  (hN:∀(A':Around) (E':Value->Shared->Prop) (Q':Option (Value×Nat)->Shared->Prop),Q' (some (x,nx)) s->wpAny (model prog w) A' (setNext a slot i ep) Q' E' s)
  (hQ:∀h',h'.get? I=some (mz (rawInt nx) (i+1) a n ep)->Heap.SameBut I s.heap h'->Q (some x) {s with heap:=h'}):wpAny (model prog w) A (pyNext (.ref I)) Q E s:=by
 have hT:s.TypeIs (.ref I) "set_iterator":=⟨_,hI,rfl⟩
 unfold pyNext
 refine AA (FI (BM (name:=Str.ofString "__next__") hT slot_next (BI slot_next hT entry_next ?_ (args_next _))))
 unfold Builtin.«set_iterator.__next__»
 refine AA (m:=slotArgs _ _ _) (AC ?_)
 dsimp only
 refine AA (HV hI rfl ?_)
 dsimp only[rawInt]
 refine AA (ED q H.data H.fits ?_)
 rw[hn]
 simp![bne_self_eq_false,AQ,if_false,BH]
 refine AA (hN _ _ _ ?_)
 dsimp only
 refine AA (BW hI (by simp) λh1 q1 b1=>?_)
 refine AA (BW q1 (by simp) λh2 q2 b2=>?_)
 exact AC ⟨_,rfl,AC (hQ h2 q2 (b1.trans b2))⟩
theorem E9 {Q:Option Value->Shared->Prop} (hh:A.handled=none) (hI:s.heap.get? I=some (mz (rawInt slot) i a n ep)) (q:s.heap.get? a=some o) (H:Laid o es ep t l) (hn:es.size=n)
  (hN:∀(A':Around) (E':Value->Shared->Prop) (Q':Option (Value×Nat)->Shared->Prop),Q' none s->wpAny (model prog w) A' (setNext a slot i ep) Q' E' s)
  (hQ:∀h',Heap.ExtBut I s.heap h'->Q none {s with heap:=h'}):wpAny (model prog w) A (pyNext (.ref I)) Q E s:=by
 have hT:s.TypeIs (.ref I) "set_iterator":=⟨_,hI,rfl⟩
 unfold pyNext
 refine AA (FI (BM (name:=Str.ofString "__next__") hT slot_next (BI slot_next hT entry_next ?_ (args_next _))))
 unfold Builtin.«set_iterator.__next__»
 refine AA (m:=slotArgs _ _ _) (AC ?_)
 dsimp only
 refine AA (HV hI rfl ?_)
 dsimp only[rawInt]
 refine AA (ED q H.data H.fits ?_)
 rw[hn]
 simp![bne_self_eq_false,AQ,if_false,BH]
 refine AA (hN _ _ _ ?_)
 dsimp only
 refine AA (BW hI (by simp) λh1 q1 b1=>AA ?_)
 simp![newExc,newTuple]
 refine AA (BN (AA (m:=firstArgMember _ _) (IC (a:=Value.none) (by first | rfl | (simp![firstArgMember];rfl)) (BN ?_ (by size_fits)))) (by size_fits))
 simp![raiseNew]
 refine AA (wpAny_handled ?_)
 rw[show A.in1.handled=none from hh]
 refine AA (AC (wpAny_throw ?_))
 refine AA ?_
 refine GS (T:="StopIteration") (b:=true) ?_ isSubtype_stop ?_
 ·exact⟨_,AI _ rfl,rfl⟩
 exact AC (hQ _ ((b1.extBut.push _).push _))
theorem vx (q:s.heap.get? a=some o) (H:Laid o es ep t l) (ht:w.params.followText "set-order"=true) {Q:Option (Value×Nat)->Shared->Prop}
  (h:Q (((pickOrder (w.params.setOrder a ep) es)[i]?).map λe=>(e.2,slot)) s):wpAny (model prog w) A (setNext a slot i ep) Q E s:=by
 unfold setNext setsByText setWalk setsByText
 refine AA (CF q H.data H.fits ?_)
 dsimp only
 refine AA (AA (EJ (AC ?_)))
 show wpAny _ _ (if w.params.followText "set-order"=true then _ else _) _ _ _
 rw[if_pos ht]
 simp![bne_self_eq_false,AQ,if_false]
 refine AA (AA (CF q H.data H.fits ?_))
 dsimp only
 refine AA (AA (EJ (AC ?_)))
 show wpAny _ _ (if w.params.followText "set-order"=true then _ else _) _ _ _
 rw[if_pos ht]
 refine AA (EJ (AC ?_))
 exact AC h
theorem qz (q:s.heap.get? a=some o) (H:Laid o es ep t (jn w)) (ht:w.params.followText "set-order"=false) (hp:(!t.plain&&decide (es.size > 1))=false) {Q:Option (Value×Nat)->Shared->Prop}
  (h:Q (match es[SetTable.below t.place slot]?,t.place[SetTable.below t.place slot]? with | some (_,x),some j=>some (x,j+1) | _,_=>none) s):wpAny (model prog w) A (setNext a slot i ep) Q E s:=by
 unfold setNext setsByText
 refine AA (CF q H.data H.fits ?_)
 dsimp only
 refine AA (AA (EJ (AC ?_)))
 show wpAny _ _ (if w.params.followText "set-order"=true then _ else _) _ _ _
 rw[ht,if_neg AU]
 show wpAny _ _ (if(!t.plain&&decide (es.size > 1))=true then _ else _) _ _ _
 rw[hp,if_neg AU]
 refine AA ?_
 show wpAny _ _ (if(!t.led&&!es.isEmpty)=true then _ else _) _ _ _
 have hl:t.led=true:=by rw[H.tidy.led];simp[jn,ht]
 rw[hl]
 exact AC (AC h)
end
theorem slot_self:Slot "set_iterator" "__iter__" "set_iterator.__iter__":=Slot.of (owner:="set_iterator") (n:="__iter__")
 (by rw[typeLookup_type,builtinLookup_eq_fast];kernel_rfl)
 (by decide +kernel)
 (by decide +kernel) (by decide +kernel)
 (by first | exact .inl (by decide +kernel) | exact .inr (by decide +kernel))
 (by rw[GI];kernel_rfl)
theorem entry_self:entryFor table "set_iterator.__iter__"=some Builtin.«dict_keyiterator.__iter__»:=entryFor_alias (id':="dict_keyiterator.__iter__") (by kernel_rfl) rfl (by decide +kernel) (by kernel_rfl)
theorem args_self(a:Value):argsOk "set_iterator.__iter__" ⟨[a],[]⟩:=by
 unfold argsOk
 kernel_rfl
section
variable{prog:Program}{w:World}{A:Around}{E:Value -> Shared -> Prop}{s:Shared}{I a:Addr}{first:Value}{i n slot:Nat}{o:Obj}{es:Array (Int × Value)}{ep:Nat}{t:SetTable}{l:Bool}
theorem yw{Q:Value->Shared->Prop}(hI:s.heap.get? I=some (mz first i a n ep))(h:Q (.ref I) s):wpAny (model prog w) A (pyIter (.ref I)) Q E s:=by
 have hT:s.TypeIs (.ref I) "set_iterator":=⟨_,hI,rfl⟩
 refine ID hT slot_self (BI slot_self hT entry_self ?_ (args_self _))
 exact AC ⟨_,rfl,"set_iterator",_,hT,slot_next.lookup,h⟩
theorem Jc {T:Addr} {ps:Array Value} {j:Nat} {e:Int×Value} {Q:Option Value->Shared->Prop} (hI:s.heap.get? I=some (mz (.ref T) i a n ep)) (q:s.heap.get? a=some o) (H:Laid o es ep t l) (hn:es.size=n)
  (hT:s.heap.IsTuple T ps) (hp:ps[i]? = some (rawInt j)) (he:es[j]? = some e)
  (hQ:∀h',h'.get? I=some (mz (.ref T) (i+1) a n ep)->Heap.SameBut I s.heap h'->Q (some e.2) {s with heap:=h'}):wpAny (model prog w) A (pyNext (.ref I)) Q E s:=by
 have hTy:s.TypeIs (.ref I) "set_iterator":=⟨_,hI,rfl⟩
 obtain⟨ot,qt,_,nt,dt⟩:=hT
 unfold pyNext
 refine AA (FI (BM (name:=Str.ofString "__next__") hTy slot_next (BI slot_next hTy entry_next ?_ (args_next _))))
 unfold Builtin.«set_iterator.__next__»
 refine AA (m:=slotArgs _ _ _) (AC ?_)
 dsimp only
 refine AA (HV hI rfl ?_)
 dsimp only[rawInt]
 refine AA (ED q H.data H.fits ?_)
 rw[hn]
 simp![bne_self_eq_false,AQ,if_false,BH]
 refine AA (CN qt dt ?_)
 dsimp only
 rw[hp]
 dsimp only[rawInt]
 unfold setNextDrawn
 refine AA (AA (CF q H.data H.fits ?_))
 simp![BH,bne_self_eq_false,AQ,if_false]
 rw[he]
 refine AC (AA (BW hI (by simp) λh1 q1 b1=>?_))
 exact AC ⟨_,rfl,AC (hQ h1 q1 b1)⟩
theorem vy {T:Addr} {ps:Array Value} {Q:Option Value->Shared->Prop} (hh:A.handled=none) (hI:s.heap.get? I=some (mz (.ref T) i a n ep)) (q:s.heap.get? a=some o) (H:Laid o es ep t l) (hn:es.size=n)
  (hT:s.heap.IsTuple T ps) (hp:ps[i]? = none) (hQ:∀h',Heap.ExtBut I s.heap h'->Q none {s with heap:=h'}):wpAny (model prog w) A (pyNext (.ref I)) Q E s:=by
 have hTy:s.TypeIs (.ref I) "set_iterator":=⟨_,hI,rfl⟩
 obtain⟨ot,qt,_,nt,dt⟩:=hT
 unfold pyNext
 refine AA (FI (BM (name:=Str.ofString "__next__") hTy slot_next (BI slot_next hTy entry_next ?_ (args_next _))))
 unfold Builtin.«set_iterator.__next__»
 refine AA (m:=slotArgs _ _ _) (AC ?_)
 dsimp only
 refine AA (HV hI rfl ?_)
 dsimp only[rawInt]
 refine AA (ED q H.data H.fits ?_)
 rw[hn]
 simp![bne_self_eq_false,AQ,if_false,BH]
 refine AA (CN qt dt ?_)
 dsimp only
 rw[hp]
 dsimp only
 refine AA (BW hI (by simp) λh1 q1 b1=>AA (BW q1 (by simp) λh2 q2 b2=>AA ?_))
 simp![newExc,newTuple]
 refine AA (BN (AA (m:=firstArgMember _ _) (IC (a:=Value.none) (by first | rfl | (simp![firstArgMember];rfl)) (BN ?_ (by size_fits)))) (by size_fits))
 simp![raiseNew]
 refine AA (wpAny_handled ?_)
 rw[show A.in1.handled=none from hh]
 refine AA (AC (wpAny_throw ?_))
 refine AA ?_
 refine GS (T:="StopIteration") (b:=true) ?_ isSubtype_stop ?_
 ·exact⟨_,AI _ rfl,rfl⟩
 exact AC (hQ _ (((b1.trans b2).extBut.push _).push _))
theorem Of {Q:Value->Shared->Prop} (q:s.heap.get? a=some o) (H:Laid o es ep t (jn w)) (few:es.size<=sizeLine)
  (hm:(w.params.followText "set-order"=true\/(!t.plain&&decide (es.size > 1))=false)->Q (.ref s.heap.objs.size) {s with heap:=s.heap.push (mz (rawInt (0:Nat)) 0 a es.size ep)})
  (hd:w.params.followText "set-order"=false->∀(ys:List Nat) d,ys.Perm (List.range es.size) ->
   Q (.ref (s.heap.objs.size+1)) {s with heap:=(s.heap.push {cls:=.type "tuple",data:=.seq (ys.map fun(i:Nat)=>rawInt i).toArray}).push (mz (.ref s.heap.objs.size) 0 a es.size ep),drawn:=d}) :
  wpAny (model prog w) A (pyIter (.ref a)) Q E s:=by
 have hT:s.TypeIs (.ref a) "set":=⟨o,q,H.set.1⟩
 refine ID hT JQ (BI JQ hT Ci ?_ (PySem.F.args_set_iter_1 _))
 unfold Builtin.«frozenset.__iter__» Builtin.Frozenset.slot0 Builtin.Frozenset.sizeOf
 refine AA (AA (m:=slotArgs _ _ _) (AC (AC ?_)))
 refine AA (AA (ED q H.data H.fits (AC ?_)))
 unfold setDrawn setsByText
 refine AA (AA (CF q H.data H.fits ?_))
 dsimp only
 refine AA (AA (EJ (AC (AC ?_))))
 show wpAny _ _ (if(!w.params.followText "set-order"&&(!t.plain&&decide (es.size > 1)))=true then _ else _) _ _ _
 by_cases hc:(!w.params.followText "set-order"&&(!t.plain&&decide (es.size > 1)))=true
 ·rw[if_pos hc]
  have ht:w.params.followText "set-order"=false:=by
   rw[AX]at hc
   simpa using hc.1
  refine AA (vt _ _ _ (by simp) λys d p=>?_)
  refine AA (wpAny_newTuple ?_ (by rw[AG,p.length_eq,EY];exact few))
  refine AA (wpAny_setEpoch_of (AB _ q) H.data H.fits ?_)
  refine AA (BN ?_ (by size_fits))
  have hz:(s.heap.push {cls:=.type "tuple",data:=.seq (ys.map fun(i:Nat)=>rawInt i).toArray}).objs.size=s.heap.objs.size+1:=CM ..
  rw[hz]
  refine AC ⟨_,rfl,"set_iterator",_,?_,slot_next.lookup,hd ht ys d p⟩
  exact⟨_,hz ▸ AI _ rfl,rfl⟩
 ·rw[if_neg hc]
  refine AA (AC ?_)
  refine AA (wpAny_setEpoch_of q H.data H.fits ?_)
  refine AA (BN ?_ (by size_fits))
  refine AC ⟨_,rfl,"set_iterator",_,⟨_,AI _ rfl,rfl⟩,slot_next.lookup,hm ?_⟩
  cases ht:w.params.followText "set-order" with
  |true=>exact .inl rfl
  |false=>rw[ht]at hc;exact .inr (by simpa using hc)
end
noncomputable def atOf(t:SetTable)(i:Nat):Nat:=if i=0 then 0 else t.place.getD (i-1) 0+1
theorem below_at{t:SetTable}{l:Bool}(T:Tidy t l){i:Nat}(hi:i<=t.place.size):SetTable.below t.place (atOf t i)=i:=by
 obtain⟨p1,p2,p3⟩:=ke T.rose (atOf t i)
 generalize SetTable.below t.place (atOf t i)=p at *
 unfold atOf at p2 p3
 by_cases h0:i=0
 ·subst h0
  simp![if_true]at p2
  by_cases hp:p=0
  ·exact hp
  ·have:=p2 0 (by lia)
   lia
 ·rw[if_neg h0]at p2 p3
  have a1:i<=p:=by
   by_cases h:i<=p
   ·exact h
   ·have:=p3 (i-1) (by lia) (by lia)
    lia
  have a2:p<=i:=by
   by_cases h:p<=i
   ·exact h
   ·have b1:=p2 i (by lia)
    have b2:=T.rose (i-1) i (by lia) (by lia)
    lia
  lia
section
variable{prog:Program}{w:World}{A:Around}{E:Value -> Shared -> Prop}{s:Shared}{I a T:Addr}{o:Obj}{es:Array (Int × Value)}{ep:Nat}{t:SetTable}
theorem Cj(hh:A.handled=none)(ne:a≠I)(H:Laid o es ep t (jn w))(ht:w.params.followText "set-order"=true) :
  Walks prog w A I [I,a] [I] es.size (λi v=>((pickOrder (w.params.setOrder a ep) es)[i]?).map (·.2)=some v) (λi h=>h.get? a=some o/\h.get? I=some (mz (rawInt (0:Nat)) i a es.size ep)) where
 sub:=λb hb=>by simp at hb;simp[hb]
 frame:=λi h h' st k=>⟨k a (by simp) _ st.1,k I (by simp) _ st.2⟩
 item:=λi s Q E hi st hQ=>by
  have sz:(pickOrder (w.params.setOrder a ep) es).size=es.size:=by simpa using(o5 (w.params.setOrder a ep) es).length_eq
  have e:(pickOrder (w.params.setOrder a ep) es)[i]? = some ((pickOrder (w.params.setOrder a ep) es)[i]'(by lia)):=BS _
  refine E8 (slot:=0) (nx:=0) (x:=((pickOrder (w.params.setOrder a ep) es)[i]'(by lia)).2) st.2 st.1 H rfl (λA' E' Q' hq=>vx st.1 H ht (by rw[e];exact hq)) λh' q' b'=>?_
  exact hQ _ h' s.toks (by rw[e];rfl) ⟨(b'.2 a ne).trans st.1,q'⟩ λb o hb z=>b'.extBut b o (λx=>hb (by simp[x])) z
 done:=λs Q E st hQ=>by
  have sz:(pickOrder (w.params.setOrder a ep) es).size=es.size:=by simpa using(o5 (w.params.setOrder a ep) es).length_eq
  have e:(pickOrder (w.params.setOrder a ep) es)[es.size]? = none:=JB (by lia)
  exact E9 (slot:=0) hh st.2 st.1 H rfl (λA' E' Q' hq=>vx st.1 H ht (by rw[e];exact hq)) λh' b'=>hQ h' s.toks λb o hb z=>b' b o (λx=>hb (by simp[x])) z
 self:=λi s Q E st hQ=>yw st.2 hQ
theorem yx(hh:A.handled=none)(ne:a≠I)(H:Laid o es ep t (jn w))(ht:w.params.followText "set-order"=false)(hp:(!t.plain&&decide (es.size > 1))=false) :
  Walks prog w A I [I,a] [I] es.size (λi v=>(es[i]?).map (·.2)=some v) (λi h=>h.get? a=some o/\h.get? I=some (mz (rawInt (atOf t i:Nat)) i a es.size ep)):=by
 have sz:t.place.size=es.size:=by
  have:=H.fits
  simp![SetTable.fits,AX,beq_iff_eq]at this
  exact this.1
 refine⟨λb hb=>by simp at hb;simp[hb],λi h h' st k=>⟨k a (by simp) _ st.1,k I (by simp) _ st.2⟩,λi s Q E hi st hQ=>?_,λs Q E st hQ=>?_,λi s Q E st hQ=>yw st.2 hQ⟩
 ·have e1:es[i]? = some es[i]:=BS hi
  have e2:t.place[i]? = some (t.place.getD i 0):=by
   have:i<t.place.size:=by lia
   simp[this]
  refine E8 (x:=es[i].2) (nx:=t.place.getD i 0+1) st.2 st.1 H rfl (λA' E' Q' hq=>qz st.1 H ht hp (by rw[below_at H.tidy (by lia),e1,e2];exact hq)) λh' q' b'=>?_
  refine hQ _ h' s.toks (by rw[e1];rfl) ⟨(b'.2 a ne).trans st.1,?_⟩ λb o hb z=>b'.extBut b o (λx=>hb (by simp[x])) z
  have e3:atOf t (i+1)=t.place.getD i 0+1:=by simp[atOf]
  rw[e3];exact q'
 ·have e1:es[es.size]? = none:=JB (AH _)
  exact E9 hh st.2 st.1 H rfl (λA' E' Q' hq=>qz st.1 H ht hp (by rw[below_at H.tidy (by lia),e1];exact hq)) λh' b'=>hQ h' s.toks λb o hb z=>b' b o (λx=>hb (by simp[x])) z
theorem yy(hh:A.handled=none)(ne:a≠I)(nt:T≠I)(H:Laid o es ep t (jn w)){ys:List Nat}(hy:ys.Perm (List.range es.size)) :
  Walks prog w A I [I,a,T] [I] es.size (λi v=>((ys[i]?).bind λj=>es[j]?).map (·.2)=some v) (λi h=>h.get? a=some o/\h.get? I=some (mz (.ref T) i a es.size ep)/\h.IsTuple T (ys.map fun(i:Nat)=>rawInt i).toArray):=by
 have sz:ys.length=es.size:=by simpa using hy.length_eq
 refine⟨λb hb=>by simp at hb;simp[hb],λi h h' st k=>⟨k a (by simp) _ st.1,k I (by simp) _ st.2.1,st.2.2.at λo e=>k T (by simp) o e⟩,λi s Q E hi st hQ=>?_,λs Q E st hQ=>?_,λi s Q E st hQ=>yw st.2.1 hQ⟩
 ·have hi':i<ys.length:=by lia
  have e1:ys[i]? = some ys[i]:=AD hi'
  have hj:ys[i]<es.size:=by
   have:ys[i]∈List.range es.size:=hy.mem_iff.mp (CO hi')
   simpa using this
  have e2:es[ys[i]]? = some es[ys[i]]:=BS hj
  refine Jc (j:=ys[i]) (e:=es[ys[i]]) st.2.1 st.1 H rfl st.2.2 (by simp[e1]) e2 λh' q' b'=>?_
  exact hQ _ h' s.toks (by rw[e1];show(es[ys[i]]?).map (·.2)=_;rw[e2];rfl) ⟨(b'.2 a ne).trans st.1,q',st.2.2.at λo e=>b'.extBut T o nt e⟩ λb o hb z=>b'.extBut b o (λx=>hb (by simp[x])) z
 ·exact vy hh st.2.1 st.1 H rfl st.2.2 (by simp[sz]) λh' b'=>hQ h' s.toks λb o hb z=>b' b o (λx=>hb (by simp[x])) z
theorem Jd{Q:Bool->Shared->Prop}(q:s.heap.get? a=some o)(H:o.cls=.type "set")(h:Q false s):wpAny (model prog w) A (Builtin.List.listLengthHint (.ref a)) Q E s:=by
 have hT:s.TypeIs (.ref a) "set":=⟨o,q,H⟩
 unfold Builtin.List.listLengthHint
 refine AA (wpAny_specialOf hT PySem.F.slot_set_len.lookup ?_)
 generalize hid:("set.__len__":String)=z
 wp_delta
 rw[show splitId z=some ("set","__len__")from by subst hid;decide +kernel]
 subst hid
 refine AA (GS (T:="set") (b:=true) hT (by rw[GI];kernel_rfl) ?_)
 refine wpAny_ite_split (λx=>absurd x (by decide)) λ_=>?_
 refine wpAny_ite_split (λ_=>?_) λx=>absurd (by decide +kernel) x
 refine AA (GB hT ?_)
 exact AC h
end
noncomputable def intOf:Value->Int
 |.int n _=>n
 |_=>0
theorem ints_of:∀{vs:List Value} {ns:List Int},IntsAre vs ns->ns=vs.map intOf/\∀v∈vs,∃n t,v=.int n t
 |_,_,.nil=>⟨rfl,λv h=>by simp at h⟩
 |_,_,.cons n t r=>by
  obtain⟨e,h⟩:=ints_of r
  refine⟨by rw[AO,<-e];rfl,λv hv=>?_⟩
  rcases AN.mp hv with rfl | hv
  ·exact⟨n,t,rfl⟩
  ·exact h v hv
theorem Fb:∀{vs:List Value},(∀v∈vs,∃n t,v=Value.int n t)->IntsAre vs (vs.map intOf)
 | [],_=>.nil
 |v::vs,h=>by
  obtain⟨n,t,rfl⟩:=h v AM
  exact .cons n t (Fb λu hu=>h u (AF _ hu))
theorem Fc{us vs:List Value}{ns:List Int}(h:IntsAre vs ns)(p:us.Perm vs):∃ms,IntsAre us ms/\ms.Perm ns:=by
 obtain⟨e,hv⟩:=ints_of h
 refine⟨us.map intOf,Fb λu hu=>hv u (p.mem_iff.mp hu),?_⟩
 rw[e];exact p.map _
theorem tw{f:Nat->Option Value}{acc:Array Value}{n:Nat}{ord:List Value}(h:ItemsOf (λi v=>f i=some v) acc n)(ho:ord.length=n)(hf:∀i,i<n->f i=ord[i]?):acc.toList=ord:=by
 obtain⟨h1,h2⟩:=h
 apply EX
 intro i
 by_cases hi:i<n
 ·have e:acc.toList[i]? = some acc[i]:=by
   rw[ET];exact BS (by lia)
  rw[e,<-hf i hi]
  exact(h2 i _ (BS (by lia))).symm
 ·rw[DX (by simp;lia),DX (by lia)]
section
variable{prog:Program}{w:World}{A:Around}{E:Value -> Shared -> Prop}{s:Shared}{a:Addr}{o:Obj}{es:Array (Int × Value)}{ep:Nat}{t:SetTable}
theorem Ck {R:Result->Shared->Prop} (hh:A.handled=none) (q:s.heap.get? a=some o) (H:Laid o es ep t (jn w)) (D:Addr) (res:Value) (qD:s.heap.get? D=some {cls:=.type "list",dict:=none,data:=.seq #[] 0,slots:=#[]}) (ne:D≠a) (few:es.size<=sizeLine)
  (hR:∀(h':Heap) tk d acc c',(∀b o,b≠D->s.heap.get? b=some o->h'.get? b=some o)->h'.get? D=some {cls:=.type "list",dict:=none,data:=.seq acc c',slots:=#[]}->acc.toList.Perm (es.toList.map (·.2)) ->
   R (.ok (.ret res)) {s with heap:=h',toks:=tk,drawn:=d}) :
  wpAny (model prog w) A.in1 (Builtin.List.listExtendWith (.ref D) (.ref a) res) (λfin s'=>match fin with | .done f=>R (.ok f) s' | .again c'=>c'.quiet=true/\codeAny (model prog w) A c' R s') (λe s'=>R (.error e) s') s:=by
 have lD:D<s.heap.objs.size:=AJ qD
 have la:a<s.heap.objs.size:=AJ q
 have perm:∀{acc:Array Value} {ord:List Value},acc.toList=ord->ord.Perm (es.toList.map (·.2))->acc.toList.Perm (es.toList.map (·.2)):=λe p=>by
  rw[e];exact p
 -- behind the iterator: the list is touched,and the loop runs
 have go:∀(h1:Heap) (d:Drawn) (I:Addr) (fp:List Addr) (P:Nat->Value->Prop) (St:Nat->Heap->Prop),Walks prog w A.in1 I fp [I] es.size P St->D∉fp->(∀b o,s.heap.get? b=some o->h1.get? b=some o)->s.heap.objs.size<=I ->
   (∀h2:Heap,(∀b o,b≠D->h1.get? b=some o->h2.get? b=some o)->St 0 h2)->(∀acc,ItemsOf P acc es.size->acc.toList.Perm (es.toList.map (·.2))) ->
   wpAny (model prog w) A.in1 (holding [.ref I] (Builtin.List.listLengthHint (.ref a))>>=λroom=>if(room || ["set","frozenset","dict","dict_keys","dict_values","dict_items"].any (Value.type "set"==.type ·))=true then do
     rule "list.extend.makes-room"
     Builtin.List.listTouch (.ref D)
     again (.builtin "list.extend.loop" ⟨[.ref D,.ref I,res],[]⟩)
    else again (.builtin "list.extend.loop" ⟨[.ref D,.ref I,res],[]⟩)) (λfin s'=>match fin with | .done f=>R (.ok f) s' | .again c'=>c'.quiet=true/\codeAny (model prog w) A c' R s') (λe s'=>R (.error e) s') {s with heap:=h1,drawn:=d}:=by
  intro h1 d I fp P St W df k1 lI st0 hacc
  refine AA (BV (Jd (s:={s with heap:=h1,drawn:=d}) (k1 a o q) H.set.1 ?_))
  rw[if_pos (by decide)]
  refine AA (FV ?_)
  have q1:=k1 D _ qD
  refine AA ?_
  show wpAny _ _ (updateSeq D (·.push .none)>>=λ_=>updateSeq D (·.pop)) _ _ _
  refine AA (wpAny_updateSeq q1 rfl ?_)
  have q2:=CV (Obj.mapSeq (·.push Value.none)) q1 rfl
  refine wpAny_updateSeq (hz:=by seq_fits) q2 rfl ?_
  have q3:=CV (Obj.mapSeq (·.pop)) q2 rfl
  have k3:∀b o,b≠D->h1.get? b=some o->((h1.update D (Obj.mapSeq (·.push Value.none))).update D (Obj.mapSeq (·.pop))).get? b=some o:=λb o hb z=>by
   rw[CS _ _ _ _ hb,CS _ _ _ _ hb];exact z
  refine AC ⟨GY PySem.F.plain_extend_loop _,codeAny_extend_loopS W.toS (by lia) D df res es.size 0 _ #[] _ (by lia) (CU _) (st0 _ k3) q3 (ItemsOf.nil _) λs' acc c' m qD' ha=>?_⟩
  rw[JY m]
  refine hR s'.heap s'.toks d acc c' (λb o hb z=>m.heap b o ?_ (k3 b o hb (k1 b o z))) qD' (hacc acc ha)
  simp![AN,BD,or_false,not_or]
  exact⟨hb,AR (AS (AJ z) lI)⟩
 unfold Builtin.List.listExtendWith
 refine AA (GB (T:="set") ⟨o,q,H.set.1⟩ ?_)
 have e1:Builtin.List.listSameRef (.ref D) (.ref a)=false:=by simp[Builtin.List.listSameRef,ne]
 have e2:(Value.type "set"==Value.type "list")=false:=by decide
 have e3:(Value.type "set"==Value.type "tuple")=false:=by decide
 simp![e1,e2,e3,Bool.or_false,AQ,if_false]
 refine AA (Of q H (by lia) (λhm=>?_) λht ys d py=>?_)
 ·cases ht:w.params.followText "set-order" with
  |true =>
   refine go _ s.drawn _ _ _ _ (Cj hh (AR la) H ht) (by simp;exact⟨AR lD,ne⟩) (λb o z=>AB _ z) (AH _) (λh2 k=>⟨k a o (Ne.symm ne) (AB _ q),k _ _ (CJ lD) (AI _ rfl)⟩) λacc ha=>?_
   have pp:=o5 (w.params.setOrder a ep) es
   refine perm (tw (ord:=(pickOrder (w.params.setOrder a ep) es).toList.map (·.2)) ha (by rw[AG,pp.length_eq,AZ]) λi _=>by simp) (pp.map _)
  |false =>
   rcases hm with z | hp
   ·rw[ht]at z;exact absurd z (by decide)
   refine go _ s.drawn _ _ _ _ (yx hh (AR la) H ht hp) (by simp;exact⟨AR lD,ne⟩) (λb o z=>AB _ z) (AH _) (λh2 k=>⟨k a o (Ne.symm ne) (AB _ q),k _ _ (CJ lD) (AI _ rfl)⟩) λacc ha=>?_
   exact perm (tw (ord:=es.toList.map (·.2)) ha (by simp) λi _=>by simp) (.refl _)
 ·have hz:(s.heap.push {cls:=.type "tuple",data:=.seq (ys.map fun(i:Nat)=>rawInt i).toArray}).objs.size=s.heap.objs.size+1:=CM ..
  have sy:ys.length=es.size:=by simpa using py.length_eq
  refine go _ d _ _ _ _ (yy (A:=A.in1) (I:=s.heap.objs.size+1) (T:=s.heap.objs.size) (show A.in1.handled=none from hh) (AR (EB la)) (AR (GR _)) H py) (by simp;exact⟨AR (EB lD),ne,AR lD⟩) (λb o z=>AB _ (AB _ z)) (FY _)
   (λh2 k=>⟨k a o (Ne.symm ne) (AB _ (AB _ q)),k _ _ (CJ (EB lD)) (hz ▸ AI _ rfl),⟨_,k _ _ (CJ lD) (AB _ (AI _ rfl)),rfl,_,rfl⟩⟩) λacc ha=>?_
  refine perm (tw (ord:=ys.map λj=>(es.getD j (0,.none)).2) ha (by rw[AG];exact sy) λi hi=>?_) ?_
  ·have hi':i<ys.length:=by lia
   have hj:ys[i]<es.size:=by
    have:ys[i]∈List.range es.size:=py.mem_iff.mp (CO hi')
    simpa using this
   simp[hi',hj]
  ·have e:es.toList.map (·.2)=(List.range es.size).map λj=>(es.getD j (0,.none)).2:=by
    apply EX
    intro i
    by_cases hi:i<es.size
    ·simp[hi]
    ·simp[hi]
   rw[e]
   exact py.map _
end
section
variable{prog:Program}{w:World}{A:Around}{E:Value -> Shared -> Prop}{s:Shared}{a:Addr}{σ:List Int}
theorem o6 {o:Obj} {es:Array (Int×Value)} {ep:Nat} {t:SetTable} {Q:List Value->Shared->Prop} (hh:A.handled=none) (q:s.heap.get? a=some o) (H:Laid o es ep t (jn w)) (few:es.size<=sizeLine)
  (hQ:∀(h':Heap) tk d us,(∀b o,s.heap.get? b=some o->h'.get? b=some o)->s.heap.objs.size<h'.objs.size->us.Perm (es.toList.map (·.2))->Q us {s with heap:=h',toks:=tk,drawn:=d}):wpAny (model prog w) A (collect (.ref a)) Q E s:=by
 have la:a<s.heap.objs.size:=AJ q
 unfold collect
 refine AA (wpAny_runValue (DK PySem.F.entry_proto_collect ?_))
 rw[Do PySem.F.plain_proto_collect]
 show wpAny (model prog w) A.in1 (newList []>>=λz=>again (.builtin "list.__iadd__" ⟨[z,.ref a],[]⟩)) _ _ s
 refine AA (BN (AC ⟨GY IT _,DK PySem.F.entry_list_iadd ?_⟩))
 rw[Do IT]
 have qD:(s.heap.push {cls:=.type "list",data:=.seq ([]:List Value).toArray}).get? s.heap.objs.size=some {cls:=.type "list",dict:=none,data:=.seq #[] 0,slots:=#[]}:=AI _ rfl
 refine DV (Ck (A:=A) (s:={s with heap:=s.heap.push {cls:=.type "list",data:=.seq ([]:List Value).toArray}}) (R:=λr' s'=>r'=.ok (.ret (.ref s.heap.objs.size))/\∃(h':Heap) (tk:Nat) (d:Drawn) (acc:Array Value) (c':Nat),s'={s with heap:=h',toks:=tk,drawn:=d}/\(∀b o',s.heap.get? b=some o'->h'.get? b=some o') /\
   h'.get? s.heap.objs.size=some {cls:=.type "list",dict:=none,data:=.seq acc c',slots:=#[]}/\acc.toList.Perm (es.toList.map (·.2))) hh (AB _ q) H s.heap.objs.size (.ref s.heap.objs.size) qD (CJ la) few
   λh' tk d acc c' k q m=>⟨rfl,h',tk,d,acc,c',rfl,λb o z=>k b o (AR (AJ z)) (AB _ z),q,m⟩) (λfin s' h=>?_) λe s' h=>absurd h.1 (by simp)
 have fin':∀(r':Result) (s'':Shared),(r'=.ok (.ret (.ref s.heap.objs.size))/\∃(h':Heap) (tk:Nat) (d:Drawn) (acc:Array Value) (c':Nat),s''={s with heap:=h',toks:=tk,drawn:=d}/\(∀b o',s.heap.get? b=some o'->h'.get? b=some o') /\
   h'.get? s.heap.objs.size=some {cls:=.type "list",dict:=none,data:=.seq acc c',slots:=#[]}/\acc.toList.Perm (es.toList.map (·.2)))->wpAny (model prog w) A (match Value.ref s.heap.objs.size with
   |Value.ref a=>do
    match(<-load a).data with
     |Data.seq xs _=>pure xs.toList
     |_=>unsupported "internal:collect"
   |_=>unsupported "internal:collect") Q E s'':=by
  rintro r' s'' ⟨rfl,h',tk,d,acc,c',rfl,k,q,p⟩
  show wpAny (model prog w) A (load s.heap.objs.size>>=_) _ _ _
  exact AA (wpAny_load q (AC (hQ h' tk d _ k (AJ q) p)))
 cases fin with
 |done f =>
  have e:f=.ret (.ref s.heap.objs.size):=by have:=h.1;cases this;rfl
  subst e
  exact fin' _ _ h
 |again c'=>exact⟨h.1,EK h.2 λr' s'' hr=>by obtain⟨rfl,z⟩:=hr;exact fin' _ _ ⟨rfl,z⟩⟩
theorem Cm {Q:Value->Shared->Prop} (hh:A.handled=none) (hS:Cf prog w s.heap a σ (jn w)) (few:σ.length<64)
  (h:∀(h':Heap) tk d p out ns c,(∀b o,s.heap.get? b=some o->h'.get? b=some o)->s.heap.objs.size<=p->h'.get? p=some (seqObj "list" out c)->IntsAre out.toList ns->ns.Perm σ->ns.Pairwise (·<=·)->Q (.ref p) {s with heap:=h',toks:=tk,drawn:=d}) :
  wpAny (model prog w) A (call (.builtin "sorted") [.ref a]) Q E s:=by
 obtain⟨o,es,ep,t,q,H⟩:=hS
 obtain⟨vs,pv,iv⟩:=H.vals
 have small:es.size<=sizeLine:=by rw[CB,H.len];lia
 refine FC kind_sorted plain_sorted entry_sorted (args_sorted1 _) ?_
 unfold Builtin.«sorted»
 refine AA (m:=checkCount "sorted" 1 1 _) (AC (AA (o6 (show A.in1.handled=none from hh) q H.toLaid small λh1 tk d us k lz p0=>?_)))
 obtain⟨ms,i,p⟩:=Fc iv (p0.trans pv)
 have lu:us.length=σ.length:=by rw[tq i,p.length_eq]
 have sl:us.length<=sizeLine:=by rw[CB];lia
 refine AA (IK ?_ (by lia))
 have qL:(h1.push (seqObj "list" us.toArray 0)).get? h1.objs.size=some (seqObj "list" us.toArray 0):=AI _ rfl
 refine AA (BV (BI slot_list_sort ⟨_,qL,rfl⟩ JI (list_sort_tree (s:={s with heap:=h1.push (seqObj "list" us.toArray 0),toks:=tk,drawn:=d}) qL i (by lia) λout ns j1 j2 j3=>⟨_,rfl,?_⟩) (args_list_sort _)))
 obtain⟨c,qc⟩:∃c,(sortedHeap (h1.push (seqObj "list" us.toArray 0)) h1.objs.size us out).get? h1.objs.size=some (seqObj "list" out c) :=
  ⟨_,FP (AB _ (AB _ (FP qL λ_=>#[]))) λ_=>out⟩
 refine AC ⟨_,rfl,h _ tk d _ out ns c (λb o z=>?_) (DZ lz) qc j1 (j2.trans p) j3⟩
 have zb:b≠h1.objs.size:=AR (AJ (k b o z))
 unfold sortedHeap
 rw[CS _ _ _ _ zb]
 refine AB _ (AB _ ?_)
 rw[CS _ _ _ _ zb]
 exact AB _ (k b o z)
end
end Lp.Sets
namespace Lp
open PySem PySem.Spec PyProof.Rows L2
namespace Sets
theorem insI_perm(x:Int):∀l:List Int,(insI x l).Perm (x::l)
 | []=>.refl _
 |y::r=>by
  unfold insI
  split
  ·exact .refl _
  ·exact((insI_perm x r).cons y).trans (List.Perm.swap ..)
theorem sortI_perm:∀l:List Int,(sortI l).Perm l
 | []=>.refl _
 |x::r=>(insI_perm x (sortI r)).trans ((sortI_perm r).cons x)
theorem Fd(x:Int):∀l:List Int,l.Pairwise (·<=·)->(insI x l).Pairwise (·<=·)
 | [],_=>by simp[insI]
 |y::r,h=>by
  obtain⟨h1,h2⟩:=BA.mp h
  unfold insI
  split
  ·rename_i hc
   refine BA.mpr ⟨λz hz=>?_,h⟩
   rcases AN.mp hz with rfl | hz
   ·exact hc
   ·exact Int.le_trans hc (h1 z hz)
  ·rename_i hc
   refine BA.mpr ⟨λz hz=>?_,Fd x r h2⟩
   rcases AN.mp ((insI_perm x r).mem_iff.mp hz)with rfl | hz
   ·lia
   ·exact h1 z hz
theorem Aq:∀l:List Int,(sortI l).Pairwise (·<=·)
 | []=>.nil
 |x::r=>Fd x _ (Aq r)
theorem Fe:∀{l m:List Int},l.Perm m->l.Pairwise (·<=·)->m.Pairwise (·<=·)->l=m
 | [],m,p,_,_=>(List.nil_perm.mp p).symm
 |x::l,[],p,_,_=>by have:=p.length_eq;simp at this
 |x::l,y::m,p,h1,h2=>by
  obtain⟨a1,a2⟩:=BA.mp h1
  obtain⟨b1,b2⟩:=BA.mp h2
  have e:x=y:=by
   have hx:x∈y::m:=p.mem_iff.mp AM
   have hy:y∈x::l:=p.mem_iff.mpr AM
   rcases AN.mp hx with e | hx
   ·exact e
   ·rcases AN.mp hy with e | hy
    ·exact e.symm
    ·exact Int.le_antisymm (a1 y hy) (b1 x hx)
  subst e
  rw[Fe (KE p) a2 b2]
theorem mx(ns:List Int):firstMet (λi=>ns.getD i 0) ns.length=uo ns:=by
 unfold firstMet uo
 have e:(List.range ns.length).map (λi=>ns.getD i 0)=ns:=by
  apply EX
  intro i
  by_cases h:i<ns.length
  ·simp[h]
  ·simp[h]
 rw[e]
 rfl
theorem Og(ns:List Int):(uo ns).length<=ns.length:=by
 rw[<-mx];exact firstMet_length_le _ _
theorem vals_ints:∀{ns:List Int} {us:List Value},bo (ns.map V.int) us->IntsAre us ns
 | [],[],_=>.nil
 |n::r,u::us,h=>by
  cases h with
  |cons h1 h2 =>
   obtain⟨t,rfl⟩:=h1
   exact .cons n t (vals_ints h2)
 | [],u::us,h=>by cases h
 |n::r,[],h=>by cases h
theorem vz:∀{us:List Value} {ns:List Int},IntsAre us ns->bo (ns.map V.int) us
 |_,_,.nil=>.nil
 |_,_,.cons n t r=>.cons ⟨t,rfl⟩ (vz r)
theorem drew{X:Cx}{pins:List (Addr×Obj)}{σ:List (Option V)}{H:Hp}{s:Shared}{d:Drawn}(I:Inv X pins σ H s):Inv X pins σ H {s with drawn:=d} :=
 ⟨I.ok,I.os,I.bare,I.base,I.loc,I.cell,I.free,I.freeC,I.pin,I.hok,I.len⟩
end Sets
section
variable{X:Cx}{φ:Phi}{a:Expr}{xa:Ex}{p p2 pos pos2:Pos}{m:Mk}
noncomputable def Xf(K:PySem.W.Frag)(ta:TE)(k:List Int->Hp->VK->Prop):TE:=λσ H Q=>ta σ H λv H1=>∃(b:Addr) (ns:List Int),v=.ref b/\(LsL K H1 b (ns.map V.int)\/SqT K H1 b (ns.map V.int))/\ns.length<64/\k ns H1 Q
theorem Je{σv:St}{H:Hp}{Q:VK}(h:tE X.K φ (.blt .sortedSet m (.cons xa .nil)) σv H Q) :
  Xf X.K (tE X.K φ xa) (λns H Q=>∀q,H q=none->FQ Q (.ref q) (upd H q (.lst ((sortI (uo ns)).map V.int)))) σv H Q:=by
 obtain⟨ι,σ,μ,hS,hL,h⟩:=h
 simp![evE,fj]at h
 rw[Res.bind_assoc]at h
 obtain⟨d,μ1,e1,h⟩:=h.bind
 refine⟨ι,σ,μ,hS,hL,?_⟩
 rw[e1]
 intro ι1 v H1 p1 x1 s1 d1
 have h:=h.mono p1 x1
 simp![Res.bg]at h
 simp![btD,gu]at h
 obtain⟨b,ns,rfl,hq,h⟩:=Nw s1 d1 h
 split at h
 ·rename_i h64
  exact⟨b,ns,rfl,hq,h64,λq z=>i6 s1 (ah.ints _) h z⟩
 ·exact h.elim
theorem yz (hms:X.mg "sorted"=none) (hmt:X.mg "set"=none) (ha:PE X a (tE X.K φ xa)) (hgs:Gl X "sorted":=by rfl) (hgt:Gl X "set":=by rfl) (hc:X.calm=true:=by rfl)
  (hs:starEach [a] X.env=[(false,eval a X.env)]:=by rfl) (hs2:starEach [.Call (.Name "set" p2) [a] [] pos2] X.env=[(false,eval (.Call (.Name "set" p2) [a] [] pos2) X.env)]:=by rfl) :
  PE X (.Call (.Name "sorted" p) [.Call (.Name "set" p2) [a] [] pos2] [] pos) (tE X.K φ (.blt .sortedSet m (.cons xa .nil))):=by
 refine PE.imp (t:=Xf X.K (tE X.K φ xa) λns H Q=>∀q,H q=none->FQ Q (.ref q) (upd H q (.lst ((sortI (uo ns)).map V.int)))) ?_ λσv H Q h=>Je h
 intro pins s σ H Q I h
 refine DM (ko I hgs hms (by first | exact FJ | decide +kernel) ?_ (by decide) (by decide))
 refine EF ?_ hs2 rfl
 rw[hs2]
 refine DL ?_
 refine DM (ko I hgt hmt (by first | exact JR | decide +kernel) ?_ (by decide) (by decide))
 refine DB ?_ hs rfl
 rw[hs]
 refine DL (thn (ha pins s σ H _ I h) λu s1 ⟨v,H1,I1,r1,b,ns,ev,hq,h64,q⟩=>EA ?_)
 subst ev
 cases(show u=Value.ref b from r1)
 obtain⟨bb,its,hv,hsq⟩:∃(bb:Bool) (its:List Value),bo (ns.map V.int) its/\SQ bb s1.heap b its.toArray:=by
  rcases hq with hq | hq
  ·obtain⟨z,its,n,hv,hl,hg⟩:=I1.ls hq
   exact⟨true,its,hv,⟨_,hg,rfl,n,rfl⟩⟩
  ·obtain⟨its,hv,ht,hz⟩:=I1.tuple hq
   exact⟨false,its,hv,ht⟩
 have ln:its.length=ns.length:=by have:=hv.length;simpa using this.symm
 refine Sets.Jb (ns:=ns) (I1.ok.hd hc) hsq (by simpa using Sets.vals_ints hv) (by rw[AE];unfold scanBound;lia) λh1 tk1 hH k1=>EA ?_
 have hsz:its.toArray.size=ns.length:=by rw[AE];exact ln
 rw[hsz,Sets.mx]at hH
 have hd:=Sets.Og ns
 refine zy (Sets.Cm (s:={s1 with heap:=h1,toks:=tk1}) (I1.ok.hd hc) hH (by lia) λh2 tk2 d pq out ms c k2 lp qp i1 i2 i3=>?_)
 have e:ms=sortI (uo ns):=Sets.Fe (i2.trans (Sets.sortI_perm _).symm) i3 (Sets.Aq _)
 subst e
 have l1:s1.heap.objs.size<h1.objs.size:=by obtain⟨o,_,_,_,z,_⟩:=hH;exact AJ z
 have lp':s1.heap.objs.size<=pq:=by
  have:h1.objs.size<=pq:=lp
  lia
 have lz:(sortI (uo ns)).length<=ns.length:=by rw[(Sets.sortI_perm _).length_eq];exact hd
 have I2:=I1.laid (a:=pq) (o:=.lst ((sortI (uo ns)).map V.int)) (h':=h2) (t':=tk2) (λb o z=>k2 b o (k1 b o z)) lp' ⟨by rw[AG,CB];lia,out.toList,c,Sets.vz i1,by rw[JX];exact qp⟩
 exact⟨.ref pq,_,Sets.drew I2,rfl,q pq (I1.hok.fresh lp')⟩
end
end Lp
namespace Lp.Sets
open PySem PySem.W PyProof.Rows
noncomputable def Ry(m b:Nat):SetTable.Probe:={j:=b % (m+1),more:=SetTable.runEnd m (b % (m+1))-b % (m+1),i:=b % (m+1),perturb:=b,dummy:=none}
noncomputable def C6(m:Nat)(p:SetTable.Probe):SetTable.Probe :=
 if p.more > 0 then {p with j:=p.j+1,more:=p.more-1}else
 {p with j:=(SetTable.leap m p.i p.perturb).1,more:=SetTable.runEnd m (SetTable.leap m p.i p.perturb).1-(SetTable.leap m p.i p.perturb).1,i:=(SetTable.leap m p.i p.perturb).1,perturb:=(SetTable.leap m p.i p.perturb).2}
noncomputable def eg(m b:Nat):Nat->SetTable.Probe
 |0=>Ry m b
 |n+1=>C6 m (eg m b n)
noncomputable abbrev pos(m b n:Nat):Nat:=(eg m b n).j
theorem Rz(t:SetTable)(p:SetTable.Probe):t.advance p=C6 t.mask p:=by
 unfold SetTable.advance C6
 split<;>rfl
theorem rf(m b:Nat):∀n,(eg m b n).dummy=none
 |0=>rfl
 |n+1=>by
  have ih:=rf m b n
  show(C6 m (eg m b n)).dummy=none
  unfold C6
  split<;>exact ih
noncomputable def ja(m b:Nat):Nat->Nat×Nat
 |0=>(b % (m+1),b)
 |r+1=>SetTable.leap m (ja m b r).1 (ja m b r).2
noncomputable def O6(m:Nat)(x:Nat×Nat):SetTable.Probe:={j:=x.1,more:=SetTable.runEnd m x.1-x.1,i:=x.1,perturb:=x.2,dummy:=none}
theorem Jf(m i:Nat):SetTable.runEnd m i-i<=9:=by
 unfold SetTable.runEnd
 split<;>omega
theorem y0(m b:Nat)(x:Nat×Nat){n:Nat}(h:eg m b n=O6 m x):∀q,q<=SetTable.runEnd m x.1-x.1->eg m b (n+q)={O6 m x with j:=x.1+q,more:=SetTable.runEnd m x.1-x.1-q}
 |0,_=>by rw[Nat.add_zero,h];rfl
 |q+1,hq=>by
  have ih:=y0 m b x h q (by omega)
  show C6 m (eg m b (n+q))=_
  rw[ih]
  unfold C6
  rw[if_pos (by show SetTable.runEnd m x.1-x.1-q > 0;omega)]
  simp![SetTable.Probe.mk.injEq,and_true]
  show x.1+q+1=x.1+(q+1)/\SetTable.runEnd m x.1-x.1-q-1=SetTable.runEnd m x.1-x.1-(q+1)
  omega
theorem Ar(m b:Nat)(x:Nat×Nat){n:Nat}(h:eg m b n=O6 m x):eg m b (n+(SetTable.runEnd m x.1-x.1)+1)=O6 m (SetTable.leap m x.1 x.2):=by
 show C6 m (eg m b (n+(SetTable.runEnd m x.1-x.1)))=_
 rw[y0 m b x h _ (AH _)]
 unfold C6
 rw[if_neg (by show ¬(SetTable.runEnd m x.1-x.1-(SetTable.runEnd m x.1-x.1) > 0);omega)]
 rfl
theorem Kx(m b:Nat):∀r,∃n,n<=10*r/\eg m b n=O6 m (ja m b r)
 |0=>⟨0,by omega,rfl⟩
 |r+1=>by
  obtain⟨n,hn,e⟩:=Kx m b r
  have:=Jf m (ja m b r).1
  exact⟨_,by omega,Ar m b _ e⟩
theorem my(m:Nat){b:Nat}(hb:b<2 ^ 64):∀r,(ja m b r).2*32 ^ r<=b
 |0=>by simp[ja]
 |r+1=>by
  have ih:=my m hb r
  show(ja m b r).2 / 32*32 ^ (r+1)<=b
  refine CI ?_ ih
  rw[Nat.pow_succ,Nat.mul_comm (32 ^ r) 32,<-Nat.mul_assoc]
  exact Nat.mul_le_mul_right _ (Nat.div_mul_le_self _ _)
theorem wa(m:Nat){b:Nat}(hb:b<2 ^ 64)(r:Nat):(ja m b (13+r)).2=0:=by
 have h:=my m hb (13+r)
 rcases Nat.eq_zero_or_pos (ja m b (13+r)).2 with z | z
 ·exact z
 ·have h1:1*32 ^ (13+r)<=(ja m b (13+r)).2*32 ^ (13+r):=Nat.mul_le_mul_right _ z
  have h2:32 ^ 13<=32 ^ (13+r):=Nat.pow_le_pow_right (by decide) (by omega)
  have h3:2 ^ 64<32 ^ 13:=by decide
  omega
noncomputable def Oh(m i:Nat):Nat:=(i*5+1) % (m+1)
noncomputable def o7(m:Nat):Nat->Nat->Nat
 |0,i=>i
 |k+1,i=>o7 m k (Oh m i)
theorem k9(m:Nat):∀a c i,o7 m (a+c) i=o7 m c (o7 m a i)
 |0,c,i=>by rw[Nat.zero_add];rfl
 |a+1,c,i=>by rw[Nat.succ_add];exact k9 m a c (Oh m i)
theorem As(m:Nat){b:Nat}(hb:b<2 ^ 64):∀k,(ja m b (13+k)).1=o7 m k (ja m b 13).1
 |0=>rfl
 |k+1=>by
  have ih:=As m hb k
  rw[k9 m k 1]
  show((ja m b (13+k)).1*5+1+(ja m b (13+k)).2 / 32) % (m+1)=Oh m (o7 m k (ja m b 13).1)
  rw[wa m hb k,ih];rfl
noncomputable def Mask(m:Nat):Prop:=m=7\/m=31\/m=127
noncomputable def Oi(m:Nat):Bool:=((List.range (m+1)).all λj=>(List.range (m+1)).any λk=>o7 m k 0==j)&&o7 m (m+1) 0==0
theorem Au{m:Nat}(h:Mask m):Oi m=true:=by
 rcases h with rfl | rfl | rfl<;>decide +kernel
theorem wb{m:Nat}(h:Mask m){j:Nat}(hj:j<=m):∃k,k<=m/\o7 m k 0=j:=by
 have o:=Au h
 unfold Oi at o
 rw[AX,AW]at o
 have:=o.1 j (by simpa using Nat.lt_succ_of_le hj)
 rw[DU]at this
 obtain⟨k,hk,e⟩:=this
 exact⟨k,by simpa[Nat.lt_succ_iff]using hk,by simpa using e⟩
theorem round{m:Nat}(h:Mask m):o7 m (m+1) 0=0:=by
 have o:=Au h
 unfold Oi at o
 rw[AX]at o
 simpa using o.2
theorem Jg{m:Nat}(h:Mask m){i j:Nat}(hi:i<=m)(hj:j<=m):∃k,k<=m/\o7 m k i=j:=by
 obtain⟨a,ha,e1⟩:=wb h hi
 obtain⟨c,hc,e2⟩:=wb h hj
 by_cases hac:a<=c
 ·refine⟨c-a,by omega,?_⟩
  rw[<-e1,<-k9,show a+(c-a)=c by omega,e2]
 ·refine⟨m+1-a+c,by omega,?_⟩
  rw[<-e1,<-k9,show a+(m+1-a+c)=(m+1)+c by omega,k9,round h,e2]
theorem R0(m b r:Nat):(ja m b r).1<=m:=by
 cases r with
 |zero=>exact GJ (HU _ (JC _))
 |succ r=>exact GJ (HU _ (JC _))
theorem wc{m b:Nat}(h:Mask m)(hb:b<2 ^ 64){j:Nat}(hj:j<=m):∃r,r<=m+13/\(ja m b r).1=j:=by
 obtain⟨k,hk,e⟩:=Jg h (R0 m b 13) hj
 exact⟨13+k,by omega,by rw[As m hb,e]⟩
theorem cover{m b:Nat}(h:Mask m)(hb:b<2 ^ 64){j:Nat}(hj:j<=m):∃n,n<10*(m+15)/\pos m b n=j:=by
 obtain⟨r,hr,e⟩:=wc h hb hj
 obtain⟨n,hn,en⟩:=Kx m b r
 refine⟨n,by omega,?_⟩
 show(eg m b n).j=j
 rw[en];exact e
theorem Ff(h:Int):SetTable.bits h<2 ^ 64:=by
 unfold SetTable.bits
 have h1:=CY h (show(2 ^ 64:Int)≠0 by decide)
 have h2:=CG h (show(0:Int)<2 ^ 64 by decide)
 omega
noncomputable def Reach(m:Nat)(occ:Nat->Prop)(b j:Nat):Prop:=∃n,pos m b n=j/\∀k,k<n->occ (pos m b k)
theorem Reach.mono{m b j:Nat}{occ occ':Nat->Prop}(h:Reach m occ b j)(o:∀k,occ k->occ' k):Reach m occ' b j:=by
 obtain⟨n,e,q⟩:=h
 exact⟨n,e,λk hk=>o _ (q k hk)⟩
theorem least(P:Nat->Prop):∀n,¬P n->∃k,k<=n/\¬P k/\∀q,q<k->P q:=by
 classical
 intro n
 induction n using Nat.strongRecOn with
 |_ n ih =>
  intro h
  by_cases hq:∀q,q<n->P q
  ·exact⟨n,AH _,h,hq⟩
  ·obtain⟨q,hq⟩:=Classical.not_forall.mp hq
   obtain⟨h1,h2⟩:=Classical.not_imp.mp hq
   obtain⟨k,a,b,c⟩:=ih q h1 h2
   exact⟨k,by omega,b,c⟩
theorem Co{m b:Nat}(h:Mask m)(hb:b<2 ^ 64){occ:Nat->Prop}{j:Nat}(hj:j<=m)(hn:¬occ j):∃n,n<10*(m+15)/\¬occ (pos m b n)/\∀k,k<n->occ (pos m b k):=by
 obtain⟨n0,h0,e0⟩:=cover h hb hj
 obtain⟨k,h1,h2,h3⟩:=least (λn=>occ (pos m b n)) n0 (by rw[e0];exact hn)
 exact⟨k,by omega,h2,h3⟩
theorem t4{t:SetTable}{l:Bool}(T:Tidy t l){j:Nat}(h:j∈t.place.toList):t.place[SetTable.below t.place j]? = some j:=by
 obtain⟨i,hi,e⟩:=FF h
 have hi':i<t.place.size:=by simpa using hi
 obtain⟨h1,h2,h3⟩:=ke T.rose j
 have ei:t.place.getD i 0=j:=by simpa[hi']using e
 have a:SetTable.below t.place j<=i:=by
  rcases FB i (SetTable.below t.place j)with q | q
  ·have:=h2 i q;omega
  ·exact q
 have hb:SetTable.below t.place j<t.place.size:=by omega
 have c:=h3 _ (AH _) hb
 have d:SetTable.below t.place j=i:=by
  rcases FB (SetTable.below t.place j) i with q | q
  ·have:=T.rose _ _ q hi';omega
  ·omega
 rw[d,BS hi']
 simpa[hi']using ei
theorem we{t:SetTable}{l:Bool}(T:Tidy t l){j:Nat}(h:j∈t.place.toList):t.slot j=.live (SetTable.below t.place j):=by
 unfold SetTable.slot
 simp![t4 T h,beq_self_eq_true,if_true]
theorem Cq{t:SetTable}{l:Bool}(T:Tidy t l){j:Nat}(h:j∉t.place.toList):t.slot j=.empty:=by
 have hn:t.place[SetTable.below t.place j]?≠some j:=λe=>h (by
  obtain⟨a,b⟩:=DI.mp e
  rw[<-b];simp)
 unfold SetTable.slot
 rw[T.none]
 have:(t.place[SetTable.below t.place j]?==some j)=false:=by simpa using hn
 simp![this,has_none,AQ,if_false]
theorem Kz{t:SetTable}{l:Bool}(T:Tidy t l)(hashAt:Nat->Int)(h:Int){b N:Nat}(hN:pos t.mask b N∉t.place.toList)(hocc:∀k,k<N->pos t.mask b k∈t.place.toList):∀d n f,n+d=N->d<f ->
  (SetTable.probe.go t hashAt h f (eg t.mask b n)=some (.empty (pos t.mask b N) none)/\∀q,n<=q->q<N->hashAt (SetTable.below t.place (pos t.mask b q))≠h) \/
  ∃k,n<=k/\k<N/\hashAt (SetTable.below t.place (pos t.mask b k))=h/\(∀q,n<=q->q<k->hashAt (SetTable.below t.place (pos t.mask b q))≠h)/\SetTable.probe.go t hashAt h f (eg t.mask b n)=some (.candidate (pos t.mask b k) (SetTable.below t.place (pos t.mask b k)) (eg t.mask b (k+1)))
 |0,n,f+1,e,hf=>by
  have e:n=N:=by omega
  subst e
  left
  refine⟨?_,λq h1 h2=>by omega⟩
  unfold SetTable.probe.go
  rw[Cq T hN]
  dsimp only
  rw[rf]
 |d+1,n,f+1,e,hf=>by
  have hn:=hocc n (by omega)
  have go1:SetTable.probe.go t hashAt h (f+1) (eg t.mask b n)=if(hashAt (SetTable.below t.place (pos t.mask b n))==h)=true then some (.candidate (pos t.mask b n) (SetTable.below t.place (pos t.mask b n)) (eg t.mask b (n+1)))else SetTable.probe.go t hashAt h f (eg t.mask b (n+1)):=by
   rw[SetTable.probe.go,we T hn]
   dsimp only
   rw[Rz];rfl
  rw[go1]
  by_cases q:hashAt (SetTable.below t.place (pos t.mask b n))=h
  ·right
   refine⟨n,AH _,by omega,q,λq' h1 h2=>by omega,?_⟩
   rw[if_pos (by simpa using q)]
  ·rw[if_neg (by simpa using q)]
   rcases Kz T hashAt h hN hocc d (n+1) f (by omega) (by omega)with⟨g1,g2⟩ | ⟨k,k1,k2,k3,k4,k5⟩
   ·left
    refine⟨g1,λq' h1 h2=>?_⟩
    rcases HW h1 with z | z
    ·rw[<-z];exact q
    ·exact g2 q' z h2
   ·right
    refine⟨k,by omega,k2,k3,λq' h1 h2=>?_,k5⟩
    rcases HW h1 with z | z
    ·rw[<-z];exact q
    ·exact k4 q' z h2
noncomputable def rg(m:Nat)(pl:List Nat)(hs:List Int):Prop:=∀q∈pl.zip hs,Reach m (·∈pl) (SetTable.bits q.2) q.1
theorem Cr{α β:Type}{as:List α}{bs:List β}(h:as.length=bs.length)(p:Nat)(a:α)(b:β):(as.take p++a::as.drop p).zip (bs.take p++b::bs.drop p)=(as.take p).zip (bs.take p)++(a,b)::(as.drop p).zip (bs.drop p):=by
 rw[List.zip_append (by simp[h])];rfl
theorem o8{α β:Type}{as:List α}{bs:List β}(h:as.length=bs.length)(p:Nat){q:α×β}(hq:q∈(as.take p).zip (bs.take p)\/q∈(as.drop p).zip (bs.drop p)):q∈as.zip bs:=by
 have:as.zip bs=(as.take p).zip (bs.take p)++(as.drop p).zip (bs.drop p):=by
  rw[<-List.zip_append (by simp[h]),EV,EV]
 rw[this]
 exact BB.mpr hq
theorem Jh{m:Nat}{pl:List Nat}{hs:List Int}(P:rg m pl hs)(hl:pl.length=hs.length){j:Nat}{h:Int}(R:Reach m (·∈pl) (SetTable.bits h) j)(p:Nat):rg m (pl.take p++j::pl.drop p) (hs.take p++h::hs.drop p):=by
 have mem:∀k,k∈pl->k∈pl.take p++j::pl.drop p:=λk hk=>by
  rw[<-EV p pl]at hk
  rcases BB.mp hk with z | z
  ·exact Ev _ z
  ·exact BP _ (AF _ z)
 intro q hq
 rw[Cr hl]at hq
 rcases BB.mp hq with z | z
 ·exact(P q (o8 hl p (.inl z))).mono mem
 ·rcases AN.mp z with rfl | z
  ·exact R.mono mem
  ·exact(P q (o8 hl p (.inr z))).mono mem
noncomputable def Occ(owner:Array (Option Nat))(j:Nat):Prop:=owner.getD j (some 0)≠none
theorem Av{m:Nat}(owner:Array (Option Nat))(b:Nat):∀f r n,eg m b n=O6 m (ja m b r)->(∀k,k<n->Occ owner (pos m b k))->(∃r',r<=r'/\r'<r+f/\¬Occ owner (ja m b r').1) ->
  ∃N,SetTable.layClean.free m owner f (ja m b r).1 (ja m b r).2=some (pos m b N)/\¬Occ owner (pos m b N)/\∀k,k<N->Occ owner (pos m b k)
 |0,r,n,_,_,⟨r',h1,h2,_⟩=>by omega
 |f+1,r,n,e,hocc,⟨r',h1,h2,h3⟩=>by
  have ar:=y0 m b (ja m b r) e
  have pq:∀q,q<=SetTable.runEnd m (ja m b r).1-(ja m b r).1->pos m b (n+q)=(ja m b r).1+q:=λq hq=>by
   show(eg m b (n+q)).j=_
   rw[ar q hq]
  have hlen:SetTable.runEnd m (ja m b r).1+1-(ja m b r).1=SetTable.runEnd m (ja m b r).1-(ja m b r).1+1:=by
   have:(ja m b r).1<=SetTable.runEnd m (ja m b r).1:=by unfold SetTable.runEnd;split<;>omega
   omega
  rw[SetTable.layClean.free]
  cases ef:(List.range (SetTable.runEnd m (ja m b r).1+1-(ja m b r).1)).find? λk=>(owner.getD ((ja m b r).1+k) (some 0)).isNone with
  |some k =>
   rw[List.find?_range_eq_some]at ef
   obtain⟨g1,g2,g3⟩:=ef
   have hk:k<=SetTable.runEnd m (ja m b r).1-(ja m b r).1:=by
    have:=CK.mp g2;omega
   refine⟨n+k,by dsimp only;rw[pq k hk],?_,λq hq=>?_⟩
   ·rw[pq k hk];intro z;apply z;simpa using g1
   ·rcases FB q n with z | z
    ·exact hocc q z
    ·have:=g3 (q-n) (by omega)
     have ep:=pq (q-n) (by omega)
     rw[show n+(q-n)=q by omega]at ep
     rw[ep]
     intro zz
     rw[zz]at this
     simp at this
  |none =>
   dsimp only
   rw[List.find?_range_eq_none]at ef
   have nx:=Ar m b (ja m b r) e
   have oc:∀q,q<=SetTable.runEnd m (ja m b r).1-(ja m b r).1->Occ owner (pos m b (n+q)):=λq hq=>by
    rw[pq q hq]
    have:=ef q (by omega)
    intro zz
    rw[zz]at this
    simp at this
   refine Av owner b f (r+1) _ nx (λk hk=>?_) ⟨r',?_,by omega,h3⟩
   ·rcases FB k n with z | z
    ·exact hocc k z
    ·have:=oc (k-n) (by omega)
     rwa [show n+(k-n)=k by omega]at this
   ·rcases HW h1 with z | z
    ·exfalso
     apply h3
     rw[<-z]
     have:=oc 0 (CU _)
     rwa [pq 0 (CU _),Nat.add_zero]at this
    ·exact z
structure Own (m:Nat) (owner:Array (Option Nat)) (done:List Int):Prop where
 size:owner.size=m+1
 perm:(owner.toList.filterMap id).Perm (List.range done.length)
 way:∀(j i:Nat),owner[j]? = some (some i)->∃h,done[i]? = some h/\Reach m (Occ owner) (SetTable.bits h) j
theorem Fg{owner:Array (Option Nat)}{j:Nat}(hj:j<owner.size):¬Occ owner j↔owner[j]? = some none:=by
 unfold Occ
 simp[hj]
theorem K0(k:Nat):∀(l:List (Option Nat)) (j:Nat),l[j]? = some none->((l.set j (some k)).filterMap id).Perm (k::l.filterMap id)
 | [],j,h=>by simp at h
 |x::l,0,h=>by
  have:x=none:=by simpa using h
  subst this
  simp
 |x::l,j+1,h=>by
  have ih:=K0 k l j (by simpa using h)
  cases x with
  |none=>simpa using ih
  |some y =>
   simp![FT,FK (show id (some y)=some y from rfl)]
   exact(ih.cons y).trans (List.Perm.swap k y _)
theorem K1:∀(l:List (Option Nat)),(∀x∈l,x≠none)->(l.filterMap id).length=l.length
 | [],_=>rfl
 |none::l,h=>absurd rfl (h none AM)
 |some y::l,h=>by
  rw[FK (show id (some y)=some y from rfl),AT,AT,K1 l λx hx=>h x (AF _ hx)]
theorem Ji{m:Nat}{owner:Array (Option Nat)}{done:List Int}(O:Own m owner done)(hd:done.length<=m):∃j,j<=m/\¬Occ owner j:=by
 apply CP
 intro hn
 have all:∀x∈owner.toList,x≠none:=λx hx z=>by
  subst z
  obtain⟨j,hj,e⟩:=FF hx
  have hj':j<owner.size:=by simpa using hj
  exact hn ⟨j,by have:=O.size;omega,(Fg hj').mpr (by rw[BS hj'];simpa using e)⟩
 have h1:=K1 _ all
 have h2:=O.perm.length_eq
 have h3:=O.size
 simp![AZ,EY]at h1 h2
 omega
theorem Jj{m:Nat}(hm:Mask m){owner:Array (Option Nat)}{done:List Int}(O:Own m owner done)(hd:done.length<=m)(h:Int) :
  ∃j,SetTable.layClean.free m owner (SetTable.turns m) (SetTable.bits h % (m+1)) (SetTable.bits h)=some j/\Own m (owner.setIfInBounds j (some done.length)) (done++[h]):=by
 obtain⟨j0,hj0,ho⟩:=Ji O hd
 obtain⟨r,hr,er⟩:=wc hm (Ff h) hj0
 obtain⟨N,e1,e2,e3⟩:=Av owner (SetTable.bits h) (SetTable.turns m) 0 0 rfl (λk hk=>absurd hk (Nat.not_lt_zero _)) ⟨r,CU _,by unfold SetTable.turns;omega,by rw[er];exact ho⟩
 have hin:pos m (SetTable.bits h) N<owner.size:=by
  apply CP
  intro z
  apply e2
  unfold Occ
  simp[z]
 have hnone:=(Fg hin).mp e2
 have eo:∀k,Occ owner k->Occ (owner.setIfInBounds (pos m (SetTable.bits h) N) (some done.length)) k:=λk hk=>by
  unfold Occ at hk ⊢
  by_cases z:pos m (SetTable.bits h) N=k
  ·subst z;simp[hin]
  ·simp![HL,HH,z,if_false]at hk ⊢
   exact hk
 refine⟨_,e1,⟨by simp[O.size],?_,λj i hji=>?_⟩⟩
 ·rw[Array.toList_setIfInBounds]
  refine(K0 done.length owner.toList _ (by simpa using hnone)).trans ?_
  rw[AY,ES,List.range_succ]
  exact(O.perm.cons _).trans (JS (l₁:=[done.length]) (l₂:=List.range done.length))
 ·rw[HH]at hji
  split at hji
  ·rename_i z
   have:done.length=i:=by simpa using hji
   subst this
   refine⟨h,by simp,N,z,λk hk=>eo _ (e3 k hk)⟩
  ·obtain⟨h',d1,d2⟩:=O.way j i hji
   have:=(AL.mp d1).1
   exact⟨h',by rw[AV this];exact d1,d2.mono eo⟩
theorem rh{m:Nat}(hm:Mask m):∀(hs:List Int) {owner:Array (Option Nat)} {done:List Int},Own m owner done->done.length+hs.length<=m ->
  ∃owner',hs.foldl (init:=some (owner,done.length)) (λacc h=>do
   let (owner,k) <-acc
   let j <-SetTable.layClean.free m owner (SetTable.turns m) (SetTable.bits h % (m+1)) (SetTable.bits h)
   pure (owner.setIfInBounds j (some k),k+1))=some (owner',done.length+hs.length)/\Own m owner' (done++hs)
 | [],owner,done,O,_=>⟨owner,rfl,by rw[JD];exact O⟩
 |h::hs,owner,done,O,hl=>by
  simp![AT]at hl
  obtain⟨j,e1,O2⟩:=Jj hm O (by omega) h
  obtain⟨owner',e2,O3⟩:=rh hm hs O2 (by simp;omega)
  refine⟨owner',?_,by simpa using O3⟩
  rw[EM]
  simp![FE,DT,e1,HG]
  simp![FE,HG,AY,ES]at e2
  rw[e2,AT]
  congr 2
  omega
theorem Fh(m:Nat):Own m (Array.replicate (m+1) none) []:=by
 refine⟨by simp,?_,λj i h=>?_⟩
 ·have:((Array.replicate (m+1) (none:Option Nat)).toList.filterMap id)=[]:=by
   simp[List.filterMap_eq_nil_iff]
  rw[this];exact .nil
 ·rw[Array.getElem?_replicate]at h
  split at h<;>simp at h
theorem Jk{m:Nat}(hm:Mask m)(hs:Array Int)(hl:hs.size<=m):∃owner,SetTable.layClean m hs=some owner/\Own m owner hs.toList:=by
 obtain⟨owner,e,O⟩:=rh hm hs.toList (Fh m) (by simpa using hl)
 refine⟨owner,?_,by simpa using O⟩
 unfold SetTable.layClean
 rw[<-Array.foldl_toList]
 rw[show((Array.replicate (m+1) (none:Option Nat),0):Array (Option Nat)×Nat)=(Array.replicate (m+1) none,([]:List Int).length)from rfl,e]
 rfl
theorem Fi{m i:Nat}(h:i<=m):i+(SetTable.runEnd m i-i)<=m:=by
 unfold SetTable.runEnd
 split<;>omega
theorem Fj(m b:Nat):∀n,(eg m b n).j+(eg m b n).more<=m
 |0=>Fi (GJ (HU _ (JC _)))
 |n+1=>by
  have ih:=Fj m b n
  show(C6 m (eg m b n)).j+(C6 m (eg m b n)).more<=m
  unfold C6
  split
  ·show(eg m b n).j+1+((eg m b n).more-1)<=m
   omega
  ·exact Fi (GJ (HU _ (JC _)))
theorem R1(m b n:Nat):pos m b n<=m:=by
 have:=Fj m b n
 show(eg m b n).j<=m
 omega
theorem Reach.mono2{m b j:Nat}{occ occ':Nat->Prop}(h:Reach m occ b j)(o:∀k,k<=m->occ k->occ' k):Reach m occ' b j:=by
 obtain⟨n,e,q⟩:=h
 exact⟨n,e,λk hk=>o _ (R1 m b k) (q k hk)⟩
theorem K2{α β:Type}{f:α->Option β}{g:α->β}:∀{l:List α},(∀x∈l,f x=some (g x))->l.filterMap f=l.map g
 | [],_=>rfl
 |x::l,h=>by
  rw[FK (h x AM),AO,K2 λy hy=>h y (AF _ hy)]
theorem Aw{α β γ:Type}(f:α->β)(g:α->γ):∀l:List α,(l.map f).zip (l.map g)=l.map λx=>(f x,g x)
 | []=>rfl
 |x::l=>by simp![AO,CZ,Aw f g l]
theorem laid_ok{m:Nat}(hm:Mask m)(es:Array (Int×Value))(hl:es.size<=m)(fg mv:Nat)(led pl:Bool):∃(t':SetTable) (order:Array Nat),SetTable.laid m fg mv led pl (es.map (·.1))=some (t',order)/\t'.mask=m/\Tidy t' led/\t'.moves=mv/\t'.place.size=es.size /\
  (order.filterMap (es[·]?)).size=es.size/\(order.filterMap (es[·]?)).toList.Perm es.toList/\rg m t'.place.toList ((order.filterMap (es[·]?)).toList.map (·.1)):=by
 obtain⟨owner,e,O⟩:=Jk hm (es.map (·.1)) (by simpa using hl)
 obtain⟨live,hlive⟩:∃live,live=(List.range (m+1)).filterMap λj=>(owner.getD j none).map (j,·):=⟨_,rfl⟩
 have mem:∀j k,(j,k)∈live↔j<=m/\owner[j]? = some (some k):=λj k=>by
  rw[hlive,HN]
  constructor
  ·rintro⟨j',hj',e'⟩
   obtain⟨k',h1,h2⟩:=DS.mp e'
   cases h2
   have hj:j<owner.size:=by have:=O.size;have:=CK.mp hj';omega
   refine⟨by have:=CK.mp hj';omega,?_⟩
   simpa[hj]using h1
  ·rintro⟨hj,e'⟩
   have hj2:j<owner.size:=by have:=O.size;omega
   refine⟨j,CK.mpr (by omega),?_⟩
   have:owner.getD j none=some k:=by simpa[hj2]using e'
   rw[this];rfl
 have snd:live.map (·.2)=owner.toList.filterMap id:=by
  have eo:owner.toList=(List.range (m+1)).map λj=>owner.getD j none:=by
   refine List.ext_getElem (by simp[O.size]) λi h1 h2=>?_
   have hi:i<owner.size:=by simpa using h1
   simp[hi]
  rw[hlive,eo,List.map_filterMap,List.filterMap_map]
  congr 1
  funext j
  show Option.map (·.2) (Option.map (λx=>(j,x)) (owner.getD j none))=owner.getD j none
  cases owner.getD j none<;>rfl
 have pr:(live.map (·.2)).Perm (List.range es.size):=by
  rw[snd]
  have:=O.perm
  simpa using this
 have inr:∀k∈live.map (·.2),k<es.size:=λk hk=>by simpa using pr.mem_iff.mp hk
 have lenL:live.length=es.size:=by have:=pr.length_eq;simpa using this
 have ees:((live.map (·.2)).toArray.filterMap (es[·]?)).toList=live.map λq=>es.getD q.2 (0,.none):=by
  rw[Array.toList_filterMap]
  rw[K2 (g:=λk=>es.getD k (0,.none)) λk hk=>by
   have:=inr k hk
   simp[this]]
  rw[BU];rfl
 refine⟨{mask:=m,place:=(live.map (·.1)).toArray,dummies:=#[],finger:=fg,led:=led,moves:=mv,plain:=pl},(live.map (·.2)).toArray,?_,rfl,⟨?_,rfl,rfl⟩,rfl,?_,?_,?_,?_⟩
 ·unfold SetTable.laid
  rw[e]
  simp![FE,DT,HG,hlive]
 ·rw[jm]
  dsimp only
  rw[IE,hlive]
  refine IQ _ (R:=(· < ·)) ?_ GG
  intro a a' hlt b hb b' hb'
  simp![Option.mem_def,DS]at hb hb'
  obtain⟨_,_,rfl⟩:=hb
  obtain⟨_,_,rfl⟩:=hb'
  exact hlt
 ·simp[lenL]
 ·rw[<-AZ,ees];simp[lenL]
 ·rw[ees,show(live.map λq=>es.getD q.2 (0,.none))=(live.map (·.2)).map λk=>es.getD k (0,.none)by rw[BU];rfl]
  refine(pr.map _).trans (List.Perm.of_eq ?_)
  refine List.ext_getElem (by simp) λi h1 h2=>?_
  have hi:i<es.size:=by simpa using h2
  simp[hi]
 ·dsimp only
  rw[ees,BU]
  intro q hq
  rw[Aw]at hq
  obtain⟨⟨j,k⟩,hx,rfl⟩:=BJ.mp hq
  obtain⟨hj,ho⟩:=(mem j k).mp hx
  obtain⟨h,d1,d2⟩:=O.way j k ho
  have hk:k<es.size:=inr k (BJ.mpr ⟨_,hx,rfl⟩)
  have eh:(es.getD k (0,.none)).1=h:=by simpa[hk]using d1
  dsimp only[Function.comp]
  rw[eh]
  refine d2.mono2 λp hp hocc=>?_
  have hp2:p<owner.size:=by have:=O.size;omega
  unfold Occ at hocc
  cases ev:owner[p]? with
  |none=>simp[hp2]at ev
  |some v =>
   cases v with
   |none =>
    exfalso
    apply hocc
    simpa[hp2]using ev
   |some k' =>
    exact BJ.mpr ⟨(p,k'),(mem p k').mpr ⟨hp,ev⟩,rfl⟩
theorem R3{t:SetTable}{l:Bool}(T:Tidy t l){m:Nat}(h:t.place.size<=m):∃j,j<=m/\j∉t.place.toList:=by
 apply CP
 intro hn
 have sub:(List.range (m+1)) ⊆ t.place.toList:=λj hj=>by
  apply CP
  intro z
  exact hn ⟨j,by have:=CK.mp hj;omega,z⟩
 have:=List.nodup_range.length_le_of_subset sub
 simp at this
 omega
open PySem PySem.W PyProof.Rows PySem.Calls
section
variable{prog:Program}{w:World}{A:Around}{E:Value -> Shared -> Prop}{s:Shared}
noncomputable abbrev tki(prog:Program)(w:World):HeapKind prog w (List Int):=tupleKind (intKind prog w)
theorem Cs(n:Nat){v:Value}(h:carriedByValue v=true):ofAClassStatement n v=pure false:=by
 cases v with
 |ref a=>simp[carriedByValue]at h
 |_=>cases n<;>rfl
theorem o9(n:Nat){ks:List Int}{a:Addr}{Q:Bool->Shared->Prop}(hk:(tki prog w).is s.heap ks a)(h:Q false s):wpAny (model prog w) A (ofAClassStatement (n+1) (.ref a)) Q E s:=by
 have hT:=KG hk
 obtain⟨o,items,m,ho,hc,hd,hi⟩:=hk
 unfold ofAClassStatement
 refine AA (GB hT ?_)
 dsimp only
 refine AA ?_
 refine AC ?_
 simp![ER,AQ,if_false]
 refine AA (CN ho hd ?_)
 dsimp only
 refine AA ?_
 rw[<-Array.forIn_toList]
 refine EG _ (λrest r s'=>r.1=none/\s'=s/\∀v∈rest,carriedByValue v=true) _ ?_ ?_ _ _ ⟨rfl,rfl,hi.byValue⟩
 ·rintro v rest r s' ⟨hr,rfl,hall⟩
  rw[Cs _ (hall v AM)]
  refine AA (AC ?_)
  simp![AQ,if_false]
  exact AC ⟨rfl,rfl,λu hu'=>hall u (AF _ hu')⟩
 ·rintro⟨r1,r2⟩ s' ⟨hr,rfl,_⟩
  simp only at hr
  subst hr
  exact AC h
theorem Jl{ks:List Int}{a:Addr}{stored:List Value}{Q:Bool->Shared->Prop}(hk:(tki prog w).is s.heap ks a)(hst:∀v∈stored,∃k' b,v=.ref b/\(tki prog w).is s.heap k' b)(h:Q false s):wpAny (model prog w) A (searchCouldBeSeen (.ref a) stored) Q E s:=by
 unfold searchCouldBeSeen
 refine AA ?_
 refine EG _ (λrest r s'=>s'=s/\r=(none,())/\∀v∈rest,∃k' b,v=.ref b/\(tki prog w).is s.heap k' b) _ ?_ ?_ _ _ ⟨rfl,rfl,hst⟩
 ·rintro x rest r s' ⟨rfl,rfl,hr⟩
  obtain⟨k',b,rfl,hb⟩:=hr x AM
  dsimp only
  split
  ·exact AC ⟨rfl,rfl,λv hv=>hr v (AF _ hv)⟩
  ·refine AA ((tki prog w).quiet hk ?_)
   simp![ER,AQ,if_false]
   refine AA ((tki prog w).quiet hb ?_)
   simp![ER,AQ,if_false]
   refine AA (o9 7 hk ?_)
   simp![AQ,if_false]
   refine AA (o9 7 hb ?_)
   simp![AQ,if_false]
   exact AC ⟨rfl,rfl,λv hv=>hr v (AF _ hv)⟩
 ·rintro r s' ⟨rfl,rfl,_⟩
  exact AC h
theorem Jm{ks:List Int}{a:Addr}{Q:Bool->Shared->Prop}(hk:(tki prog w).is s.heap ks a)(h:Q true s):wpAny (model prog w) A (hashByValue 8 (.ref a)) Q E s:=by
 have hT:=KG hk
 obtain⟨o,items,m,ho,hc,hd,hi⟩:=hk
 unfold hashByValue
 refine AA (wpAny_specialOf hT F.slot_tuple_hash.lookup ?_)
 dsimp only
 refine AA (CN ho hd ?_)
 refine AA ?_
 show wpAny _ _ (forIn items _ _) _ _ s
 rw[<-Array.forIn_toList]
 have hint:∀v∈items.toList,hashByValue 7 v=pure true:=by
  have:∀{ks:List Int} {vs:List Value},ItemsAre (intKind prog w) ks vs->∀v∈vs,hashByValue 7 v=pure true:=by
   intro ks vs q
   induction q with
   |nil=>intro v hv;cases hv
   |cons hq _ ih =>
    intro v hv
    rcases AN.mp hv with rfl | hv
    ·cases v<;>first | rfl | (simp[intKind,Value.isInt]at hq)
    ·exact ih v hv
  exact this hi
 refine EG _ (λrest r s'=>r.1=none/\s'=s/\∀v∈rest,hashByValue 7 v=pure true) _ ?_ ?_ _ _ ⟨rfl,rfl,hint⟩
 ·rintro v rest r s' ⟨hr,rfl,hall⟩
  rw[hall v AM]
  refine AA (AC ?_)
  simp![ER,AQ,if_false]
  exact AC ⟨rfl,rfl,λu hu'=>hall u (AF _ hu')⟩
 ·rintro⟨r1,r2⟩ s' ⟨hr,rfl,_⟩
  simp only at hr
  subst hr
  exact AC h
end
structure HoldsT (prog:Program) (w:World) (G:List Int->Addr->Prop) (o:Obj) (es:Array (Int×Value)) (ep:Nat) (t:SetTable) (as:List (List Int×Addr)) (l:Bool):Prop extends Laid o es ep t l where
 mask:Mask t.mask
 room:t.place.size*5<t.mask*3
 path:rg t.mask t.place.toList (es.toList.map (·.1))
 els:es.toList.Perm (as.map λp=>((tki prog w).hash p.1,Value.ref p.2))
 good:∀p∈as,G p.1 p.2
section
variable{prog:Program}{w:World}{A:Around}{E:Value -> Shared -> Prop}{s:Shared}{a b:Addr}{o:Obj}{es:Array (Int × Value)}{ep:Nat}{t:SetTable}{as:List (List Int × Addr)}{l:Bool}{G:List Int -> Addr -> Prop}{k:List Int}
theorem HoldsT.size(H:HoldsT prog w G o es ep t as l):t.place.size=es.size:=by
 have:=H.fits
 unfold SetTable.fits at this
 simp![AX,beq_iff_eq]at this
 exact this.1
theorem HoldsT.odd(H:HoldsT prog w G o es ep t as l):t.gaveWay=false:=by
 unfold SetTable.gaveWay
 rcases H.mask with h | h | h<;>rw[h]<;>rfl
theorem HoldsT.elem(H:HoldsT prog w G o es ep t as l){i:Nat}{e:Int×Value}(h:es[i]? = some e):∃p∈as,e=((tki prog w).hash p.1,Value.ref p.2):=by
 have hm:e∈es.toList:=by
  obtain⟨h1,h2⟩:=DI.mp h
  rw[<-h2];simp
 obtain⟨p,hp,e'⟩:=BJ.mp (H.els.mem_iff.mp hm)
 exact⟨p,hp,e'.symm⟩
theorem HoldsT.at(H:HoldsT prog w G o es ep t as l){j:Nat}(hj:j∈t.place.toList):∃e,es[SetTable.below t.place j]? = some e:=by
 have h1:=t4 H.tidy hj
 have h2:=(DI.mp h1).1
 exact⟨es[SetTable.below t.place j]'(by rw[<-H.size];exact h2),BS _⟩
theorem HoldsT.lies(H:HoldsT prog w G o es ep t as l){p:List Int×Addr}(hp:p∈as):∃j∈t.place.toList,es[SetTable.below t.place j]? = some ((tki prog w).hash p.1,Value.ref p.2)/\Reach t.mask (·∈t.place.toList) (SetTable.bits ((tki prog w).hash p.1)) j:=by
 have hm:((tki prog w).hash p.1,Value.ref p.2)∈es.toList:=H.els.mem_iff.mpr (BJ.mpr ⟨p,hp,rfl⟩)
 obtain⟨i,hi,e⟩:=FF hm
 have hi1:i<es.size:=by simpa using hi
 have hi2:i<t.place.size:=by rw[H.size];exact hi1
 have hj:t.place[i]∈t.place.toList:=by simp
 have hb:SetTable.below t.place t.place[i]=i:=by
  have h1:=t4 H.tidy hj
  obtain⟨h2,h3⟩:=DI.mp h1
  rcases Nat.lt_trichotomy (SetTable.below t.place t.place[i]) i with z | z | z
  ·have:=H.tidy.rose _ _ z hi2
   simp[h2,hi2]at this;omega
  ·exact z
  ·have:=H.tidy.rose _ _ z h2
   simp[h2,hi2]at this;omega
 refine⟨t.place[i],hj,?_,?_⟩
 ·rw[hb,BS hi1];simpa using e
 ·refine H.path (t.place[i],(tki prog w).hash p.1) ?_
  rw[List.mem_iff_getElem?]
  refine⟨i,?_⟩
  rw[HZ]
  refine⟨by simp[hi2],?_⟩
  rw[BL,AD hi,e];rfl
theorem Oj{α:Type}{c:Bool}{x:Value}{st:List Value}{u:Sem PUnit}{m:Sem α}{Q:α->Shared->Prop}(hs:∀Q':Bool->Shared->Prop,Q' false s->wpAny (model prog w) A (searchCouldBeSeen x st) Q' E s)(h:wpAny (model prog w) A m Q E s) :
  wpAny (model prog w) A (if c=true then do
   let z <-searchCouldBeSeen x st
   if z=true then do
    u
    m
   else m
  else m) Q E s:=by
 cases c with
 |false=>simpa using h
 |true =>
  simp![if_true]
  refine AA (hs _ ?_)
  simpa using h
theorem y6 (q:s.heap.get? a=some o) (H:HoldsT prog w G o es ep t as l) (hG:∀k b,G k b->(tki prog w).is s.heap k b) (hu:A.units<cLine) (hk:(tki prog w).is s.heap k b) {Q:SetFound->Shared->Prop} {N:Nat}
  (hN:pos t.mask (SetTable.bits ((tki prog w).hash k)) N∉t.place.toList) (hocc:∀q,q<N->pos t.mask (SetTable.bits ((tki prog w).hash k)) q∈t.place.toList) (hN2:N<10*(t.mask+15))
  (h1:k∈as.map (·.1)->Q (.there none) s) (h2:k∉as.map (·.1)->Q (.free (pos t.mask (SetTable.bits ((tki prog w).hash k)) N) false) s) :
  ∀d n fuel (stand:Option SetTable.Probe),n+d=N->d<fuel->stand.getD (t.probeStart ((tki prog w).hash k))=eg t.mask (SetTable.bits ((tki prog w).hash k)) n ->
   (∀q,q<n->∀p∈as,es[SetTable.below t.place (pos t.mask (SetTable.bits ((tki prog w).hash k)) q)]? = some ((tki prog w).hash p.1,Value.ref p.2)->p.1≠k) ->
   wpAny (model prog w) A (setSearchFrom a (.ref b) ((tki prog w).hash k) true fuel stand) Q E s:=by
 intro d
 induction d using Nat.strongRecOn with
 |_ d ih =>
  intro n fuel stand hnd hf hst hne
  cases fuel with
  |zero=>omega
  |succ fuel =>
   unfold setSearchFrom
   refine AA (CF q H.data H.fits ?_)
   dsimp only
   rw[H.odd,hst]
   simp![AQ,if_false]
   have gm:=Kz H.tidy (λi=>(es[i]?.map (·.1)).getD 0) ((tki prog w).hash k) hN hocc d n (10*SetTable.turns t.mask) hnd (by unfold SetTable.turns;omega)
   generalize hp:SetTable.probe t _ _ _=met
   rcases gm with⟨g1,g2⟩ | ⟨k1,c1,c2,c3,c4,g1⟩
   ·have e:met=some (.empty (pos t.mask (SetTable.bits ((tki prog w).hash k)) N) none):=hp.symm.trans g1
    rw[e]
    dsimp only
    refine AC (h2 λhmem=>?_)
    obtain⟨p,hp',ep⟩:=BJ.mp hmem
    obtain⟨j,hj,he,n',en',ho'⟩:=H.lies hp'
    rw[ep]at en' ho'
    have hn':n'<N:=by
     rcases Nat.lt_trichotomy n' N with z | z | z
     ·exact z
     ·subst z;exact absurd (en' ▸ hj) hN
     ·exact absurd (ho' N z) hN
    rcases FB n' n with z | z
    ·exact hne n' z p hp' (by rw[en'];exact he) ep
    ·refine g2 n' z hn' ?_
     rw[en',he]
     show(tki prog w).hash p.1=_
     rw[ep]
   ·have e:met=some (.candidate (pos t.mask (SetTable.bits ((tki prog w).hash k)) k1) (SetTable.below t.place (pos t.mask (SetTable.bits ((tki prog w).hash k)) k1)) (eg t.mask (SetTable.bits ((tki prog w).hash k)) (k1+1))):=hp.symm.trans g1
    rw[e]
    dsimp only
    obtain⟨e0,he0⟩:=H.at (hocc k1 c2)
    obtain⟨p,hp',rfl⟩:=H.elem he0
    have hpis:=hG p.1 p.2 (H.good p hp')
    have hseen:∀v∈List.map (λx=>x.snd) (Array.filter (λx=>x.fst==(tki prog w).hash k) es).toList,∃k' b,v=.ref b/\(tki prog w).is s.heap k' b:=by
     intro v hv
     obtain⟨e1,he1,rfl⟩:=BJ.mp hv
     have he2:e1∈es:=by simp at he1;exact he1.1
     obtain⟨p1,hp1,ee⟩:=BJ.mp (H.els.mem_iff.mp (by simpa using he2))
     exact⟨p1.1,p1.2,by rw[<-ee],hG _ _ (H.good p1 hp1)⟩
    have sm:t.sameMemory t.moves t.mask=some true:=by unfold SetTable.sameMemory;simp
    have same:isSame (.ref p.2) (.ref p.2)=pure true:=by unfold isSame;simp
    have next:p.1≠k->wpAny (model prog w) A (setSearchFrom a (.ref b) ((tki prog w).hash k) true fuel (some (eg t.mask (SetTable.bits ((tki prog w).hash k)) (k1+1)))) Q E s:=λek=>by
     refine ih (N-(k1+1)) (by omega) (k1+1) fuel _ (by omega) (by omega) rfl λq' hq' p' hp'' he'=>?_
     rcases FB q' n with z | z
     ·exact hne q' z p' hp'' he'
     ·rcases FB q' k1 with z2 | z2
      ·intro ep
       refine c4 q' z z2 ?_
       rw[he']
       show(tki prog w).hash p'.1=_
       rw[ep]
      ·have:q'=k1:=by omega
       subst this
       rw[he0]at he'
       have e3:p.2=p'.2:=by simpa using(Prod.mk.inj (BY he')).2
       have h3:=hG p'.1 p'.2 (H.good p' hp'')
       rw[<-e3]at h3
       rw[<-(tki prog w).inj hpis h3]
       exact ek
    refine Oj (λQ' h=>Jl hk hseen h) ?_
    rw[he0]
    dsimp only
    refine AA (BV ((tki prog w).eqBool hu hpis hk ?_))
    refine AA (CF q H.data H.fits ?_)
    dsimp only
    by_cases ek:p.1=k
    ·rw[decide_eq_true ek]
     simp![Bool.and_self,if_true]
     exact AC (h1 (BJ.mpr ⟨p,hp',ek⟩))
    ·rw[decide_eq_false ek]
     simp![JW,AQ,if_false]
     rw[sm]
     dsimp only
     simp![if_true]
     rw[we H.tidy (hocc k1 c2)]
     dsimp only
     rw[he0]
     dsimp only
     rw[same]
     refine AA (AA (AC ?_))
     refine AC ?_
     exact next ek
end
noncomputable def Ct(as:List (List Int×Addr))(k:List Int)(b:Addr):List (List Int×Addr):=if k∈as.map (·.1)then as else as++[(k,b)]
theorem Jn(a:Addr)(wanted:Nat):setRelay a wanted=(do
  let (es,_,t) <-setState a
  if SetTable.sizeAbove wanted > sizeLine then unsupported "set:memory"
  let (es,t) <-(do
   let some (t,order):=t.relaid (es.map (·.1)) wanted | unsupported "internal:set-table-without-room"
   let es':=order.filterMap (es[·]?)
   if es'.size != es.size then unsupported "internal:set-table-lost-an-element"
   pure (es',t))
  storeSet a es t):=rfl
section
variable{prog:Program}{w:World}{A:Around}{E:Value -> Shared -> Prop}{s:Shared}{a b:Addr}{o:Obj}{es:Array (Int × Value)}{ep:Nat}{t:SetTable}{as:List (List Int × Addr)}{l:Bool}{G:List Int -> Addr -> Prop}{k:List Int}
theorem HoldsT.few60(H:HoldsT prog w G o es ep t as l):es.size<t.mask:=by
 have:=H.room
 rw[<-H.size];omega
theorem Ol(H:HoldsT prog w G o es ep t as l):es.size=as.length:=by
 have:=H.els.length_eq
 simpa using this
theorem Om {es1:Array (Int×Value)} {t1:SetTable} {o1:Obj} {ep1:Nat} (q:s.heap.get? a=some o1) (hset:o1.ExactSet) (hd:o1.data=.set es1 ep1 t1) (hf:t1.fits es1.size=true) (hl:t1.led=l)
  (hm:(es1.size=5\/es1.size=19)) {Q:Unit->Shared->Prop}
  (h:∀es2 t2,es2.size=es1.size->es2.toList.Perm es1.toList->Tidy t2 l->t2.fits es2.size=true->Mask t2.mask->t2.place.size*5<t2.mask*3->rg t2.mask t2.place.toList (es2.toList.map (·.1))->Q () {s with heap:=s.heap.update a (Obj.putSet es2 t2)}) :
  wpAny (model prog w) A (setRelay a (SetTable.grown es1.size)) Q E s:=by
 rw[Jn]
 refine AA (CF q hd hf ?_)
 dsimp only
 obtain⟨m,hM,hmm,hlt⟩:∃m,SetTable.sizeAbove (SetTable.grown es1.size)=m+1/\Mask m/\es1.size*5<m*3:=by
  rcases hm with z | z
  ·exact⟨31,by rw[z];decide,.inr (.inl rfl),by rw[z];decide⟩
  ·exact⟨127,by rw[z];decide,.inr (.inr rfl),by rw[z];decide⟩
 have hmle:m<=127:=by rcases hmm with z | z | z<;>omega
 rw[if_neg (by rw[hM,CB];omega)]
 obtain⟨t2,order,e,e1,e2,e3,e4,e5,e6,e7⟩:=laid_ok hmm es1 (by omega) t1.finger (t1.movedTo m) t1.led t1.plain
 have er:t1.relaid (es1.map (·.1)) (SetTable.grown es1.size)=some (t2,order):=by
  unfold SetTable.relaid
  rw[hM]
  exact e
 rw[er]
 dsimp only
 have e5':((order.filterMap (es1[·]?)).size != es1.size)=false:=by rw[e5];simp
 rw[if_neg (by rw[e5'];decide)]
 refine AA (AC ?_)
 dsimp only
 have sz:es1.size<=19:=by omega
 refine GH q hd (h _ t2 e5 e6 (by rw[<-hl];exact e2) ?_ (by rw[e1];exact hmm) (by rw[e1,e4];exact hlt) (by rw[e1];exact e7)) (by rw[e5,CB];omega)
 unfold SetTable.fits SetTable.fill
 rw[e4,e5,e2.none,e1]
 simp
 omega
theorem V4{α:Type}{c:Bool}{f:Bool->Sem α}{Q:α->Shared->Prop}(hk:(tki prog w).is s.heap k b)(h:wpAny (model prog w) A (f true) Q E s):wpAny (model prog w) A (if c=true then hashByValue 8 (.ref b)>>=f else pure true>>=f) Q E s:=by
 cases c with
 |false=>exact AA (AC h)
 |true=>exact AA (Jm hk h)
theorem V5 (q:s.heap.get? a=some o) (H:HoldsT prog w G o es ep t as l) (hG:∀k b,G k b->(tki prog w).is s.heap k b) (hu:A.units<cLine) (hk:G k b) (few:es.size<60) {Q:Bool->Shared->Prop}
  (h:∀r h' o' es' ep' t',Heap.SameBut a s.heap h'->h'.get? a=some o'->HoldsT prog w G o' es' ep' t' (Ct as k b) l->Q r {s with heap:=h'}) :
  wpAny (model prog w) A (setAddHashed a (.ref b) ((tki prog w).hash k)) Q E s:=by
 have hsz:=H.size
 have hmask:t.mask<=127:=by rcases H.mask with z | z | z<;>omega
 obtain⟨j0,hj0,hj1⟩:=R3 H.tidy (m:=t.mask) (by have:=H.few60;omega)
 obtain⟨N,hN2,hN,hocc⟩:=Co H.mask (Ff ((tki prog w).hash k)) (occ:=(·∈t.place.toList)) hj0 hj1
 unfold setAddHashed setAddHashedIn
 refine BV (AA (CF q H.data H.fits ?_))
 dsimp only
 have bs:byScan (.ref b) es=false:=by simp[byScan,Value.scannable]
 rw[bs]
 simp![AQ,if_false]
 unfold setSearch
 refine AA (y6 q H hG hu (hG k b hk) hN hocc hN2 (λhmem=>?_) (λhmem=>?_) N 0 100000 none (by omega) (by omega) rfl λq h=>absurd h (Nat.not_lt_zero _))
 ·dsimp only
  refine AC (h false s.heap o es ep t (KF a s.heap) q ?_)
  unfold Ct
  rw[if_pos hmem]
  exact H
 ·dsimp only
  refine AA (CF q H.data H.fits ?_)
  dsimp only
  generalize hj:pos t.mask (SetTable.bits ((tki prog w).hash k)) N=j at hN
  have hne:t.place[SetTable.below t.place j]?≠some j:=λe=>hN (by
   obtain⟨x,y⟩:=DI.mp e
   rw[<-y];simp)
  have p2:(t.put j).2=SetTable.below t.place j:=rfl
  have p1:(t.put j).1={t with place:=SetTable.insertAt t.place (SetTable.below t.place j) j}:=by
   unfold SetTable.put
   dsimp only
   have hd0:SetTable.has t.dummies j=false:=by rw[H.tidy.none];exact has_none j
   rw[hd0];rfl
  rw[p1,p2]
  refine V4 (hG k b hk) ?_
  simp![if_true]
  obtain⟨t1,ht1⟩:∃t1:SetTable,t1={t with place:=SetTable.insertAt t.place (SetTable.below t.place j) j}:=⟨_,rfl⟩
  obtain⟨es1,hes1⟩:∃es1,es1=SetTable.insertAt es (SetTable.below t.place j) ((tki prog w).hash k,Value.ref b):=⟨_,rfl⟩
  rw[<-ht1,<-hes1]
  have l1:t1.place.toList=t.place.toList.take (SetTable.below t.place j)++j::t.place.toList.drop (SetTable.below t.place j):=by rw[ht1];exact i9 _ _ _
  have l2:es1.toList=es.toList.take (SetTable.below t.place j)++((tki prog w).hash k,Value.ref b)::es.toList.drop (SetTable.below t.place j):=by rw[hes1];exact i9 _ _ _
  have s1:t1.place.size=t.place.size+1:=by
   have:=congrArg List.length l1
   simp![AZ,AY,EE,AT,GO]at this
   omega
  have s2:es1.size=es.size+1:=by
   have:=congrArg List.length l2
   simp![AZ,AY,EE,AT,GO]at this
   omega
  have T1:Tidy t1 l:=by rw[ht1];exact⟨o4 H.tidy.rose hne,H.tidy.none,H.tidy.led⟩
  have m1:t1.mask=t.mask:=by rw[ht1]
  have fill1:t1.fill=t1.place.size:=by unfold SetTable.fill;rw[T1.none];rfl
  have few1:=H.few60
  have F1:t1.fits es1.size=true:=by
   unfold SetTable.fits
   rw[fill1,s1,s2,m1,hsz]
   simp
   omega
  have pl1:rg t1.mask t1.place.toList (es1.toList.map (·.1)):=by
   rw[m1,l1,l2,CD,AO,FL,IL]
   refine Jh H.path (by simp[hsz]) ?_ _
   exact⟨N,hj,hocc⟩
  have el1:es1.toList.Perm ((Ct as k b).map λp=>((tki prog w).hash p.1,Value.ref p.2)):=by
   unfold Ct
   rw[if_neg hmem,l2,CD]
   refine List.perm_middle.trans ?_
   rw[EV]
   refine(H.els.cons _).trans ?_
   exact(JS (l₁:=[((tki prog w).hash k,Value.ref b)]))
  have good1:∀p∈Ct as k b,G p.1 p.2:=by
   unfold Ct
   rw[if_neg hmem]
   intro p hp
   rcases BB.mp hp with z | z
   ·exact H.good p z
   ·rw[BF.mp z];exact hk
  have B1:es1.size<scanBound:=by rw[s2];have:scanBound=4096:=rfl;omega
  have q1:=CV (Obj.putSet es1 t1) q (by rw[IR es1 t1 H.data];rfl)
  rw[IR es1 t1 H.data]at q1
  refine AA (GH q H.data ?_ (by rw[s2,CB];omega))
  simp![HX,Bool.true_and]
  have sb1:=DQ s.heap a (Obj.putSet es1 t1)
  by_cases hfull:t1.tooFull=true
  ·rw[if_pos hfull]
   unfold SetTable.tooFull at hfull
   rw[fill1,s1,m1]at hfull
   have hfull':(t.place.size+1)*5≥t.mask*3:=by simpa using hfull
   have hroom:=H.room
   have hn:es1.size=5\/es1.size=19:=by
    rw[s2,<-hsz]
    rcases H.mask with z | z | z<;>rw[z]at hroom hfull'<;>omega
   rw[<-s2]
   refine AA (Om (s:={s with heap:=s.heap.update a (Obj.putSet es1 t1)}) (l:=l) q1 H.set rfl F1 T1.led hn λes2 t2 f1 f2 f3 f4 f5 f6 f7=>?_)
   refine AC ?_
   have q2:=CV (Obj.putSet es2 t2) q1 (by rw[IR (ep:=ep+1) es2 t2 rfl];rfl)
   rw[IR (ep:=ep+1) es2 t2 rfl]at q2
   refine h true _ _ es2 (ep+1+1) t2 (sb1.trans (DQ _ a _)) q2 ⟨⟨H.set,rfl,f3,f4,by rw[f1];exact B1⟩,f5,f6,f7,f2.trans el1,good1⟩
  ·rw[if_neg hfull]
   refine AC (h true _ _ es1 (ep+1) t1 sb1 q1 ⟨⟨H.set,rfl,T1,F1,B1⟩,by rw[m1];exact H.mask,?_,pl1,el1,good1⟩)
   unfold SetTable.tooFull at hfull
   rw[fill1]at hfull
   have:¬(t1.place.size*5≥t1.mask*3):=by simpa using hfull
   omega
end
noncomputable def jo(kv:Nat->List Int×Addr):Nat->List (List Int×Addr)
 |0=>[]
 |i+1=>Ct (jo kv i) (kv i).1 (kv i).2
theorem md(kv:Nat->List Int×Addr):∀i,(jo kv i).length<=i
 |0=>AH _
 |i+1=>by
  have:=md kv i
  show(Ct _ _ _).length<=_
  unfold Ct
  split
  ·omega
  ·simp;omega
theorem Fk{prog:Program}{w:World}{h h':Heap}{k:List Int}{b:Addr}(x:(tki prog w).is h k b)(e:∀o,h.get? b=some o->h'.get? b=some o):(tki prog w).is h' k b:=by
 obtain⟨o,items,n,h1,h2⟩:=x
 exact⟨o,items,n,e o h1,h2⟩
section
variable{prog:Program}{w:World}{A:Around}{R:Result -> Shared -> Prop}{I:Addr}{fp wr:List Addr}{G:Array GenState -> Array GenState -> Prop}{n:Nat}{P:Nat -> Value -> Prop}{St:Nat -> Shared -> Prop}{l:Bool}
noncomputable def y8(prog:Program)(w:World)(Gd:List Int->Addr->Prop)(h:Heap)(a:Addr)(as:List (List Int×Addr))(l:Bool):Prop:=∃o es ep t,h.get? a=some o/\HoldsT prog w Gd o es ep t as l
theorem y8.at{Gd:List Int->Addr->Prop}{h h':Heap}{a:Addr}{as:List (List Int×Addr)}(H:y8 prog w Gd h a as l)(k:∀o,h.get? a=some o->h'.get? a=some o):y8 prog w Gd h' a as l:=by
 obtain⟨o,es,ep,t,q,z⟩:=H
 exact⟨o,es,ep,t,k o q,z⟩
theorem R4(W:WalksS prog w A.in1 I fp wr G n P St)(hu:A.in1.units<cLine)(a:Addr)(af:a∉fp)(kv:Nat->List Int×Addr)(base:Heap)(hv:∀i v,P i v->v=.ref (kv i).2/\(kv i).2∉a::wr/\(tki prog w).is base (kv i).1 (kv i).2)(few:n<60) :
  ∀(d i:Nat) (s:Shared),n-i=d->i<=n->St i s->(∀b o,b∉a::wr->base.get? b=some o->s.heap.get? b=some o)->y8 prog w (λk b=>b∉a::wr/\(tki prog w).is base k b) s.heap a (jo kv i) l->(∀s',Moved (a::wr) G s s'->y8 prog w (λk b=>b∉a::wr/\(tki prog w).is base k b) s'.heap a (jo kv n) l->R (.ok (.ret .none)) s') ->
   codeAny (model prog w) A (.builtin "set.update.loop" ⟨[.ref a,.ref I],[]⟩) R s:=by
 have aw:a∉wr:=λz=>af (W.sub _ z)
 intro d
 induction d with
 |zero =>
  intro i s hd hi st hb H fin
  have e:i=n:=by lia
  subst e
  refine DK EI ?_
  rw[Do DA]
  show wpAny (model prog w) A.in1 (pyNext (.ref I)>>=_) _ _ s
  refine AA (W.done s _ _ st λs' m=>?_)
  show wpAny (model prog w) A.in1 (ret Value.none) _ _ s'
  exact AC (fin s' (m.mono λb z=>AF _ z) (H.at λo z=>m.heap a o aw z))
 |succ d ih =>
  intro i s hd hi st hb H fin
  refine DK EI ?_
  rw[Do DA]
  show wpAny (model prog w) A.in1 (pyNext (.ref I)>>=_) _ _ s
  refine AA (W.item i s _ _ (by lia) st λv s' p st' m=>?_)
  obtain⟨rfl,hnw,his⟩:=hv i v p
  obtain⟨o,es,ep,t,q,H'⟩:y8 prog w (λk b=>b∉a::wr/\(tki prog w).is base k b) s'.heap a (jo kv i) l:=H.at λo z=>m.heap a o aw z
  have hb':∀b o,b∉a::wr->base.get? b=some o->s'.heap.get? b=some o:=λb o h1 h2=>m.heap b o (λz=>h1 (AF _ z)) (hb b o h1 h2)
  have hG:∀(s2:Heap),(∀b o,b∉a::wr->base.get? b=some o->s2.get? b=some o)->∀k b,(b∉a::wr/\(tki prog w).is base k b)->(tki prog w).is s2 k b:=λs2 h k b z=>Fk z.2 λo e=>h b o z.1 e
  show wpAny (model prog w) A.in1 (holding [Value.ref (kv i).2] (setAdd a (.ref (kv i).2))>>=_) _ _ s'
  unfold setAdd
  refine AA (BV (BV (AA ((tki prog w).pyHash (k:=(kv i).1) hu (hG s'.heap hb' _ _ ⟨hnw,his⟩) ?_))))
  have le:=md kv i
  have sz:=Ol H'
  refine V5 (s:={s' with toks:=s'.toks+(tki prog w).draws (kv i).1}) q H' (hG s'.heap hb') hu ⟨hnw,his⟩ (by lia) λr h' o' es' ep' t' sb q' H2=>?_
  refine AC ⟨GY DA _,ih (i+1) _ (by lia) (by lia) (W.frame _ s' _ _ st' (GU _ _) λb hb o z=>?_) (λb o h1 h2=>?_) ⟨o',es',ep',t',q',H2⟩ λs2 m2 H3=>?_⟩
  ·rw[sb.2 b λe=>af (e ▸ hb)];exact z
  ·show h'.get? b=some o
   rw[sb.2 b λe=>h1 (e ▸ AM)]
   exact hb' b o h1 h2
  ·refine fin s2 (Moved.trans W.gtrans ((m.mono λb z=>AF _ z).then_heap (GU _ _) λb o hb z=>?_) m2) H3
   rw[sb.2 b λe=>hb (e ▸ AM)];exact z
end
section
variable{prog:Program}{w:World}{A:Around}{E:Value -> Shared -> Prop}{s:Shared}
theorem y9{Gd:List Int->Addr->Prop}{h:Heap}{a:Addr}(q:h.get? a=some (cf w)):y8 prog w Gd h a [] (jn w) :=
 ⟨_,#[],0,_,q,⟨⟨⟨rfl,rfl,rfl⟩,rfl,qy _,rfl,by decide⟩,.inl rfl,by simp[SetTable.fresh],λz hz=>by simp[SetTable.fresh]at hz,.nil,λp hp=>by cases hp⟩⟩
theorem is_lt{h:Heap}{k:List Int}{b:Addr}(x:(tki prog w).is h k b):b<h.objs.size:=by
 obtain⟨o,_,_,h1,_⟩:=x
 exact AJ h1
noncomputable def Oo(prog:Program)(w:World)(h:Heap)(a:Addr)(as:List (List Int×Addr)):Prop:=∃o es ep t,h.get? a=some o/\Laid o es ep t (jn w)/\es.toList.Perm (as.map λp=>((tki prog w).hash p.1,Value.ref p.2))
theorem Fm {b:Bool} {a x:Addr} {items:Array Value} {kv:Nat->List Int×Addr} {P:PySem.Fin->Shared->Prop} (hh:A.handled=none) (hu:A.in1.units<cLine) (hL:SQ b s.heap x items) (hi:∀i v,items[i]? = some v->v=.ref (kv i).2/\(tki prog w).is s.heap (kv i).1 (kv i).2/\(kv i).2≠a) (few:items.size<60)
  (q:s.heap.get? a=some (cf w)) (ne:a≠x)
  (fin:∀h' tk,Oo prog w h' a (jo kv items.size)->(∀c o,c≠a->s.heap.get? c=some o->h'.get? c=some o)->P (.done (.ret .none)) {s with heap:=h',toks:=tk}) :
  wpAny (model prog w) A (Builtin.«set.__init__» ⟨[.ref a,.ref x],[]⟩) P E s:=by
 obtain⟨ox,qx,cx⟩:=Kw hL
 obtain⟨n1,n2⟩:=E6 (T:=I0 b) (by cases b<;>simp[I0])
 have hT:s.TypeIs (.ref x) (I0 b):=⟨ox,qx,cx⟩
 have nd:(Value.type (I0 b)==Value.type "dict")=false:=by cases b<;>decide
 have hS:s.TypeIs (.ref a) "set":=⟨_,q,rfl⟩
 unfold Builtin.«set.__init__» noKeywords Builtin.Frozenset.updateFrom
 generalize hPI:pyIter=PI
 obtain⟨hp,g,d,tk,os⟩:=s
 wp_walk
 subst hPI
 refine sk hL (AA (wpAny_runValue ?_))
 have lx:x<hp.objs.size:=SQ.lt hL
 have la:a<hp.objs.size:=AJ q
 refine R4 ((Ap (b:=b) (A:=A.in1) (show A.in1.handled=none from hh) hp.objs.size x (AR lx) items).toS) hu a (l:=jn w) ?_ kv hp (λi v z=>?_) few items.size 0 _ (by lia) (CU _)
  ⟨?_,SQ.push hL _⟩ (λc o _ z=>AB _ z) (y9 (AB _ q)) λs' m H=>?_
 ·simp![AN,BD,or_false,not_or]
  exact⟨AR la,ne⟩
 ·obtain⟨e1,e2,e3⟩:=hi i v z
  refine⟨e1,?_,e2⟩
  simp![AN,BD,or_false,not_or]
  exact⟨e3,AR (is_lt e2)⟩
 ·cases b
  ·exact⟨_,AI _ rfl,rfl,rfl⟩
  ·exact⟨_,AI _ rfl,rfl,rfl⟩
 ·rw[JY m]
  obtain⟨o,es,ep,t,q',H'⟩:=H
  refine AC (AC (fin s'.heap s'.toks ⟨o,es,ep,t,q',H'.toLaid,H'.els⟩ λc o hc z=>m.heap c o ?_ (AB _ z)))
  simp![AN,BD,or_false,not_or]
  exact⟨hc,AR (AJ z)⟩
theorem Fn {b:Bool} {x:Addr} {items:Array Value} {kv:Nat->List Int×Addr} {Q:Value->Shared->Prop} (hh:A.handled=none) (hu:A.units+8<cLine) (hL:SQ b s.heap x items) (hi:∀i v,items[i]? = some v->v=.ref (kv i).2/\(tki prog w).is s.heap (kv i).1 (kv i).2) (few:items.size<60)
  (h:∀h' tk,Oo prog w h' s.heap.objs.size (jo kv items.size)->(∀c o,s.heap.get? c=some o->h'.get? c=some o)->Q (.ref s.heap.objs.size) {s with heap:=h',toks:=tk}) :
  wpAny (model prog w) A (call (.type "set") [.ref x]) Q E s:=by
 obtain⟨c,tl,hmro⟩:=BC.mro
 have hm:=BC.made
 have hs:=BC.sub
 have hn:=BC.notType
 have hcc:=BC.canCreate
 have hct:=IZ (.ref x)
 refine wpAny_call (JJ ?_)
 show wpAny (model prog w) _ (callAny (.type "set") _) _ _ _
 refine AC ⟨Code.quiet_builtin _ (by decide +kernel),DK IS ?_⟩
 rw[Around.under_plain (weight_type_call_type "set" [.ref x] []) rfl]
 repeat (any_goals (first | assumption | wp_step))
 refine EK (E5 (w:=w) (.ref x) (E:=E) (Q₁:=λobj s₁=>obj=.ref s.heap.objs.size/\s₁={s with heap:=s.heap.push (cf w)}) ⟨rfl,rfl⟩) λr s₁ hr=>?_
 cases r with
 |error e=>exact hr
 |ok fl =>
  cases fl with
  |ret obj =>
   obtain⟨rfl,rfl⟩:=hr
   have q:(s.heap.push (cf w)).get? s.heap.objs.size=some (cf w):=AI _ rfl
   have hT:Shared.TypeIs {s with heap:=s.heap.push (cf w)} (.ref s.heap.objs.size) "set":=⟨_,q,rfl⟩
   have hli:=BC.init.lookup
   have hbi:=BC.init.bind (.ref s.heap.objs.size)
   repeat (any_goals (first | assumption | wp_step))
   refine EK (codeAny_call_builtin (R:=wants (λr s₂=>r=.none/\Q (.ref s.heap.objs.size) s₂) E) BC.init.plain JA (check_set_init_1 hT ?_)) λr₂ s₂ z=>?_
   ·refine Fm (b:=b) (kv:=kv) (s:={s with heap:=s.heap.push (cf w)}) (by simpa using hh) ?_ (SQ.push hL _) (λi v z=>?_) few q (CJ (SQ.lt hL)) λh' tk H k=>?_
    ·simp![Around.in1]at *
     lia
    ·obtain⟨e1,e2⟩:=hi i v z
     exact⟨e1,Fk e2 λo e=>AB _ e,AR (is_lt e2)⟩
    ·exact⟨rfl,h h' tk H λc o e=>k c o (AR (AJ e)) (AB _ e)⟩
   ·cases r₂ with
    |error e=>exact z
    |ok fl₂ =>
     cases fl₂ with
     |ret r =>
      obtain⟨rfl,z⟩:=z
      repeat (any_goals (first | assumption | wp_step))
     |_=>exact z
  |_=>exact hr
end
open PySem PySem.W PyProof.Rows PySem.Calls Lp.Srt
theorem Jo{α β:Type}{f:α->β}:∀{l l':List β},l.Perm l'->∀as:List α,l'=as.map f->∃bs:List α,bs.Perm as/\l=bs.map f:=by
 intro l l' h
 induction h with
 |nil=>exact λas e=>⟨as,.refl _,e⟩
 |cons x _ ih =>
  intro as e
  cases as with
  |nil=>simp at e
  |cons a as =>
   simp![AO,List.cons.injEq]at e
   obtain⟨bs,h1,h2⟩:=ih as e.2
   exact⟨a::bs,h1.cons a,by rw[AO,h2,e.1]⟩
 |swap x y l =>
  intro as e
  match as,e with
  |a::b::as,e =>
   simp![AO,List.cons.injEq]at e
   exact⟨b::a::as,List.Perm.swap _ _ _,by simp[e.1,e.2.1,e.2.2]⟩
 |trans _ _ ih1 ih2 =>
  intro as e
  obtain⟨bs,h1,h2⟩:=ih2 as e
  obtain⟨cs,h3,h4⟩:=ih1 bs h2
  exact⟨cs,h3.trans h1,h4⟩
theorem Ax:∀{l m:List (List Int)},l.Perm m->l.Pairwise (λa b=>lexLt b a=false)->m.Pairwise (λa b=>lexLt b a=false)->l=m
 | [],m,p,_,_=>(List.Perm.nil_eq p)
 |a::l,[],p,_,_=>absurd p.length_eq (by simp)
 |a::l,b::m,p,hl,hm=>by
  have h1:a=b\/lexLt a b=false:=by
   rcases AN.mp (p.mem_iff.mp AM)with z | z
   ·exact .inl z
   ·exact .inr ((BA.mp hm).1 a z)
  have h2:b=a\/lexLt b a=false:=by
   rcases AN.mp (p.mem_iff.mpr AM)with z | z
   ·exact .inl z
   ·exact .inr ((BA.mp hl).1 b z)
  have e:a=b:=by
   rcases h1 with z | z
   ·exact z
   ·rcases h2 with y | y
    ·exact y.symm
    ·exact sx z y
  subst e
  rw[Ax (KE p) (BA.mp hl).2 (BA.mp hm).2]
section
variable{prog:Program}{w:World}{A:Around}{E:Value -> Shared -> Prop}{s:Shared}{a:Addr}{as:List (List Int × Addr)}
theorem za {Q:Value->Shared->Prop} (hh:A.handled=none) (hS:Oo prog w s.heap a as) (hrow:∀p∈as,k8 s.heap p.1 (.ref p.2)) (few:as.length<64)
  (h:∀(h':Heap) tk d p (out:Array Value) c bs,(∀b o,s.heap.get? b=some o->h'.get? b=some o)->s.heap.objs.size<=p->h'.get? p=some (seqObj "list" out c)->List.Perm bs as->bs.map (·.1)=i5 (as.map (·.1))->out.toList=bs.map (λp=>Value.ref p.2)->Q (.ref p) {s with heap:=h',toks:=tk,drawn:=d}) :
  wpAny (model prog w) A (call (.builtin "sorted") [.ref a]) Q E s:=by
 obtain⟨o,es,ep,t,q,H,pe⟩:=hS
 have hsz:es.size=as.length:=by have:=pe.length_eq;simpa using this
 have small:es.size<=sizeLine:=by rw[CB,hsz];lia
 refine FC kind_sorted plain_sorted entry_sorted (args_sorted1 _) ?_
 unfold Builtin.«sorted»
 refine AA (m:=checkCount "sorted" 1 1 _) (AC (AA (o6 (show A.in1.handled=none from hh) q H small λh1 tk d us k lz p0=>?_)))
 have pu:us.Perm (as.map λp=>Value.ref p.2):=by
  refine p0.trans ?_
  have:=pe.map (·.2)
  rwa [BU]at this
 obtain⟨bs0,pb,rfl⟩:=Jo pu as rfl
 have lb:bs0.length=as.length:=pb.length_eq
 have sl:(bs0.map λp=>Value.ref p.2).length<=sizeLine:=by rw[CB,AG];lia
 refine AA (IK ?_ sl)
 have qL:(h1.push (seqObj "list" (bs0.map λp=>Value.ref p.2).toArray 0)).get? h1.objs.size=some (seqObj "list" (bs0.map λp=>Value.ref p.2).toArray 0):=AI _ rfl
 have rows:∀g:Heap,(∀b o,b≠h1.objs.size->(h1.push (seqObj "list" (bs0.map λp=>Value.ref p.2).toArray 0)).get? b=some o->g.get? b=some o)->Paired (k8 g) (bs0.map (·.1)) (bs0.map λp=>Value.ref p.2):=λg hg=>by
  have:∀{l:List (List Int×Addr)},(∀p∈l,k8 s.heap p.1 (.ref p.2))->Paired (k8 g) (l.map (·.1)) (l.map λp=>Value.ref p.2):=by
   intro l
   induction l with
   |nil=>exact λ_=>.nil
   |cons p l ih=>exact λhl=>.cons ((hl p AM).keep λb o e=>hg b o (AR (AJ (k b o e))) (AB _ (k b o e))) (ih λp' hp'=>hl p' (AF _ hp'))
  exact this λp hp=>hrow p (pb.mem_iff.mp hp)
 refine AA (BV (BI slot_list_sort ⟨_,qL,rfl⟩ JI ?go (args_list_sort _)))
 case go =>
  refine mw (s:={s with heap:=h1.push (seqObj "list" (bs0.map λp=>Value.ref p.2).toArray 0),toks:=tk,drawn:=d}) qL (by rw[AG];lia) (rkL (bs0.map (·.1))) (λh2 g hg=>⟨tuples' true,λQ' E' q=>?_,λi j C hi hj hC=>?_⟩) λp hp hu=>⟨_,rfl,?_⟩
  ·obtain⟨fs,f1,f2,f3⟩:=o3 (rows g hg)
   exact PySem.W.kat_kind (s:={s with heap:=g,toks:=tk,drawn:=d}) (T:=.type "int") f1 (by rw[f2];exact AS (by decide) h2) (λv hv=>by obtain⟨i,t,rfl⟩:=f3 v hv;exact JO rfl) (by decide) q
  ·have pg:=rows g hg
   rw[AG]at hi hj
   rw[Ob (by rw[AG];exact hi) (by rw[AG];exact hj)]at hC
   obtain⟨_,a1,i1,e1,⟨o1,g1,_,n1,d1⟩,v1⟩:=f9 (d:=[]) (e:=Value.none) pg i (by rw[AG];exact hi)
   obtain⟨_,a2,i2,e2,⟨o2,g2,_,n2,d2⟩,v2⟩:=f9 (d:=[]) (e:=Value.none) pg j (by rw[AG];exact hj)
   rw[e1,e2]
   refine PySem.W.kat_lt (s:={s with heap:=g,toks:=tk,drawn:=d}) g1 d1 g2 d2 ?_
   have z1:=v1.length
   have z2:=v2.length
   rw[AG]at z1 z2
   exact yt _ _ i1 i2 0 v1 v2 (by simp![AE,z1,z2]) hC
  ·rw[AG]at hp hu
   generalize hout:List.toArray (p.toList.map λi=>(bs0.map λp=>Value.ref p.2).getD i Value.none)=out
   obtain⟨c,qc⟩:∃c,(sortedHeap (h1.push (seqObj "list" (bs0.map λp=>Value.ref p.2).toArray 0)) h1.objs.size (bs0.map λp=>Value.ref p.2) out).get? h1.objs.size=some (seqObj "list" out c) :=
    ⟨_,FP (AB _ (AB _ (FP qL λ_=>#[]))) λ_=>out⟩
   have mem:∀i∈p.toList,i<bs0.length:=λi hi=>by simpa using hp.mem_iff.mp hi
   refine AC ⟨_,rfl,h _ tk d _ out c (p.toList.map λi=>bs0.getD i ([],0)) (λb o z=>?_) (DZ lz) qc ?_ ?_ ?_⟩
   ·have zb:b≠h1.objs.size:=AR (AJ (k b o z))
    unfold sortedHeap
    rw[CS _ _ _ _ zb]
    refine AB _ (AB _ ?_)
    rw[CS _ _ _ _ zb]
    exact AB _ (k b o z)
   ·refine((hp.map _).trans (List.Perm.of_eq ?_)).trans pb
    exact range_getD ([],0) bs0
   ·have e1:=vq (rs:=bs0.map (·.1)) (p:=p) (by rw[AG];exact hp) (by rw[AG];exact hu)
    rw[BU]
    have e2:p.toList.map ((λx:List Int×Addr=>x.1)∘λi=>bs0.getD i ([],0))=p.toList.map λi=>(bs0.map (·.1)).getD i []:=by
     refine DJ λi hi=>?_
     have:=mem i hi
     simp[this]
    rw[e2,e1]
    exact Ax ((fm _).trans ((pb.map _).trans (fm _).symm)) (k7 _) (k7 _)
   ·rw[<-hout,BU]
    refine DJ λi hi=>?_
    have:=mem i hi
    simp[this]
end
end Lp.Sets
namespace Lp
open PySem PySem.Spec PyProof.Rows L2 Lp.Srt
noncomputable def O7(K:PySem.W.Frag)(H:Hp)(r:List Int)(v:V):Prop:=∃a,v=.ref a/\SqT K H a (r.map V.int)
namespace Sets
theorem Fo(kv:Nat->List Int×Addr):∀n,(jo kv n).map (·.1)=C5 ((List.range n).map λi=>(kv i).1)
 |0=>rfl
 |n+1=>by
  have ih:=Fo kv n
  rw[List.range_succ,CD]
  unfold C5 at ih ⊢
  rw[List.foldl_append,<-ih]
  show(Ct _ _ _).map _=_
  unfold Ct
  simp![AO,CC,EM,List.foldl_nil]
  by_cases h:(kv n).1∈(jo kv n).map (·.1)
  ·rw[if_pos h,if_pos h]
  ·rw[if_neg h,if_neg h,CD];rfl
theorem t6(kv:Nat->List Int×Addr):∀n,∀p∈jo kv n,∃i,i<n/\p=kv i
 |0,p,h=>by cases h
 |n+1,p,h=>by
  have h:p∈Ct (jo kv n) (kv n).1 (kv n).2:=h
  unfold Ct at h
  split at h
  ·obtain⟨i,hi,e⟩:=t6 kv n p h
   exact⟨i,by lia,e⟩
  ·rcases BB.mp h with z | z
   ·obtain⟨i,hi,e⟩:=t6 kv n p z
    exact⟨i,by lia,e⟩
   ·exact⟨n,by lia,BF.mp z⟩
theorem rj{prog:Program}{w:World}:∀{r:List Int} {its:List Value},bo (r.map V.int) its->ItemsAre (intKind prog w) r its
 | [],its,h=>by cases h;exact .nil
 |k::r,its,h=>by
  cases h with
  |cons a t =>
   obtain⟨tk,rfl⟩:=a
   exact .cons (by simp[intKind,Value.isInt]) (rj t)
end Sets
section
variable{X:Cx}{φ:Phi}{a:Expr}{p p2 pos pos2:Pos}{m:Mk}
noncomputable def R5(K:PySem.W.Frag)(ta:TE):TE:=λσ H Q=>ta σ H λv H1=>∃(b:Addr) (vs:List V) (rs:List (List Int)),v=.ref b/\SqL K H1 b vs/\Paired (O7 K H1) rs vs/\(∀r∈rs,r≠[])/\rs.length<60 /\
 ∀ys,Paired (O7 K H1) (i5 (C5 rs)) ys->∀q,H1 q=none->FQ Q (.ref q) (upd H1 q (.lst ys))
theorem t8 {ta:TE} (hu:X.A.units+64<cLine) (hms:X.mg "sorted"=none) (hmt:X.mg "set"=none) (ha:PE X a ta) (hgs:Gl X "sorted") (hgt:Gl X "set") (hc:X.calm=true)
  (hs:starEach [a] X.env=[(false,eval a X.env)]) (hs2:starEach [.Call (.Name "set" p2) [a] [] pos2] X.env=[(false,eval (.Call (.Name "set" p2) [a] [] pos2) X.env)]) :
  PE X (.Call (.Name "sorted" p) [.Call (.Name "set" p2) [a] [] pos2] [] pos) (R5 X.K ta):=by
 intro pins s σ H Q I h
 refine DM (ko I hgs hms (by first | exact FJ | decide +kernel) ?_ (by decide) (by decide))
 refine EF ?_ hs2 rfl
 rw[hs2]
 refine DL ?_
 refine DM (ko I hgt hmt (by first | exact JR | decide +kernel) ?_ (by decide) (by decide))
 refine DB ?_ hs rfl
 rw[hs]
 refine DL (thn (ha pins s σ H _ I h) λu s1 ⟨v,H1,I1,r1,b,vs,rs,ev,hq,hp,hne,h60,q⟩=>EA ?_)
 subst ev
 cases(show u=Value.ref b from r1)
 obtain⟨its,hv,pl,_⟩:=I1.list hq
 have l1:=DC hp
 have l2:=hv.length
 have ln:its.length=rs.length:=by lia
 -- the items: refs to tuples
 obtain⟨kv,hkv⟩:∃kv:Nat->List Int×Addr,∀i,i<rs.length->(kv i).1=rs.getD i []/\vs.getD i .non=.ref (kv i).2/\SqT X.K H1 (kv i).2 ((rs.getD i []).map V.int):=by
  have ex:∀i,∃z:List Int×Addr,i<rs.length->z.1=rs.getD i []/\vs.getD i .non=.ref z.2/\SqT X.K H1 z.2 ((rs.getD i []).map V.int):=λi=>by
   by_cases hi:i<rs.length
   ·obtain⟨c,e1,e2⟩:=f9 (d:=[]) (e:=V.non) hp i hi
    exact⟨(rs.getD i [],c),λ_=>⟨rfl,e1,e2⟩⟩
   ·exact⟨([],0),λz=>absurd z hi⟩
  exact⟨λi=>Classical.choose (ex i),λi hi=>Classical.choose_spec (ex i) hi⟩
 have isk:∀i,i<rs.length->(Sets.tki X.prog X.w).is s1.heap (kv i).1 (kv i).2/\k8 s1.heap (kv i).1 (.ref (kv i).2):=λi hi=>by
  obtain⟨k1,k2,k3⟩:=hkv i hi
  obtain⟨its',rv,it,_⟩:=I1.tuple k3
  have it':=it
  obtain⟨o,g1,g2,n,g3⟩:=it'
  rw[k1]
  refine⟨⟨o,its'.toArray,n,g1,g2,g3,by simpa using Sets.rj rv⟩,?_,(kv i).2,its',rfl,it,rv⟩
  exact hne _ (by rw[BK,AD hi];exact CO hi)
 refine Sets.Fn (b:=true) (kv:=kv) (I1.ok.hd hc) (by lia) (items:=its.toArray) ?_ (λi v z=>?_) (by rw[AE];lia) λh1 tk1 hH k1=>EA ?_
 ·obtain⟨o,n,e1,e2,e3,e4⟩:=pl
  exact⟨o,e1,e2,n,e4⟩
 ·have z':its[i]? = some v:=by simpa using z
  have hi:i<rs.length:=by have:=(AL.mp z').1;lia
  have rv:=f9 (d:=V.non) (e:=Value.none) hv i (by lia)
  rw[(hkv i hi).2.1]at rv
  have ev:its.getD i Value.none=v:=by rw[BK,z'];rfl
  rw[ev]at rv
  exact⟨show v=Value.ref (kv i).2 from rv,(isk i hi).1⟩
 have hsz:its.toArray.size=rs.length:=by rw[AE];exact ln
 rw[hsz]at hH
 have hlen:=Sets.md kv rs.length
 refine zy (Sets.za (s:={s1 with heap:=h1,toks:=tk1}) (I1.ok.hd hc) hH (λpp hpp=>?_) (by lia) λh2 tk2 d pq out c bs k2 lp qp i1 i2 i3=>?_)
 ·obtain⟨i,hi,rfl⟩:=Sets.t6 kv _ pp hpp
  exact(isk i hi).2.keep k1
 have lz:s1.heap.objs.size<h1.objs.size:=by obtain⟨o,_,_,_,z,_⟩:=hH;exact AJ z
 have lp':s1.heap.objs.size<=pq:=by
  have:h1.objs.size<=pq:=lp
  lia
 have er:(List.range rs.length).map (λi=>(kv i).1)=rs:=by
  refine Eq.trans (DJ λi hi=>(hkv i (by simpa using hi)).1) ?_
  exact Srt.range_getD ([]:List Int) rs
 have e1:bs.map (·.1)=i5 (C5 rs):=by rw[i2,Sets.Fo,er]
 have bsl:bs.length<=rs.length:=by rw[i1.length_eq];exact hlen
 have relp:Paired (O7 X.K H1) (bs.map (·.1)) (bs.map λp=>V.ref p.2):=by
  have:∀{l:List (List Int×Addr)},(∀p∈l,∃i,i<rs.length/\p=kv i)->Paired (O7 X.K H1) (l.map (·.1)) (l.map λp=>V.ref p.2):=by
   intro l
   induction l with
   |nil=>exact λ_=>.nil
   |cons p l ih =>
    intro hl
    obtain⟨i,hi,rfl⟩:=hl p AM
    refine .cons ⟨(kv i).2,rfl,?_⟩ (ih λp' hp'=>hl p' (AF _ hp'))
    show SqT X.K H1 (kv i).2 ((kv i).1.map V.int)
    rw[(hkv i hi).1];exact(hkv i hi).2.2
  exact this λp hp=>Sets.t6 kv _ p (i1.mem_iff.mp hp)
 have vl:bo (bs.map λp=>V.ref p.2) out.toList:=by
  rw[i3]
  have:∀l:List (List Int×Addr),bo (l.map λp=>V.ref p.2) (l.map λp=>Value.ref p.2):=λl=>by
   induction l with
   |nil=>exact .nil
   |cons p l ih=>exact .cons rfl ih
  exact this bs
 have I2:=I1.laid (a:=pq) (o:=.lst (bs.map λp=>V.ref p.2)) (h':=h2) (t':=tk2) (λb o z=>k2 b o (k1 b o z)) lp' ⟨by rw[AG,CB];lia,out.toList,c,vl,by rw[JX];exact qp⟩
 rw[e1]at relp
 exact⟨.ref pq,_,Sets.drew I2,rfl,q _ relp pq (I1.hok.fresh lp')⟩
end
section
variable{X:Cx}{φ:Phi}{a:Expr}{xa:Ex}{p p2 pos pos2:Pos}{m:Mk}
theorem K3{K:PySem.W.Frag}{ι:List Addr}{H:Hp}:∀{rs:List (List Int)} {vs:List V},ah K ι H (rs.map λr=>D.tup (r.map D.int)) vs->Paired (O7 K H) rs vs
 | [],vs,h=>by
  have e:vs=[]:=by simpa[ah]using h
  subst e
  exact .nil
 |r::rs,vs,h=>by
  simp![AO,ah]at h
  obtain⟨v,vr,rfl,q,t⟩:=h
  obtain⟨b,ys,rfl,hs,hd⟩:=fz q
  have e:ys=r.map V.int:=Lp.ints_of hd (Ak r)
  subst e
  exact .cons ⟨b,rfl,hs⟩ (K3 t)
theorem K4{K:PySem.W.Frag}{ι:List Addr}{H:Hp}:∀{rs:List (List Int)} {vs:List V},Paired (O7 K H) rs vs->ah K ι H (rs.map λr=>D.tup (r.map D.int)) vs
 | [],_,.nil=>by simp[ah]
 |r::rs,v::vs,.cons ⟨b,e,hs⟩ t=>by
  subst e
  simp![AO,ah]
  refine⟨_,_,rfl,?_,K4 t⟩
  simp![Lp.IsD]
  exact⟨b,_,rfl,hs,ah.ints _⟩
theorem Fp{σv:St}{H:Hp}{Q:VK}(h:tE X.K φ (.blt .sortedST m (.cons xa .nil)) σv H Q):R5 X.K (tE X.K φ xa) σv H Q:=by
 obtain⟨ι,σ,μ,hS,hL,h⟩:=h
 simp![evE,fj]at h
 rw[Res.bind_assoc]at h
 obtain⟨d,μ1,e1,h⟩:=h.bind
 refine⟨ι,σ,μ,hS,hL,?_⟩
 rw[e1]
 intro ι1 v H1 p1 x1 s1 d1
 have h:=h.mono p1 x1
 simp![Res.bg]at h
 simp![btD,gu,ya]at h
 cases el:Lp.listOf μ1 d with
 |none=>rw[el]at h;exact h.elim
 |some zs =>
  rw[el]at h
  simp![DT]at h
  cases er:rowsOf zs with
  |none=>rw[er]at h;exact h.elim
  |some rs =>
   rw[er]at h
   simp only at h
   split at h
   ·rename_i hc
    obtain⟨b,vV,rfl,hq,hz⟩:=ic s1 d1 el
    have ez:=oz er
    subst ez
    refine⟨b,vV,rs,rfl,hq.sq,K3 hz,λr hr=>?_,hc.1,λys hy q z=>i6 s1 (K4 hy) h z⟩
    have:=AW.mp hc.2 r hr
    intro e
    subst e
    simp at this
   ·exact h.elim
theorem Cu (hu:X.A.units+64<cLine) (hms:X.mg "sorted"=none) (hmt:X.mg "set"=none) (ha:PE X a (tE X.K φ xa)) (hgs:Gl X "sorted":=by rfl) (hgt:Gl X "set":=by rfl) (hc:X.calm=true:=by rfl)
  (hs:starEach [a] X.env=[(false,eval a X.env)]:=by rfl) (hs2:starEach [.Call (.Name "set" p2) [a] [] pos2] X.env=[(false,eval (.Call (.Name "set" p2) [a] [] pos2) X.env)]:=by rfl) :
  PE X (.Call (.Name "sorted" p) [.Call (.Name "set" p2) [a] [] pos2] [] pos) (tE X.K φ (.blt .sortedST m (.cons xa .nil))) :=
 PE.imp (t8 hu hms hmt ha hgs hgt hc hs hs2) λσv H Q h=>Fp h
end
section
variable{X:Cx}{φ:Phi}{o e:Expr}{es:List Expr}{xo:Ex}{xs:Exs}{apos cpos:Pos}
noncomputable def rInsert:V->List V->Hp->VK->Prop:=λx vs H Q=>∃l xs i y,x=.ref l/\vs=[.int i,y]/\H l=some (.lst xs)/\0<=i/\i<=(xs.length:Int)/\xs.length<sizeLine/\Q .non (upd H l (.lst (xs.take i.toNat++y::xs.drop i.toNat)))
theorem Fq:MtM X "list.insert" rInsert:=by
 intro pins s σ H x vs v us Q I rx rv h
 obtain⟨l,xs,i,y,rfl,rfl,hH,h1,h2,hz,q⟩:=h
 cases rx
 obtain⟨a,u,rfl,ra,ru⟩:=vals2 rv
 obtain⟨t,rfl⟩:=ra
 obtain⟨z,its,n,r,hl,e⟩:=I.lstM hH
 have h24:sizeLine=16777216:=CB
 refine GP F.slot_list_insert ⟨_,e,rfl⟩ F.entry_list_insert (F.args_list_insert_3 _ _ _)
  (AutoSeq1.list_insert_list_int_val_1 l its.toArray n i t u (by rw[fitsIndex_both (k:=i) (by lia) (by lia)];decide) (by rw[AE];lia)) ⟨e,?_⟩
 refine⟨.non,_,I.lset (its':=its.take i.toNat++u::its.drop i.toNat) hH e ?_ ((r.take i.toNat).append (.cons ru (r.drop i.toNat))) ?_,rfl,q⟩
 ·have hk:(if i<0 then(i+((its.toArray.size:Nat):Int)).toNat else min i.toNat its.toArray.size)=i.toNat:=by
   rw[if_neg (by lia),AE];lia
  simp![hk]
  apply Array.toList_inj.mp
  simp
  exact DH (by simp)
 ·simp
  lia
theorem Jp:MtR X "list.insert" (rMt X.K .insert):=MtR.imp Fq λx vs H Q h0=>by
 obtain⟨ι,n,ob,xs,ds,μ,a,ws,hS,hds,rfl,ha,hH,h1,h2,h⟩:=Ij (by decide) h0
 clear h0
 simp![mtL]at h
 split at h
 ·rename_i i d
  obtain⟨v,w,rfl,hv,hw⟩:=Ee hds
  cases cw hv
  split at h
  ·rename_i hf
   rw[fu]at hf
   refine⟨a,ws,i,w,rfl,rfl,hH,hf.1,by rw[h1.length];exact hf.2.1,by rw[h1.length];exact hf.2.2.2,ju hS ha hH ((h1.take _).append ((ah.one hw).append (h1.drop _))) (λes e=>((h2 es e).take _).append ((ah.one (oo hf.2.2.1 hw es e)).append ((h2 es e).drop _))) (by simp[IsD]) h⟩
  ·exact h.elim
 ·exact h.elim
theorem zc(ho:PE X o (tE X.K φ xo))(ha:PA X (e::es) (tEs X.K φ xs))(h5:Ma X o "insert" e es apos cpos:=by exact⟨rfl,rfl,rfl,rfl,rfl⟩):PE X (.Call (.Attribute o "insert" apos) (e::es) [] cpos) (tE X.K φ (.meth .insert xo xs)) :=
 Af (jv λ_ _=>rfl) (Hs GF F.slot_list_insert F.type_list_insert Jp ho ha h5.b h5.f h5.l h5.s h5.p)
end
theorem V6{α:Type}{Q:α->Prop}:∀(j:Nat) e,([]:List α)[j]? = some e->Q e:=λj e h=>by simp at h
theorem gb{α:Type}{Q:α->Prop}{a:α}{l:List α}(h:Q a)(t:∀(j:Nat) e,l[j]? = some e->Q e):∀(j:Nat) e,(a::l)[j]? = some e->Q e
 |0,_,z=>by
  have z':some a=some _:=z
  cases z'
  exact h
 |j+1,_,z=>t j _ z
theorem dmk {T:List Df} {P:Program} {w:World} {K:PySem.W.Frag} {mg:Str->Option Value} {base:Heap} {es:List Ent} {e:Ent}
  (dv:∀(n:Nat) (fa:Addr) (cdv:Value) (A:Around) (outer:List Env) (s:Shared) (H:Hp) (E:XK),(A.deeper (envOfC e.name (bf e.st) s.heap.objs.size fa cdv)).units+64<cLine ->
   (∀(j:Nat) e',es[j]? = some e'->Callee P w K mg base (A.deeper (envOfC e.name (bf e.st) s.heap.objs.size fa cdv)) (aq T n) e'.id e'.name) ->
   PSs (Hn CX0 P w K mg base e.N e.name (bf e.st) fa cdv A outer s H E).nox (i4 e.st) (tSs K (aq T n) e.df.body))
  (sc:FnScope e.N e.ps (bf e.st):=by exact⟨rfl,rfl,rfl,by decide +kernel,rfl,by decide +kernel,by decide +kernel⟩) (tb:T[e.id]? = some e.df:=by rfl) (np:e.df.np=e.ps.length:=by rfl) (nn:e.df.nn=e.N.length:=by rfl):Derived T P w K mg base es e:=⟨sc,tb,np,nn,dv⟩
noncomputable abbrev EXK:=Value->Hp->Prop
end Lp
namespace PySem
open Builtin Builtin.ObjectAttr
section
variable{prog:Program}{w:World}{A:Around}{E:Value -> Shared -> Prop}{h:Heap}{g:Array GenState}{d:Drawn}{t:Nat}{os:OsState}
variable{nms:List Str}{nm q:Str}{C N x:Addr}{bs bm bmB:List Value}{sn:List Str}{sub:List Value}{ab:Bool}{col:Option Bool}{dd:Option Addr}{k0 k1 k2 k3 k5:Option Value}{B newId sa owner:String}
 {mN mA:Str->Option Value} {name:Str} {v:Value}
end
end PySem
namespace L2
open PySem PySem.Spec PyProof.Rows
section
variable{prog:Program}{w:World}{A:Around}{E:Value -> Shared -> Prop}{h:Heap}{g:Array GenState}{d:Drawn}{t:Nat}{os:OsState}
variable{nms:List Str}{nm q:Str}{C N x:Addr}{bs bm bmB:List Value}{sn:List Str}{sub:List Value}{ab:Bool}{col:Option Bool}{dd:Option Addr}{k0 k1 k2 k3 k5:Option Value}{B newId sa owner:String}
 {mN mA:Str->Option Value} {v:Value}
end
end L2
namespace Lp
open PySem PySem.Spec PyProof.Rows L2
structure MEnt where
 cls:Str
 m:Str
 e:Ent
end Lp
namespace Lp.Tim
open PySem PyProof.Rows
structure Sm (st st':SortSt):Prop where
 kind:kindOf st'=kindOf st
 arr:arrOf st'=arrOf st
 pend:pendingOf st'=pendingOf st
 fail:failedOf st'=failedOf st
end Lp.Tim
namespace Lr
open Lp
open PySem
theorem t9{f:D->Sl->Sto->Res Fl}(I:Nat->Sl->Sto->Prop):∀{ds:List D} {σ:Sl} {μ:Sto} (k:Nat),I k σ μ ->
  (∀(j:Nat) d σ μ,ds[j]? = some d->I (k+j) σ μ->∃σ' μ',f d σ μ=.ok (.nx σ') μ'/\I (k+j+1) σ' μ') ->
  ∃σ' μ',jy none f ds σ μ=.ok (.nx σ') μ'/\I (k+ds.length) σ' μ'
 | [],σ,μ,k,h,_=>⟨σ,μ,by simp[jy],h⟩
 |d::ds,σ,μ,k,h,st=>by
  obtain⟨σ1,μ1,e1,h1⟩:=st 0 d σ μ rfl h
  obtain⟨σ2,μ2,e2,h2⟩:=t9 I (ds:=ds) (σ:=σ1) (μ:=μ1) (k+1) h1 λj d σ μ e i=>by
   obtain⟨σ',μ',a,b⟩:=st (j+1) d σ μ (by simpa using e) (by rw[show k+(j+1)=k+1+j by omega];exact i)
   exact⟨σ',μ',a,by rw[show k+1+j+1=k+(j+1)+1 by omega];exact b⟩
  refine⟨σ2,μ2,?_,by rw[show k+(d::ds).length=k+1+ds.length by simp;omega];exact h2⟩
  simp![jy,yc,if_true,e1,Res.bg,e2]
theorem ak{T:List Df}{n i:Nat}{d:Df}{ds:List D}{μ:Sto}(h:T[i]? = some d):aq T (n+1) i ds μ=O4 (aq T n) d ds μ:=by
 simp![aq,h]
noncomputable def finD(fl:Fl)(μ:Sto):Res D:=match fl with
 |.nx _=>.ok .non μ
 |.rt d=>.ok d μ
 |_=>.stuck
@[simp] theorem Fs (d:D) (μ:Sto):finD (.rt d) μ=.ok d μ:=rfl
@[simp] theorem Ft (σ:Sl) (μ:Sto):finD (.nx σ) μ=.ok .non μ:=rfl
theorem run_eq{φ:Phi}{f:Df}{ds:List D}{μ:Sto}(h:ds.length=f.np):O4 φ f ds μ=(k6 φ f.body (ds.map some++List.replicate (f.nn-f.np) none) μ).bind finD:=by
 rw[O4,if_pos h];rfl
theorem jw(b:Nat):∀(k:Nat) (d:D),D.pureN k d=true->D.belowN b k d=true
 |0,d,h=>by cases d<;>simp_all[D.pureN,D.belowN]
 |k+1,d,h=>by
  cases d with
  |tup ds =>
   simp![D.pureN,D.belowN,AW]at h ⊢
   exact λx hx=>jw b k x (h x hx)
  |lst ds =>
   simp![D.pureN,D.belowN,AW]at h ⊢
   exact λx hx=>jw b k x (h x hx)
  |loc n=>simp[D.pureN]at h
  |_=>rfl
theorem Ay{k:Nat}{ds:List D}:D.pureN (k+1) (.tup ds)=ds.all (D.pureN k):=rfl
theorem Az{k:Nat}{ds:List D}:D.pureN (k+1) (.lst ds)=ds.all (D.pureN k):=rfl
theorem lg{k:Nat}{i:Int}:D.pureN k (.int i)=true:=by cases k<;>rfl
noncomputable abbrev p9(μ:Sto):Prop:=μ.all (gh μ.length)=true
theorem Cv{d:D}{μ:Sto}{b:Nat}(hd:d.pure=true)(hb:μ.length=b)(hr:p9 μ):l5 false b (.ok d μ)=.ok d μ:=by
 have e:μ.take b=μ:=DH (by omega)
 have hr':μ.all (gh b)=true:=by rw[<-hb];exact hr
 simp![l5,AQ,if_false,e,jw b 8 d hd,hr',and_self,if_true]
@[simp] theorem me {d:D} {μ:Sto} {b:Nat}:l5 true b (.ok d μ)=.ok d μ:=by simp[l5]
theorem op_mul{i j:Int}{μ:Sto}(h:CMul i j):opI .Mult i j μ=.ok (.int (i*j)) μ:=by simp[opI,h]
theorem lh{i j:Int}{μ:Sto}(h:0<j)(h2:j<1073741824):opI .FloorDiv i j μ=.ok (.int (i / j)) μ:=by simp[opI,h,h2]
theorem op_mod{i j:Int}{μ:Sto}(h:0<j):opI .Mod i j μ=.ok (.int (i % j)) μ:=by simp[opI,h]
theorem op_add{i j:Int}{μ:Sto}:opI .Add i j μ=.ok (.int (i+j)) μ:=rfl
theorem op_sub{i j:Int}{μ:Sto}:opI .Sub i j μ=.ok (.int (i-j)) μ:=rfl
theorem op_pow{i:Int}{j:Int}{μ:Sto}(h:0<=j/\j<=1000000/\i.natAbs<2 ^ 64):opI .Pow i j μ=.ok (.int (i ^ j.toNat)) μ:=by simp[opI,h]
theorem op_shr{i j:Int}{μ:Sto}(h:0<=j):opI .RShift i j μ=.ok (.int (i / 2 ^ j.toNat)) μ:=by simp[opI,h]
theorem zd{op:Operator}{m:Mk}{i j:Int}{μ:Sto}:opD op m (.int i) (.int j) μ=opI op i j μ:=rfl
theorem _root_.Lp.CMul.left{i j:Int}(h:-(2 ^ 64)<i)(h2:i<2 ^ 64):CMul i j:=.inl ⟨h,h2⟩
theorem _root_.Lp.CMul.right{i j:Int}(h:-(2 ^ 64)<j)(h2:j<2 ^ 64):CMul i j:=.inr ⟨h,h2⟩
theorem pd(ns:List Int):cy (ns.map D.int)=some ns:=by
 induction ns with
 |nil=>rfl
 |cons n r ih=>simp[cy,ih]
theorem iq(ns:List Bool):j4 (ns.map D.bl)=some ns:=by
 induction ns with
 |nil=>rfl
 |cons n r ih=>simp[j4,ih]
theorem A0(i:Int):(D.int i).pure=true:=rfl
open PySem
section
variable(φ:Phi)
noncomputable def Xg(o:Option (Option D))(μ:Sto):Res D:=match o with
 |some (some d)=>.ok d μ
 |_=>.stuck
noncomputable def kB(op:Operator)(m:Mk)(b:Ex)(σ:Sl)(x:D)(μ:Sto):Res D:=(evE φ b σ μ).bind (opD op m x)
noncomputable def kNeg(x:D)(μ:Sto):Res D:=match x with
 |.int i=>.ok (.int (-i)) μ
 |_=>.stuck
noncomputable def kNot(x:D)(μ:Sto):Res D:=match x with
 |.bl b=>.ok (.bl (!b)) μ
 |_=>.stuck
noncomputable def V7(b:Ex)(σ:Sl)(x:D)(μ:Sto):Res D:=match x with
 |.bl c=>if c=true then evE φ b σ μ else .ok (.bl false) μ
 |_=>.stuck
noncomputable def kOr(b:Ex)(σ:Sl)(x:D)(μ:Sto):Res D:=match x with
 |.bl c=>if c=true then .ok (.bl true) μ else evE φ b σ μ
 |_=>.stuck
noncomputable def V8(a b:Ex)(σ:Sl)(x:D)(μ:Sto):Res D:=match x with
 |.bl c=>if c=true then evE φ a σ μ else evE φ b σ μ
 |_=>.stuck
noncomputable def Xh(r:Cps)(σ:Sl)(x:D)(μ:Sto):Res D:=evC φ r x σ μ
noncomputable def T6(r:Cps)(y:D)(σ:Sl)(z:D)(μ:Sto):Res D:=match z with
 |.bl b=>if b=true then evC φ r y σ μ else .ok (.bl false) μ
 |_=>.stuck
noncomputable def kCh(op:Cp)(x:D)(r:Cps)(σ:Sl)(y:D)(μ:Sto):Res D:=(cpD op x y μ).bind (T6 φ r y σ)
noncomputable def wj(keep:Bool)(f:Nat)(ds:List D)(μ:Sto):Res D:=l5 keep μ.length (φ f ds μ)
noncomputable def kM(mt:Mt)(es:Exs)(σ:Sl)(x:D)(μ:Sto):Res D:=if gv mt x μ=true then(fj φ es σ μ).bind (mtD mt x)else .stuck
noncomputable def kIx(b:Ex)(σ:Sl)(x:D)(μ:Sto):Res D:=(evE φ b σ μ).bind (ixD x)
noncomputable def V9(m:Mk)(hi:ExO)(σ:Sl)(x:D)(l:Option Int)(μ:Sto):Res D:=(evO φ hi σ μ).bind (slD m x l)
noncomputable def kSl(m:Mk)(lo hi:ExO)(σ:Sl)(x:D)(μ:Sto):Res D:=(evO φ lo σ μ).bind (V9 φ m hi σ x)
noncomputable def kTup(ds:List D)(μ:Sto):Res D:=.ok (.tup ds) μ
noncomputable def Wa(d:D)(ds:List D)(μ:Sto):Res (List D):=.ok (d::ds) μ
noncomputable def kEs(es:Exs)(σ:Sl)(d:D)(μ:Sto):Res (List D):=(fj φ es σ μ).bind (Wa d)
noncomputable def kInt(x:D)(μ:Sto):Res (Option Int):=match x with
 |.int i=>.ok (some i) μ
 |_=>.stuck
noncomputable def kOne(x:D)(μ:Sto):Res (List D):=.ok [x] μ
noncomputable def T7(elt:Ex)(σ:Sl)(b:Bool)(μ:Sto):Res (List D):=if b=true then(evE φ elt σ μ).bind kOne else .ok [] μ
noncomputable def Xi(cs:Exs)(elt:Ex)(μ:Sto)(σ:Sl):Res (List D):=(B8 φ cs σ μ).bind (T7 φ elt σ)
noncomputable def pf(tg:Tg)(cs:Exs)(elt:Ex)(σ0:Sl)(d:D)(μ:Sto):Res (List D):=ji (gp tg d σ0) (Xi φ cs elt μ)
noncomputable def jz(m:Mk)(tg:Tg)(cs:Exs)(elt:Ex)(σ0:Sl)(w:List D×Gd)(μ:Sto):Res D:=(mapR w.2 (pf φ tg cs elt σ0) w.1 μ).bind (mkL m)
noncomputable def kCs(es:Exs)(σ:Sl)(x:D)(μ:Sto):Res Bool:=match x with
 |.bl b=>if b=true then B8 φ es σ μ else .ok false μ
 |_=>.stuck
noncomputable def kSeq(x:D)(μ:Sto):Res (List D×Gd):=match bu μ x with
 |some w=>.ok w μ
 |none=>.stuck
noncomputable def kRng(x:D)(μ:Sto):Res (List D×Gd):=match x with
 |.int j=>if -(lim:Int)<=j/\j<=lim then .ok ((List.range j.toNat).map fun(i:Nat)=>D.int i,none) μ else .stuck
 |_=>.stuck
noncomputable def K5(x y:D)(μ:Sto):Res (List D×Gd):=match x,y with
 |.int i,.int j=>if -(lim:Int)<=i/\i<=lim/\j<=lim /\ -(lim:Int)<=j/\(j-i)<=lim then .ok ((List.range (j-i).toNat).map fun(k:Nat)=>D.int (i+k),none) μ else .stuck
 |_,_=>.stuck
noncomputable def R6(b:Ex)(σ:Sl)(x:D)(μ:Sto):Res (List D×Gd):=(evE φ b σ μ).bind (K5 x)
noncomputable def Cw(x y:D)(μ:Sto):Res (List D×Gd):=match bu μ x,dn [] y with
 |some w,some ys=>.ok ((w.1.zip ys).map λp=>.tup [p.1,p.2],w.2) μ
 |_,_=>.stuck
noncomputable def Xj(b:Ex)(σ:Sl)(x:D)(μ:Sto):Res (List D×Gd):=(evE φ b σ μ).bind (Cw x)
noncomputable def kEnum(x:D)(μ:Sto):Res (List D×Gd):=match bu μ x with
 |some w=>.ok ((List.range w.1.length |>.zip w.1).map fun(p:Nat×D)=>.tup [.int p.1,p.2],w.2) μ
 |none=>.stuck
noncomputable def kVals(x:D)(μ:Sto):Res (List D×Gd):=match x with
 |.loc n=>match μ[n]? with
  |some (.d kvs)=>.ok (kvs.map (·.2),none) (μ.set n .dead)
  |_=>.stuck
 |_=>.stuck
noncomputable def Xk(i:Nat)(σ:Sl)(d:D)(μ:Sto):Res Fl:=.ok (.nx (σ.set i (some d))) μ
noncomputable def Wb(o:Option Sl)(μ:Sto):Res Fl:=match o with
 |some σ'=>.ok (.nx σ') μ
 |none=>.stuck
noncomputable def Xl(is:List Nat)(σ:Sl)(d:D)(μ:Sto):Res Fl:=Wb (gp (.many is) d σ) μ
noncomputable def kNx{α:Type}(σ:Sl)(_:α)(μ:Sto):Res Fl:=.ok (.nx σ) μ
noncomputable def Wc(σ:Sl)(d x:D)(y:D)(μ:Sto):Res Fl:=(yb x y d μ).bind (kNx σ)
noncomputable def Wd(i:Ex)(σ:Sl)(d:D)(x:D)(μ:Sto):Res Fl:=(evE φ i σ μ).bind (Wc σ d x)
noncomputable def kSx(o i:Ex)(σ:Sl)(d:D)(μ:Sto):Res Fl:=(evE φ o σ μ).bind (Wd φ i σ d)
noncomputable def kIf(a b:Sms)(σ:Sl)(x:D)(μ:Sto):Res Fl:=match x with
 |.bl k=>if k=true then k6 φ a σ μ else k6 φ b σ μ
 |_=>.stuck
noncomputable def kLp(b:Sms)(μ:Sto)(σ:Sl):Res Fl:=k6 φ b σ μ
noncomputable def fLp(tg:Tg)(b:Sms)(d:D)(σ:Sl)(μ:Sto):Res Fl:=ji (gp tg d σ) (kLp φ b μ)
noncomputable def ph(tg:Tg)(b:Sms)(σ:Sl)(w:List D×Gd)(μ:Sto):Res Fl:=jy w.2 (fLp φ tg b) w.1 σ μ
noncomputable def kRet(d:D)(μ:Sto):Res Fl:=.ok (.rt d) μ
noncomputable def kSs(r:Sms)(fl:Fl)(μ:Sto):Res Fl:=match fl with
 |.nx σ'=>k6 φ r σ' μ
 |fl=>.ok fl μ
end
section
variable{φ:Phi}{σ:Sl}{μ:Sto}{a b c e o i:Ex}{es:Exs}{m:Mk}{op:Operator}{r:Cps}{s:Sm}{rs:Sms}
theorem R7{i:Nat}:evE φ (.var i) σ μ=Xg σ[i]? μ:=rfl
theorem R8{d:D}:evE φ (.cst d) σ μ=.ok d μ:=rfl
theorem R9:evE φ (.bin op m a b) σ μ=(evE φ a σ μ).bind (kB φ op m b σ):=rfl
theorem Sa:evE φ (.neg a) σ μ=(evE φ a σ μ).bind kNeg:=rfl
theorem Sb:evE φ (.not a) σ μ=(evE φ a σ μ).bind kNot:=rfl
theorem Sd:evE φ (.and a b) σ μ=(evE φ a σ μ).bind (V7 φ b σ):=rfl
theorem Xm:evE φ (.or a b) σ μ=(evE φ a σ μ).bind (kOr φ b σ):=rfl
theorem Se:evE φ (.ite c a b) σ μ=(evE φ c σ μ).bind (V8 φ a b σ):=rfl
theorem Sf:evE φ (.cmp a r) σ μ=(evE φ a σ μ).bind (Xh φ r σ):=rfl
theorem Jq{α:Type}(x:Res α):(x.bind λa μ=>.ok a μ)=x:=by cases x<;>rfl
theorem Sg{op:Cp}{x:D}:evC φ (.cons op e .nil) x σ μ=(evE φ e σ μ).bind (cpD op x):=by
 simp![evC,Jq]
theorem K6{op op':Cp}{x:D}{e':Ex}:evC φ (.cons op e (.cons op' e' r)) x σ μ=(evE φ e σ μ).bind (kCh φ op x (.cons op' e' r) σ):=by
 rw[evC]
 all_goals rfl
theorem K7{keep:Bool}{f:Nat}:evE φ (.call keep f es) σ μ=(fj φ es σ μ).bind (wj φ keep f):=rfl
theorem Sh{b:Bt}:evE φ (.blt b m es) σ μ=(fj φ es σ μ).bind (btD b m):=rfl
theorem Si{c:Cl}:evE φ (.isi a c) σ μ=(evE φ a σ μ).bind (Qn c):=rfl
theorem K8{mt:Mt}:evE φ (.meth mt o es) σ μ=(evE φ o σ μ).bind (kM φ mt es σ):=rfl
theorem Xn:evE φ (.ix a b) σ μ=(evE φ a σ μ).bind (kIx φ b σ):=rfl
theorem Xo{lo hi:ExO}:evE φ (.sl m a lo hi) σ μ=(evE φ a σ μ).bind (kSl φ m lo hi σ):=rfl
theorem Sj:evE φ (.tup es) σ μ=(fj φ es σ μ).bind kTup:=rfl
theorem Sk:evE φ (.lst m es) σ μ=(fj φ es σ μ).bind (mkL m):=rfl
theorem Sn{t:Bool}:evE φ (.dic t es) σ μ=(fj φ es σ μ).bind (Qp t):=rfl
theorem K9{cap:List Nat}{nl:Nat}{tg:Tg}{it:It}{cs:Exs}{elt:Ex}:evE φ (.comp m cap nl tg it cs elt) σ μ=(evI φ it σ μ).bind (jz φ m tg cs elt (cap.map (λi=>(σ[i]?).getD none)++List.replicate nl none)):=rfl
theorem La:fj φ .nil σ μ=.ok [] μ:=rfl
theorem Fu:fj φ (.cons e es) σ μ=(evE φ e σ μ).bind (kEs φ es σ):=rfl
theorem Xp:evO φ .no σ μ=.ok none μ:=rfl
theorem Xq:evO φ (.so e) σ μ=(evE φ e σ μ).bind kInt:=rfl
theorem Lb:B8 φ .nil σ μ=.ok true μ:=rfl
theorem Fv:B8 φ (.cons e es) σ μ=(evE φ e σ μ).bind (kCs φ es σ):=rfl
theorem So:evI φ (.seq e) σ μ=(evE φ e σ μ).bind kSeq:=rfl
theorem Sr:evI φ (.rng e) σ μ=(evE φ e σ μ).bind kRng:=rfl
theorem Lc:evI φ (.rng2 a b) σ μ=(evE φ a σ μ).bind (R6 φ b σ):=rfl
theorem Ss:evI φ (.zip a b) σ μ=(evE φ a σ μ).bind (Xj φ b σ):=rfl
theorem Ld:evI φ (.enum a) σ μ=(evE φ a σ μ).bind kEnum:=rfl
theorem Le:evI φ (.vals a) σ μ=(evE φ a σ μ).bind kVals:=rfl
theorem Su{i:Nat}:evS φ (.set i e) σ μ=(evE φ e σ μ).bind (Xk i σ):=rfl
theorem Sv{is:List Nat}:evS φ (.unp is e) σ μ=(evE φ e σ μ).bind (Xl is σ):=rfl
theorem Lg:evS φ (.setx o i e) σ μ=(evE φ e σ μ).bind (kSx φ o i σ):=rfl
theorem Xr:evS φ (.ex e) σ μ=(evE φ e σ μ).bind (kNx σ):=rfl
theorem Sw{x y:Sms}:evS φ (.ite c x y) σ μ=(evE φ c σ μ).bind (kIf φ x y σ):=rfl
theorem Lh{tg:Tg}{it:It}{b:Sms}:evS φ (.loop tg it b) σ μ=(evI φ it σ μ).bind (ph φ tg b σ):=rfl
theorem Sx:evS φ (.ret e) σ μ=(evE φ e σ μ).bind kRet:=rfl
theorem Li:evS φ .pass σ μ=.ok (.nx σ) μ:=rfl
theorem Sy:evS φ .brk σ μ=.ok (.bk σ) μ:=rfl
theorem Lj:evS φ .cont σ μ=.ok (.ct σ) μ:=rfl
theorem Lk:k6 φ .nil σ μ=.ok (.nx σ) μ:=rfl
theorem Fw:k6 φ (.cons s rs) σ μ=(evS φ s σ μ).bind (kSs φ rs):=rfl
theorem ay{f:Nat}{ds:List D}{d:D}{μ':Sto}(h:φ f ds μ=.ok d μ')(hd:d.pure=true)(hl:μ'.length=μ.length)(hr:p9 μ'):wj φ false f ds μ=.ok d μ':=by
 rw[wj,h,Cv hd hl hr]
theorem Jr{mt:Mt}{x:D}(h:gv mt x μ=true):kM φ mt es σ x μ=(fj φ es σ μ).bind (mtD mt x):=by rw[kM,if_pos h]
theorem wm{d:D}:Xg (some (some d)) μ=.ok d μ:=rfl
theorem A1{i:Int}:kNeg (.int i) μ=.ok (.int (-i)) μ:=rfl
theorem Fx{b:Bool}:kNot (.bl b) μ=.ok (.bl (!b)) μ:=rfl
theorem Ll{b:Ex}:V7 φ b σ (.bl true) μ=evE φ b σ μ:=rfl
theorem Lm{b:Ex}:V7 φ b σ (.bl false) μ=.ok (.bl false) μ:=rfl
theorem Sz{b:Ex}:kOr φ b σ (.bl true) μ=.ok (.bl true) μ:=rfl
theorem S0{b:Ex}:kOr φ b σ (.bl false) μ=evE φ b σ μ:=rfl
theorem Ln:V8 φ a b σ (.bl true) μ=evE φ a σ μ:=rfl
theorem Lo:V8 φ a b σ (.bl false) μ=evE φ b σ μ:=rfl
theorem Lq{y:D}:T6 φ r y σ (.bl true) μ=evC φ r y σ μ:=rfl
theorem Ls{y:D}:T6 φ r y σ (.bl false) μ=.ok (.bl false) μ:=rfl
theorem S4:kCs φ es σ (.bl true) μ=B8 φ es σ μ:=rfl
theorem S5:kCs φ es σ (.bl false) μ=.ok false μ:=rfl
theorem Lu{elt:Ex}:T7 φ elt σ true μ=(evE φ elt σ μ).bind kOne:=rfl
theorem Lv{elt:Ex}:T7 φ elt σ false μ=.ok [] μ:=rfl
theorem A2{i:Int}:kInt (.int i) μ=.ok (some i) μ:=rfl
theorem S6{x y:Sms}:kIf φ x y σ (.bl true) μ=k6 φ x σ μ:=rfl
theorem S7{x y:Sms}:kIf φ x y σ (.bl false) μ=k6 φ y σ μ:=rfl
theorem Lw{σ':Sl}:kSs φ rs (.nx σ') μ=k6 φ rs σ' μ:=rfl
theorem Lx{d:D}:kSs φ rs (.rt d) μ=.ok (.rt d) μ:=rfl
theorem Ly{σ':Sl}:kSs φ rs (.bk σ') μ=.ok (.bk σ') μ:=rfl
theorem Lz{σ':Sl}:kSs φ rs (.ct σ') μ=.ok (.ct σ') μ:=rfl
theorem wo{σ':Sl}:Wb (some σ') μ=.ok (.nx σ') μ:=rfl
theorem A3{ds:List D}:kSeq (.tup ds) μ=.ok (ds,none) μ:=rfl
theorem A4{ds:List D}:kSeq (.lst ds) μ=.ok (ds,none) μ:=rfl
theorem Oq{j:Int}(h:-1000000<=j/\j<=1000000):kRng (.int j) μ=.ok ((List.range j.toNat).map fun(i:Nat)=>D.int i,none) μ:=by
 have:=j8
 simp![kRng]
 rw[if_pos ⟨by lia,by lia⟩]
theorem nr{n:Nat}(h:n<=1000000):kRng (.int n) μ=.ok ((List.range n).map fun(i:Nat)=>D.int i,none) μ:=by
 rw[Oq ⟨by lia,by lia⟩,BH]
theorem wq{i:Nat}{d:D}:gp (.one i) d σ=some (σ.set i (some d)):=rfl
theorem S8{i j:Int}:cpD .lt (.int i) (.int j) μ=.ok (.bl (decide (i<j))) μ:=rfl
theorem S9{i j:Int}:cpD .le (.int i) (.int j) μ=.ok (.bl (decide (i<=j))) μ:=rfl
theorem Ta{i j:Int}:cpD .gt (.int i) (.int j) μ=.ok (.bl (decide (j<i))) μ:=rfl
theorem Tb{i j:Int}:cpD .ge (.int i) (.int j) μ=.ok (.bl (decide (j<=i))) μ:=rfl
theorem L0{i j:Int}:cpD .eq (.int i) (.int j) μ=.ok (.bl (decide (i=j))) μ:=rfl
theorem Tc{x y:D}(hx:x.pure=true)(hy:y.pure=true):cpD .ne x y μ=.ok (.bl (!deq x y)) μ:=by simp[cpD,hx,hy]
theorem L3{i j:Int}:cpD .ne (.int i) (.int j) μ=.ok (.bl (!decide (i=j))) μ:=Tc rfl rfl
theorem L4{i j:Bool}:cpD .ne (.bl i) (.bl j) μ=.ok (.bl (!(i==j))) μ:=Tc rfl rfl
theorem We{x y:D}(hx:x.pure=true)(hy:y.pure=true):cpD .eq x y μ=.ok (.bl (deq x y)) μ:=by simp[cpD,hx,hy]
theorem bt_len{x:D}{xs:List D}(h:dn μ x=some xs):btD .len m [x] μ=.ok (.int xs.length) μ:=by simp[btD,seq1,h]
theorem bt_tuple{x:D}{xs:List D}(h:dn μ x=some xs):btD .tuple m [x] μ=.ok (.tup xs) μ:=by simp[btD,seq1,h]
theorem bt_list{x:D}{xs:List D}(h:dn μ x=some xs):btD .list m [x] μ=mkL m xs μ:=by simp[btD,seq1,h]
theorem bt_all{x:D}{xs:List D}{ns:List Bool}(h:dn μ x=some xs)(h2:j4 xs=some ns):btD .all m [x] μ=.ok (.bl (ns.all id)) μ:=by simp[btD,B7,h,h2]
theorem bt_any{x:D}{xs:List D}{ns:List Bool}(h:dn μ x=some xs)(h2:j4 xs=some ns):btD .any m [x] μ=.ok (.bl (ns.any id)) μ:=by simp[btD,B7,h,h2]
theorem bt_min{i j:Int}:btD .min m [.int i,.int j] μ=.ok (.int (min i j)) μ:=by
 simp![btD,minD]
 congr 2
 split<;>lia
theorem bt_max{i j:Int}:btD .max m [.int i,.int j] μ=.ok (.int (max i j)) μ:=by
 simp![btD,maxD]
 congr 2
 split<;>lia
theorem Fy{ds:List D}:dn μ (.tup ds)=some ds:=rfl
theorem cg{ds:List D}:dn μ (.lst ds)=some ds:=rfl
theorem fb{ds:List D}:mkL .z ds μ=.ok (.lst ds) μ:=rfl
theorem Fz{x:D}{xs:List D}{k:Nat}{d:D}(h:dn μ x=some xs)(hd:xs[k]? = some d):ixD x (.int k) μ=.ok d μ:=by
 have hk:k<xs.length:=(AL.mp hd).1
 have e:ixN xs.length (k:Int)=some k:=by simp[ixN,hk]
 simp![ixD,h,e,hd]
theorem F0{i j:Nat}{a b:D}:gp (.many [i,j]) (.tup [a,b]) σ=some ((σ.set i (some a)).set j (some b)):=rfl
theorem F3{i j k:Nat}{a b c:D}:gp (.many [i,j,k]) (.tup [a,b,c]) σ=some (((σ.set i (some a)).set j (some b)).set k (some c)):=rfl
theorem F4{i j k l:Nat}{a b c d:D}:gp (.many [i,j,k,l]) (.tup [a,b,c,d]) σ=some ((((σ.set i (some a)).set j (some b)).set k (some c)).set l (some d)):=rfl
theorem F5{i j k l m:Nat}{a b c d e:D}:gp (.many [i,j,k,l,m]) (.tup [a,b,c,d,e]) σ=some (((((σ.set i (some a)).set j (some b)).set k (some c)).set l (some d)).set m (some e)):=rfl
theorem ua{α:Type}{xs:List α}{en:α->D}{k:Nat}{a:α}(h:xs[k]? = some a):ixD (.lst (xs.map en)) (.int k) μ=.ok (en a) μ:=Fz cg (by rw[BL,h];rfl)
theorem uc{α:Type}{tg:Tg}{b:Sms}{xs:List α}{en:α->D}(I:Nat->Sl->Prop)(h0:I 0 σ)(st:∀(k:Nat) a σ,xs[k]? = some a->I k σ->∃σ',fLp φ tg b (en a) σ μ=.ok (.nx σ') μ/\I (k+1) σ') :
  ∃σ',ph φ tg b σ (xs.map en,none) μ=.ok (.nx σ') μ/\I xs.length σ':=by
 obtain⟨σ',μ',e,rfl,i⟩:=t9 (f:=fLp φ tg b) (λk σ μ'=>μ'=μ/\I k σ) (ds:=xs.map en) (σ:=σ) (μ:=μ) 0 ⟨rfl,h0⟩ λj d σ μ' e ⟨q,i⟩=>by
  subst q
  rw[BL]at e
  cases ex:xs[j]? with
  |none=>rw[ex]at e;cases e
  |some a =>
   rw[ex]at e
   cases e
   obtain⟨σ',e',i'⟩:=st j a σ ex (by simpa using i)
   exact⟨σ',_,e',rfl,by simpa using i'⟩
 exact⟨σ',e,by simpa using i⟩
theorem comp_map{α:Type}{tg:Tg}{cs:Exs}{elt:Ex}{σ0:Sl}{xs:List α}{en:α->D}{g:α->D}(h:∀a∈xs,pf φ tg cs elt σ0 (en a) μ=.ok [g a] μ):jz φ m tg cs elt σ0 (xs.map en,none) μ=mkL m (xs.map g) μ:=by
 have e:mapR none (pf φ tg cs elt σ0) (xs.map en) μ=.ok (xs.map g) μ:=by
  induction xs with
  |nil=>simp[mapR]
  |cons a r ih =>
   simp![AO,mapR,yc,if_true,h a AM,Res.bg,ih λx hx=>h x (AF _ hx)]
   rfl
 rw[jz]
 show(mapR none _ (xs.map en) μ).bind _=_
 rw[e];rfl
theorem kg{α:Type}{tg:Tg}{cs:Exs}{elt:Ex}{σ0:Sl}{xs:List α}{en:α->D}{g:α->D}{p:α->Bool}(h:∀a∈xs,pf φ tg cs elt σ0 (en a) μ=.ok (if p a=true then [g a]else []) μ):jz φ m tg cs elt σ0 (xs.map en,none) μ=mkL m ((xs.filter p).map g) μ:=by
 have e:mapR none (pf φ tg cs elt σ0) (xs.map en) μ=.ok ((xs.filter p).map g) μ:=by
  induction xs with
  |nil=>simp[mapR]
  |cons a r ih =>
   simp![AO,mapR,yc,if_true,h a AM,Res.bg,ih λx hx=>h x (AF _ hx)]
   by_cases hp:p a=true
   ·simp[hp]
   ·simp[hp]
 rw[jz]
 show(mapR none _ (xs.map en) μ).bind _=_
 rw[e];rfl
noncomputable def many{S α:Type}(G:S->α×S):Nat->S->List α×S
 |0,s=>([],s)
 |n+1,s=>((G s).1::(many G n (G s).2).1,(many G n (G s).2).2)
theorem Td{x:D}:kB φ op m b σ x μ=(evE φ b σ μ).bind (opD op m x):=rfl
theorem F6{x:D}:Xh φ r σ x μ=evC φ r x σ μ:=rfl
theorem L5{o:Cp}{x y:D}:kCh φ o x r σ y μ=(cpD o x y μ).bind (T6 φ r y σ):=rfl
theorem L6{x:D}:kIx φ b σ x μ=(evE φ b σ μ).bind (ixD x):=rfl
theorem F7{hi:ExO}{x:D}{l:Option Int}:V9 φ m hi σ x l μ=(evO φ hi σ μ).bind (slD m x l):=rfl
theorem L7{lo hi:ExO}{x:D}:kSl φ m lo hi σ x μ=(evO φ lo σ μ).bind (V9 φ m hi σ x):=rfl
theorem F8{ds:List D}:kTup ds μ=.ok (.tup ds) μ:=rfl
theorem F9{d:D}{ds:List D}:Wa d ds μ=.ok (d::ds) μ:=rfl
theorem L8{d:D}:kEs φ es σ d μ=(fj φ es σ μ).bind (Wa d):=rfl
theorem Ga{x:D}:kOne x μ=.ok [x] μ:=rfl
theorem Gb{cs:Exs}{elt:Ex}:Xi φ cs elt μ σ=(B8 φ cs σ μ).bind (T7 φ elt σ):=rfl
theorem A5{x:D}:R6 φ b σ x μ=(evE φ b σ μ).bind (K5 x):=rfl
theorem Gc{x:D}:Xj φ b σ x μ=(evE φ b σ μ).bind (Cw x):=rfl
theorem Ge{i:Nat}{d:D}:Xk i σ d μ=.ok (.nx (σ.set i (some d))) μ:=rfl
theorem Gf{is:List Nat}{d:D}:Xl is σ d μ=Wb (gp (.many is) d σ) μ:=rfl
theorem Gg{d:D}:kNx σ d μ=.ok (.nx σ) μ:=rfl
theorem Gh{d:Unit}:kNx σ d μ=.ok (.nx σ) μ:=rfl
theorem Gi{d x y:D}:Wc σ d x y μ=(yb x y d μ).bind (kNx σ):=rfl
theorem Gj{i:Ex}{d x:D}:Wd φ i σ d x μ=(evE φ i σ μ).bind (Wc σ d x):=rfl
theorem L9{o i:Ex}{d:D}:kSx φ o i σ d μ=(evE φ o σ μ).bind (Wd φ i σ d):=rfl
theorem Mb{b:Sms}:kLp φ b μ σ=k6 φ b σ μ:=rfl
theorem Gk{d:D}:kRet d μ=.ok (.rt d) μ:=rfl
theorem A6{n:Nat}:List.replicate (n+1) (none:Option D)=none::List.replicate n none:=rfl
theorem A7:List.replicate 0 (none:Option D)=[]:=rfl
end
section
variable{φ:Phi}{σ:Sl}{μ:Sto}
noncomputable def Xs(φ:Phi)(b:Ex)(σ:Sl)(x:D)(μ:Sto):Res D:=(evE φ b σ μ).bind (Tz x)
noncomputable def T8(σ:Sl)(x y z:D)(μ:Sto):Res Fl:=(yb x y z μ).bind (kNx σ)
noncomputable def T9(op:Operator)(σ:Sl)(x y old d:D)(μ:Sto):Res Fl:=(Xb op old d μ).bind (T8 σ x y)
noncomputable def Wf(φ:Phi)(op:Operator)(e:Ex)(σ:Sl)(x y old:D)(μ:Sto):Res Fl:=(evE φ e σ μ).bind (T9 op σ x y old)
noncomputable def Wg(φ:Phi)(op:Operator)(e:Ex)(σ:Sl)(x y:D)(μ:Sto):Res Fl:=(ixL x y μ).bind (Wf φ op e σ x y)
noncomputable def Xt(φ:Phi)(op:Operator)(i e:Ex)(σ:Sl)(x:D)(μ:Sto):Res Fl:=(evE φ i σ μ).bind (Wg φ op e σ x)
theorem Te{a b:Ex}:evE φ (.dix a b) σ μ=(evE φ a σ μ).bind (Xs φ b σ):=rfl
theorem Gm{b:Ex}{x:D}:Xs φ b σ x μ=(evE φ b σ μ).bind (Tz x):=rfl
theorem Mc{op:Operator}{o i e:Ex}:evS φ (.augx op o i e) σ μ=(evE φ o σ μ).bind (Xt φ op i e σ):=rfl
theorem Gn{op:Operator}{i e:Ex}{x:D}:Xt φ op i e σ x μ=(evE φ i σ μ).bind (Wg φ op e σ x):=rfl
theorem Gp{op:Operator}{e:Ex}{x y:D}:Wg φ op e σ x y μ=(ixL x y μ).bind (Wf φ op e σ x y):=rfl
theorem Gq{op:Operator}{e:Ex}{x y old:D}:Wf φ op e σ x y old μ=(evE φ e σ μ).bind (T9 op σ x y old):=rfl
theorem A8{x y:D}{i j:Int}:T9 .Add σ x y (.int i) (.int j) μ=T8 σ x y (.int (i+j)) μ:=rfl
theorem A9{x y:D}{i j:Int}:T9 .Sub σ x y (.int i) (.int j) μ=T8 σ x y (.int (i-j)) μ:=rfl
theorem Gr{x y z:D}:T8 σ x y z μ=(yb x y z μ).bind (kNx σ):=rfl
noncomputable def Xu(φ:Phi)(b:Ex)(σ:Sl)(x:D)(μ:Sto):Res D:=(evE φ b σ μ).bind (Vc x)
noncomputable def Wh(φ:Phi)(k1:Bool)(f:Nat)(x:D)(ds:List D)(μ:Sto):Res D:=Qq k1 μ.length (φ f (x::ds) μ)
noncomputable def Zd(φ:Phi)(k1:Bool)(c m:Str)(f:Nat)(es:Exs)(σ:Sl)(x:D)(μ:Sto):Res D:=if isObj c m x μ=true then(fj φ es σ μ).bind (Wh φ k1 f x)else .stuck
noncomputable def kMk(φ:Phi)(c:Str)(f:Nat)(ds:List D)(μ:Sto):Res D:=Qr μ.length (φ f (.loc μ.length::ds) (μ++[.o c []]))
noncomputable def Tf(φ:Phi)(f:Nat)(ds:List D)(μ:Sto):Res D:=Ng μ.length (φ f ds μ)
noncomputable def Wi(f:Str)(σ:Sl)(d x:D)(μ:Sto):Res Fl:=(Nf f x d μ).bind (kNx σ)
noncomputable def Xv(φ:Phi)(o:Ex)(f:Str)(σ:Sl)(d:D)(μ:Sto):Res Fl:=(evE φ o σ μ).bind (Wi f σ d)
noncomputable def kWh(φ:Phi)(c:Ex)(b:Sms)(σ:Sl)(μ:Sto):Res Fl:=whR (λσ μ=>(evE φ c σ μ).bind T3) (λσ μ=>k6 φ b σ μ) σ μ
noncomputable def kKeys(x:D)(μ:Sto):Res (List D×Gd):=match x with
 |.loc n=>match μ[n]? with
  |some (.d kvs)=>.ok (kvs.map (·.1),none) (μ.set n (.fd kvs))
  |_=>.stuck
 |_=>.stuck
theorem Ze{e:Ex}{f:Str}:evE φ (.att e f) σ μ=(evE φ e σ μ).bind (W9 f):=rfl
theorem Wj{k1:Bool}{c m:Str}{f:Nat}{o:Ex}{es:Exs}:evE φ (.mcall k1 c m f o es) σ μ=(evE φ o σ μ).bind (Zd φ k1 c m f es σ):=rfl
theorem Xw{c:Str}{f:Nat}{es:Exs}:evE φ (.make c f es) σ μ=(fj φ es σ μ).bind (kMk φ c f):=rfl
theorem Wk{f:Nat}{es:Exs}:evE φ (.callK f es) σ μ=(fj φ es σ μ).bind (Tf φ f):=rfl
theorem Zf{e:Ex}:evE φ (.tru e) σ μ=(evE φ e σ μ).bind truD:=rfl
theorem Zg{a b:Ex}:evE φ (.gix a b) σ μ=(evE φ a σ μ).bind (Xu φ b σ):=rfl
theorem Wl{b:Ex}{x:D}:Xu φ b σ x μ=(evE φ b σ μ).bind (Vc x):=rfl
theorem Xx:evE φ .dicr σ μ=.ok (.loc μ.length) (μ++[.dr []]):=rfl
theorem Xy{o e:Ex}{f:Str}:evS φ (.seta o f e) σ μ=(evE φ e σ μ).bind (Xv φ o f σ):=rfl
theorem Wm{o:Ex}{f:Str}{d:D}:Xv φ o f σ d μ=(evE φ o σ μ).bind (Wi f σ d):=rfl
theorem Wn{f:Str}{d x:D}:Wi f σ d x μ=(Nf f x d μ).bind (kNx σ):=rfl
theorem Zh{c:Ex}{b:Sms}:evS φ (.whl c b) σ μ=kWh φ c b σ μ:=rfl
theorem Xz{a:Ex}:evI φ (.keys a) σ μ=(evE φ a σ μ).bind kKeys:=rfl
end
section
variable{μ:Sto}
theorem X0{α β:Type}(a:α)(f:α->Sto->Res β):(Res.ok a μ).bind f=f a μ:=rfl
theorem X3{α β:Type}(a:α)(k:α->Res β):ji (some a) k=k a:=rfl
theorem Zu(d:D):finD (.rt d) μ=.ok d μ:=rfl
theorem Zv(σ:Sl):finD (.nx σ) μ=.ok .non μ:=rfl
theorem Zw{α β:Type}(f:α->β)(a:α)(l:List α):(a::l).map f=f a::l.map f:=rfl
theorem Zx{α β:Type}(f:α->β):([]:List α).map f=[]:=rfl
theorem Zy{α:Type}(a:α)(l m:List α):a::l++m=a::(l++m):=rfl
theorem Zz{α:Type}(m:List α):[]++m=m:=rfl
theorem Z0{α:Type}(a:α)(l:List α):(a::l)[0]? = some a:=rfl
theorem Z1{α:Type}(a:α)(l:List α)(i:Nat):(a::l)[i+1]? = l[i]?:=rfl
theorem Z2{α:Type}(a b:α)(l:List α):(a::l).set 0 b=b::l:=rfl
theorem Z3{α:Type}(a b:α)(l:List α)(i:Nat):(a::l).set (i+1) b=a::l.set i b:=rfl
theorem Z4{α:Type}(a b:α):(some a).getD b=a:=rfl
theorem Z5{op:Operator}{m:Mk}{i j:Int}:opD op m (.int i) (.int j) μ=opI op i j μ:=zd
theorem Z6{i j:Int}:opI .Add i j μ=.ok (.int (i+j)) μ:=op_add
theorem Z7{i j:Int}:opI .Sub i j μ=.ok (.int (i-j)) μ:=op_sub
theorem Z8{d:D}{b:Nat}:l5 true b (.ok d μ)=.ok d μ:=me
end
theorem EV1:type_of% (@R7)/\type_of% (@R8)/\type_of% (@R9)/\type_of% (@Sa)/\type_of% (@Sb)/\type_of% (@Sd)/\type_of% (@Xm)/\type_of% (@Se)/\type_of% (@Sf)/\type_of% (@Sg)/\type_of% (@K6)/\type_of% (@K7)/\type_of% (@Sh)/\type_of% (@Si)/\type_of% (@K8)/\type_of% (@Xn)/\type_of% (@Xo)/\type_of% (@Sj)/\type_of% (@Sk)/\type_of% (@Sn)/\type_of% (@K9)/\type_of% (@La)/\type_of% (@Fu)/\type_of% (@Xp)/\type_of% (@Xq)/\type_of% (@Lb)/\type_of% (@Fv)/\type_of% (@So)/\type_of% (@Sr)/\type_of% (@Lc)/\type_of% (@Ss)/\type_of% (@Ld):=⟨@R7,@R8,@R9,@Sa,@Sb,@Sd,@Xm,@Se,@Sf,@Sg,@K6,@K7,@Sh,@Si,@K8,@Xn,@Xo,@Sj,@Sk,@Sn,@K9,@La,@Fu,@Xp,@Xq,@Lb,@Fv,@So,@Sr,@Lc,@Ss,@Ld⟩
theorem EV2:type_of% (@Le)/\type_of% (@Su)/\type_of% (@Sv)/\type_of% (@Lg)/\type_of% (@Xr)/\type_of% (@Sw)/\type_of% (@Lh)/\type_of% (@Sx)/\type_of% (@Li)/\type_of% (@Sy)/\type_of% (@Lj)/\type_of% (@Lk)/\type_of% (@Fw)/\type_of% (@wm)/\type_of% (@Td)/\type_of% (@A1)/\type_of% (@Fx)/\type_of% (@Ll)/\type_of% (@Lm)/\type_of% (@Sz)/\type_of% (@S0)/\type_of% (@Ln)/\type_of% (@Lo)/\type_of% (@F6)/\type_of% (@Lq)/\type_of% (@Ls)/\type_of% (@L5)/\type_of% (@L6)/\type_of% (@L7)/\type_of% (@F7)/\type_of% (@F8)/\type_of% (@L8):=⟨@Le,@Su,@Sv,@Lg,@Xr,@Sw,@Lh,@Sx,@Li,@Sy,@Lj,@Lk,@Fw,@wm,@Td,@A1,@Fx,@Ll,@Lm,@Sz,@S0,@Ln,@Lo,@F6,@Lq,@Ls,@L5,@L6,@L7,@F7,@F8,@L8⟩
theorem EV3:type_of% (@F9)/\type_of% (@A2)/\type_of% (@Ga)/\type_of% (@Lu)/\type_of% (@Lv)/\type_of% (@Gb)/\type_of% (@S4)/\type_of% (@S5)/\type_of% (@A3)/\type_of% (@A4)/\type_of% (@A5)/\type_of% (@Gc)/\type_of% (@Ge)/\type_of% (@Gf)/\type_of% (@wo)/\type_of% (@Gg)/\type_of% (@Gh)/\type_of% (@L9)/\type_of% (@Gj)/\type_of% (@Gi)/\type_of% (@S6)/\type_of% (@S7)/\type_of% (@Mb)/\type_of% (@Gk)/\type_of% (@Lw)/\type_of% (@Lx)/\type_of% (@Ly)/\type_of% (@Lz)/\type_of% (@Res.bg)/\type_of% (@j9)/\type_of% (@wq)/\type_of% (@F0):=⟨@F9,@A2,@Ga,@Lu,@Lv,@Gb,@S4,@S5,@A3,@A4,@A5,@Gc,@Ge,@Gf,@wo,@Gg,@Gh,@L9,@Gj,@Gi,@S6,@S7,@Mb,@Gk,@Lw,@Lx,@Ly,@Lz,@Res.bg,@j9,@wq,@F0⟩
theorem EV4:type_of% (@F3)/\type_of% (@F4)/\type_of% (@F5)/\type_of% (@zd)/\type_of% (@op_add)/\type_of% (@op_sub)/\type_of% (@S8)/\type_of% (@S9)/\type_of% (@Ta)/\type_of% (@Tb)/\type_of% (@L0)/\type_of% (@L3)/\type_of% (@L4)/\type_of% (@bt_min)/\type_of% (@bt_max)/\type_of% (@fb)/\type_of% (@Fs)/\type_of% (@Ft)/\type_of% (@AO.{0,0})/\type_of% (@CC.{0,0})/\type_of% (@A6)/\type_of% (@A7)/\type_of% (@GQ.{0})/\type_of% (@JH.{0})/\type_of% (@IU.{0})/\type_of% (@IV.{0})/\type_of% (@HQ.{0})/\type_of% (@FT.{0})/\type_of% (@FA.{0})/\type_of% (@me):=⟨@F3,@F4,@F5,@zd,@op_add,@op_sub,@S8,@S9,@Ta,@Tb,@L0,@L3,@L4,@bt_min,@bt_max,@fb,@Fs,@Ft,@AO.{0,0},@CC.{0,0},@A6,@A7,@GQ.{0},@JH.{0},@IU.{0},@IV.{0},@HQ.{0},@FT.{0},@FA.{0},@me⟩
theorem EV5:type_of% (@Te)/\type_of% (@Gm)/\type_of% (@Mc)/\type_of% (@Gn)/\type_of% (@Gp)/\type_of% (@Gq)/\type_of% (@A8)/\type_of% (@A9)/\type_of% (@Gr):=⟨@Te,@Gm,@Mc,@Gn,@Gp,@Gq,@A8,@A9,@Gr⟩
end Lr
namespace Lp
open PySem
noncomputable abbrev pj:Nat:=13
noncomputable abbrev a9:Nat:=53
noncomputable abbrev cj:Nat:=54
noncomputable abbrev bc:Nat:=55
noncomputable abbrev d5:Nat:=82
noncomputable abbrev cu:Nat:=83
noncomputable abbrev gz:Nat:=84
noncomputable abbrev gk:Nat:=85
noncomputable abbrev jb:Nat:=86
noncomputable abbrev cv:Nat:=87
noncomputable abbrev c8:Nat:=88
noncomputable abbrev ck:Nat:=89
noncomputable abbrev nu:Nat:=92
noncomputable abbrev gq:Nat:=100
noncomputable abbrev jc:Nat:=101
noncomputable abbrev g6:Nat:=102
noncomputable abbrev g7:Nat:=106
noncomputable abbrev g8:Nat:=107
noncomputable abbrev lj:Nat:=108
noncomputable abbrev pk:Nat:=109
noncomputable def ir:Ex:=(.cmp (.var 0) (.cons .lt (.var 1) .nil))
noncomputable def D_rises:Df:=⟨1,1,(.cons (.ret (.blt .all .z (.cons (.comp .z [] 2 (.many [0,1]) (.zip (.var 0) (.sl .z (.var 0) (.so (.cst (.int 1))) .no)) .nil ir) .nil))) .nil)⟩
noncomputable def D_have_tick_in_common:Df:=⟨2,2,(.cons (.ret (.and (.cmp (.ix (.var 0) (.cst (.int 0))) (.cons .eq (.ix (.var 1) (.cst (.int 0))) .nil)) (.cmp (.ix (.var 1) (.cst (.int 1))) (.cons .lt (.ix (.var 0) (.cst (.int 2))) .nil)))) .nil)⟩
noncomputable def aj:Sms:=(.cons (.ite (.not (.and (.cmp (.cst (.int 0)) (.cons .le (.var 3) (.cons .lt (.var 1) .nil))) (.cmp (.cst (.int 0)) (.cons .le (.var 4) (.cons .lt (.var 5) (.cons .le (.var 0) .nil)))))) (.cons (.ret (.cst (.bl true))) .nil) .nil) .nil)
noncomputable def bq:Ex:=(.call false a9 (.cons (.var 0) (.cons (.var 1) .nil)))
noncomputable def D_has_span_fault:Df:=⟨3,6,(.cons (.loop (.many [3,4,5]) (.seq (.var 2)) aj) (.cons (.ret (.or (.not (.call false pj (.cons (.var 2) .nil))) (.blt .any .z (.cons (.comp .z [] 2 (.many [0,1]) (.zip (.var 2) (.sl .z (.var 2) (.so (.cst (.int 1))) .no)) .nil bq) .nil)))) .nil))⟩
noncomputable def du:Sms:=(.cons (.setx (.var 3) (.var 5) (.bin .Add .z (.meth .get (.var 3) (.cons (.var 5) (.cons (.cst (.int 0)) .nil))) (.cst (.int 1)))) (.cons (.setx (.var 3) (.var 6) (.bin .Sub .z (.meth .get (.var 3) (.cons (.var 6) (.cons (.cst (.int 0)) .nil))) (.cst (.int 1)))) .nil))
noncomputable def dy:Ex:=(.cmp (.var 0) (.cons .ne (.cst (.int 0)) .nil))
noncomputable def D_has_dark_fault:Df:=⟨3,7,(.cons (.set 3 (.dic false (.cons (.cst (.int 0)) (.cons (.neg (.var 1)) (.cons (.var 0) (.cons (.var 1) .nil)))))) (.cons (.loop (.many [4,5,6]) (.seq (.var 2)) du) (.cons (.ret (.blt .any .z (.cons (.comp .z [] 1 (.one 0) (.vals (.var 3)) .nil dy) .nil))) .nil)))⟩
noncomputable def D_law_cell:Df:=⟨2,2,(.cons (.ite (.cmp (.var 1) (.cons .lt (.blt .len .z (.cons (.var 0) .nil)) .nil)) (.cons (.ret (.ix (.var 0) (.var 1))) .nil) .nil) (.cons (.ret (.cst (.int 0))) .nil))⟩
noncomputable def D_law_stir:Df:=⟨2,3,(.cons (.set 2 (.bin .Mod .z (.bin .Add .z (.bin .Add .z (.var 0) (.bin .Mult .z (.cst (.int 7919)) (.var 1))) (.cst (.int 101))) (.cst (.int 2147483647)))) (.cons (.set 2 (.bin .Mod .z (.bin .Mult .z (.var 2) (.var 2)) (.cst (.int 2147483647)))) (.cons (.ret (.bin .FloorDiv .z (.bin .Mod .z (.bin .Mult .z (.var 2) (.cst (.int 48271))) (.cst (.int 2147483629))) (.cst (.int 7)))) .nil)))⟩
noncomputable def D_law_length:Df:=⟨1,2,(.cons (.set 1 (.call false cu (.cons (.var 0) (.cons (.cst (.int 3)) .nil)))) (.cons (.ite (.cmp (.bin .Mod .z (.var 1) (.cst (.int 6))) (.cons .eq (.cst (.int 0)) .nil)) (.cons (.ret (.bin .Sub .z (.bin .Pow .z (.cst (.int 10)) (.cst (.int 15))) (.bin .Mod .z (.bin .FloorDiv .z (.var 1) (.cst (.int 6))) (.cst (.int 3))))) .nil) .nil) (.cons (.ite (.cmp (.bin .Mod .z (.var 1) (.cst (.int 6))) (.cons .eq (.cst (.int 1)) .nil)) (.cons (.ret (.bin .Add .z (.cst (.int 1)) (.bin .Mod .z (.var 0) (.bin .Pow .z (.cst (.int 10)) (.cst (.int 15)))))) .nil) .nil) (.cons (.ret (.bin .Add .z (.cst (.int 1)) (.bin .Mod .z (.bin .FloorDiv .z (.var 1) (.cst (.int 6))) (.cst (.int 12))))) .nil))))⟩
noncomputable def cq:Sms:=(.cons (.set 7 (.blt .max .z (.cons (.cst (.int 0)) (.cons (.bin .Sub .z (.var 4) (.bin .Mult .z (.bin .Sub .z (.bin .Sub .z (.var 3) (.var 6)) (.cst (.int 1))) (.var 1))) .nil)))) (.cons (.set 8 (.blt .min .z (.cons (.var 1) (.cons (.var 4) .nil)))) (.cons (.set 9 (.call false d5 (.cons (.var 0) (.cons (.bin .Add .z (.cst (.int 2)) (.var 6)) .nil)))) (.cons (.set 10 (.call false cu (.cons (.var 9) (.cons (.cst (.int 5)) .nil)))) (.cons (.set 11 (.bin .Add .z (.var 7) (.bin .Mod .z (.var 9) (.bin .Add .z (.bin .Sub .z (.var 8) (.var 7)) (.cst (.int 1)))))) (.cons (.ite (.cmp (.bin .Mod .z (.var 10) (.cst (.int 4))) (.cons .eq (.cst (.int 0)) .nil)) (.cons (.set 11 (.ix (.lst .z (.cons (.var 7) (.cons (.var 8) .nil))) (.bin .Mod .z (.bin .FloorDiv .z (.var 10) (.cst (.int 4))) (.cst (.int 2))))) .nil) .nil) (.cons (.ex (.meth .append (.var 5) (.cons (.var 11) .nil))) (.cons (.set 4 (.bin .Sub .z (.var 4) (.var 11))) .nil))))))))
noncomputable def D_law_fitting:Df:=⟨4,12,(.cons (.set 4 (.bin .Mult .z (.var 2) (.var 1))) (.cons (.set 5 (.lst .l .nil)) (.cons (.loop (.one 6) (.rng (.var 3)) cq) (.cons (.ret (.frz 5)) .nil))))⟩
noncomputable def ig:Sms:=(.cons (.ex (.meth .extend (.var 2) (.cons (.lst .z (.cons (.ix (.var 3) (.cst (.int 1))) (.cons (.ix (.var 3) (.cst (.int 2))) .nil))) .nil))) .nil)
noncomputable def dk:Exs:=(.cons (.cmp (.cst (.int 0)) (.cons .le (.var 1) (.cons .lt (.var 0) .nil))) .nil)
noncomputable def dm:Ex:=(.var 1)
noncomputable def D_law_marks:Df:=⟨2,4,(.cons (.set 2 (.lst .l (.cons (.cst (.int 0)) (.cons (.var 0) .nil)))) (.cons (.loop (.one 3) (.seq (.var 1)) ig) (.cons (.ret (.comp .z [0] 1 (.one 1) (.seq (.blt .sortedSet .z (.cons (.var 2) .nil))) dk dm)) .nil)))⟩
noncomputable def bx:Exs:=(.cons (.and (.cmp (.ix (.var 1) (.cst (.int 1))) (.cons .le (.var 0) .nil)) (.cmp (.var 0) (.cons .lt (.ix (.var 1) (.cst (.int 2))) .nil))) .nil)
noncomputable def bz:Ex:=(.ix (.var 1) (.cst (.int 0)))
noncomputable def D_law_lamps_at:Df:=⟨2,2,(.cons (.ret (.blt .tuple .z (.cons (.comp .z [1] 1 (.one 1) (.seq (.var 0)) bx bz) .nil))) .nil)⟩
noncomputable def D_law_span_good:Df:=⟨3,3,(.cons (.ret (.and (.cmp (.cst (.int 0)) (.cons .le (.ix (.var 2) (.cst (.int 0))) .nil)) (.and (.cmp (.ix (.var 2) (.cst (.int 0))) (.cons .lt (.var 1) .nil)) (.and (.cmp (.cst (.int 0)) (.cons .le (.ix (.var 2) (.cst (.int 1))) .nil)) (.and (.cmp (.ix (.var 2) (.cst (.int 1))) (.cons .lt (.ix (.var 2) (.cst (.int 2))) .nil)) (.cmp (.ix (.var 2) (.cst (.int 2))) (.cons .le (.var 0) .nil))))))) .nil)⟩
noncomputable def a8:Sms:=(.cons (.ite (.and (.cmp (.ix (.var 4) (.cst (.int 0))) (.cons .eq (.ix (.ix (.var 2) (.var 3)) (.cst (.int 0))) .nil)) (.and (.cmp (.ix (.var 4) (.cst (.int 1))) (.cons .lt (.ix (.ix (.var 2) (.var 3)) (.cst (.int 2))) .nil)) (.cmp (.ix (.ix (.var 2) (.var 3)) (.cst (.int 1))) (.cons .lt (.ix (.var 4) (.cst (.int 2))) .nil)))) (.cons (.ret (.cst (.bl false))) .nil) .nil) .nil)
noncomputable def av:Sms:=(.cons (.ite (.or (.not (.call false c8 (.cons (.var 0) (.cons (.var 1) (.cons (.ix (.var 2) (.var 3)) .nil))))) (.and (.cmp (.var 3) (.cons .gt (.cst (.int 0)) .nil)) (.cmp (.ix (.var 2) (.var 3)) (.cons .le (.ix (.var 2) (.bin .Sub .z (.var 3) (.cst (.int 1)))) .nil)))) (.cons (.ret (.cst (.bl false))) .nil) .nil) (.cons (.loop (.one 4) (.seq (.sl .z (.var 2) .no (.so (.var 3)))) a8) .nil))
noncomputable def D_law_spans_good:Df:=⟨3,5,(.cons (.loop (.one 3) (.rng (.blt .len .z (.cons (.var 2) .nil))) av) (.cons (.ret (.cst (.bl true))) .nil))⟩
noncomputable def D_steady:Df:=⟨4,4,(.cons (.ret (.and (.not (.call false cj (.cons (.var 0) (.cons (.var 2) (.cons (.var 3) .nil))))) (.not (.call false bc (.cons (.var 0) (.cons (.var 1) (.cons (.var 3) .nil))))))) .nil)⟩
noncomputable def D_law_place:Df:=⟨3,3,(.cons (.ite (.cmp (.bin .Mod .z (.var 0) (.cst (.int 3))) (.cons .eq (.cst (.int 0)) .nil)) (.cons (.ret (.ix (.var 2) (.bin .Mod .z (.bin .FloorDiv .z (.var 0) (.cst (.int 3))) (.blt .len .z (.cons (.var 2) .nil))))) .nil) .nil) (.cons (.ite (.cmp (.bin .Mod .z (.var 0) (.cst (.int 3))) (.cons .eq (.cst (.int 1)) .nil)) (.cons (.ret (.bin .Mod .z (.bin .FloorDiv .z (.var 0) (.cst (.int 3))) (.bin .Add .z (.var 1) (.cst (.int 1))))) .nil) .nil) (.cons (.ret (.blt .min .z (.cons (.var 1) (.cons (.blt .max .z (.cons (.cst (.int 0)) (.cons (.bin .Sub .z (.bin .Add .z (.ix (.var 2) (.bin .Mod .z (.bin .FloorDiv .z (.var 0) (.cst (.int 9))) (.blt .len .z (.cons (.var 2) .nil)))) (.bin .Mod .z (.bin .FloorDiv .z (.var 0) (.cst (.int 3))) (.cst (.int 3)))) (.cst (.int 1))) .nil))) .nil)))) .nil)))⟩
noncomputable def ij:Sms:=(.cons (.set 6 (.call false gq (.cons (.call false cu (.cons (.var 5) (.cons (.cst (.int 1)) .nil))) (.cons (.var 1) (.cons (.var 4) .nil))))) (.cons (.set 7 (.call false gq (.cons (.call false cu (.cons (.var 5) (.cons (.cst (.int 2)) .nil))) (.cons (.var 1) (.cons (.var 4) .nil))))) (.cons (.ex (.meth .extend (.var 4) (.cons (.lst .z (.cons (.var 6) (.cons (.var 7) .nil))) .nil))) (.cons (.set 8 (.bin .Mod .z (.call false cu (.cons (.var 5) (.cons (.cst (.int 4)) .nil))) (.var 2))) (.cons (.ex (.meth .append (.var 3) (.cons (.tup (.cons (.var 8) (.cons (.blt .min .z (.cons (.var 6) (.cons (.var 7) .nil))) (.cons (.blt .max .z (.cons (.var 6) (.cons (.var 7) .nil))) .nil)))) .nil))) .nil)))))
noncomputable def D_law_drawn:Df:=⟨3,9,(.cons (.set 3 (.lst .l .nil)) (.cons (.set 4 (.lst .l (.cons (.cst (.int 0)) (.cons (.var 1) .nil)))) (.cons (.loop (.one 5) (.seq (.var 0)) ij) (.cons (.ret (.frz 3)) .nil))))⟩
noncomputable def c9:Exs:=(.cons (.and (.cmp (.ix (.var 1) (.cst (.int 0))) (.cons .eq (.ix (.var 0) (.cst (.int 0))) .nil)) (.cmp (.ix (.var 1) (.cst (.int 2))) (.cons .gt (.ix (.var 0) (.cst (.int 1))) .nil))) .nil)
noncomputable def de:Ex:=(.var 1)
noncomputable def dg:Sms:=(.cons (.set 3 (.comp .z [2] 1 (.one 1) (.seq (.var 1)) c9 de)) (.cons (.ite (.and (.cmp (.ix (.var 2) (.cst (.int 1))) (.cons .lt (.ix (.var 2) (.cst (.int 2))) .nil)) (.cmp (.var 3) (.cons .eq (.lst .z .nil) .nil))) (.cons (.ex (.meth .append (.var 1) (.cons (.var 2) .nil))) .nil) .nil) .nil))
noncomputable def D_law_kept_2:Df:=⟨1,4,(.cons (.set 1 (.lst .l .nil)) (.cons (.loop (.one 2) (.seq (.blt .sortedST .z (.cons (.var 0) .nil))) dg) (.cons (.ret (.frz 1)) .nil)))⟩
noncomputable def gr:Sms:=(.cons (.set 8 (.bin .Add .z (.var 6) (.ix (.var 4) (.var 7)))) (.cons (.ex (.meth .extend (.var 5) (.cons (.bin .Add .z (.lst .z (.cons (.tup (.cons (.var 7) (.cons (.var 6) (.cons (.blt .min .z (.cons (.var 8) (.cons (.var 1) .nil))) .nil)))) .nil)) (.sl .z (.lst .z (.cons (.tup (.cons (.var 7) (.cons (.cst (.int 0)) (.cons (.bin .Sub .z (.var 8) (.var 1)) .nil)))) .nil)) .no (.so (.blt .max .z (.cons (.cst (.int 0)) (.cons (.bin .Sub .z (.var 8) (.var 1)) .nil)))))) .nil))) (.cons (.set 6 (.bin .Mod .z (.var 8) (.var 1))) .nil)))
noncomputable def fc:Exs:=(.cons (.cmp (.ix (.var 0) (.cst (.int 1))) (.cons .lt (.ix (.var 0) (.cst (.int 2))) .nil)) .nil)
noncomputable def ff:Ex:=(.var 0)
noncomputable def D_law_stands:Df:=⟨4,9,(.cons (.set 4 (.call false gk (.cons (.var 0) (.cons (.var 1) (.cons (.var 2) (.cons (.var 3) .nil)))))) (.cons (.set 5 (.lst .l .nil)) (.cons (.set 6 (.cst (.int 0))) (.cons (.loop (.one 7) (.rng (.var 3)) gr) (.cons (.ret (.comp .z [] 1 (.one 0) (.seq (.blt .sorted .z (.cons (.var 5) .nil))) fc ff)) .nil)))))⟩
noncomputable def D_law_spoilt:Df:=⟨4,10,(.cons (.set 4 (.blt .list .l (.cons (.var 0) .nil))) (.cons (.ite (.cmp (.blt .len .z (.cons (.var 4) .nil)) (.cons .eq (.cst (.int 0)) .nil)) (.cons (.ret (.frz 4)) .nil) .nil) (.cons (.set 5 (.bin .Mod .z (.bin .FloorDiv .z (.var 3) (.cst (.int 10))) (.blt .len .z (.cons (.var 4) .nil)))) (.cons (.unp [6,7,8] (.ix (.var 4) (.var 5))) (.cons (.set 9 (.bin .Mod .z (.var 3) (.cst (.int 10)))) (.cons (.ite (.cmp (.var 9) (.cons .lt (.cst (.int 5)) .nil)) (.cons (.set 6 (.ix (.lst .z (.cons (.var 6) (.cons (.bin .Mod .z (.bin .Add .z (.var 6) (.cst (.int 1))) (.var 2)) (.cons (.var 2) (.cons (.neg (.cst (.int 1))) (.cons (.var 6) .nil)))))) (.var 9))) (.cons (.setx (.var 4) (.var 5) (.tup (.cons (.var 6) (.cons (.var 7) (.cons (.bin .Add .z (.var 8) (.ix (.lst .z (.cons (.cst (.int 0)) (.cons (.cst (.int 0)) (.cons (.cst (.int 0)) (.cons (.cst (.int 0)) (.cons (.cst (.int 1)) .nil)))))) (.var 9))) .nil))))) .nil)) .nil) (.cons (.ite (.or (.cmp (.var 9) (.cons .eq (.cst (.int 5)) .nil)) (.cmp (.var 9) (.cons .eq (.cst (.int 6)) .nil))) (.cons (.setx (.var 4) (.var 5) (.tup (.cons (.var 6) (.cons (.bin .Add .z (.var 7) (.ix (.lst .z (.cons (.cst (.int 1)) (.cons (.neg (.cst (.int 1))) .nil))) (.bin .Sub .z (.var 9) (.cst (.int 5))))) (.cons (.var 8) .nil))))) .nil) .nil) (.cons (.ite (.cmp (.var 9) (.cons .eq (.cst (.int 7)) .nil)) (.cons (.ex (.meth .pop (.var 4) (.cons (.var 5) .nil))) .nil) .nil) (.cons (.ite (.cmp (.var 9) (.cons .eq (.cst (.int 8)) .nil)) (.cons (.ex (.meth .insert (.var 4) (.cons (.var 5) (.cons (.ix (.var 4) (.bin .Mod .z (.bin .FloorDiv .z (.var 3) (.cst (.int 300))) (.blt .len .z (.cons (.var 4) .nil)))) .nil)))) .nil) .nil) (.cons (.ite (.cmp (.var 9) (.cons .eq (.cst (.int 9)) .nil)) (.cons (.ex (.meth .append (.var 4) (.cons (.meth .pop (.var 4) (.cons (.var 5) .nil)) .nil))) .nil) .nil) (.cons (.ret (.frz 4)) .nil)))))))))))⟩
noncomputable def g9:Sms:=(.cons (.ite (.cmp (.blt .len .z (.cons (.call false cv (.cons (.var 3) (.cons (.var 4) .nil))) .nil)) (.cons .ne (.var 1) .nil)) (.cons (.ret (.cst (.bl false))) .nil) .nil) .nil)
noncomputable def D_law_due:Df:=⟨4,5,(.cons (.ite (.not (.call false ck (.cons (.var 0) (.cons (.var 2) (.cons (.var 3) .nil))))) (.cons (.ret (.cst (.bl false))) .nil) .nil) (.cons (.loop (.one 4) (.seq (.call false jb (.cons (.var 0) (.cons (.var 3) .nil)))) g9) (.cons (.ret (.cst (.bl true))) .nil)))⟩
noncomputable def h7:Sms:=(.cons (.set 9 (.call false nu (.cons (.var 1) (.cons (.var 8) (.cons (.var 3) (.cons (.blt .tuple .z (.cons (.var 7) .nil)) .nil)))))) (.cons (.ite (.or (.not (.isi (.var 9) .bool)) (.cmp (.var 9) (.cons .ne (.call false lj (.cons (.var 1) (.cons (.var 8) (.cons (.var 3) (.cons (.var 7) .nil))))) .nil))) (.cons (.ret (.cst (.bl false))) .nil) .nil) .nil))
noncomputable def h9:Sms:=(.cons (.loop (.one 8) (.seq (.lst .z (.cons (.blt .min .z (.cons (.cst (.int 8)) (.cons (.blt .len .z (.cons (.call false cv (.cons (.var 7) (.cons (.cst (.int 0)) .nil))) .nil)) .nil))) (.cons (.bin .Mod .z (.var 5) (.bin .Add .z (.var 3) (.cst (.int 1)))) .nil)))) h7) .nil)
noncomputable def gc:Sms:=(.cons (.set 6 (.call false g8 (.cons (.var 4) (.cons (.var 1) (.cons (.var 3) (.cons (.call false cu (.cons (.var 5) (.cons (.cst (.int 9)) .nil))) .nil)))))) (.cons (.loop (.one 7) (.seq (.lst .z (.cons (.call false g6 (.cons (.var 4) .nil)) (.cons (.var 6) .nil)))) h9) .nil))
noncomputable def D_law_k15:Df:=⟨1,10,(.cons (.set 1 (.call false gz (.cons (.call false d5 (.cons (.var 0) (.cons (.cst (.int 0)) .nil))) .nil))) (.cons (.set 2 (.call false cu (.cons (.call false d5 (.cons (.var 0) (.cons (.cst (.int 1)) .nil))) (.cons (.cst (.int 0)) .nil)))) (.cons (.set 3 (.bin .Add .z (.cst (.int 1)) (.bin .Mod .z (.var 2) (.cst (.int 8))))) (.cons (.set 4 (.call false jc (.cons (.sl .z (.var 0) (.so (.cst (.int 2))) (.so (.cst (.int 26)))) (.cons (.var 1) (.cons (.var 3) .nil))))) (.cons (.ite (.cmp (.bin .Mod .z (.bin .FloorDiv .z (.var 2) (.cst (.int 72))) (.cst (.int 2))) (.cons .eq (.cst (.int 0)) .nil)) (.cons (.set 4 (.call false g7 (.cons (.var 0) (.cons (.var 1) (.cons (.bin .Mod .z (.bin .FloorDiv .z (.var 2) (.cst (.int 8))) (.bin .Add .z (.var 3) (.cst (.int 1)))) (.cons (.var 3) .nil)))))) .nil) .nil) (.cons (.loop (.one 5) (.seq (.bin .Add .z (.lst .z (.cons (.var 2) .nil)) (.sl .z (.var 0) .no (.so (.cst (.int 12)))))) gc) (.cons (.ret (.cst (.bl true))) .nil)))))))⟩
noncomputable def Dz:Df:=⟨0,0,.nil⟩
noncomputable def GL:List Df:=[Dz,Dz,Dz,Dz,Dz,Dz,Dz,Dz,Dz,Dz,Dz,Dz,Dz,D_rises,Dz,Dz,Dz,Dz,Dz,Dz,Dz,Dz,Dz,Dz,Dz,Dz,Dz,Dz,Dz,Dz,Dz,Dz,Dz,Dz,Dz,Dz,Dz,Dz,Dz,Dz,Dz,Dz,Dz,Dz,Dz,Dz,Dz,Dz,Dz,Dz,Dz,Dz,Dz,D_have_tick_in_common,D_has_span_fault,D_has_dark_fault,Dz,Dz,Dz,Dz,Dz,Dz,Dz,Dz,Dz,Dz,Dz,Dz,Dz,Dz,Dz,Dz,Dz,Dz,Dz,Dz,Dz,Dz,Dz,Dz,Dz,Dz,D_law_cell,D_law_stir,D_law_length,D_law_fitting,D_law_marks,D_law_lamps_at,D_law_span_good,D_law_spans_good,Dz,Dz,D_steady,Dz,Dz,Dz,Dz,Dz,Dz,Dz,D_law_place,D_law_drawn,D_law_kept_2,Dz,Dz,Dz,D_law_stands,D_law_spoilt,D_law_due,D_law_k15,Dz,Dz,Dz,Dz,Dz,Dz,Dz,Dz,Dz,Dz,Dz,Dz,Dz,Dz,Dz,Dz,Dz,Dz,Dz,Dz,Dz,Dz,Dz,Dz,Dz,Dz,Dz,Dz,Dz,Dz,Dz,Dz,Dz,Dz,Dz,Dz,Dz,Dz,Dz,Dz,Dz,Dz,Dz,Dz,Dz,Dz,Dz,Dz,Dz,Dz,Dz,Dz,Dz,Dz,Dz,Dz,Dz,Dz,Dz,Dz,Dz,Dz,Dz,Dz,Dz,Dz,Dz,Dz,Dz,Dz,Dz,Dz,Dz,Dz,Dz,Dz,Dz,Dz,Dz,Dz,Dz,Dz,Dz,Dz,Dz,Dz,Dz,Dz,Dz,Dz,Dz,Dz,Dz,Dz,Dz,Dz,Dz,Dz,Dz,Dz,Dz,Dz,Dz,Dz,Dz,Dz,Dz,Dz,Dz,Dz,Dz,Dz,Dz,Dz,Dz,Dz,Dz,Dz,Dz,Dz,Dz,Dz,Dz,Dz,Dz,Dz,Dz,Dz,Dz,Dz,Dz,Dz,Dz,Dz,Dz,Dz,Dz,Dz,Dz,Dz,Dz,Dz,Dz,Dz,Dz,Dz,Dz,Dz]
theorem Gs:GL[pj]? = some D_rises:=rfl
theorem gf:GL[a9]? = some D_have_tick_in_common:=rfl
theorem je:GL[cj]? = some D_has_span_fault:=rfl
theorem nc:GL[bc]? = some D_has_dark_fault:=rfl
theorem Cy:GL[d5]? = some D_law_cell:=rfl
theorem Cz:GL[cu]? = some D_law_stir:=rfl
theorem wt:GL[gz]? = some D_law_length:=rfl
theorem ud:GL[gk]? = some D_law_fitting:=rfl
theorem ze:GL[jb]? = some D_law_marks:=rfl
theorem qb:GL[cv]? = some D_law_lamps_at:=rfl
theorem p5:GL[c8]? = some D_law_span_good:=rfl
theorem ng:GL[ck]? = some D_law_spans_good:=rfl
theorem Js:GL[nu]? = some D_steady:=rfl
theorem zf:GL[gq]? = some D_law_place:=rfl
theorem zg:GL[jc]? = some D_law_drawn:=rfl
theorem wu:GL[g6]? = some D_law_kept_2:=rfl
theorem wx:GL[g7]? = some D_law_stands:=rfl
theorem wy:GL[g8]? = some D_law_spoilt:=rfl
theorem Gu:GL[lj]? = some D_law_due:=rfl
theorem Gv:GL[pk]? = some D_law_k15:=rfl
end Lp
local macro_rules | `(tactic| simp! only [$ls,*]) => do
  let mut a := ls.getElems
  for s in "R7 R8 R9 Sa Sb Sd Xm Se Sf Sg K6 K7 Sh Si K8 Xn Xo Sj Sk Sn K9 La Fu Xp Xq Lb Fv So Sr Lc Ss Ld Le Su Sv Lg Xr Sw Lh Sx Li Sy Lj Lk Fw wm A1 Fx Ll Lm Sz S0 Ln Lo Lq Ls S4 S5 Lu Lv A2 S6 S7 Lw Lx Ly Lz wo A3 A4 wq S8 S9 Ta Tb L0 L3 L4 bt_min bt_max fb F0 F3 F4 F5 Td F6 L5 L6 F7 L7 F8 F9 L8 Ga Gb A5 Gc Ge Gf Gg Gh Gi Gj L9 Mb Gk A6 A7 Te Gm Mc Gn Gp Gq A8 A9 Gr Ze Wj Xw Wk Zf Zg Wl Xx Xy Wm Wn Zh Xz X0 X3 Zu Zv Zw Zx Zy Zz Z0 Z1 Z2 Z3 Z4 Z5 Z6 Z7 Z8 Nat.reduceSub decide_true decide_false Bool.not_true Bool.not_false".splitOn " " do
    a := a.push ⟨(<- `(Lean.Parser.Tactic.simpLemma| $(Lean.mkIdent ((s.splitOn ".").foldl Lean.Name.mkStr .anonymous)):ident)).raw⟩
  `(tactic| simp only [$a,*])
namespace Lr
open Lp
open PySem
noncomputable def Lf(cs:List Int):O:=.l (cs.reverse.map D.int)
@[simp] theorem X4 (cs:List Int):noR (Lf cs)=true:=rfl
open PySem
structure Lamp where
 tank:Int
 oil:Int
 away:List Int
structure Day where
 boat:Int
 most:Int
 price:Int
 length:Int
 wanted:Int
structure Book where
 store:Int
 oil:Int
 lamps:List Lamp
 days:List Day
noncomputable def Gw(ns:List Int):D:=.tup (ns.map D.int)
theorem Gx{k:Nat}(ns:List Int):D.pureN (k+1) (Gw ns)=true:=by
 simp![Gw,Ay,DN,AW]
 exact λx _=>lg
section
variable{n:Nat}{μ ρ:Sto}
theorem p15:opI .Pow 10 15 μ=.ok (.int (10 ^ 15)) μ:=op_pow (by decide)
end
open PySem
theorem Jt(xs:List D)(k:Nat):cut xs none (some (k:Int))=xs.take k:=by
 simp![cut,sIx]
 rw[if_neg (by lia)]
 simp[JT]
theorem Ju(xs:List D)(k:Nat):cut xs (some (k:Int)) none=xs.drop k:=by
 simp![cut,sIx]
 rw[if_neg (by lia)]
 by_cases h:k<=xs.length
 ·rw[BH,Nat.min_eq_left h,DH (by simp)]
 ·rw[BH,Nat.min_eq_right (by lia),GK (show xs.length<=k by lia)];simp
section
variable{n:Nat}{μ ρ:Sto}{m:Mk}{φ:Phi}{σ:Sl}{es:Exs}
theorem Ot{xs:List D}{k:Nat}:slD m (.tup xs) (some (k:Int)) none μ=.ok (.tup (xs.drop k)) μ:=by rw[slD,Ju]
theorem Jv{xs:List D}:slD m (.tup xs) (some 1) none μ=.ok (.tup (xs.drop 1)) μ:=Ot (k:=1)
theorem d7{f:Nat}{ds:List D}{d:D}(h:φ f ds μ=.ok d (μ++ρ))(hd:d.pure=true)(hr:p9 μ):wj φ false f ds μ=.ok d μ:=by
 rw[wj,h]
 have e:(μ++ρ).take μ.length=μ:=by simp
 have hr':μ.all (gh μ.length)=true:=hr
 simp![l5,AQ,if_false,e,jw _ 8 d hd,hr',and_self,if_true]
theorem dh{o:O}:(μ++[o])[μ.length]? = some o:=by simp
theorem fw{o o':O}:(μ++[o]).set μ.length o'=μ++[o']:=by simp
theorem O8{ds:List D}(h:ds.all (D.pureN 8)=true):mkL .l ds μ=.ok (.loc μ.length) (μ++[.l ds]):=by simp![mkL,h,if_true]
theorem ue{ds:List D}:dn (μ++[.l ds]) (.loc μ.length)=some ds:=by simp![dn,dh]
theorem uf{mt:Mt}{ds:List D}(h:∀d μ,gv mt d μ=(Lp.listOf μ d).isSome):kM φ mt es σ (.loc μ.length) (μ++[.l ds])=(fj φ es σ (μ++[.l ds])).bind (mtD mt (.loc μ.length)):=by
 refine Jr ?_
 rw[h]
 simp![Lp.listOf,dh];rfl
theorem wz{ds:List D}:kM φ .append es σ (.loc μ.length) (μ++[.l ds])=(fj φ es σ (μ++[.l ds])).bind (mtD .append (.loc μ.length)):=uf λ_ _=>rfl
theorem Gy{ds:List D}{d:D}(hd:d.pure=true)(hl:ds.length<1000000):mtD .append (.loc μ.length) [d] (μ++[.l ds])=.ok .non (μ++[.l (ds++[d])]):=by
 have:=j8
 simp![mtD,vd,dh,gi,mtL,gu,fits,hd,putL,fw]
 rw[if_pos ⟨trivial,by lia⟩]
theorem mf{α:Type}{tg:Tg}{b:Sms}{xs:List α}{en:α->D}(I:Nat->Sl->Sto->Prop)(h0:I 0 σ μ)(st:∀(k:Nat) a σ μ,xs[k]? = some a->I k σ μ->∃σ' μ',fLp φ tg b (en a) σ μ=.ok (.nx σ') μ'/\I (k+1) σ' μ') :
  ∃σ' μ',ph φ tg b σ (xs.map en,none) μ=.ok (.nx σ') μ'/\I xs.length σ' μ':=by
 obtain⟨σ',μ',e,i⟩:=t9 (f:=fLp φ tg b) I (ds:=xs.map en) (σ:=σ) (μ:=μ) 0 h0 λj d σ μ' e i=>by
  rw[BL]at e
  cases ex:xs[j]? with
  |none=>rw[ex]at e;cases e
  |some a =>
   rw[ex]at e
   cases e
   obtain⟨σ',μ'',e',i'⟩:=st j a σ μ' ex (by simpa using i)
   exact⟨σ',μ'',e',by simpa using i'⟩
 exact⟨σ',μ',e,by simpa using i⟩
end
open PySem
noncomputable def gg(c k:Int):Int :=
 let near:=((c+7919*k+101) % 2147483647)*((c+7919*k+101) % 2147483647) % 2147483647
 near*48271 % 2147483629 / 7
noncomputable def jq(c:Int):Int:=if gg c 3 % 6=0 then 10 ^ 15-gg c 3 / 6 % 3 else if gg c 3 % 6=1 then 1+c % 10 ^ 15 else 1+gg c 3 / 6 % 12
theorem C0(c:Int):1<=jq c/\jq c<=10 ^ 15:=by
 unfold jq
 split
 ·lia
 ·split<;>lia
section
variable{n:Nat}{μ ρ:Sto}
theorem zh(ns:List Int)(k:Nat):aq GL (n+1) d5 [.lst (ns.map D.int),.int k] μ=.ok (.int (ns.getD k 0)) μ:=by
 rw[ak Cy,run_eq rfl]
 by_cases h:k<ns.length
 ·have h':(k:Int)<(ns.length:Nat):=by lia
  have e:ns[k]? = some ns[k]:=AD h
  have e2:ns.getD k 0=ns[k]:=by rw[BK,e];rfl
  simp! only[D_law_cell,bt_len cg,AG,h',ua e,e2]
 ·have h':¬(k:Int)<(ns.length:Nat):=by lia
  have e2:ns.getD k 0=0:=by rw[BK,DX (by lia)];rfl
  simp! only[D_law_cell,bt_len cg,AG,h',e2]
theorem kh(c k:Int):aq GL (n+1) cu [.int c,.int k] μ=.ok (.int (gg c k)) μ:=by
 rw[ak Cz,run_eq rfl]
 have a1:(0:Int)<=(c+7919*k+101) % 2147483647:=CY _ (by decide)
 have a2:(c+7919*k+101) % 2147483647<2147483647:=CG _ (by decide)
 have hm:CMul ((c+7919*k+101) % 2147483647) ((c+7919*k+101) % 2147483647):=.left (by lia) (by lia)
 have hm0:∀x,CMul 7919 x:=λx=>.left (by decide) (by decide)
 have hm1:∀x,CMul x 48271:=λx=>.right (by decide) (by decide)
 simp! only[D_law_stir,op_mul (hm0 k),op_mod (show(0:Int)<2147483647 by decide),op_mul hm,op_mul (hm1 _),op_mod (show(0:Int)<2147483629 by decide),lh (show(0:Int)<7 by decide) (by decide),gg]
theorem Gz(hr:p9 μ)(c:Int):aq GL (n+2) gz [.int c] μ=.ok (.int (jq c)) μ:=by
 rw[ak wt,run_eq rfl]
 have e:=ay (kh (n:=n) (μ:=μ) c 3) rfl rfl hr
 have m6:opI .Mod (gg c 3) 6 μ=.ok (.int (gg c 3 % 6)) μ:=op_mod (by decide)
 have d6:opI .FloorDiv (gg c 3) 6 μ=.ok (.int (gg c 3 / 6)) μ:=lh (by decide) (by decide)
 by_cases h0:gg c 3 % 6=0
 ·simp! only[D_law_length,e,m6,h0,p15,d6,op_mod (show(0:Int)<3 by decide),jq,if_true]
 ·by_cases h1:gg c 3 % 6=1
  ·have hp:(0:Int)<10 ^ 15:=by decide
   simp! only[D_law_length,e,m6,h0,h1,p15,op_mod hp,jq,if_true,if_false,Int.reduceEq]
  ·simp! only[D_law_length,e,m6,h0,h1,d6,op_mod (show(0:Int)<12 by decide),jq,if_false]
structure Span where
 lamp:Int
 start:Int
 fin:Int
noncomputable def eSpan(s:Span):D:=.tup [.int s.lamp,.int s.start,.int s.fin]
noncomputable def ll(k st much L:Int):List Span:=if much=0 then []else if st+much<=L then [⟨k,st,st+much⟩]else [⟨k,0,st+much-L⟩,⟨k,st,L⟩]
theorem fh{k:Nat}(s:Span):D.pureN (k+1) (eSpan s)=true:=by simp![eSpan,Ay,BX,List.all_nil,Bool.and_true,lg]
structure Fit (L:Int) (ts:List Int) (w:Int):Prop where
 each:∀t∈ts,0<=t/\t<=L
 all:ts.sum=w*L
end
open PySem
noncomputable def w4(L:Int):List Int->Int->Int->List Span
 | [],_,_=>[]
 |t::r,k,st=>ll k st t L++w4 L r (k+1) ((st+t) % L)
theorem lq{b c:Nat}(h:b<=c):∀(k:Nat) (d:D),D.belowN b k d=true->D.belowN c k d=true
 |0,d,e=>by cases d<;>simp_all[D.belowN];lia
 |k+1,d,e=>by
  cases d with
  |tup ds =>
   simp![D.belowN,AW]at e ⊢
   exact λx hx=>lq h k x (e x hx)
  |lst ds =>
   simp![D.belowN,AW]at e ⊢
   exact λx hx=>lq h k x (e x hx)
  |loc n=>simp_all[D.belowN];lia
  |_=>rfl
section
variable{n:Nat}{μ ρ:Sto}{φ:Phi}{es:Exs}{σ:Sl}
theorem Md{ds:List D}:kM φ .extend es σ (.loc μ.length) (μ++[.l ds])=(fj φ es σ (μ++[.l ds])).bind (mtD .extend (.loc μ.length)):=uf λ_ _=>rfl
theorem G0{ds ys:List D}(hd:ys.all D.pure=true)(hl:ds.length+ys.length<=1000000):mtD .extend (.loc μ.length) [.lst ys] (μ++[.l ds])=.ok .non (μ++[.l (ds++ys)]):=by
 have:=j8
 have hf:ys.all (fits (.l ds))=true:=hd
 simp![mtD,vd,dh,gi,mtL,gu,Lp.listOf,hf,putL,fw]
 rw[if_pos ⟨trivial,by lia⟩]
theorem G1(hr:p9 μ)(ds:List D):p9 (μ++[.l ds]):=by
 unfold p9 at hr ⊢
 rw[AW]at hr ⊢
 intro o ho
 rcases BB.mp ho with h | h
 ·have:=hr o h
  cases o with
  |r xs =>
   simp![gh,AW]at this ⊢
   exact λx hx=>lq (by simp) 8 x (this x hx)
  |o _ _ =>
   simp![gh,AW]at this ⊢
   exact λx hx=>lq (by simp) 8 _ (this x hx)
  |dr _ =>
   simp![gh,AW]at this ⊢
   exact λx hx=>lq (by simp) 8 _ (this x hx)
  |_=>rfl
 ·simp![BF]at h
  subst h;rfl
end
open PySem
noncomputable def cov(ss:List Span)(t:Int):Nat:=ss.countP λs=>decide (s.start<=t/\t<s.fin)
open PySem
section
variable{n:Nat}{μ ρ:Sto}{φ:Phi}{σ:Sl}
theorem Jw{i:Nat}{k:Nat}{ds:List D}(h:σ[i]? = some (some (.loc k)))(h2:μ[k]? = some (.l ds)):evE φ (.frz i) σ μ=.ok (.lst ds) (μ.set k .dead):=by simp![evE,h,h2]
theorem C1(hr:p9 μ)(ns:List Int){L w:Int}{lamps:Nat}(hL:1<=L)(hL2:L<=10 ^ 15)(hw:0<=w/\w<=lamps)(hl:lamps<=8) :
  ∃ts,Fit L ts w/\ts.length=lamps/\aq GL (n+2) gk [.lst (ns.map D.int),.int L,.int w,.int lamps] μ=.ok (.lst (ts.map D.int)) (μ++[.dead]):=by
 rw[ak ud,run_eq rfl]
 have hm:CMul w L:=.left (by omega) (by omega)
 obtain⟨σ',μ',el,ts,rest,v6,v7,v8,v9,v10,v11,rfl,rfl,h1,h2,h3,h4,h5⟩:=mf (φ:=aq GL (n+1)) (μ:=μ++[.l []]) (tg:=.one 6) (b:=cq) (xs:=List.range lamps) (en:=fun(k:Nat)=>D.int k)
  (σ:=[some (.lst (ns.map D.int)),some (.int L),some (.int w),some (.int lamps),some (.int (w*L)),some (.loc μ.length),none,none,none,none,none,none])
  (λj σ μ'=>∃ts rest v6 v7 v8 v9 v10 v11,σ=[some (.lst (ns.map D.int)),some (.int L),some (.int w),some (.int lamps),some (.int rest),some (.loc μ.length),v6,v7,v8,v9,v10,v11]/\μ'=μ++[.l (ts.map D.int)] /\
   ts.length=j/\(∀t∈ts,0<=t/\t<=L)/\ts.sum+rest=w*L/\0<=rest/\rest<=((lamps:Int)-j)*L)
  ⟨[],w*L,none,none,none,none,none,none,rfl,rfl,rfl,by simp,by simp,Int.mul_nonneg hw.1 (by omega),by simpa using Int.mul_le_mul_of_nonneg_right hw.2 (show 0<=L by omega)⟩ (by
   rintro j k σ μ' hk ⟨ts,rest,v6,v7,v8,v9,v10,v11,rfl,rfl,h1,h2,h3,h4,h5⟩
   obtain⟨hj,hj2⟩:=AL.mp hk
   simp![EY]at hj
   simp![List.getElem_range]at hj2
   subst hj2
   have hS:=G1 hr (ts.map D.int)
   have cm:CMul ((lamps:Int)-(j:Nat)-1) L:=.left (by omega) (by omega)
   have hP:0<=((lamps:Int)-(j:Nat)-1)*L:=Int.mul_nonneg (by omega) (by omega)
   have hP2:((lamps:Int)-(j:Nat))*L=((lamps:Int)-(j:Nat)-1)*L+L:=by rw[Int.sub_mul _ 1];omega
   have hP3:((lamps:Int)-((j+1:Nat):Int))*L=((lamps:Int)-(j:Nat)-1)*L:=by congr 1;omega
   rw[hP2]at h5
   generalize eP:((lamps:Int)-(j:Nat)-1)*L=P at hP hP2 hP3 h5
   generalize hlow:max 0 (rest-P)=low
   generalize hhigh:min L rest=high
   have ec:(2:Int)+(j:Nat)=((2+j:Nat):Int):=by omega
   generalize hc:ns.getD (2+j) 0=c
   have k1:=ay (zh (n:=n) (μ:=μ++[.l (ts.map D.int)]) ns (2+j)) rfl rfl hS
   rw[hc]at k1
   have k2:=ay (kh (n:=n) (μ:=μ++[.l (ts.map D.int)]) c 5) rfl rfl hS
   generalize gg c 5=z at k2
   have m4:∀μ,opI .Mod z 4 μ=.ok (.int (z % 4)) μ:=λμ=>op_mod (by decide)
   have d4:∀μ,opI .FloorDiv z 4 μ=.ok (.int (z / 4)) μ:=λμ=>lh (by decide) (by decide)
   have m2:∀μ,opI .Mod (z / 4) 2 μ=.ok (.int (z / 4 % 2)) μ:=λμ=>op_mod (by decide)
   have mc:∀μ,opI .Mod c (high-low+1) μ=.ok (.int (c % (high-low+1))) μ:=λμ=>op_mod (by omega)
   have q1:0<=c % (high-low+1):=CY _ (by omega)
   have q2:c % (high-low+1)<high-low+1:=CG _ (by omega)
   have app:∀t:Int,mtD .append (.loc μ.length) [.int t] (μ++[.l (ts.map D.int)])=.ok .non (μ++[.l ((ts++[t]).map D.int)]):=λt=>by
    rw[Gy rfl (by simp;omega)];simp
   have fin:∀t:Int,low<=t->t<=high->(ts++[t]).length=j+1/\(∀x∈ts++[t],0<=x/\x<=L)/\(ts++[t]).sum+(rest-t)=w*L/\0<=rest-t/\rest-t<=P:=λt a b=>by
    refine⟨by simp[h1],λx hx=>?_,by simp;omega,by omega,by omega⟩
    rcases BB.mp hx with hx | hx
    ·exact h2 x hx
    ·simp![BF]at hx
     omega
   rw[hP3]
   by_cases hz:z % 4=0
   ·by_cases hb:z / 4 % 2=0
    ·have ix:∀μ,ixD (.lst [.int low,.int high]) (.int 0) μ=.ok (.int low) μ:=λμ=>rfl
     refine⟨_,μ++[.l ((ts++[low]).map D.int)],?_,ts++[low],rest-low,some (.int j),some (.int low),some (.int high),some (.int c),some (.int z),some (.int low),rfl,rfl,fin low (by omega) (by omega)⟩
     simp! only[fLp,cq,op_mul cm,eP,hlow,hhigh,ec,k1,k2,mc,m4,hz,d4,m2,hb,fb,ix,wz,app]
    ·have hb':z / 4 % 2=1:=by omega
     have ix:∀μ,ixD (.lst [.int low,.int high]) (.int 1) μ=.ok (.int high) μ:=λμ=>rfl
     refine⟨_,μ++[.l ((ts++[high]).map D.int)],?_,ts++[high],rest-high,some (.int j),some (.int low),some (.int high),some (.int c),some (.int z),some (.int high),rfl,rfl,fin high (by omega) (by omega)⟩
     simp! only[fLp,cq,op_mul cm,eP,hlow,hhigh,ec,k1,k2,mc,m4,hz,d4,m2,hb',fb,ix,wz,app]
   ·refine⟨_,μ++[.l ((ts++[low+c % (high-low+1)]).map D.int)],?_,ts++[low+c % (high-low+1)],rest-(low+c % (high-low+1)),some (.int j),some (.int low),some (.int high),some (.int c),some (.int z),some (.int (low+c % (high-low+1))),rfl,rfl,fin _ (by omega) (by omega)⟩
    simp! only[fLp,cq,op_mul cm,eP,hlow,hhigh,ec,k1,k2,mc,m4,hz,wz,app])
 rw[EY]at h1 h5
 have e0:rest=0:=by
  have:((lamps:Int)-(lamps:Nat))*L=0:=by rw[Int.sub_self,Int.zero_mul]
  omega
 refine⟨ts,⟨h2,by omega⟩,h1,?_⟩
 have m0:mkL .l [] μ=.ok (.loc μ.length) (μ++[.l []]):=rfl
 have ef:∀{a b c d e v6 v7 v8 v9 v10 v11:Option D},evE (aq GL (n+1)) (.frz 5) [a,b,c,d,e,some (.loc μ.length),v6,v7,v8,v9,v10,v11] (μ++[.l (ts.map D.int)])=.ok (.lst (ts.map D.int)) (μ++[.dead]):=by
  intros
  rw[Jw rfl dh,fw]
 simp! only[D_law_fitting,op_mul hm,m0,nr (show lamps<=1000000 by omega),el,ef]
end
open PySem
noncomputable def encM(m:List (Int×Int)):List (D×D):=m.map λp=>(D.int p.1,D.int p.2)
noncomputable def cb:List (Int×Int)->Int->Option Int
 | [],_=>none
 |p::r,k=>if p.1=k then some p.2 else cb r k
noncomputable def Ba(m:List (Int×Int))(k v:Int):List (Int×Int):=if(m.any λp=>decide (p.1=k))=true then m.map (λp=>if p.1=k then(p.1,v)else p)else m++[(k,v)]
theorem Bb(k:Int):∀m:List (Int×Int),B6 (.int k) (encM m)=(cb m k).map D.int
 | []=>rfl
 |p::r=>by
  have ih:=Bb k r
  simp![encM,AO]at ih ⊢
  rw[B6,cb,deq]
  by_cases h:p.1=k
  ·simp[h]
  ·simp![h,decide_false,if_false,AQ];exact ih
theorem Ou(k:Int)(m:List (Int×Int)):((encM m).any λp=>deq p.1 (.int k))=m.any λp=>decide (p.1=k):=by
 simp![encM,List.any_map]
 congr 1
theorem Bc(m:List (Int×Int))(k v:Int):dput (.int k) (.int v) (encM m)=encM (Ba m k v):=by
 unfold dput Ba
 rw[Ou]
 split
 ·simp![encM,BU]
  refine DJ λp _=>?_
  simp![Function.comp,deq]
  by_cases h:p.1=k
  ·simp[h]
  ·simp[h]
 ·simp[encM]
theorem Bd:∀(m:List (Int×Int)) (k:Int),(m.any λp=>decide (p.1=k))=(cb m k).isSome
 | [],_=>rfl
 |p::r,k=>by
  rw[CW,cb,Bd r k]
  by_cases h:p.1=k<;>simp[h]
theorem Be(k v k':Int):∀m:List (Int×Int),cb (m.map λp=>if p.1=k then(p.1,v)else p) k'=if k'=k then(cb m k).map λ_=>v else cb m k'
 | []=>by simp[cb]
 |p::r=>by
  have ih:=Be k v k' r
  simp![AO,cb]
  by_cases h:p.1=k
  ·by_cases h':k'=k
   ·subst h';simp[h]
   ·have:¬p.1=k':=λz=>h' (z.symm.trans h)
    simp![h,if_true,ih,h',if_false]
    have h2:¬k=k':=λz=>h' z.symm
    simp[h2]
  ·by_cases h':k'=k
   ·subst h';simp![h,if_false,ih,if_true]
   ·simp![h,if_false,ih,h']
theorem w6(k v k':Int):∀m:List (Int×Int),cb (m++[(k,v)]) k'=match cb m k' with
  |some x=>some x
  |none=>if k=k' then some v else none
 | []=>by simp[cb]
 |p::r=>by
  have ih:=w6 k v k' r
  simp![GQ,cb]
  by_cases h:p.1=k'
  ·simp[h]
  ·simp![h,if_false,ih]
theorem jx(m:List (Int×Int))(k v k':Int):cb (Ba m k v) k'=if k'=k then some v else cb m k':=by
 unfold Ba
 rw[Bd]
 split
 ·rename_i h
  rw[Be]
  obtain⟨x,hx⟩:=EC.mp h
  simp[hx]
 ·rename_i h
  have hn:cb m k=none:=by simpa using h
  rw[w6]
  by_cases h':k'=k
  ·subst h';simp[hn]
  ·have h2:¬k=k':=λz=>h' z.symm
   simp![h',h2,if_false]
   cases cb m k'<;>rfl
theorem ug(m:List (Int×Int))(k v:Int):(Ba m k v).length<=m.length+1:=by
 unfold Ba
 split<;>simp
section
variable{n:Nat}{μ ρ:Sto}{φ:Phi}{σ:Sl}
theorem Jx{m:List (Int×Int)}{k x:Int}:mtD .get (.loc μ.length) [.int k,.int x] (μ++[.d (encM m)])=.ok (.int ((cb m k).getD x)) (μ++[.d (encM m)]):=by
 simp![mtD,Nd,dictAt,dh,zw,if_true,Bb]
 cases cb m k<;>rfl
theorem Th{es:Exs}{m:List (Int×Int)}:kM φ .get es σ (.loc μ.length) (μ++[.d (encM m)])=(fj φ es σ (μ++[.d (encM m)])).bind (mtD .get (.loc μ.length)):=Jr (by simp![gv,dh])
theorem set_dict{m:List (Int×Int)}{k v:Int}(h:m.length<1000000):yb (.loc μ.length) (.int k) (.int v) (μ++[.d (encM m)])=.ok () (μ++[.d (encM (Ba m k v))]):=by
 have:=j8
 have hl:(encM m).length<lim:=by simp![encM,AG];lia
 simp![yb,dh,zw,A0,hl,and_self,if_true,Bc,fw]
noncomputable def zi(ss:List Span)(k:Int):Int:=(ss.map λs=>if s.lamp=k then s.fin-s.start else 0).sum
end
open PySem
noncomputable def eP(p:Int×Int):D:=.tup [.int p.1,.int p.2]
section
variable{n:Nat}{μ ρ:Sto}{φ:Phi}
theorem Ti{a b i:Int}(h0:0<=i)(h1:i<2):∃v,(v=a\/v=b)/\∀μ,ixD (.lst [.int a,.int b]) (.int i) μ=.ok (.int v) μ:=by
 have:i=0\/i=1:=by lia
 rcases this with rfl | rfl
 ·exact⟨a,.inl rfl,λ_=>rfl⟩
 ·exact⟨b,.inr rfl,λ_=>rfl⟩
noncomputable def mh(s:Span):List Int:=[s.lamp,s.start,s.fin]
noncomputable def unS(r:List Int):Span:=⟨r.getD 0 0,r.getD 1 0,r.getD 2 0⟩
theorem mj:∀ss:List Span,rowsOf (ss.map eSpan)=some (ss.map mh)
 | []=>rfl
 |s::r=>by simp[eSpan,rowsOf,cy,mj r,mh]
theorem w8(ss:List Span)(hl:ss.length<64):∃ss':List Span,ss'.Perm ss/\∀μ,btD .sorted .z [.loc (List.length μ)] (μ++[.l (ss.map eSpan)])=.ok (.lst (ss'.map eSpan)) (μ++[.l (ss.map eSpan)]):=by
 refine⟨(i5 (ss.map mh)).map unS,?_,λμ=>?_⟩
 ·have:=(Srt.fm (ss.map mh)).map unS
  rw[BU,show(unS∘mh)=id from rfl,List.map_id]at this
  exact this
 ·have hne:((ss.map mh).all λr=>!r.isEmpty)=true:=by rw[DN,AW];intro x _;rfl
  have e:((i5 (ss.map mh)).map λr=>D.tup (r.map D.int))=((i5 (ss.map mh)).map unS).map eSpan:=by
   rw[BU]
   refine DJ λr hr=>?_
   obtain⟨s,_,rfl⟩:=BJ.mp ((Srt.fm _).mem_iff.mp hr)
   rfl
  simp![btD,gu,D0,Lp.listOf,dh,AG,hl,if_true,x9,mj,hne,e,fb]
end
open PySem
structure Tn where
 taken:Int
 bought:Int
 poured:List Int
 spans:List Span
open PySem
section
variable{n:Nat}{μ ρ:Sto}{φ:Phi}
noncomputable def TK(L:Nat)(ss:List Span):List Int:=(List.range L).map fun(k:Nat)=>zi ss k
end
open PySem
noncomputable def Nb(a b:Span):Prop:=a.lamp<b.lamp\/(a.lamp=b.lamp/\a.start<b.start/\a.fin<=b.start)
structure Good (L:Int) (lo hi:Int) (s:Span):Prop where
 lamp:lo<=s.lamp/\s.lamp<hi
 start:0<=s.start
 run:s.start<s.fin
 fin:s.fin<=L
theorem Ov{L k st x:Int}(h0:0<=st)(h1:st<L)(hx:0<=x)(hx2:x<=L):(ll k st x L).Pairwise Nb/\∀s∈ll k st x L,Good L k (k+1) s:=by
 unfold ll
 split
 ·exact⟨.nil,λs h=>by simp at h⟩
 ·split
  ·refine⟨by simp,λs h=>?_⟩
   simp![BF]at h
   subst h
   exact⟨⟨EZ _,by show k<k+1;lia⟩,h0,by show st<st+x;lia,by show st+x<=L;lia⟩
  ·refine⟨?_,λs h=>?_⟩
   ·simp![BA,BF,BD,false_implies,implies_true,List.Pairwise.nil,and_true]
    rintro s rfl
    exact .inr ⟨rfl,by show(0:Int)<st;lia,by show st+x-L<=st;lia⟩
   ·simp![AN,BD,or_false]at h
    rcases h with rfl | rfl
    ·exact⟨⟨EZ _,by show k<k+1;lia⟩,EZ _,by show(0:Int)<st+x-L;lia,by show st+x-L<=L;lia⟩
    ·exact⟨⟨EZ _,by show k<k+1;lia⟩,h0,by show st<L;lia,EZ _⟩
theorem laid_ok{L:Int}:∀(ts:List Int) (k st:Int),0<=st->st<L->(∀x∈ts,0<=x/\x<=L)->(w4 L ts k st).Pairwise Nb/\∀s∈w4 L ts k st,Good L k (k+ts.length) s
 | [],k,st,_,_,_=>⟨.nil,λs h=>by simp[w4]at h⟩
 |x::r,k,st,h0,h1,hb=>by
  have hx:=hb x AM
  obtain⟨f1,f2⟩:=Ov (k:=k) h0 h1 hx.1 hx.2
  have hm:0<=(st+x) % L/\(st+x) % L<L:=⟨CY _ (by lia),CG _ (by lia)⟩
  obtain⟨g1,g2⟩:=laid_ok r (k+1) ((st+x) % L) hm.1 hm.2 λy hy=>hb y (AF _ hy)
  have e:((x::r).length:Int)=r.length+1:=by simp
  refine⟨?_,λs hs=>?_⟩
  ·rw[w4,HA]
   exact⟨f1,g1,λa ha b hb=>.inl (by have:=(f2 a ha).lamp;have:=(g2 b hb).lamp;lia)⟩
  ·rw[e]
   rcases BB.mp hs with h | h
   ·obtain⟨a,b,c,d⟩:=f2 s h
    exact⟨by lia,b,c,d⟩
   ·obtain⟨a,b,c,d⟩:=g2 s h
    exact⟨by lia,b,c,d⟩
theorem zj:∀{ss:List Span},ss.Pairwise Nb->∀p∈ss.zip (ss.drop 1),Nb p.1 p.2
 | [],_,p,hp=>by simp at hp
 | [a],_,p,hp=>by simp at hp
 |a::c::r,h,p,hp=>by
  rcases AN.mp hp with rfl | hp
  ·exact(BA.mp h).1 c AM
  ·exact zj (BA.mp h).2 p hp
open PySem
noncomputable def sq(b:Bool)(ds:List D):D:=match b with
 |true=>.lst ds
 |false=>.tup ds
open PySem
section
variable{n:Nat}{μ ρ:Sto}{φ:Phi}{σ:Sl}
theorem Me(a b:Span):cpD .lt (eSpan a) (eSpan b) μ=.ok (.bl (lexLt [a.lamp,a.start,a.fin] [b.lamp,b.start,b.fin])) μ:=by
 have e:∀s:Span,cy [D.int s.lamp,.int s.start,.int s.fin]=some [s.lamp,s.start,s.fin]:=λs=>pd [s.lamp,s.start,s.fin]
 simp![cpD,eSpan,e]
theorem Tj{a b:Span}(h:Nb a b):lexLt [a.lamp,a.start,a.fin] [b.lamp,b.start,b.fin]=true:=by
 rcases h with h | ⟨h1,h2,h3⟩
 ·have:¬a.lamp=b.lamp:=by lia
  simp[Lp.lexLt,this,h]
 ·have:¬a.start=b.start:=by lia
  simp[Lp.lexLt,h1,this,h2]
theorem lr(ss:List Span):(((ss.map eSpan).zip ((ss.map eSpan).drop 1)).map λp=>D.tup [p.1,p.2])=(ss.zip (ss.drop 1)).map λp:Span×Span=>D.tup [eSpan p.1,eSpan p.2]:=by
 rw[<-IL,List.zip_map,BU];rfl
theorem G2{ss:List Span}(h:ss.Pairwise Nb):aq GL (n+1) pj [.tup (ss.map eSpan)] μ=.ok (.bl true) μ:=by
 rw[ak Gs,run_eq rfl]
 have hz:Cw (.tup (ss.map eSpan)) (.tup ((ss.map eSpan).drop 1)) μ=.ok (((ss.map eSpan).zip ((ss.map eSpan).drop 1)).map λp=>.tup [p.1,p.2],none) μ:=rfl
 have hc:jz (aq GL n) .z (.many [0,1]) .nil ir [none,none] ((ss.zip (ss.drop 1)).map λp:Span×Span=>D.tup [eSpan p.1,eSpan p.2],none) μ=.ok (.lst (((ss.zip (ss.drop 1)).map λ_=>true).map D.bl)) μ:=by
  rw[comp_map (g:=λ_=>D.bl true) λp hp=>by
   have hlt:=Tj (zj h p hp)
   simp! only[pf,ir,Me,hlt]]
  rw[fb,BU];rfl
 have ha:((ss.zip (ss.drop 1)).map λ_=>true).all id=true:=by simp
 simp! only[D_rises,Jv,hz,lr,hc,bt_all cg (iq _),ha]
theorem ki{s:Span}:ixD (eSpan s) (.int 0) μ=.ok (.int s.lamp) μ:=rfl
theorem kj{s:Span}:ixD (eSpan s) (.int 1) μ=.ok (.int s.start) μ:=rfl
theorem mm{s:Span}:ixD (eSpan s) (.int 2) μ=.ok (.int s.fin) μ:=rfl
theorem Jy{a b:Span}(h:Nb a b):aq GL (n+1) a9 [eSpan a,eSpan b] μ=.ok (.bl false) μ:=by
 rw[ak gf,run_eq rfl]
 rcases h with h | ⟨h1,h2,h3⟩
 ·have:¬a.lamp=b.lamp:=by lia
  simp! only[D_have_tick_in_common,ki,this]
 ·have:¬b.start<a.fin:=by lia
  simp! only[D_have_tick_in_common,ki,kj,mm,h1,this]
theorem xg(hr:p9 μ){L:Int}{lamps:Nat}{ss:List Span}(h:ss.Pairwise Nb)(hg:∀s∈ss,Good L 0 lamps s):aq GL (n+2) cj [.int L,.int lamps,.tup (ss.map eSpan)] μ=.ok (.bl false) μ:=by
 rw[ak je,run_eq rfl]
 obtain⟨σ',el,v3,v4,v5,rfl⟩:=uc (φ:=aq GL (n+1)) (μ:=μ) (tg:=.many [3,4,5]) (b:=aj) (xs:=ss) (en:=eSpan) (σ:=[some (.int L),some (.int lamps),some (.tup (ss.map eSpan)),none,none,none])
  (λ_ σ=>∃v3 v4 v5,σ=[some (.int L),some (.int lamps),some (.tup (ss.map eSpan)),v3,v4,v5]) ⟨none,none,none,rfl⟩ (by
   rintro j s σ hs ⟨v3,v4,v5,rfl⟩
   obtain⟨⟨a1,a2⟩,b,c,d⟩:=hg s (CL hs)
   refine⟨[some (.int L),some (.int lamps),some (.tup (ss.map eSpan)),some (.int s.lamp),some (.int s.start),some (.int s.fin)],?_,_,_,_,rfl⟩
   simp! only[fLp,aj,eSpan,a1,a2,b,c,d])
 have hz:Cw (.tup (ss.map eSpan)) (.tup ((ss.map eSpan).drop 1)) μ=.ok (((ss.map eSpan).zip ((ss.map eSpan).drop 1)).map λp=>.tup [p.1,p.2],none) μ:=rfl
 have hc:jz (aq GL (n+1)) .z (.many [0,1]) .nil bq [none,none] ((ss.zip (ss.drop 1)).map λp:Span×Span=>D.tup [eSpan p.1,eSpan p.2],none) μ=.ok (.lst (((ss.zip (ss.drop 1)).map λ_=>false).map D.bl)) μ:=by
  rw[comp_map (g:=λ_=>D.bl false) λp hp=>by
   simp! only[pf,bq,ay (Jy (n:=n) (μ:=μ) (zj h p hp)) rfl rfl hr]]
  rw[fb,BU];rfl
 have ha:((ss.zip (ss.drop 1)).map λ_=>false).any id=false:=by
  rw[IF]
  intro x hx
  obtain⟨_,_,rfl⟩:=BJ.mp hx
  simp
 simp! only[D_has_span_fault,el,ay (G2 (n:=n) (μ:=μ) h) rfl rfl hr,Jv,hz,lr,hc,bt_any cg (iq _),ha]
end
noncomputable def dlt(ss:List Span)(x:Int):Int:=(ss.map λs=>(if s.start=x then 1 else 0)-(if s.fin=x then 1 else 0)).sum
theorem Bf{L lo hi:Int}:∀(ss:List Span) (x:Int),(∀s∈ss,Good L lo hi s)->dlt ss x=(cov ss x:Int)-(cov ss (x-1):Int)
 | [],x,_=>by simp[dlt,cov]
 |s::r,x,h=>by
  have ih:=Bf r x λy hy=>h y (AF _ hy)
  have g:=(h s AM).run
  have e1:(cov (s::r) x:Int)=cov r x+if s.start<=x/\x<s.fin then 1 else 0:=by
   simp![cov,GW,decide_eq_true_eq];split<;>simp
  have e2:(cov (s::r) (x-1):Int)=cov r (x-1)+if s.start<=x-1/\x-1<s.fin then 1 else 0:=by
   simp![cov,GW,decide_eq_true_eq];split<;>simp
  have e3:dlt (s::r) x=((if s.start=x then 1 else 0)-(if s.fin=x then 1 else 0))+dlt r x:=by simp[dlt]
  rw[e1,e2,e3,ih]
  clear e1 e2 e3 ih
  split<;>split<;>split<;>split<;>lia
open PySem
theorem uh(m:List (Int×Int))(k v:Int)(h:(m.map (·.1)).Nodup):((Ba m k v).map (·.1)).Nodup:=by
 unfold Ba
 split
 ·have e:(m.map λp=>if p.1=k then(p.1,v)else p).map (·.1)=m.map (·.1):=by
   rw[BU]
   refine DJ λp _=>?_
   simp![Function.comp]
   split<;>rfl
  rw[e];exact h
 ·rename_i hn
  rw[CD,List.nodup_append]
  refine⟨h,by simp,λa ha b hb z=>hn ?_⟩
  simp![AO,CC,BF]at hb
  obtain⟨p,hp,rfl⟩:=BJ.mp ha
  rw[DU]
  exact⟨p,hp,by simp[z,hb]⟩
theorem Bg:∀{m:List (Int×Int)},(m.map (·.1)).Nodup->∀p∈m,cb m p.1=some p.2
 | [],_,p,hp=>by simp at hp
 |q::r,h,p,hp=>by
  simp![AO,FN]at h
  rw[cb]
  rcases AN.mp hp with rfl | hp
  ·simp
  ·have:¬q.1=p.1:=λz=>h.1 (by rw[z];exact BJ.mpr ⟨p,hp,rfl⟩)
   rw[if_neg this]
   exact Bg h.2 p hp
theorem ui:∀{m:List (Int×Int)} {k v:Int},cb m k=some v->(k,v)∈m
 | [],_,_,h=>by simp[cb]at h
 |q::r,k,v,h=>by
  rw[cb]at h
  by_cases e:q.1=k
  ·rw[if_pos e]at h
   cases h
   subst e
   exact AM
  ·rw[if_neg e]at h
   exact AF _ (ui h)
theorem km{L lo hi x:Int}:∀{ss:List Span},(∀s∈ss,Good L lo hi s)->(x<0\/L<=x)->cov ss x=0:=λ{ss} h hx=>by
 unfold cov
 rw[List.countP_eq_zero]
 intro s hs
 obtain⟨_,b,c,d⟩:=h s hs
 simp![decide_eq_true_eq]
 lia
theorem To{L lo hi c:Int}{ss:List Span}(h:∀s∈ss,Good L lo hi s)(hL:0<L)(hc:∀t,0<=t->t<L->(cov ss t:Int)=c)(x:Int):dlt ss x=if x=0 then c else if x=L then -c else 0:=by
 rw[Bf ss x h]
 by_cases h0:x=0
 ·subst h0
  rw[if_pos rfl,hc 0 (by lia) hL,km h (.inl (by lia))];simp
 ·rw[if_neg h0]
  by_cases h1:x=L
  ·subst h1
   rw[if_pos rfl,km h (.inr (EZ _)),hc (x-1) (by lia) (by lia)];simp
  ·rw[if_neg h1]
   by_cases h2:x<0
   ·rw[km h (.inl h2),km h (.inl (by lia))];simp
   ·by_cases h3:L<x
    ·rw[km h (.inr (by lia)),km h (.inr (by lia))];simp
    ·rw[hc x (by lia) (by lia),hc (x-1) (by lia) (by lia)];simp
section
variable{n:Nat}{μ ρ:Sto}{φ:Phi}{σ:Sl}
theorem Bh{L lo hi w:Int}{ss:List Span}(h:∀s∈ss,Good L lo hi s)(hL:0<L)(hn:ss.length<=1000) :
  ∃(m:List (Int×Int)) (ρ:Sto),(m.map (·.1)).Nodup/\(cb m 0).isSome=true/\(∀x,(cb m x).getD 0=(if x=L then w else if x=0 then -w else 0)+dlt ss x) /\
   aq GL (n+1) bc [.int L,.int w,.tup (ss.map eSpan)] μ=.ok (.bl ((m.map λp=>!decide (p.2=0)).any id)) (μ++ρ):=by
 rw[ak nc,run_eq rfl]
 have d0:Qp false [.int 0,.int (-w),.int L,.int w] μ=.ok (.loc μ.length) (μ++[.d (encM (Ba [(0,-w)] L w))]):=by
  have:=Bc [(0,-w)] L w
  simp![Qp,A0,and_self,if_true]
  rw[<-this];rfl
 obtain⟨σ',μ',el,m,⟨v4,v5,v6,rfl⟩,rfl,hm,hk,hs0,hv⟩:=mf (φ:=aq GL n) (μ:=μ++[.d (encM (Ba [(0,-w)] L w))]) (tg:=.many [4,5,6]) (b:=du) (xs:=ss) (en:=eSpan)
  (σ:=[some (.int L),some (.int w),some (.tup (ss.map eSpan)),some (.loc μ.length),none,none,none])
  (λj σ μ'=>∃m,(∃v4 v5 v6,σ=[some (.int L),some (.int w),some (.tup (ss.map eSpan)),some (.loc μ.length),v4,v5,v6])/\μ'=μ++[.d (encM m)]/\m.length<=2+2*j/\(m.map (·.1)).Nodup/\(cb m 0).isSome=true /\
   ∀x,(cb m x).getD 0=(if x=L then w else if x=0 then -w else 0)+dlt (ss.take j) x)
  ⟨Ba [(0,-w)] L w,⟨none,none,none,rfl⟩,rfl,by have:=ug [(0,-w)] L w;simpa using this,uh _ _ _ (by simp),by
   rw[jx,if_neg (by lia)];simp[cb],λx=>by
   rw[jx]
   by_cases hx:x=L
   ·simp[hx,dlt]
   ·by_cases h0:x=0
    ·subst h0;simp[hx,cb,dlt]
    ·have:¬(0:Int)=x:=λz=>h0 z.symm
     simp[hx,h0,cb,dlt,this]⟩ (by
   rintro j s σ μ' hs ⟨m,⟨v4,v5,v6,rfl⟩,rfl,hm,hk,hs0,hv⟩
   have hj:j<ss.length:=(AL.mp hs).1
   have g:=(h s (CL hs)).run
   generalize e1:Ba m s.start ((cb m s.start).getD 0+1)=m1
   have l1:m1.length<=m.length+1:=by rw[<-e1];exact ug _ _ _
   generalize e2:Ba m1 s.fin ((cb m1 s.fin).getD 0-1)=m2
   have l2:m2.length<=m1.length+1:=by rw[<-e2];exact ug _ _ _
   refine⟨[some (.int L),some (.int w),some (.tup (ss.map eSpan)),some (.loc μ.length),some (.int s.lamp),some (.int s.start),some (.int s.fin)],μ++[.d (encM m2)],?_,m2,⟨_,_,_,rfl⟩,rfl,by lia,?_,?_,λx=>?_⟩
   ·simp! only[fLp,du,eSpan,Th,Jx,set_dict (show m.length<1000000 by lia),e1,set_dict (show m1.length<1000000 by lia),e2]
   ·rw[<-e2];refine uh _ _ _ ?_
    rw[<-e1];exact uh _ _ _ hk
   ·rw[<-e2,jx]
    split
    ·rfl
    ·rw[<-e1,jx]
     split
     ·rfl
     ·exact hs0
   ·have et:dlt (ss.take (j+1)) x=dlt (ss.take j) x+((if s.start=x then 1 else 0)-(if s.fin=x then 1 else 0)):=by
     rw[IG,hs]
     simp[dlt,List.sum_append]
    have q:∀y,(cb m1 y).getD 0=(cb m y).getD 0+if s.start=y then 1 else 0:=λy=>by
     rw[<-e1,jx]
     by_cases hy:y=s.start
     ·subst hy;simp
     ·have:¬s.start=y:=λz=>hy z.symm
      simp[hy,this]
    have q2:(cb m2 x).getD 0=(cb m1 x).getD 0-if s.fin=x then 1 else 0:=by
     rw[<-e2,jx]
     by_cases hy:x=s.fin
     ·subst hy;simp
     ·have:¬s.fin=x:=λz=>hy z.symm
      simp[hy,this]
    rw[q2,q,hv x,et]
    lia)
 rw[DH (AH _)]at hv
 have kv:kVals (.loc μ.length) (μ++[.d (encM m)])=.ok (m.map (λp=>D.int p.2),none) (μ++[.dead]):=by
  simp![kVals,dh,fw,encM,BU];rfl
 have hcmp:jz (aq GL n) .z (.one 0) .nil dy [none] (m.map (λp=>D.int p.2),none) (μ++[.dead])=.ok (.lst ((m.map λp=>!decide (p.2=0)).map D.bl)) (μ++[.dead]):=by
  rw[comp_map (en:=λp:Int×Int=>D.int p.2) (g:=λp=>D.bl (!decide (p.2=0))) λp _=>by simp! only[pf,dy]]
  rw[fb,BU];rfl
 refine⟨m,[.dead],hk,hs0,hv,?_⟩
 simp! only[D_has_dark_fault,d0,el,kv,hcmp,bt_any cg (iq _)]
theorem Ow{L lo hi c w:Int}{ss:List Span}(h:∀s∈ss,Good L lo hi s)(hL:0<L)(hc:∀t,0<=t->t<L->(cov ss t:Int)=c)(hn:ss.length<=1000) :
  ∃ρ,aq GL (n+1) bc [.int L,.int w,.tup (ss.map eSpan)] μ=.ok (.bl (!decide (w=c))) (μ++ρ):=by
 obtain⟨m,ρ,hk,hs0,hv,ed⟩:=Bh (n:=n) (μ:=μ) (w:=w) h hL hn
 have hd:=To h hL hc
 have hany:(m.map λp=>!decide (p.2=0)).any id=!decide (w=c):=by
  by_cases e:w=c
  ·have:∀p∈m,p.2=0:=λp hp=>by
    have a:=Bg hk p hp
    have b:=hv p.1
    rw[a,hd]at b
    simp![FA]at b
    rw[b]
    split<;>split<;>(try split)<;>lia
   simp![e,decide_true,ER]
   rw[IF]
   intro x hx
   obtain⟨p,hp,rfl⟩:=BJ.mp hx
   simp[this p hp]
  ·simp![e,decide_false,HX]
   rw[DU]
   obtain⟨v,hv0⟩:=EC.mp hs0
   have b:=hv 0
   rw[hv0,hd]at b
   simp![FA,if_true]at b
   rw[if_neg (by lia)]at b
   refine⟨true,BJ.mpr ⟨(0,v),ui hv0,?_⟩,rfl⟩
   have:¬v=0:=by lia
   simp[this]
 exact⟨ρ,by rw[ed,hany]⟩
end
open PySem
noncomputable def Wo(st:Int)(L:Nat)(H:Int×List Int)(t:Tn):Int×List Int:=(min (H.1+t.taken+t.bought-t.poured.sum) st,(List.range L).map fun(k:Nat)=>H.2.getD k 0+t.poured.getD k 0-zi t.spans k)
structure DayS (L:Nat) (mst:List Int) (aw:List (List Int)) (i:Nat) (H:Int×List Int) (t:Tn) (d:Day):Prop where
 tk:0<=t.taken/\t.taken<=d.boat
 bt:0<=t.bought/\t.bought<=d.most
 pl:t.poured.length=L
 p0:∀x∈t.poured,0<=x
 ps:t.poured.sum<=H.1+t.taken+t.bought
 tank:∀k:Nat,k<L->H.2.getD k 0+t.poured.getD k 0<=mst.getD k 0
 len:1<=d.length
 good:∀s∈t.spans,Good d.length 0 L s/\(i:Int)∉aw.getD s.lamp.toNat []
 nb:t.spans.Pairwise Nb
 few:t.spans.length<=16
 cov:∀x,0<=x->x<d.length->(cov t.spans x:Int)=d.wanted
 oil:∀k:Nat,k<L->zi t.spans k<=H.2.getD k 0+t.poured.getD k 0
 price:0<=d.price/\d.price<=10 ^ 15
open PySem
noncomputable def held(b:Book)(rs:List Tn)(i:Nat):Int×List Int:=(rs.take i).foldl (Wo b.store b.lamps.length) (b.oil,b.lamps.map (·.oil))
noncomputable abbrev Zi(b:Book)(i:Nat)(H:Int×List Int)(t:Tn)(d:Day):Prop:=DayS b.lamps.length (b.lamps.map (·.tank)) (b.lamps.map (·.away)) i H t d
structure Kept (b:Book) (rs:List Tn):Prop where
 lamps:1<=b.lamps.length/\b.lamps.length<=8
 same:rs.length=b.days.length
 some:1<=rs.length
 few:rs.length<=16
 day:∀(i:Nat) t d,rs[i]? = Option.some t->b.days[i]? = Option.some d->Zi b i (held b rs i) t d
open PySem
noncomputable def ly(L:Int)(lamps:Nat)(ss:List Span):Prop:=(∀s∈ss,Good L 0 lamps s)/\ss.Pairwise Nb
theorem Jz{a b c:Span}(hb:b.start<b.fin)(h1:Nb a b)(h2:Nb b c):Nb a c:=by
 unfold Nb at *;omega
theorem zk:∀{ss:List Span},(∀s∈ss,s.start<s.fin)->(∀p∈ss.zip (ss.drop 1),Nb p.1 p.2)->ss.Pairwise Nb
 | [],_,_=>.nil
 | [a],_,_=>by simp
 |a::b::r,h,g=>by
  have ih:=zk (ss:=b::r) (λs hs=>h s (AF _ hs)) (λp hp=>g p (AF _ hp))
  have g0:Nb a b:=g (a,b) AM
  refine BA.mpr ⟨λx hx=>?_,ih⟩
  rcases AN.mp hx with rfl | hx
  ·exact g0
  ·exact Jz (h b (by simp)) g0 ((BA.mp ih).1 x hx)
theorem X5{a b:Span}:lexLt [a.lamp,a.start,a.fin] [b.lamp,b.start,b.fin]=true↔(a.lamp<b.lamp\/(a.lamp=b.lamp/\(a.start<b.start\/(a.start=b.start/\a.fin<b.fin)))):=by
 simp![Lp.lexLt]
 split
 ·rename_i h;simp![h]
  split
  ·rename_i h;simp![h]
   split
   ·rename_i h;simp[h]
   ·simp
  ·simp;omega
 ·simp;omega
noncomputable def Tp(a b:Span):Prop:=lexLt [a.lamp,a.start,a.fin] [b.lamp,b.start,b.fin]=false\/(a.lamp=b.lamp/\a.start<b.fin/\b.start<a.fin)
theorem G3{a b:Span}(ha:a.start<a.fin)(hb:b.start<b.fin):Tp a b↔¬Nb a b:=by
 unfold Tp Nb
 rw[<-Bool.not_eq_true,X5]
 omega
theorem jr{α:Type}{φ:Phi}{μ:Sto}{tg:Tg}{b:Sms}{en:α->D}{v:D}(I:Sl->Prop)(P:α->Prop):∀{xs:List α} {σ:Sl},I σ->(∀a∈xs,∀σ,I σ->(¬P a->∃σ',fLp φ tg b (en a) σ μ=.ok (.nx σ') μ/\I σ')/\(P a->fLp φ tg b (en a) σ μ=.ok (.rt v) μ)) ->
  ((∀a∈xs,¬P a)->∃σ',ph φ tg b σ (xs.map en,none) μ=.ok (.nx σ') μ/\I σ')/\((¬∀a∈xs,¬P a)->ph φ tg b σ (xs.map en,none) μ=.ok (.rt v) μ)
 | [],σ,h,_=>⟨λ_=>⟨σ,by simp[ph,jy],h⟩,λe=>by simp at e⟩
 |a::r,σ,h,st=>by
  have s:=st a AM σ h
  have kl:∀σ,ph φ tg b σ ((a::r).map en,none) μ=(fLp φ tg b (en a) σ μ).bind λfl μ1=>match fl with
   |.nx σ1=>ph φ tg b σ1 (r.map en,none) μ1
   |.ct σ1=>ph φ tg b σ1 (r.map en,none) μ1
   |.bk σ1=>.ok (.nx σ1) μ1
   |.rt v=>.ok (.rt v) μ1:=λσ=>by
    simp![ph,AO,jy]
    rw[if_pos (show gd none μ from trivial)]
    all_goals congr 1
  by_cases p:P a
  ·exact⟨λq=>absurd p (q a AM),λ_=>by rw[kl,s.2 p];rfl⟩
  ·obtain⟨σ1,e1,i1⟩:=s.1 p
   have ih:=jr I P (xs:=r) (σ:=σ1) i1 λx hx=>st x (AF _ hx)
   refine⟨λq=>?_,λq=>?_⟩
   ·rw[kl,e1];exact ih.1 λx hx=>q x (AF _ hx)
   ·rw[kl,e1]
    refine ih.2 λz=>q λx hx=>?_
    rcases AN.mp hx with rfl | hx
    ·exact p
    ·exact z x hx
section
variable{n:Nat}{μ ρ:Sto}{φ:Phi}{σ:Sl}
theorem G4(ss:List Span):aq GL (n+1) pj [.tup (ss.map eSpan)] μ=.ok (.bl (((ss.zip (ss.drop 1)).map λp:Span×Span=>lexLt [p.1.lamp,p.1.start,p.1.fin] [p.2.lamp,p.2.start,p.2.fin]).all id)) μ:=by
 rw[ak Gs,run_eq rfl]
 have hz:Cw (.tup (ss.map eSpan)) (.tup ((ss.map eSpan).drop 1)) μ=.ok (((ss.map eSpan).zip ((ss.map eSpan).drop 1)).map λp=>.tup [p.1,p.2],none) μ:=rfl
 have hc:jz (aq GL n) .z (.many [0,1]) .nil ir [none,none] ((ss.zip (ss.drop 1)).map λp:Span×Span=>D.tup [eSpan p.1,eSpan p.2],none) μ=.ok (.lst (((ss.zip (ss.drop 1)).map λp:Span×Span=>lexLt [p.1.lamp,p.1.start,p.1.fin] [p.2.lamp,p.2.start,p.2.fin]).map D.bl)) μ:=by
  rw[comp_map (g:=λp:Span×Span=>D.bl (lexLt [p.1.lamp,p.1.start,p.1.fin] [p.2.lamp,p.2.start,p.2.fin])) λp hp=>by
   simp! only[pf,ir,Me]]
  rw[fb,BU];rfl
 simp! only[D_rises,Jv,hz,lr,hc,bt_all cg (iq _)]
theorem C2(a b:Span):aq GL (n+1) a9 [eSpan a,eSpan b] μ=.ok (.bl (decide (a.lamp=b.lamp/\b.start<a.fin))) μ:=by
 rw[ak gf,run_eq rfl]
 by_cases h:a.lamp=b.lamp
 ·simp! only[D_have_tick_in_common,ki,kj,mm,h,true_and]
 ·simp! only[D_have_tick_in_common,ki,h,false_and]
theorem uj(hr:p9 μ){L:Int}{lamps:Nat}{ss:List Span}(h:¬ly L lamps ss):aq GL (n+2) cj [.int L,.int lamps,.tup (ss.map eSpan)] μ=.ok (.bl true) μ:=by
 rw[ak je,run_eq rfl]
 have lp:=jr (φ:=aq GL (n+1)) (μ:=μ) (tg:=.many [3,4,5]) (b:=aj) (xs:=ss) (en:=eSpan) (v:=.bl true) (σ:=[some (.int L),some (.int lamps),some (.tup (ss.map eSpan)),none,none,none])
  (λσ=>∃v3 v4 v5,σ=[some (.int L),some (.int lamps),some (.tup (ss.map eSpan)),v3,v4,v5]) (λs=>¬Good L 0 lamps s) ⟨none,none,none,rfl⟩ (by
   rintro s hs σ ⟨v3,v4,v5,rfl⟩
   refine⟨λq=>?_,λq=>?_⟩
   ·obtain⟨⟨a1,a2⟩,b,c,d⟩:=BZ.mp q
    refine⟨[some (.int L),some (.int lamps),some (.tup (ss.map eSpan)),some (.int s.lamp),some (.int s.start),some (.int s.fin)],?_,_,_,_,rfl⟩
    simp! only[fLp,aj,eSpan,a1,a2,b,c,d]
   ·by_cases a1:0<=s.lamp
    ·by_cases a2:s.lamp<lamps
     ·by_cases b:0<=s.start
      ·by_cases c:s.start<s.fin
       ·have d:¬s.fin<=L:=λd=>q ⟨⟨a1,a2⟩,b,c,d⟩
        simp! only[fLp,aj,eSpan,a1,a2,b,c,d]
       ·simp! only[fLp,aj,eSpan,a1,a2,b,c]
      ·simp! only[fLp,aj,eSpan,a1,a2,b]
     ·simp! only[fLp,aj,eSpan,a1,a2]
    ·simp! only[fLp,aj,eSpan,a1])
 by_cases hg:∀s∈ss,¬¬Good L 0 lamps s
 ·obtain⟨σ',el,v3,v4,v5,rfl⟩:=lp.1 hg
  have hz:Cw (.tup (ss.map eSpan)) (.tup ((ss.map eSpan).drop 1)) μ=.ok (((ss.map eSpan).zip ((ss.map eSpan).drop 1)).map λp=>.tup [p.1,p.2],none) μ:=rfl
  have hc:jz (aq GL (n+1)) .z (.many [0,1]) .nil bq [none,none] ((ss.zip (ss.drop 1)).map λp:Span×Span=>D.tup [eSpan p.1,eSpan p.2],none) μ=.ok (.lst (((ss.zip (ss.drop 1)).map λp=>decide (p.1.lamp=p.2.lamp/\p.2.start<p.1.fin)).map D.bl)) μ:=by
   rw[comp_map (g:=λp:Span×Span=>D.bl (decide (p.1.lamp=p.2.lamp/\p.2.start<p.1.fin))) λp hp=>by
    simp! only[pf,bq,ay (C2 (n:=n) (μ:=μ) p.1 p.2) rfl rfl hr]]
   rw[fb,BU];rfl
  have kr:=ay (G4 (n:=n) (μ:=μ) ss) rfl rfl hr
  have ba:=bt_any (μ:=μ) (m:=.z) (cg (μ:=μ)) (iq ((ss.zip (ss.drop 1)).map λp=>decide (p.1.lamp=p.2.lamp/\p.2.start<p.1.fin)))
  have hq:((ss.zip (ss.drop 1)).map λp:Span×Span=>lexLt [p.1.lamp,p.1.start,p.1.fin] [p.2.lamp,p.2.start,p.2.fin]).all id=false\/((ss.zip (ss.drop 1)).map λp=>decide (p.1.lamp=p.2.lamp/\p.2.start<p.1.fin)).any id=true:=by
   obtain⟨p,hp,hn⟩:∃p∈ss.zip (ss.drop 1),¬Nb p.1 p.2:=CP λq=>h ⟨λs hs=>BZ.mp (hg s hs),zk (λs hs=>(BZ.mp (hg s hs)).run) λp hp=>CP λz=>q ⟨p,hp,z⟩⟩
   have r1:=(BZ.mp (hg p.1 (HC hp).1)).run
   by_cases hl:lexLt [p.1.lamp,p.1.start,p.1.fin] [p.2.lamp,p.2.start,p.2.fin]=true
   ·refine .inr (DU.mpr ⟨true,BJ.mpr ⟨p,hp,decide_eq_true ?_⟩,rfl⟩)
    rw[X5]at hl
    unfold Nb at hn
    omega
   ·exact .inl (List.all_eq_false.mpr ⟨false,BJ.mpr ⟨p,hp,by simpa using hl⟩,by simp⟩)
  generalize ((ss.zip (ss.drop 1)).map λp:Span×Span=>lexLt [p.1.lamp,p.1.start,p.1.fin] [p.2.lamp,p.2.start,p.2.fin]).all id=r at *
  cases r with
  |false=>simp! only[D_has_span_fault,el,kr]
  |true =>
   have hq':=hq.resolve_left (by decide)
   rw[hq']at ba
   simp! only[D_has_span_fault,el,kr,Jv,hz,lr,hc,ba]
 ·simp! only[D_has_span_fault,lp.2 hg]
end
open PySem
theorem G5(x y:Int):∀l:List Int,y∈insI x l↔y=x\/y∈l
 | []=>by simp[insI]
 |z::r=>by
  rw[insI]
  split
  ·simp
  ·simp![AN,G5 x y r]
   exact or_left_comm
theorem Bi(y:Int):∀l:List Int,y∈sortI l↔y∈l
 | []=>by simp[sortI]
 |x::r=>by rw[sortI,G5,Bi y r,AN]
theorem Ox(y:Int)(l:List Int):y∈uo l↔y∈l:=by
 have gen:∀(l σ:List Int),y∈l.foldl (λσ k=>if σ.any (·==k)then σ else σ++[k]) σ↔y∈σ\/y∈l:=by
  intro l
  induction l with
  |nil=>intro σ;simp
  |cons x r ih =>
   intro σ
   rw[EM,ih]
   by_cases h:(σ.any (·==x))=true
   ·rw[if_pos h]
    have hx:x∈σ:=by simpa using h
    simp![AN]
    constructor
    ·rintro(q | q)
     ·exact .inl q
     ·exact .inr (.inr q)
    ·rintro(q | rfl | q)
     ·exact .inl q
     ·exact .inl hx
     ·exact .inr q
   ·rw[if_neg h]
    simp![BB,AN,BD,or_false,or_assoc]
 rw[uo,gen];simp
open PySem
noncomputable def Lit(L w:Int)(ss:List Span):Prop:=∀t,0<=t->t<L->(cov ss t:Int)=w
theorem Mf{L lo hi w:Int}{ss:List Span}(h:∀s∈ss,Good L lo hi s)(h0:(cov ss 0:Int)=w)(hz:∀t,0<t->t<L->dlt ss t=0\/(cov ss t:Int)=w):Lit L w ss:=by
 have gen:∀k:Nat,(k:Int)<L->(cov ss k:Int)=w:=by
  intro k
  induction k with
  |zero=>intro _;exact h0
  |succ k ih =>
   intro hk
   rcases hz ((k+1:Nat):Int) (by omega) hk with q | q
   ·have e:=Bf ss ((k+1:Nat):Int) h
    rw[q,show(((k+1:Nat):Int)-1)=k by omega,ih (by omega)]at e
    omega
   ·exact q
 intro t t0 t1
 have:=gen t.toNat (by omega)
 rwa [Int.toNat_of_nonneg t0]at this
theorem J0{ss:List Span}{t:Int}(h:∀s∈ss,s.start≠t/\s.fin≠t):dlt ss t=0:=by
 induction ss with
 |nil=>rfl
 |cons s r ih =>
  have:=ih λx hx=>h x (AF _ hx)
  have g:=h s AM
  simp![dlt,AO,List.sum_cons]at this ⊢
  rw[this,if_neg g.1,if_neg g.2];rfl
section
variable{n:Nat}{μ ρ:Sto}{φ:Phi}{σ:Sl}
theorem J1{L lo hi w:Int}{ss:List Span}(h:∀s∈ss,Good L lo hi s)(hL:0<L)(hn:ss.length<=1000)(hw:Lit L w ss) :
  ∃ρ,aq GL (n+1) bc [.int L,.int w,.tup (ss.map eSpan)] μ=.ok (.bl false) (μ++ρ):=by
 have e:=Ow (n:=n) (μ:=μ) (w:=w) h hL hw hn
 rwa [decide_eq_true rfl]at e
theorem J2{L lo hi w:Int}{ss:List Span}(h:∀s∈ss,Good L lo hi s)(hL:0<L)(hn:ss.length<=1000)(hw:¬Lit L w ss) :
  ∃ρ,aq GL (n+1) bc [.int L,.int w,.tup (ss.map eSpan)] μ=.ok (.bl true) (μ++ρ):=by
 obtain⟨m,ρ,hk,hs0,hv,ed⟩:=Bh (n:=n) (μ:=μ) (w:=w) h hL hn
 refine⟨ρ,?_⟩
 rw[ed]
 cases q:(m.map λp=>!decide (p.2=0)).any id with
 |true=>rfl
 |false =>
  refine absurd ?_ hw
  have z:∀x,(cb m x).getD 0=0:=λx=>by
   cases e:cb m x with
   |none=>rfl
   |some v =>
    have:=IF.mp q (!decide (v=0)) (BJ.mpr ⟨(x,v),ui e,rfl⟩)
    simpa using this
  refine Mf h ?_ λt t0 t1=>.inl ?_
  ·have a:=hv 0
   rw[z,if_neg (by omega),if_pos rfl,Bf ss 0 h,km (x:=0-1) h (.inl (by omega))]at a
   omega
  ·have a:=hv t
   rw[z,if_neg (by omega),if_neg (by omega)]at a
   omega
theorem G6{xs ys:List D}(h:xs.length+ys.length<=1000000):opD .Add .z (.lst xs) (.lst ys) μ=.ok (.lst (xs++ys)) μ:=by
 simp![opD,Lp.listOf,lim,fb]
 rw[if_pos (by omega)]
end
open PySem
noncomputable def fresh(ss:List Span)(s:Span):Bool:=!(ss.any λu=>decide (u.lamp=s.lamp/\u.fin=s.start))
open PySem
noncomputable def own(ss:List Span)(k:Int):List Span:=ss.filter λs=>decide (s.lamp=k)
open PySem
theorem iu{μ:Sto}{xs:List D}{k:Nat}:slD .z (.lst xs) none (some (k:Int)) μ=.ok (.lst (xs.take k)) μ:=by
 show mkL .z (cut xs none (some (k:Int))) μ=_
 rw[Jt];rfl
open PySem
noncomputable def Ua(a b:Span):Prop:=a.lamp=b.lamp/\a.start<b.fin/\b.start<a.fin
noncomputable def Ub(L:Int)(lamps:Nat)(ss:List Span)(k:Nat):Prop:=Good L 0 lamps (ss.getD k ⟨0,0,0⟩)/\(0<k->lexLt [(ss.getD (k-1) ⟨0,0,0⟩).lamp,(ss.getD (k-1) ⟨0,0,0⟩).start,(ss.getD (k-1) ⟨0,0,0⟩).fin] [(ss.getD k ⟨0,0,0⟩).lamp,(ss.getD k ⟨0,0,0⟩).start,(ss.getD k ⟨0,0,0⟩).fin]=true)/\∀o∈ss.take k,¬Ua o (ss.getD k ⟨0,0,0⟩)
theorem Tq{L:Int}{lamps:Nat}{ss:List Span}:ly L lamps ss↔∀k∈List.range ss.length,Ub L lamps ss k:=by
 constructor
 ·rintro⟨hg,hn⟩ k hk
  have hk':=CK.mp hk
  have pw:=DY.mp hn
  have e:ss.getD k ⟨0,0,0⟩=ss[k]:=by simp[hk']
  unfold Ub
  rw[e]
  refine⟨hg _ (CO hk'),λh0=>?_,λo ho=>?_⟩
  ·have e1:ss.getD (k-1) ⟨0,0,0⟩=ss[k-1]'(by lia):=by simp[show k-1<ss.length by lia]
   rw[e1]
   exact Tj (pw (k-1) k (by lia) hk' (by lia))
  ·obtain⟨i,hi,rfl⟩:=Db.mp ho
   rw[List.getElem_take]
   have hi':i<k:=by simp at hi;lia
   have:=pw i k (by lia) hk' hi'
   unfold Ua
   unfold Nb at this
   lia
 ·intro h
  have hg:∀s∈ss,Good L 0 lamps s:=λs hs=>by
   obtain⟨i,hi,rfl⟩:=Db.mp hs
   have:=(h i (CK.mpr hi)).1
   simpa[hi]using this
  refine⟨hg,zk (λs hs=>(hg s hs).run) λp hp=>?_⟩
  obtain⟨i,hi,rfl⟩:=Db.mp hp
  have hi':i+1<ss.length:=by simp at hi;lia
  rw[List.getElem_zip,List.getElem_drop]
  obtain⟨_,q2,q3⟩:=h (i+1) (CK.mpr hi')
  have e0:ss.getD i ⟨0,0,0⟩=ss[i]:=by simp[show i<ss.length by lia]
  have e1:ss.getD (i+1) ⟨0,0,0⟩=ss[i+1]:=by simp[hi']
  have e2:ss[1+i]'(by lia)=ss[i+1]:=by congr 1;lia
  rw[e1]at q2 q3
  have q2:=q2 (by lia)
  rw[Nat.add_sub_cancel,e0]at q2
  have q3:=q3 ss[i] (Db.mpr ⟨i,by simp;lia,by simp⟩)
  show Nb ss[i] (ss[1+i]'(by lia))
  rw[e2]
  refine BZ.mp λz=>?_
  rcases(G3 (hg _ (CO _)).run (hg _ (CO _)).run).mpr z with y | y
  ·rw[q2]at y;cases y
  ·exact q3 y
section
variable{n:Nat}{μ ρ:Sto}{φ:Phi}{σ:Sl}
theorem xj{L:Int}{lamps:Nat}(s:Span):(Good L 0 lamps s->aq GL (n+1) c8 [.int L,.int lamps,eSpan s] μ=.ok (.bl true) μ)/\(¬Good L 0 lamps s->aq GL (n+1) c8 [.int L,.int lamps,eSpan s] μ=.ok (.bl false) μ):=by
 rw[ak p5,run_eq rfl]
 constructor
 ·rintro⟨⟨a1,a2⟩,b,c,d⟩
  simp! only[D_law_span_good,ki,kj,mm,a1,a2,b,c,d]
 ·intro h
  by_cases a1:0<=s.lamp
  ·by_cases a2:s.lamp<lamps
   ·by_cases b:0<=s.start
    ·by_cases c:s.start<s.fin
     ·have d:¬s.fin<=L:=λd=>h ⟨⟨a1,a2⟩,b,c,d⟩
      simp! only[D_law_span_good,ki,kj,mm,a1,a2,b,c,d]
     ·simp! only[D_law_span_good,ki,kj,mm,a1,a2,b,c]
    ·simp! only[D_law_span_good,ki,kj,a1,a2,b]
   ·simp! only[D_law_span_good,ki,a1,a2]
  ·simp! only[D_law_span_good,ki,a1]
theorem zl(a b:Span):cpD .le (eSpan a) (eSpan b) μ=.ok (.bl (!lexLt [b.lamp,b.start,b.fin] [a.lamp,a.start,a.fin])) μ:=by
 have e:∀s:Span,cy [D.int s.lamp,.int s.start,.int s.fin]=some [s.lamp,s.start,s.fin]:=λs=>pd [s.lamp,s.start,s.fin]
 simp![cpD,eSpan,e]
theorem uk(hr:p9 μ){L:Int}{lamps:Nat}{ss:List Span}(hn:ss.length<=1000) :
  (ly L lamps ss->aq GL (n+2) ck [.int L,.int lamps,.lst (ss.map eSpan)] μ=.ok (.bl true) μ)/\(¬ly L lamps ss->aq GL (n+2) ck [.int L,.int lamps,.lst (ss.map eSpan)] μ=.ok (.bl false) μ):=by
 rw[ak ng,run_eq rfl,Tq]
 have lp:=jr (φ:=aq GL (n+1)) (μ:=μ) (tg:=.one 3) (b:=av) (xs:=List.range ss.length) (en:=fun(k:Nat)=>D.int k) (v:=.bl false) (σ:=[some (.int L),some (.int lamps),some (.lst (ss.map eSpan)),none,none])
  (λσ=>∃v3 v4,σ=[some (.int L),some (.int lamps),some (.lst (ss.map eSpan)),v3,v4]) (λk=>¬Ub L lamps ss k) ⟨none,none,rfl⟩ (by
   rintro k hk σ ⟨v3,v4,rfl⟩
   have hk':k<ss.length:=CK.mp hk
   have i1:ixD (.lst (ss.map eSpan)) (.int k) μ=.ok (eSpan (ss.getD k ⟨0,0,0⟩)) μ:=ua (by simp[hk'])
   have i0:(0:Int)<k->ixD (.lst (ss.map eSpan)) (.int ((k:Int)-1)) μ=.ok (eSpan (ss.getD (k-1) ⟨0,0,0⟩)) μ:=λh=>by
    rw[show(k:Int)-1=((k-1:Nat):Int)by lia]
    exact ua (by simp[show k-1<ss.length by lia])
   unfold Ub
   generalize ss.getD (k-1) ⟨0,0,0⟩=p at *
   generalize ss.getD k ⟨0,0,0⟩=c at *
   have g:=xj (n:=n) (μ:=μ) (L:=L) (lamps:=lamps) c
   have li:=jr (φ:=aq GL (n+1)) (μ:=μ) (tg:=.one 4) (b:=a8) (xs:=ss.take k) (en:=eSpan) (v:=.bl false) (σ:=[some (.int L),some (.int lamps),some (.lst (ss.map eSpan)),some (.int k),v4])
    (λσ=>∃v4,σ=[some (.int L),some (.int lamps),some (.lst (ss.map eSpan)),some (.int k),v4]) (λo=>Ua o c) ⟨v4,rfl⟩ (by
     rintro o ho σ ⟨v4,rfl⟩
     unfold Ua
     generalize ss.map eSpan=SD at *
     by_cases a:o.lamp=c.lamp
     ·have da:decide (o.lamp=c.lamp)=true:=decide_eq_true a
      by_cases b:o.start<c.fin
      ·by_cases d:c.start<o.fin
       ·exact⟨λq=>absurd ⟨a,b,d⟩ q,λq=>by simp! only[fLp,a8,i1,ki,kj,mm,da,b,d]⟩
       ·exact⟨λq=>⟨[some (.int L),some (.int lamps),some (.lst SD),some (.int k),some (eSpan o)],by simp! only[fLp,a8,i1,ki,kj,mm,da,b,d],_,rfl⟩,λq=>absurd q.2.2 d⟩
      ·exact⟨λq=>⟨[some (.int L),some (.int lamps),some (.lst SD),some (.int k),some (eSpan o)],by simp! only[fLp,a8,i1,ki,kj,mm,da,b],_,rfl⟩,λq=>absurd q.2.1 b⟩
     ·exact⟨λq=>⟨[some (.int L),some (.int lamps),some (.lst SD),some (.int k),some (eSpan o)],by simp! only[fLp,a8,i1,ki,a],_,rfl⟩,λq=>absurd q.1 a⟩)
   rw[FL]at li
   have ks:kSeq (.lst ((ss.map eSpan).take k)) μ=.ok ((ss.map eSpan).take k,none) μ:=rfl
   generalize ss.take k=tk at *
   generalize ss.map eSpan=SD at *
   by_cases hg:Good L 0 lamps c
   ·have g1:=ay (g.1 hg) rfl rfl hr
    by_cases hz:(0:Int)<k
    ·have i0:=i0 hz
     cases hx:lexLt [p.lamp,p.start,p.fin] [c.lamp,c.start,c.fin]with
     |true =>
      refine⟨λq=>?_,λq=>?_⟩
      ·obtain⟨σ',el,v5,rfl⟩:=li.1 (BZ.mp q).2.2
       exact⟨[some (.int L),some (.int lamps),some (.lst SD),some (.int k),v5],by simp! only[fLp,av,i1,g1,hz,i0,zl,hx,iu,ks,el],_,_,rfl⟩
      ·simp! only[fLp,av,i1,g1,hz,i0,zl,hx,iu,ks,li.2 λz=>q ⟨hg,λ_=>rfl,z⟩]
     |false =>
      refine⟨λq=>?_,λq=>?_⟩
      ·have:=(BZ.mp q).2.1 (by lia)
       cases this
      ·simp! only[fLp,av,i1,g1,hz,i0,zl,hx]
    ·refine⟨λq=>?_,λq=>?_⟩
     ·obtain⟨σ',el,v5,rfl⟩:=li.1 (BZ.mp q).2.2
      exact⟨[some (.int L),some (.int lamps),some (.lst SD),some (.int k),v5],by simp! only[fLp,av,i1,g1,hz,iu,ks,el],_,_,rfl⟩
     ·simp! only[fLp,av,i1,g1,hz,iu,ks,li.2 λz=>q ⟨hg,λy=>by lia,z⟩]
   ·have g1:=ay (g.2 hg) rfl rfl hr
    refine⟨λq=>absurd (BZ.mp q).1 hg,λq=>?_⟩
    simp! only[fLp,av,i1,g1])
 simp![BZ]at lp
 have bl:btD .len .z [.lst (ss.map eSpan)] μ=.ok (.int ss.length) μ:=by rw[bt_len cg,AG]
 refine⟨λh=>?_,λh=>?_⟩
 ·obtain⟨σ',el,v3,v4,rfl⟩:=lp.1 h
  generalize ss.map eSpan=SD at *
  simp! only[D_law_spans_good,bl,nr (show ss.length<=1000000 by lia),el]
 ·have el:=lp.2 h
  generalize ss.map eSpan=SD at *
  simp! only[D_law_spans_good,bl,nr (show ss.length<=1000000 by lia),el]
theorem zm(ss:List Span)(t:Int):aq GL (n+1) cv [.lst (ss.map eSpan),.int t] μ=.ok (Gw ((ss.filter λs=>decide (s.start<=t/\t<s.fin)).map (·.lamp))) μ:=by
 rw[ak qb,run_eq rfl]
 have ks:kSeq (.lst (ss.map eSpan)) μ=.ok (ss.map eSpan,none) μ:=rfl
 have hc:jz (aq GL n) .z (.one 1) bx bz [some (.int t),none] (ss.map eSpan,none) μ=.ok (.lst (((ss.filter λs=>decide (s.start<=t/\t<s.fin)).map (·.lamp)).map D.int)) μ:=by
  rw[kg (g:=λs:Span=>D.int s.lamp) (p:=λs:Span=>decide (s.start<=t/\t<s.fin)) λs _=>by
   by_cases h1:s.start<=t
   ·by_cases h2:t<s.fin
    ·simp! only[pf,bx,bz,ki,kj,mm,h1,h2,and_self,if_true]
    ·simp! only[pf,bx,bz,kj,mm,h1,h2,and_false,if_false,AQ]
   ·simp! only[pf,bx,bz,kj,h1,false_and,if_false,AQ]]
  rw[fb,BU];rfl
 generalize ss.map eSpan=SD at *
 simp! only[D_law_lamps_at,ks,hc,bt_tuple cg,Gw]
theorem p6(hr:p9 μ)(ss:List Span)(t:Int):∃d,wj (aq GL (n+1)) false cv [.lst (ss.map eSpan),.int t] μ=.ok d μ/\btD .len .z [d] μ=.ok (.int (cov ss t)) μ:=by
 refine⟨_,ay (zm (n:=n) (μ:=μ) ss t) (Gx _) rfl hr,?_⟩
 rw[Gw,bt_len Fy,AG,AG,<-List.countP_eq_length_filter];rfl
theorem G7{L:Int}(ss:List Span)(hn:ss.length<=30):∃(ms:List Int) (ρ:Sto),(∀m,m∈ms↔(0<=m/\m<L)/\(m=0\/m=L\/∃s∈ss,s.start=m\/s.fin=m))/\aq GL (n+1) jb [.int L,.lst (ss.map eSpan)] μ=.ok (.lst (ms.map D.int)) (μ++ρ):=by
 rw[ak ze,run_eq rfl]
 have m0:∀(x y:Int),mkL .l [.int x,.int y] μ=.ok (.loc μ.length) (μ++[.l [.int x,.int y]]):=λx y=>O8 rfl
 obtain⟨σ2,μ2,l2,ms,⟨v3,rfl⟩,rfl,hms,hme⟩:=mf (φ:=aq GL n) (μ:=μ++[.l ([0,L].map D.int)]) (tg:=.one 3) (b:=ig) (xs:=ss) (en:=eSpan) (σ:=[some (.int L),some (.lst (ss.map eSpan)),some (.loc μ.length),none])
  (λj σ μ'=>∃ms:List Int,(∃v3,σ=[some (.int L),some (.lst (ss.map eSpan)),some (.loc μ.length),v3])/\μ'=μ++[.l (ms.map D.int)]/\ms.length<=2+2*j/\∀m,m∈ms↔(m=0\/m=L\/∃s∈ss.take j,s.start=m\/s.fin=m))
  ⟨[0,L],⟨none,rfl⟩,rfl,by simp,λm=>by simp⟩ (by
   rintro j s σ μ' hs ⟨ms,⟨v3,rfl⟩,rfl,hm,hme⟩
   have hj:j<ss.length:=(AL.mp hs).1
   have ex:=G0 (μ:=μ) (ds:=ms.map D.int) (ys:=[s.start,s.fin].map D.int) rfl (by simp;lia)
   rw[<-CD]at ex
   have ex':mtD .extend (.loc μ.length) [.lst [D.int s.start,.int s.fin]] (μ++[.l (ms.map D.int)])=.ok .non (μ++[.l ((ms++[s.start,s.fin]).map D.int)]):=ex
   refine⟨[some (.int L),some (.lst (ss.map eSpan)),some (.loc μ.length),some (eSpan s)],μ++[.l ((ms++[s.start,s.fin]).map D.int)],?_,ms++[s.start,s.fin],⟨_,rfl⟩,rfl,by simp;lia,λm=>?_⟩
   ·generalize (ms++[s.start,s.fin]).map D.int=M2 at *
    generalize ms.map D.int=MD at *
    generalize ss.map eSpan=SD at *
    simp! only[fLp,ig,Md,kj,mm,fb,ex']
   ·rw[IG,hs]
    simp![BB,hme,Option.toList_some,AN,BF,BD,or_false]
    constructor
    ·rintro((q | q | ⟨u,hu,q⟩) | q | q)
     ·exact .inl q
     ·exact .inr (.inl q)
     ·exact .inr (.inr ⟨u,.inl hu,q⟩)
     ·exact .inr (.inr ⟨s,.inr rfl,.inl q.symm⟩)
     ·exact .inr (.inr ⟨s,.inr rfl,.inr q.symm⟩)
    ·rintro(q | q | ⟨u,hu | rfl,q⟩)
     ·exact .inl (.inl q)
     ·exact .inl (.inr (.inl q))
     ·exact .inl (.inr (.inr ⟨u,hu,q⟩))
     ·rcases q with q | q
      ·exact .inr (.inl q.symm)
      ·exact .inr (.inr q.symm))
 rw[DH (AH _)]at hme
 simp![AO,CC]at l2
 have ks:kSeq (.lst (ss.map eSpan)) (μ++[.l [D.int 0,.int L]])=.ok (ss.map eSpan,none) (μ++[.l [D.int 0,.int L]]):=rfl
 have bs:btD .sortedSet .z [.loc μ.length] (μ++[.l (ms.map D.int)])=.ok (.lst ((sortI (uo ms)).map D.int)) (μ++[.l (ms.map D.int)]):=by
  simp![btD,gu,Kh,M9,ue,DT,pd]
  rw[if_pos (by lia),fb]
 have ks2:kSeq (.lst ((sortI (uo ms)).map D.int)) (μ++[.l (ms.map D.int)])=.ok ((sortI (uo ms)).map D.int,none) (μ++[.l (ms.map D.int)]):=rfl
 have hc:jz (aq GL n) .z (.one 1) dk dm [some (.int L),none] ((sortI (uo ms)).map D.int,none) (μ++[.l (ms.map D.int)])=.ok (.lst (((sortI (uo ms)).filter λm=>decide (0<=m/\m<L)).map D.int)) (μ++[.l (ms.map D.int)]):=by
  rw[kg (g:=D.int) (p:=λm:Int=>decide (0<=m/\m<L)) λm _=>by
   by_cases h1:0<=m
   ·by_cases h2:m<L
    ·simp! only[pf,dk,dm,h1,h2,and_self,if_true]
    ·simp! only[pf,dk,dm,h1,h2,and_false,if_false,AQ]
   ·simp! only[pf,dk,dm,h1,false_and,if_false,AQ]]
  rw[fb]
 refine⟨(sortI (uo ms)).filter λm=>decide (0<=m/\m<L),[.l (ms.map D.int)],λm=>?_,?_⟩
 ·rw[HB,Bi,Ox,hme,decide_eq_true_eq,and_comm]
 ·generalize (sortI (uo ms)).map D.int=SM at *
  generalize ms.map D.int=MD at *
  generalize ss.map eSpan=SD at *
  simp! only[D_law_marks,m0,ks,l2,bs,ks2,hc]
open Classical in
theorem Tr(hr:p9 μ){L w:Int}{lamps:Nat}(hL:0<L){ss:List Span}(hn:ss.length<=30):aq GL (n+3) lj [.int L,.int w,.int lamps,.lst (ss.map eSpan)] μ=.ok (.bl (decide (ly L lamps ss/\Lit L w ss))) μ:=by
 rw[ak Gu,run_eq rfl]
 have g:=uk (n:=n) (μ:=μ) hr (L:=L) (lamps:=lamps) (ss:=ss) (by lia)
 by_cases hs:ly L lamps ss
 ·have k1:=ay (g.1 hs) rfl rfl hr
  obtain⟨ms,ρ,hms,em⟩:=G7 (n:=n+1) (μ:=μ) (L:=L) ss hn
  have k2:=d7 em (by
   simp![D.pure,Az,DN,AW]
   exact λ_ _=>lg) hr
  have lp:=jr (φ:=aq GL (n+2)) (μ:=μ) (tg:=.one 4) (b:=g9) (xs:=ms) (en:=D.int) (v:=.bl false) (σ:=[some (.int L),some (.int w),some (.int lamps),some (.lst (ss.map eSpan)),none])
   (λσ=>∃v4,σ=[some (.int L),some (.int w),some (.int lamps),some (.lst (ss.map eSpan)),v4]) (λm=>¬(cov ss m:Int)=w) ⟨none,rfl⟩ (by
    rintro m hm σ ⟨v4,rfl⟩
    obtain⟨d,e1,e2⟩:=p6 (n:=n+1) (μ:=μ) hr ss m
    generalize ss.map eSpan=SD at *
    by_cases q:(cov ss m:Int)=w
    ·exact⟨λ_=>⟨[some (.int L),some (.int w),some (.int lamps),some (.lst SD),some (.int m)],by simp! only[fLp,g9,e1,e2,q],_,rfl⟩,λz=>absurd q z⟩
    ·exact⟨λz=>absurd q z,λ_=>by simp! only[fLp,g9,e1,e2,q]⟩)
  have key:Lit L w ss↔∀p∈ms,¬¬(cov ss p:Int)=w:=by
   refine⟨λhw p hp q=>q (hw p ((hms p).mp hp).1.1 ((hms p).mp hp).1.2),λg=>Mf hs.1 ?_ λt t0 t1=>?_⟩
   ·exact BZ.mp (g 0 ((hms 0).mpr ⟨⟨EZ _,hL⟩,.inl rfl⟩))
   ·by_cases q:t∈ms
    ·exact .inr (BZ.mp (g t q))
    ·exact .inl (J0 λs hs=>⟨λe=>q ((hms t).mpr ⟨⟨by lia,t1⟩,.inr (.inr ⟨s,hs,.inl e⟩)⟩),λe=>q ((hms t).mpr ⟨⟨by lia,t1⟩,.inr (.inr ⟨s,hs,.inr e⟩)⟩)⟩)
  have ks:kSeq (.lst (ms.map D.int)) μ=.ok (ms.map D.int,none) μ:=rfl
  by_cases hw:Lit L w ss
  ·obtain⟨σ',el,v4,rfl⟩:=lp.1 (key.mp hw)
   rw[decide_eq_true ⟨hs,hw⟩]
   generalize ss.map eSpan=SD at *
   generalize ms.map D.int=MD at *
   simp! only[D_law_due,k1,k2,ks,el]
  ·have el:=lp.2 λz=>hw (key.mpr z)
   rw[decide_eq_false λz=>hw z.2]
   generalize ss.map eSpan=SD at *
   generalize ms.map D.int=MD at *
   simp! only[D_law_due,k1,k2,ks,el]
 ·have k1:=ay (g.2 hs) rfl rfl hr
  rw[decide_eq_false λz=>hs z.1]
  generalize ss.map eSpan=SD at *
  simp! only[D_law_due,k1]
open Classical in
theorem C3(hr:p9 μ){L w:Int}{lamps:Nat}(hL:0<L){ss:List Span}(hn:ss.length<=1000):aq GL (n+3) nu [.int L,.int w,.int lamps,.tup (ss.map eSpan)] μ=.ok (.bl (decide (ly L lamps ss/\Lit L w ss))) μ:=by
 rw[ak Js,run_eq rfl]
 by_cases hs:ly L lamps ss
 ·have k1:=ay (xg (n:=n) (μ:=μ) hr hs.2 hs.1) rfl rfl hr
  by_cases hw:Lit L w ss
  ·obtain⟨ρ,e⟩:=J1 (n:=n+1) (μ:=μ) (w:=w) hs.1 hL hn hw
   have k2:=d7 e rfl hr
   rw[decide_eq_true ⟨hs,hw⟩]
   generalize ss.map eSpan=SD at *
   simp! only[D_steady,k1,k2]
  ·obtain⟨ρ,e⟩:=J2 (n:=n+1) (μ:=μ) (w:=w) hs.1 hL hn hw
   have k2:=d7 e rfl hr
   rw[decide_eq_false λz=>hw z.2]
   generalize ss.map eSpan=SD at *
   simp! only[D_steady,k1,k2]
 ·have k1:=ay (uj (n:=n) (μ:=μ) hr hs) rfl rfl hr
  rw[decide_eq_false λz=>hs z.1]
  generalize ss.map eSpan=SD at *
  simp! only[D_steady,k1]
end
open PySem
noncomputable def p7(turn len:Int)(ms:List Int):Int:=if turn % 3=0 then ms.getD (turn / 3 % (ms.length:Int)).toNat 0 else if turn % 3=1 then turn / 3 % (len+1)else min len (max 0 (ms.getD (turn / 9 % (ms.length:Int)).toNat 0+turn / 3 % 3-1))
theorem p8(x:Int){n:Nat}(h:1<=n):∃k:Nat,k<n/\x % (n:Int)=k:=by
 have h1:=CY x (show(n:Int)≠0 by lia)
 have h2:=CG x (show(0:Int)<n by lia)
 exact⟨(x % (n:Int)).toNat,by lia,by lia⟩
theorem Bj{turn len:Int}{ms:List Int}(hl:0<=len)(h1:1<=ms.length)(hm:∀x∈ms,0<=x/\x<=len):0<=p7 turn len ms/\p7 turn len ms<=len:=by
 unfold p7
 split
 ·obtain⟨k,hk,e⟩:=p8 (turn / 3) h1
  rw[e,BH]
  refine hm _ ?_
  rw[BK,AD hk]
  exact CO hk
 ·split
  ·have h1:=CY (turn / 3) (show len+1≠0 by lia)
   have h2:=CG (turn / 3) (show 0<len+1 by lia)
   lia
  ·lia
section
variable{n:Nat}{μ ρ:Sto}{φ:Phi}{σ:Sl}
theorem G8{x:D}{ns:List Int}{k:Nat}(h:dn μ x=some (ns.map D.int))(hk:k<ns.length):ixD x (.int k) μ=.ok (.int (ns.getD k 0)) μ:=by
 refine Fz h ?_
 rw[BL,AD hk]
 simp[hk]
theorem Bl{F:D}{ms:List Int}(hF:dn μ F=some (ms.map D.int))(h1:1<=ms.length)(turn:Int){len:Int}(hl:1<=len):aq GL (n+1) gq [.int turn,.int len,F] μ=.ok (.int (p7 turn len ms)) μ:=by
 rw[ak zf,run_eq rfl]
 have hp:(0:Int)<(ms.length:Int):=by lia
 obtain⟨k,hk,e⟩:=p8 (turn / 3) h1
 obtain⟨k2,hk2,e2⟩:=p8 (turn / 9) h1
 have i1:=G8 hF hk
 have i2:=G8 hF hk2
 have bl:btD .len .z [F] μ=.ok (.int ms.length) μ:=by rw[bt_len hF,AG]
 unfold p7
 rw[e,e2,BH,BH]
 have q3:∀ν:Sto,opI .Mod turn 3 ν=.ok (.int (turn % 3)) ν:=λν=>op_mod (by decide)
 have d3:∀ν:Sto,opI .FloorDiv turn 3 ν=.ok (.int (turn / 3)) ν:=λν=>lh (by decide) (by decide)
 have d9:∀ν:Sto,opI .FloorDiv turn 9 ν=.ok (.int (turn / 9)) ν:=λν=>lh (by decide) (by decide)
 have m3:∀ν:Sto,opI .Mod (turn / 3) 3 ν=.ok (.int (turn / 3 % 3)) ν:=λν=>op_mod (by decide)
 have ml:∀ν:Sto,opI .Mod (turn / 3) ms.length ν=.ok (.int k) ν:=λν=>by rw[<-e];exact op_mod hp
 have ml2:∀ν:Sto,opI .Mod (turn / 9) ms.length ν=.ok (.int k2) ν:=λν=>by rw[<-e2];exact op_mod hp
 have mL:∀ν:Sto,opI .Mod (turn / 3) (len+1) ν=.ok (.int (turn / 3 % (len+1))) ν:=λν=>op_mod (by lia)
 by_cases h0:turn % 3=0
 ·simp! only[D_law_place,q3,h0,d3,bl,ml,i1,if_true]
 ·by_cases h2:turn % 3=1
  ·have h3:¬(1:Int)=0:=by decide
   simp! only[D_law_place,q3,h2,h3,d3,mL,if_true,if_false]
  ·simp! only[D_law_place,q3,h0,h2,d3,d9,bl,ml2,i2,m3,bt_max,bt_min,if_false]
end
open PySem
structure In (len:Int) (lamps:Nat) (s:Span):Prop where
 lamp:0<=s.lamp/\s.lamp<lamps
 start:0<=s.start
 le:s.start<=s.fin
 fin:s.fin<=len
section
variable{n:Nat}{μ ρ:Sto}{φ:Phi}{σ:Sl}
theorem at2{o p:O}:(μ++[o,p])[μ.length]? = some o:=by simp
theorem X6{o p:O}:(μ++[o,p])[μ.length+1]? = some p:=by simp
theorem X7{o p o':O}:(μ++[o,p]).set μ.length o'=μ++[o',p]:=by simp
theorem Wp{ds:List D}{o:O}{d:D}(hd:d.pure=true)(hl:ds.length<1000000):mtD .append (.loc μ.length) [d] (μ++[.l ds,o])=.ok .non (μ++[.l (ds++[d]),o]):=by
 have:=j8
 simp![mtD,vd,at2,gi,mtL,gu,fits,hd,putL,X7]
 rw[if_pos ⟨trivial,by lia⟩]
theorem Zj{es:Exs}{ds:List D}{o:O}:kM φ .append es σ (.loc μ.length) (μ++[.l ds,o])=(fj φ es σ (μ++[.l ds,o])).bind (mtD .append (.loc μ.length)):=Jr (by simp![gv,Lp.listOf,at2];rfl)
theorem Wq{ds ys:List D}{o:O}(hy:ys.all D.pure=true)(hl:ds.length+ys.length<=1000000):mtD .extend (.loc (μ.length+1)) [.lst ys] (μ++[o,.l ds])=.ok .non (μ++[o,.l (ds++ys)]):=by
 have:=G0 (μ:=μ++[o]) (ds:=ds) (ys:=ys) hy hl
 simpa using this
theorem Wr{es:Exs}{ds:List D}{o:O}:kM φ .extend es σ (.loc (μ.length+1)) (μ++[o,.l ds])=(fj φ es σ (μ++[o,.l ds])).bind (mtD .extend (.loc (μ.length+1))):=Jr (by simp![gv,Lp.listOf,X6];rfl)
theorem Mg(hr:p9 μ)(xs ys:List D):p9 (μ++[.l xs,.l ys]):=by
 have:=G1 (G1 hr xs) ys
 simpa using this
theorem J3(hr:p9 μ)(cs:List Int)(hc:cs.length<=100){len:Int}(hl:1<=len){lamps:Nat}(hL:1<=lamps):∃(ss:List Span) (ρ:Sto),ss.length<=cs.length/\(∀s∈ss,In len lamps s)/\aq GL (n+2) jc [.lst (cs.map D.int),.int len,.int lamps] μ=.ok (.lst (ss.map eSpan)) (μ++ρ):=by
 rw[ak zg,run_eq rfl]
 obtain⟨σ',μ',el,X,ms,v5,v6,v7,v8,rfl,rfl,h1,h2,h3,h4⟩:=mf (φ:=aq GL (n+1)) (μ:=μ++[.l (([]:List Span).map eSpan),.l ([0,len].map D.int)]) (tg:=.one 5) (b:=ij) (xs:=cs) (en:=D.int)
  (σ:=[some (.lst (cs.map D.int)),some (.int len),some (.int lamps),some (.loc μ.length),some (.loc (μ.length+1)),none,none,none,none])
  (λj σ μ'=>∃(X:List Span) (ms:List Int) (v5 v6 v7 v8:Option D),σ=[some (.lst (cs.map D.int)),some (.int len),some (.int lamps),some (.loc μ.length),some (.loc (μ.length+1)),v5,v6,v7,v8]/\μ'=μ++[.l (X.map eSpan),.l (ms.map D.int)]/\X.length<=j/\(2<=ms.length/\ms.length<=2+2*j)/\(∀x∈ms,0<=x/\x<=len)/\∀s∈X,In len lamps s)
  ⟨[],[0,len],none,none,none,none,rfl,rfl,AH _,⟨by simp,by simp⟩,λx hx=>by simp at hx;rcases hx with rfl | rfl<;>lia,λs hs=>by cases hs⟩ (by
   rintro j c σ μ' hk ⟨X,ms,v5,v6,v7,v8,rfl,rfl,h1,h2,h3,h4⟩
   have hj:=(AL.mp hk).1
   have H:=Mg hr (X.map eSpan) (ms.map D.int)
   have sq:dn (μ++[.l (X.map eSpan),.l (ms.map D.int)]) (.loc (μ.length+1))=some (ms.map D.int):=by simp![dn,X6]
   have k1:=ay (kh (n:=n) (μ:=μ++[.l (X.map eSpan),.l (ms.map D.int)]) c 1) rfl rfl H
   have k2:=ay (kh (n:=n) (μ:=μ++[.l (X.map eSpan),.l (ms.map D.int)]) c 2) rfl rfl H
   have p1:=ay (Bl (n:=n) sq (by lia) (gg c 1) hl) rfl rfl H
   have p2:=ay (Bl (n:=n) sq (by lia) (gg c 2) hl) rfl rfl H
   have b1:=Bj (turn:=gg c 1) (len:=len) (ms:=ms) (by lia) (by lia) h3
   have b2:=Bj (turn:=gg c 2) (len:=len) (ms:=ms) (by lia) (by lia) h3
   generalize p7 (gg c 1) len ms=a at *
   generalize p7 (gg c 2) len ms=b at *
   have ex:mtD .extend (.loc (μ.length+1)) [.lst [.int a,.int b]] (μ++[.l (X.map eSpan),.l (ms.map D.int)])=.ok .non (μ++[.l (X.map eSpan),.l ((ms++[a,b]).map D.int)]):=by
    rw[Wq rfl (by simp;lia),CD];rfl
   have H2:=Mg hr (X.map eSpan) ((ms++[a,b]).map D.int)
   have k4:=ay (kh (n:=n) (μ:=μ++[.l (X.map eSpan),.l ((ms++[a,b]).map D.int)]) c 4) rfl rfl H2
   obtain⟨sp,hsp⟩:∃sp:Span,sp=⟨gg c 4 % lamps,min a b,max a b⟩:=⟨_,rfl⟩
   have es:(D.tup [.int (gg c 4 % lamps),.int (min a b),.int (max a b)])=eSpan sp:=by rw[hsp];rfl
   have ap:mtD .append (.loc μ.length) [eSpan sp] (μ++[.l (X.map eSpan),.l ((ms++[a,b]).map D.int)])=.ok .non (μ++[.l ((X++[sp]).map eSpan),.l ((ms++[a,b]).map D.int)]):=by
    rw[Wp (fh _) (by rw[AG];lia),CD (l₁:=X)];rfl
   refine⟨[some (.lst (cs.map D.int)),some (.int len),some (.int lamps),some (.loc μ.length),some (.loc (μ.length+1)),some (.int c),some (.int a),some (.int b),some (.int (gg c 4 % lamps))],_,?_,X++[sp],ms++[a,b],_,_,_,_,rfl,rfl,by simp![AY,AT,BQ];lia,by simp![AY,AT,BQ];lia,λx hx=>?_,λs hs=>?_⟩
   ·generalize (ms++[a,b]).map D.int=M2 at *
    simp! only[fLp,ij,k1,k2,p1,p2,Wr,fb,ex,k4,op_mod (show(0:Int)<(lamps:Int)by lia),Zj,bt_min,bt_max,es,ap]
   ·rcases BB.mp hx with z | z
    ·exact h3 x z
    ·simp at z;rcases z with rfl | rfl
     ·exact b1
     ·exact b2
   ·rcases BB.mp hs with z | z
    ·exact h4 s z
    ·rw[BF.mp z,hsp]
     have m1:=CY (gg c 4) (show(lamps:Int)≠0 by lia)
     have m2:=CG (gg c 4) (show(0:Int)<lamps by lia)
     exact⟨⟨m1,m2⟩,by dsimp only;lia,by dsimp only;lia,by dsimp only;lia⟩)
 refine⟨X,[.dead,.l (ms.map D.int)],h1,h4,?_⟩
 have e0:mkL .l [] μ=.ok (.loc μ.length) (μ++[.l []]):=O8 rfl
 have e1:mkL .l [.int 0,.int len] (μ++[.l []])=.ok (.loc (μ.length+1)) (μ++[.l [],.l [.int 0,.int len]]):=by
  rw[O8 rfl];simp
 rw[CC,AO,AO,CC]at el
 have ef:∀v5 v6 v7 v8 (ds:List D) (o:O),evE (aq GL (n+1)) (.frz 3) [some (.lst (cs.map D.int)),some (.int len),some (.int lamps),some (.loc μ.length),some (.loc (μ.length+1)),v5,v6,v7,v8] (μ++[.l ds,o])=.ok (.lst ds) (μ++[.dead,o]):=λv5 v6 v7 v8 ds o=>by
  rw[Jw rfl at2,X7]
 have ks:∀ν:Sto,kSeq (.lst (cs.map D.int)) ν=.ok (cs.map D.int,none) ν:=λ_=>rfl
 generalize X.map eSpan=XD at *
 generalize ms.map D.int=MD at *
 simp! only[D_law_drawn,e0,e1,ks,el,ef]
end
open PySem
noncomputable def um(T:List Span)(s:Span):List Span:=if s.start<s.fin/\∀o∈T,¬(o.lamp=s.lamp/\o.fin > s.start)then T++[s]else T
theorem G9:∀(rs acc:List (List Int)),∀r∈rs.foldl (λσ k=>if k∈σ then σ else σ++[k]) acc,r∈acc\/r∈rs
 | [],acc,r,h=>.inl h
 |k::rs,acc,r,h=>by
  rw[EM]at h
  rcases G9 rs _ r h with z | z
  ·split at z
   ·exact .inl z
   ·rcases BB.mp z with y | y
    ·exact .inl y
    ·rw[BF.mp y];exact .inr AM
  ·exact .inr (AF _ z)
theorem Bm:∀(rs acc:List (List Int)),(rs.foldl (λσ k=>if k∈σ then σ else σ++[k]) acc).length<=acc.length+rs.length
 | [],acc=>by simp
 |k::rs,acc=>by
  rw[EM]
  refine CI (Bm rs _) ?_
  split
  ·simp![AT];lia
  ·simp![AY,AT,BQ];lia
theorem Oy{o s:Span}(h:Lp.lexLt (mh s) (mh o)=false):o.lamp<=s.lamp:=by
 unfold mh at h
 rw[Lp.lexLt]at h
 split at h
 ·lia
 ·have:=of_decide_eq_false h
  lia
theorem Oz{T:List Span}{s:Span}(hT:T.Pairwise Nb)(h1:∀o∈T,o.start<o.fin)(h2:∀o∈T,Lp.lexLt (mh s) (mh o)=false):(um T s).Pairwise Nb/\∀o∈um T s,o.start<o.fin:=by
 unfold um
 split
 ·rename_i hc
  refine⟨?_,λo ho=>?_⟩
  ·rw[HA]
   refine⟨hT,List.pairwise_singleton _ _,λo ho x hx=>?_⟩
   rw[BF.mp hx]
   have a1:=Oy (h2 o ho)
   have a2:=h1 o ho
   have a3:=hc.2 o ho
   unfold Nb
   by_cases e:o.lamp=s.lamp
   ·right
    have:¬o.fin > s.start:=λz=>a3 ⟨e,z⟩
    exact⟨e,by lia,by lia⟩
   ·left;lia
  ·rcases BB.mp ho with z | z
   ·exact h1 o z
   ·rw[BF.mp z];exact hc.1
 ·exact⟨hT,h1⟩
section
variable{n:Nat}{μ ρ:Sto}{φ:Phi}{σ:Sl}
theorem xk{α:Type}{mk:Mk}{tg:Tg}{cs:Exs}{elt:Ex}{σ0:Sl}{xs:List α}{en:α->D}{g:α->D}{p:α->Bool}{g0:Gd}(hg:gd g0 μ)(h:∀a∈xs,pf φ tg cs elt σ0 (en a) μ=.ok (if p a=true then [g a]else []) μ):jz φ mk tg cs elt σ0 (xs.map en,g0) μ=mkL mk ((xs.filter p).map g) μ:=by
 have e:mapR g0 (pf φ tg cs elt σ0) (xs.map en) μ=.ok ((xs.filter p).map g) μ:=by
  induction xs with
  |nil=>simp[mapR,hg]
  |cons a r ih =>
   simp![AO,mapR,hg,if_true,h a AM,Res.bg,ih λx hx=>h x (AF _ hx),List.filter_cons]
   split<;>simp
 rw[jz,e];rfl
theorem Ha(ss:List Span)(hl:ss.length<60):∃ks:List Span,ks.length<=ss.length/\(∀s∈ks,s∈ss)/\(ks.Pairwise λa b=>Lp.lexLt (mh b) (mh a)=false)/\∀ν:Sto,btD .sortedST .z [.lst (ss.map eSpan)] ν=.ok (.lst (ks.map eSpan)) ν:=by
 have hp:=Srt.fm (C5 (ss.map mh))
 have hm:∀r∈i5 (C5 (ss.map mh)),∃s∈ss,r=mh s:=λr hr=>by
  rcases G9 (ss.map mh) [] r (hp.mem_iff.mp hr)with z | z
  ·cases z
  ·obtain⟨s,hs,e⟩:=BJ.mp z
   exact⟨s,hs,e.symm⟩
 refine⟨(i5 (C5 (ss.map mh))).map unS,?_,λs hs=>?_,?_,λν=>?_⟩
 ·have:=Bm (ss.map mh) []
  rw[AG,hp.length_eq]
  unfold C5
  simpa using this
 ·obtain⟨r,hr,rfl⟩:=BJ.mp hs
  obtain⟨s,h1,rfl⟩:=hm r hr
  exact h1
 ·rw[IE]
  have up:=Srt.k7 (C5 (ss.map mh))
  refine List.Pairwise.imp_of_mem ?_ up
  intro a b ha hb h
  obtain⟨s,_,rfl⟩:=hm a ha
  obtain⟨t,_,rfl⟩:=hm b hb
  exact h
 ·have hne:((ss.map mh).all λr=>!r.isEmpty)=true:=by rw[DN,AW];intro x _;rfl
  have e:((i5 (C5 (ss.map mh))).map λr=>D.tup (r.map D.int))=((i5 (C5 (ss.map mh))).map unS).map eSpan:=by
   rw[BU]
   refine DJ λr hr=>?_
   obtain⟨s,_,rfl⟩:=hm r hr
   rfl
  simp![btD,gu,ya,Lp.listOf,DT,mj,AG,hl,hne,and_self,if_true,e,fb]
theorem J4(ss:List Span)(hl:ss.length<60){len:Int}{lamps:Nat}(hI:∀s∈ss,In len lamps s):∃T:List Span,T.length<=ss.length/\T.Pairwise Nb/\(∀s∈T,Good len 0 lamps s)/\aq GL (n+1) g6 [.lst (ss.map eSpan)] μ=.ok (.lst (T.map eSpan)) (μ++[.dead]):=by
 rw[ak wu,run_eq rfl]
 obtain⟨ks,k1,k2,k3,ek⟩:=Ha ss hl
 have x0:∀(s:Span) (ν:Sto),ixD (eSpan s) (.int 0) ν=.ok (.int s.lamp) ν:=λ_ _=>rfl
 have x1:∀(s:Span) (ν:Sto),ixD (eSpan s) (.int 1) ν=.ok (.int s.start) ν:=λ_ _=>rfl
 have x2:∀(s:Span) (ν:Sto),ixD (eSpan s) (.int 2) ν=.ok (.int s.fin) ν:=λ_ _=>rfl
 obtain⟨σ',μ',el,T,v2,v3,rfl,rfl,h1,h2,h3,h4⟩:=mf (φ:=aq GL n) (μ:=μ++[.l (([]:List Span).map eSpan)]) (tg:=.one 2) (b:=dg) (xs:=ks) (en:=eSpan)
  (σ:=[some (.lst (ss.map eSpan)),some (.loc μ.length),none,none])
  (λj σ μ'=>∃(T:List Span) (v2 v3:Option D),σ=[some (.lst (ss.map eSpan)),some (.loc μ.length),v2,v3]/\μ'=μ++[.l (T.map eSpan)]/\T.length<=j/\T.Pairwise Nb/\(∀t∈T,t.start<t.fin)/\∀t∈T,t∈ks.take j)
  ⟨[],none,none,rfl,rfl,AH _,.nil,(λt ht=>nomatch ht),(λt ht=>nomatch ht)⟩ (by
   rintro j s σ μ' hs ⟨T,v2,v3,rfl,rfl,h1,h2,h3,h4⟩
   have hj:=(AL.mp hs).1
   have hlex:∀o∈T,Lp.lexLt (mh s) (mh o)=false:=λo ho=>by
    obtain⟨i,hi,e⟩:=FF (h4 o ho)
    have hi2:i<j:=by simp at hi;lia
    have e1:ks[i]'(by lia)=o:=by rw[<-e];simp
    have e2:ks[j]=s:=(AL.mp hs).2
    rw[<-e1,<-e2]
    exact(DY.mp k3) i j (by lia) hj hi2
   have nb:=Oz h2 h3 hlex
   have c1:jz (aq GL n) .z (.one 1) c9 de [some (eSpan s),none] (T.map eSpan,some (μ.length,.l (T.map eSpan))) (μ++[.l (T.map eSpan)])=.ok (.lst ((T.filter λo=>decide (o.lamp=s.lamp/\o.fin > s.start)).map eSpan)) (μ++[.l (T.map eSpan)]):=by
    rw[xk (g:=eSpan) (p:=λo:Span=>decide (o.lamp=s.lamp/\o.fin > s.start)) (show gd (some (μ.length,O.l (T.map eSpan))) (μ++[.l (T.map eSpan)])from dh) λo _=>by
     by_cases e1:o.lamp=s.lamp
     ·by_cases e2:o.fin > s.start
      ·simp! only[pf,c9,de,x0,x1,x2,e1,e2,and_self,if_true]
      ·simp! only[pf,c9,de,x0,x1,x2,e1,e2,and_false,if_false,AQ]
     ·simp! only[pf,c9,de,x0,x1,x2,e1,false_and,if_false,AQ]]
    rw[fb]
   have kq:kSeq (.loc μ.length) (μ++[.l (T.map eSpan)])=.ok (T.map eSpan,some (μ.length,.l (T.map eSpan))) (μ++[.l (T.map eSpan)]):=by simp![kSeq,bu,dh]
   have pm:∀l:List Span,(D.lst (l.map eSpan)).pure=true:=λl=>by
    show((l.map eSpan).all (D.pureN 7))=true
    rw[DN,AW];exact λx _=>fh x
   have ce:∀ν:Sto,cpD .eq (.lst ((T.filter λo=>decide (o.lamp=s.lamp/\o.fin > s.start)).map eSpan)) (.lst []) ν=.ok (.bl (decide ((T.filter λo=>decide (o.lamp=s.lamp/\o.fin > s.start))=[]))) ν:=λν=>by
    rw[We (pm _) rfl]
    generalize T.filter (λo=>decide (o.lamp=s.lamp/\o.fin > s.start))=l
    cases l with
    |nil=>rfl
    |cons a r=>rfl
   have fe:(T.filter λo=>decide (o.lamp=s.lamp/\o.fin > s.start))=[]↔∀o∈T,¬(o.lamp=s.lamp/\o.fin > s.start):=by
    rw[List.filter_eq_nil_iff];simp
   have ap:=Gy (μ:=μ) (ds:=T.map eSpan) (d:=eSpan s) (fh s) (by rw[AG];lia)
   refine⟨[some (.lst (ss.map eSpan)),some (.loc μ.length),some (eSpan s),some (.lst ((T.filter λo=>decide (o.lamp=s.lamp/\o.fin > s.start)).map eSpan))],μ++[.l ((um T s).map eSpan)],?_,um T s,_,_,rfl,rfl,?_,nb.1,nb.2,?_⟩
   ·generalize hm:(T.filter λo=>decide (o.lamp=s.lamp/\o.fin > s.start))=M at *
    have ek:um T s=if s.start<s.fin/\M=[]then T++[s]else T:=by
     unfold um
     by_cases q:M=[]
     ·simp![q,and_true,fe.mp q]
      congr 1
      exact propext ⟨λz=>z.1,λz=>⟨z,fe.mp q⟩⟩
     ·rw[if_neg λz=>q (fe.mpr z.2),if_neg λz=>q z.2]
    rw[ek]
    by_cases e1:s.start<s.fin
    ·by_cases e2:M=[]
     ·rw[if_pos ⟨e1,e2⟩,CD,AO,CC]
      have c3:∀ν:Sto,cpD .eq (.lst (M.map eSpan)) (.lst []) ν=.ok (.bl true) ν:=λν=>by rw[ce,decide_eq_true e2]
      simp! only[fLp,dg,kq,c1,x1,x2,e1,fb,c3,wz,ap]
     ·rw[if_neg λz=>e2 z.2]
      have c3:∀ν:Sto,cpD .eq (.lst (M.map eSpan)) (.lst []) ν=.ok (.bl false) ν:=λν=>by rw[ce,decide_eq_false e2]
      simp! only[fLp,dg,kq,c1,x1,x2,e1,fb,c3]
    ·rw[if_neg λz=>e1 z.1]
     simp! only[fLp,dg,kq,c1,x1,x2,e1]
   ·unfold um
    split
    ·simp![AY,AT,BQ];lia
    ·lia
   ·intro t ht
    rw[IG,hs]
    unfold um at ht
    split at ht
    ·rcases BB.mp ht with z | z
     ·exact Ev _ (h4 t z)
     ·rw[BF.mp z];simp
    ·exact Ev _ (h4 t ht))
 rw[CC]at el
 have e0:mkL .l [] μ=.ok (.loc μ.length) (μ++[.l []]):=O8 rfl
 refine⟨T,by lia,h2,λs hs=>?_,?_⟩
 ·have i:=hI s (k2 s (List.mem_of_mem_take (h4 s hs)))
  have:=h3 s hs
  exact⟨i.lamp,i.start,this,i.fin⟩
 ·have ef:∀v2 v3 (ds:List D),evE (aq GL n) (.frz 1) [some (.lst (ss.map eSpan)),some (.loc μ.length),v2,v3] (μ++[.l ds])=.ok (.lst ds) (μ++[.dead]):=λv2 v3 ds=>by
   rw[Jw rfl dh,fw]
  have kk:∀ν:Sto,kSeq (.lst (ks.map eSpan)) ν=.ok (ks.map eSpan,none) ν:=λ_=>rfl
  generalize ks.map eSpan=KD at *
  simp! only[D_law_kept_2,e0,ek,kk,el,ef]
end
open PySem
section
variable{n:Nat}{μ ρ:Sto}{φ:Phi}{σ:Sl}
theorem Hb{a b c d e i:Int}(h0:0<=i)(h1:i<5):∃v,∀μ,ixD (.lst [.int a,.int b,.int c,.int d,.int e]) (.int i) μ=.ok (.int v) μ:=by
 obtain rfl | rfl | rfl | rfl | rfl:i=0\/i=1\/i=2\/i=3\/i=4:=by lia
 all_goals exact⟨_,λ_=>rfl⟩
theorem Bn{ss:List Span}{k:Nat}{s:Span}(h:ss[k]? = some s)(hl:ss.length<=1000):mtD .pop (.loc μ.length) [.int k] (μ++[.l (ss.map eSpan)])=.ok (eSpan s) (μ++[.l ((ss.eraseIdx k).map eSpan)]):=by
 have hk:=(AL.mp h).1
 have:=j8
 have e:(ss.map eSpan)[k]? = some (eSpan s):=by rw[BL,h];rfl
 have er:∀(l:List Span) (k:Nat),(l.map eSpan).eraseIdx k=(l.eraseIdx k).map eSpan:=λl=>by
  induction l with
  |nil=>exact λ_=>rfl
  |cons a l ih=>intro k;cases k with
   |zero=>rfl
   |succ k=>simp![AO,FX,ih]
 simp![mtD,vd,dh,gi,mtL,BH,e,putL,fw,er]
 rw[if_pos ⟨by lia,by lia⟩]
theorem Hc{es:Exs}{ds:List D}:kM φ .pop es σ (.loc μ.length) (μ++[.l ds])=(fj φ es σ (μ++[.l ds])).bind (mtD .pop (.loc μ.length)):=uf λ_ _=>rfl
theorem O0{es:Exs}{ds:List D}:kM φ .insert es σ (.loc μ.length) (μ++[.l ds])=(fj φ es σ (μ++[.l ds])).bind (mtD .insert (.loc μ.length)):=uf λ_ _=>rfl
theorem Hd{ss:List Span}{k:Nat}{s:Span}(hk:k<=ss.length)(hl:ss.length<1000):mtD .insert (.loc μ.length) [.int k,eSpan s] (μ++[.l (ss.map eSpan)])=.ok .non (μ++[.l ((ss.take k++s::ss.drop k).map eSpan)]):=by
 have h2:ss.length<lim:=by have:=j8;lia
 have h1:(k:Int)<=(ss.length:Int):=by lia
 have h0:(0:Int)<=k:=by lia
 have hp:(eSpan s).pure=true:=fh s
 simp![mtD,vd,dh,gi,mtL,AG,h0,h1,h2,fits,hp,and_self,if_true,putL,fw,CD,AO,FL,IL,BH]
theorem Bo{ss:List Span}{k:Nat}{s:Span}(h:ss[k]? = some s):ixD (.loc μ.length) (.int k) (μ++[.l (ss.map eSpan)])=.ok (eSpan s) (μ++[.l (ss.map eSpan)]):=Fz ue (by rw[BL,h];rfl)
theorem He{ds:List D}{k:Nat}{d:D}(hk:k<ds.length)(hd:d.pure=true):yb (.loc μ.length) (.int k) d (μ++[.l ds])=.ok () (μ++[.l (ds.set k d)]):=by
 have e:ixN ds.length (k:Int)=some k:=by simp[ixN,hk]
 simp![yb,dh,gi,e,fits,hd,if_true,putL,fw,Res.bg]
theorem zo(ss:List Span)(hl:ss.length<=24)(L:Int){lamps:Nat}(h1:1<=lamps)(c:Int):∃us:List Span,us.length<=25/\aq GL (n+1) g8 [.lst (ss.map eSpan),.int L,.int lamps,.int c] μ=.ok (.lst (us.map eSpan)) (μ++[.dead]):=by
 rw[ak wy,run_eq rfl]
 have e0:btD .list .l [.lst (ss.map eSpan)] μ=.ok (.loc μ.length) (μ++[.l (ss.map eSpan)]):=by
  rw[bt_list cg,O8 (by rw[DN,AW];exact λx _=>fh x)]
 have bl:btD .len .z [.loc μ.length] (μ++[.l (ss.map eSpan)])=.ok (.int ss.length) (μ++[.l (ss.map eSpan)]):=by rw[bt_len ue,AG]
 have ef:∀v5 v6 v7 v8 v9 (ds:List D),evE (aq GL n) (.frz 4) [some (.lst (ss.map eSpan)),some (.int L),some (.int lamps),some (.int c),some (.loc μ.length),v5,v6,v7,v8,v9] (μ++[.l ds])=.ok (.lst ds) (μ++[.dead]):=λv5 v6 v7 v8 v9 ds=>by
  rw[Jw rfl dh,fw]
 by_cases hz:ss.length=0
 ·refine⟨ss,by lia,?_⟩
  have hz':(ss.length:Int)=0:=by lia
  rw[hz']at bl
  generalize ss.map eSpan=SD at *
  simp! only[D_law_spoilt,e0,bl,ef]
 ·have hz':¬(ss.length:Int)=0:=by lia
  have hp:(0:Int)<(ss.length:Int):=by lia
  have d10:∀ν:Sto,opI .FloorDiv c 10 ν=.ok (.int (c / 10)) ν:=λ_=>lh (by decide) (by decide)
  have m10:∀ν:Sto,opI .Mod c 10 ν=.ok (.int (c % 10)) ν:=λ_=>op_mod (by decide)
  have d300:∀ν:Sto,opI .FloorDiv c 300 ν=.ok (.int (c / 300)) ν:=λ_=>lh (by decide) (by decide)
  obtain⟨K,hK,eK⟩:=p8 (c / 10) (n:=ss.length) (by lia)
  obtain⟨J,hJ,eJ⟩:=p8 (c / 300) (n:=ss.length) (by lia)
  have mK:∀ν:Sto,opI .Mod (c / 10) ss.length ν=.ok (.int K) ν:=λ_=>by rw[<-eK];exact op_mod hp
  have mJ:∀ν:Sto,opI .Mod (c / 300) ss.length ν=.ok (.int J) ν:=λ_=>by rw[<-eJ];exact op_mod hp
  obtain⟨s,hs⟩:∃s,ss[K]? = some s:=⟨_,AD hK⟩
  obtain⟨u,hu⟩:∃u,ss[J]? = some u:=⟨_,AD hJ⟩
  have iK:=Bo (μ:=μ) hs
  have iJ:=Bo (μ:=μ) hu
  have st:∀s':Span,yb (.loc μ.length) (.int K) (eSpan s') (μ++[.l (ss.map eSpan)])=.ok () (μ++[.l ((ss.set K s').map eSpan)]):=λs'=>by
   rw[He (by rw[AG];exact hK) (fh s'),List.map_set]
  have ub:∀σ:Sl,gp (.many [6,7,8]) (eSpan s) σ=some (((σ.set 6 (some (.int s.lamp))).set 7 (some (.int s.start))).set 8 (some (.int s.fin))):=λ_=>rfl
  have w0:=CY c (show(10:Int)≠0 by decide)
  have w1:=CG c (show(0:Int)<10 by decide)
  have ml:∀ν:Sto,opI .Mod (s.lamp+1) lamps ν=.ok (.int ((s.lamp+1) % lamps)) ν:=λ_=>op_mod (by lia)
  generalize c % 10=w at *
  by_cases h5:w<5
  ·obtain⟨x,ex⟩:=Hb (a:=s.lamp) (b:=(s.lamp+1) % lamps) (c:=lamps) (d := -1) (e:=s.lamp) w0 h5
   obtain⟨y,ey⟩:=Hb (a:=0) (b:=0) (c:=0) (d:=0) (e:=1) w0 h5
   have st':=st ⟨x,s.start,s.fin+y⟩
   change yb _ _ (.tup [.int x,.int s.start,.int (s.fin+y)]) _=_ at st'
   refine⟨ss.set K ⟨x,s.start,s.fin+y⟩,by rw[JE];lia,?_⟩
   have n5:¬w=5:=by lia
   have n6:¬w=6:=by lia
   have n7:¬w=7:=by lia
   have n8:¬w=8:=by lia
   have n9:¬w=9:=by lia
   generalize (ss.set K ⟨x,s.start,s.fin+y⟩).map eSpan=S2 at *
   generalize ss.map eSpan=SD at *
   simp! only[D_law_spoilt,e0,bl,hz',d10,mK,iK,ub,m10,h5,ml,fb,ex,ey,st',n5,n6,n7,n8,n9,ef]
  ·by_cases h6:w=5\/w=6
   ·obtain⟨y,_,ey⟩:=Ti (a:=1) (b := -1) (i:=w-5) (by lia) (by lia)
    have st':=st ⟨s.lamp,s.start+y,s.fin⟩
    change yb _ _ (.tup [.int s.lamp,.int (s.start+y),.int s.fin]) _=_ at st'
    refine⟨ss.set K ⟨s.lamp,s.start+y,s.fin⟩,by rw[JE];lia,?_⟩
    have n7:¬w=7:=by lia
    have n8:¬w=8:=by lia
    have n9:¬w=9:=by lia
    generalize (ss.set K ⟨s.lamp,s.start+y,s.fin⟩).map eSpan=S2 at *
    generalize ss.map eSpan=SD at *
    by_cases n5:w=5
    ·have n5:decide (w=5)=true:=decide_eq_true n5
     simp! only[D_law_spoilt,e0,bl,hz',d10,mK,iK,ub,m10,h5,fb,ey,st',n5,n7,n8,n9,ef]
    ·have n6:decide (w=6)=true:=decide_eq_true (by lia)
     simp! only[D_law_spoilt,e0,bl,hz',d10,mK,iK,ub,m10,h5,fb,ey,st',n5,n6,n7,n8,n9,ef]
   ·have n5:¬w=5:=λz=>h6 (.inl z)
    have n6:¬w=6:=λz=>h6 (.inr z)
    by_cases n7:w=7
    ·have n8:¬w=8:=by lia
     have n9:¬w=9:=by lia
     have n7:decide (w=7)=true:=decide_eq_true n7
     have pp:=Bn (μ:=μ) hs (by lia)
     refine⟨ss.eraseIdx K,by have:=Go ss K;lia,?_⟩
     generalize (ss.eraseIdx K).map eSpan=S2 at *
     generalize ss.map eSpan=SD at *
     simp! only[D_law_spoilt,e0,bl,hz',d10,mK,iK,ub,m10,h5,n5,n6,n7,n8,n9,Hc,pp,ef]
    ·by_cases n8:w=8
     ·have n9:¬w=9:=by lia
      have n8:decide (w=8)=true:=decide_eq_true n8
      have pp:=Hd (μ:=μ) (k:=K) (s:=u) (ss:=ss) (by lia) (by lia)
      refine⟨ss.take K++u::ss.drop K,by simp;lia,?_⟩
      generalize (ss.take K++u::ss.drop K).map eSpan=S2 at *
      generalize ss.map eSpan=SD at *
      simp! only[D_law_spoilt,e0,bl,hz',d10,mK,iK,ub,m10,h5,n5,n6,n7,n8,n9,O0,d300,mJ,iJ,pp,ef]
     ·have n9:decide (w=9)=true:=decide_eq_true (by lia)
      have pp:=Bn (μ:=μ) hs (by lia)
      have ap:=Gy (μ:=μ) (ds:=(ss.eraseIdx K).map eSpan) (d:=eSpan s) (fh s) (by have:=Go ss K;rw[AG];lia)
      have e2:(ss.eraseIdx K).map eSpan++[eSpan s]=(ss.eraseIdx K++[s]).map eSpan:=by rw[CD];rfl
      rw[e2]at ap
      refine⟨ss.eraseIdx K++[s],by have:=Go ss K;simp![AY,AT,BQ];lia,?_⟩
      generalize (ss.eraseIdx K++[s]).map eSpan=S3 at *
      generalize (ss.eraseIdx K).map eSpan=S2 at *
      generalize ss.map eSpan=SD at *
      simp! only[D_law_spoilt,e0,bl,hz',d10,mK,iK,ub,m10,h5,n5,n6,n7,n8,n9,wz,Hc,pp,ap,ef]
theorem Hf(hr:p9 μ)(ns:List Int){L w:Int}{lamps:Nat}(hL:1<=L)(hL2:L<=10 ^ 15)(hw:0<=w/\w<=lamps)(hl:lamps<=8) :
  ∃(ss:List Span) (ρ:Sto),ss.length<=16/\(∀s∈ss,In L lamps s)/\aq GL (n+3) g7 [.lst (ns.map D.int),.int L,.int w,.int lamps] μ=.ok (.lst (ss.map eSpan)) (μ++ρ):=by
 rw[ak wx,run_eq rfl]
 obtain⟨ts,hf,htl,ef⟩:=C1 (n:=n) (μ:=μ) hr ns hL hL2 hw hl
 have kf:=d7 ef (by
  simp![D.pure,Az,DN,AW]
  exact λ_ _=>lg) hr
 obtain⟨σ',μ',el,X,a,v7,v8,rfl,rfl,h1,h2,h3⟩:=mf (φ:=aq GL (n+2)) (μ:=μ++[.l []]) (tg:=.one 7) (b:=gr) (xs:=List.range lamps) (en:=fun(k:Nat)=>D.int k)
  (σ:=[some (.lst (ns.map D.int)),some (.int L),some (.int w),some (.int lamps),some (.lst (ts.map D.int)),some (.loc μ.length),some (.int 0),none,none])
  (λj σ μ'=>∃(X:List Span) (a:Int) (v7 v8:Option D),σ=[some (.lst (ns.map D.int)),some (.int L),some (.int w),some (.int lamps),some (.lst (ts.map D.int)),some (.loc μ.length),some (.int a),v7,v8]/\μ'=μ++[.l (X.map eSpan)]/\X.length<=2*j/\(0<=a/\a<L)/\∀s∈X,In L lamps s)
  ⟨[],0,none,none,rfl,rfl,AH _,⟨EZ _,by lia⟩,λs hs=>by cases hs⟩ (by
   rintro j k σ μ' hk ⟨X,a,v7,v8,rfl,rfl,h1,h2,h3⟩
   have hj:=(AL.mp hk).1
   have hk':k<lamps:=CK.mp (CL hk)
   have hj':j<lamps:=by simpa using hj
   obtain⟨t,ht⟩:∃t,ts[k]? = some t:=⟨_,AD (by lia)⟩
   have i1:∀ν:Sto,ixD (.lst (ts.map D.int)) (.int k) ν=.ok (.int t) ν:=λν=>ua ht
   have hb:=hf.each t (CL ht)
   obtain⟨q,eq⟩:∃q:Nat,max 0 (a+t-L)=(q:Int):=⟨(max 0 (a+t-L)).toNat,by lia⟩
   obtain⟨Y,hY⟩:∃Y:List Span,Y=⟨k,a,min (a+t) L⟩::[(⟨k,0,a+t-L⟩:Span)].take q:=⟨_,rfl⟩
   have yl:Y.length<=2:=by rw[hY];simp;lia
   have cat:∀ν:Sto,opD .Add .z (.lst [.tup [.int k,.int a,.int (min (a+t) L)]]) (.lst ([D.tup [.int k,.int 0,.int (a+t-L)]].take q)) ν=.ok (.lst (Y.map eSpan)) ν:=λν=>by
    rw[G6 (by simp;lia),hY,AO,FL];rfl
   have ex:=G0 (μ:=μ) (ds:=X.map eSpan) (ys:=Y.map eSpan) (by rw[DN,AW];exact λx _=>fh x) (by rw[AG,AG];lia)
   rw[<-CD]at ex
   have mL:∀ν:Sto,opI .Mod (a+t) L ν=.ok (.int ((a+t) % L)) ν:=λ_=>op_mod (by lia)
   refine⟨[some (.lst (ns.map D.int)),some (.int L),some (.int w),some (.int lamps),some (.lst (ts.map D.int)),some (.loc μ.length),some (.int ((a+t) % L)),some (.int k),some (.int (a+t))],μ++[.l ((X++Y).map eSpan)],?_,X++Y,(a+t) % L,_,_,rfl,rfl,by rw[AY];lia,⟨CY _ (by lia),CG _ (by lia)⟩,λs hs=>?_⟩
   ·generalize (X++Y).map eSpan=XY at *
    generalize Y.map eSpan=YD at *
    generalize X.map eSpan=XD at *
    generalize ts.map D.int=TD at *
    generalize hq:[D.tup [.int k,.int 0,.int (a+t-L)]].take q=QD at *
    have sl1:∀ν:Sto,slD .z (.lst [D.tup [.int k,.int 0,.int (a+t-L)]]) none (some (q:Int)) ν=.ok (.lst QD) ν:=λν=>by rw[iu,hq]
    simp! only[fLp,gr,i1,Md,bt_min,bt_max,eq,fb,sl1,cat,ex,mL]
   ·rcases BB.mp hs with z | z
    ·exact h3 s z
    ·rw[hY]at z
     rcases AN.mp z with rfl | z
     ·exact⟨⟨by dsimp only;lia,by dsimp only;lia⟩,by dsimp only;lia,by dsimp only;lia,by dsimp only;lia⟩
     ·have q1:1<=q:=by
       cases q with
       |zero=>cases z
       |succ q=>lia
      rw[BF.mp (List.mem_of_mem_take z)]
      exact⟨⟨by dsimp only;lia,by dsimp only;lia⟩,by dsimp only;lia,by dsimp only;lia,by dsimp only;lia⟩)
 rw[EY]at h1
 obtain⟨ss',hp,es⟩:=w8 X (by lia)
 refine⟨ss'.filter λs=>decide (s.start<s.fin),[.l (X.map eSpan)],?_,λs hs=>h3 s (hp.mem_iff.mp (HB.mp hs).1),?_⟩
 ·have:=List.length_filter_le (λs:Span=>decide (s.start<s.fin)) ss'
  rw[hp.length_eq]at this;lia
 ·have c1:∀ν:Sto,jz (aq GL (n+2)) .z (.one 0) fc ff [none] (ss'.map eSpan,none) ν=.ok (.lst ((ss'.filter λs=>decide (s.start<s.fin)).map eSpan)) ν:=λν=>by
   rw[kg (g:=eSpan) (p:=λs:Span=>decide (s.start<s.fin)) λs _=>by
    by_cases e1:s.start<s.fin
    ·simp! only[pf,fc,ff,kj,mm,e1,if_true]
    ·simp! only[pf,fc,ff,kj,mm,e1,if_false,AQ]]
   rw[fb]
  have e0:mkL .l [] μ=.ok (.loc μ.length) (μ++[.l []]):=O8 rfl
  have es:=es μ
  have ks:∀ν:Sto,kSeq (.lst (ss'.map eSpan)) ν=.ok (ss'.map eSpan,none) ν:=λ_=>rfl
  generalize (ss'.filter λs=>decide (s.start<s.fin)).map eSpan=FD at *
  generalize ss'.map eSpan=SD at *
  generalize X.map eSpan=XD at *
  simp! only[D_law_stands,kf,e0,nr (show lamps<=1000000 by lia),el,es,ks,c1]
end
open PySem
theorem psp(l:List Span):(D.lst (l.map eSpan)).pure=true:=by
 show((l.map eSpan).all (D.pureN 7))=true
 rw[DN,AW];exact λx _=>fh x
theorem Ts(ns:List Int):slD .z (.lst (ns.map D.int)) (some 2) (some 26) []=.ok (.lst (((ns.drop 2).take 24).map D.int)) []:=by
 show mkL .z (cut (ns.map D.int) (some 2) (some 26)) []=_
 have:cut (ns.map D.int) (some 2) (some 26)=((ns.drop 2).take 24).map D.int:=by
  unfold cut sIx
  simp![AG,show ¬(2:Int)<0 by decide,show ¬(26:Int)<0 by decide,if_false,FL,IL]
  by_cases q:ns.length<=2
  ·rw[GK (by rw[AG];simp;lia),GK (by rw[AG];lia)];simp
  ·have e2:min (2:Int).toNat ns.length=2:=by simp;lia
   rw[e2,JT]
   simp;lia
 rw[this];rfl
section
variable{ns:List Int}{L h c:Int}{lamps:Nat}{S X:List Span}{v5 v6 v7 v8 v9:Option D}
open Classical in
theorem Ws(hL:0<L)(hX:X.length<=30)(x:Int):∃v9',fLp (aq GL 5) (.one 8) h7 (.int x) [some (.lst (ns.map D.int)),some (.int L),some (.int h),some (.int lamps),some (.lst (S.map eSpan)),some (.int c),v6,some (.lst (X.map eSpan)),v8,v9] []=.ok (.nx [some (.lst (ns.map D.int)),some (.int L),some (.int h),some (.int lamps),some (.lst (S.map eSpan)),some (.int c),v6,some (.lst (X.map eSpan)),some (.int x),v9']) []:=by
 have hr:p9 []:=rfl
 have k1:=ay (C3 (n:=2) (μ:=[]) hr (w:=x) (lamps:=lamps) hL (ss:=X) (by lia)) rfl rfl hr
 have k2:=ay (Tr (n:=2) (μ:=[]) hr (w:=x) (lamps:=lamps) hL (ss:=X) (by lia)) rfl rfl hr
 generalize decide (ly L lamps X/\Lit L x X)=b at k1 k2
 have t1:Qn .bool (.bl b) []=.ok (.bl true) []:=rfl
 have tt:btD .tuple .z [.lst (X.map eSpan)] []=.ok (.tup (X.map eSpan)) []:=bt_tuple cg
 have bb:(b==b)=true:=by cases b<;>rfl
 refine⟨some (.bl b),?_⟩
 generalize X.map eSpan=XD at *
 generalize S.map eSpan=SD at *
 simp! only[fLp,h7,tt,k1,t1,k2,bb]
theorem Wt(hL:0<L)(hX:X.length<=30)(v7:Option D):∃v8' v9',fLp (aq GL 5) (.one 7) h9 (.lst (X.map eSpan)) [some (.lst (ns.map D.int)),some (.int L),some (.int h),some (.int lamps),some (.lst (S.map eSpan)),some (.int c),v6,v7,v8,v9] []=.ok (.nx [some (.lst (ns.map D.int)),some (.int L),some (.int h),some (.int lamps),some (.lst (S.map eSpan)),some (.int c),v6,some (.lst (X.map eSpan)),v8',v9']) []:=by
 have hr:p9 []:=rfl
 obtain⟨d,e1,e2⟩:=p6 (n:=4) (μ:=[]) hr X 0
 have mc:opI .Mod c ((lamps:Int)+1) []=.ok (.int (c % ((lamps:Int)+1))) []:=op_mod (by lia)
 obtain⟨σ',l,v8',v9',rfl⟩:=uc (φ:=aq GL 5) (μ:=[]) (tg:=.one 8) (b:=h7) (xs:=[min 8 (cov X 0:Int),c % ((lamps:Int)+1)]) (en:=D.int)
  (σ:=[some (.lst (ns.map D.int)),some (.int L),some (.int h),some (.int lamps),some (.lst (S.map eSpan)),some (.int c),v6,some (.lst (X.map eSpan)),v8,v9]) (λ_ σ=>∃v8 v9,σ=[some (.lst (ns.map D.int)),some (.int L),some (.int h),some (.int lamps),some (.lst (S.map eSpan)),some (.int c),v6,some (.lst (X.map eSpan)),v8,v9]) ⟨_,_,rfl⟩ (by
   rintro j x σ hx ⟨v8,v9,rfl⟩
   obtain⟨v9',e⟩:=Ws (ns:=ns) (h:=h) (c:=c) (lamps:=lamps) (S:=S) (v6:=v6) (v8:=v8) (v9:=v9) hL hX x
   exact⟨_,e,_,_,rfl⟩)
 simp![AO,CC]at l
 refine⟨v8',v9',?_⟩
 generalize X.map eSpan=XD at *
 generalize S.map eSpan=SD at *
 have kz:∀ds:List D,kSeq (.lst ds) []=.ok (ds,none) []:=λ_=>rfl
 simp! only[fLp,h9,e1,e2,bt_min,mc,fb,kz,l]
theorem Wu(hL:1<=L)(h1:1<=lamps)(hS:S.length<=24)(hI:∀s∈S,In L lamps s)(x:Int):∃v6' v7' v8' v9',fLp (aq GL 5) (.one 5) gc (.int x) [some (.lst (ns.map D.int)),some (.int L),some (.int h),some (.int lamps),some (.lst (S.map eSpan)),v5,v6,v7,v8,v9] []=.ok (.nx [some (.lst (ns.map D.int)),some (.int L),some (.int h),some (.int lamps),some (.lst (S.map eSpan)),some (.int x),v6',v7',v8',v9']) []:=by
 have hr:p9 []:=rfl
 have k0:=ay (kh (n:=4) (μ:=[]) x 9) rfl rfl hr
 obtain⟨us,hu,e1⟩:=zo (n:=4) (μ:=[]) S hS L h1 (gg x 9)
 have k1:=d7 e1 (psp _) hr
 obtain⟨T,hT,_,_,e2⟩:=J4 (n:=4) (μ:=[]) S (by lia) hI
 have k2:=d7 e2 (psp _) hr
 obtain⟨σ',l,v7',v8',v9',rfl⟩:=uc (φ:=aq GL 5) (μ:=[]) (tg:=.one 7) (b:=h9) (xs:=[T,us]) (en:=λX:List Span=>D.lst (X.map eSpan))
  (σ:=[some (.lst (ns.map D.int)),some (.int L),some (.int h),some (.int lamps),some (.lst (S.map eSpan)),some (.int x),some (.lst (us.map eSpan)),v7,v8,v9]) (λ_ σ=>∃v7 v8 v9,σ=[some (.lst (ns.map D.int)),some (.int L),some (.int h),some (.int lamps),some (.lst (S.map eSpan)),some (.int x),some (.lst (us.map eSpan)),v7,v8,v9]) ⟨_,_,_,rfl⟩ (by
   rintro j X σ hX ⟨v7,v8,v9,rfl⟩
   have hX':X.length<=30:=by
    have:=CL hX
    simp at this
    rcases this with rfl | rfl<;>lia
   obtain⟨v8',v9',e⟩:=Wt (ns:=ns) (h:=h) (c:=x) (lamps:=lamps) (S:=S) (v6:=some (.lst (us.map eSpan))) (v8:=v8) (v9:=v9) (X:=X) (L:=L) (by lia) hX' v7
   exact⟨_,e,_,_,_,rfl⟩)
 simp![AO,CC]at l
 refine⟨some (.lst (us.map eSpan)),v7',v8',v9',?_⟩
 generalize us.map eSpan=UD at *
 generalize T.map eSpan=TD at *
 generalize S.map eSpan=SD at *
 have kz:∀ds:List D,kSeq (.lst ds) []=.ok (ds,none) []:=λ_=>rfl
 simp! only[fLp,gc,k0,k1,k2,fb,kz,l]
theorem Tt(hL:1<=L)(h1:1<=lamps)(hS:S.length<=24)(hI:∀s∈S,In L lamps s):∃σ',ph (aq GL 5) (.one 5) gc [some (.lst (ns.map D.int)),some (.int L),some (.int h),some (.int lamps),some (.lst (S.map eSpan)),none,none,none,none,none] ((h::ns.take 12).map D.int,none) []=.ok (.nx σ') []:=by
 obtain⟨σ',l,_⟩:=uc (φ:=aq GL 5) (μ:=[]) (tg:=.one 5) (b:=gc) (xs:=h::ns.take 12) (en:=D.int)
  (σ:=[some (.lst (ns.map D.int)),some (.int L),some (.int h),some (.int lamps),some (.lst (S.map eSpan)),none,none,none,none,none]) (λ_ σ=>∃v5 v6 v7 v8 v9,σ=[some (.lst (ns.map D.int)),some (.int L),some (.int h),some (.int lamps),some (.lst (S.map eSpan)),v5,v6,v7,v8,v9]) ⟨_,_,_,_,_,rfl⟩ (by
   rintro j x σ hx ⟨v5,v6,v7,v8,v9,rfl⟩
   obtain⟨v6',v7',v8',v9',e⟩:=Wu (ns:=ns) (h:=h) (lamps:=lamps) (S:=S) (v5:=v5) (v6:=v6) (v7:=v7) (v8:=v8) (v9:=v9) hL h1 hS hI x
   exact⟨_,e,_,_,_,_,_,rfl⟩)
 exact⟨σ',l⟩
end
theorem Wv(ns:List Int)(hn:ns.length<=63):∃μ',aq GL 6 pk [.lst (ns.map D.int)] []=.ok (.bl true) μ':=by
 rw[ak Gv,run_eq rfl]
 have hr:p9 []:=rfl
 have c0:wj (aq GL 5) false d5 [.lst (ns.map D.int),.int 0] []=_:=ay (zh (n:=4) (μ:=[]) ns 0) rfl rfl hr
 have c1:wj (aq GL 5) false d5 [.lst (ns.map D.int),.int 1] []=_:=ay (zh (n:=4) (μ:=[]) ns 1) rfl rfl hr
 have hl:=ay (Gz (n:=3) hr (ns.getD 0 0)) rfl rfl hr
 have hL:=C0 (ns.getD 0 0)
 generalize jq (ns.getD 0 0)=L at hl hL
 have hs:=ay (kh (n:=4) (μ:=[]) (ns.getD 1 0) 0) rfl rfl hr
 generalize gg (ns.getD 1 0) 0=h at hs
 obtain⟨lamps,el,h1,h8⟩:∃lamps:Nat,1+h % 8=(lamps:Int)/\1<=lamps/\lamps<=8:=⟨(1+h % 8).toNat,by lia,by lia,by lia⟩
 have scut:slD .z (.lst (ns.map D.int)) (some 2) (some 26) []=.ok (.lst (((ns.drop 2).take 24).map D.int)) []:=Ts ns
 obtain⟨sd,ρ1,q1,q2,ed⟩:=J3 (n:=3) (μ:=[]) hr ((ns.drop 2).take 24) (by simp;lia) (len:=L) (by lia) h1
 have ql:sd.length<=24:=by
  have:((ns.drop 2).take 24).length<=24:=by simp;lia
  lia
 have kd:=d7 ed (psp _) hr
 obtain⟨w,ew,hw⟩:∃w:Nat,h / 8 % ((lamps:Int)+1)=(w:Int)/\w<=lamps:=by
  have a:=CY (h / 8) (show((lamps:Int)+1)≠0 by lia)
  have b:=CG (h / 8) (show(0:Int)<(lamps:Int)+1 by lia)
  exact⟨(h / 8 % ((lamps:Int)+1)).toNat,by lia,by lia⟩
 obtain⟨st,ρ2,q3,q4,et⟩:=Hf (n:=2) (μ:=[]) hr ns (L:=L) (w:=w) (lamps:=lamps) hL.1 hL.2 (by lia) h8
 have kt:=d7 et (psp _) hr
 have m8:opI .Mod h 8 []=.ok (.int (h % 8)) []:=op_mod (by decide)
 have d8:opI .FloorDiv h 8 []=.ok (.int (h / 8)) []:=lh (by decide) (by decide)
 have ml:opI .Mod (h / 8) ((lamps:Int)+1) []=.ok (.int w) []:=by rw[op_mod (by lia),ew]
 have d72:opI .FloorDiv h 72 []=.ok (.int (h / 72)) []:=lh (by decide) (by decide)
 have m2:opI .Mod (h / 72) 2 []=.ok (.int (h / 72 % 2)) []:=op_mod (by decide)
 have t12:slD .z (.lst (ns.map D.int)) none (some 12) []=.ok (.lst ((ns.take 12).map D.int)) []:=by
  rw[FL];exact iu (k:=12)
 have cat:opD .Add .z (.lst [.int h]) (.lst ((ns.take 12).map D.int)) []=.ok (.lst ((h::ns.take 12).map D.int)) []:=by
  rw[G6 (by simp;lia)];rfl
 have kz:∀ds:List D,kSeq (.lst ds) []=.ok (ds,none) []:=λ_=>rfl
 refine⟨[],?_⟩
 by_cases hm:h / 72 % 2=0
 ·obtain⟨σ',l⟩:=Tt (ns:=ns) (h:=h) (S:=st) hL.1 h1 (by lia) q4
  generalize (h::ns.take 12).map D.int=HD at *
  generalize (ns.take 12).map D.int=TK at *
  generalize st.map eSpan=SD at *
  generalize sd.map eSpan=DD at *
  simp![D_law_k15,EV1,EV2,EV3,EV4,EV5,Nat.reduceSub,decide_true,decide_false,ER,HX,c0,c1,hl,hs,m8,el,scut,kd,d72,m2,hm,d8,ml,kt,t12,fb,cat,kz,l]
 ·obtain⟨σ',l⟩:=Tt (ns:=ns) (h:=h) (S:=sd) hL.1 h1 ql q2
  generalize (h::ns.take 12).map D.int=HD at *
  generalize (ns.take 12).map D.int=TK at *
  generalize st.map eSpan=SD at *
  generalize sd.map eSpan=DD at *
  simp![D_law_k15,EV1,EV2,EV3,EV4,EV5,Nat.reduceSub,decide_true,decide_false,ER,HX,c0,c1,hl,hs,m8,el,scut,kd,d72,m2,hm,t12,fb,cat,kz,l]
end Lr
namespace Lp.Law
open PySem PySem.Spec PyProof.Rows L2 Lp
noncomputable def top(i:Nat):Stmt:=PySem.Challenge.pw_lamprota_k15_steady_spans.main.body.getD i (.Pass ⟨0,0,0,0⟩)
noncomputable def e0:Ent:=⟨pj,"rises",top 1,["things"],["things"],D_rises⟩
noncomputable def e1:Ent:=⟨a9,"have_tick_in_common",top 3,["one","other"],["one","other"],D_have_tick_in_common⟩
noncomputable def e2:Ent:=⟨cj,"has_span_fault",top 4,["length","lamps","spans","lamp","start","end"],["length","lamps","spans"],D_has_span_fault⟩
noncomputable def e3:Ent:=⟨bc,"has_dark_fault",top 5,["length","wanted","spans","changes","lamp","start","end"],["length","wanted","spans"],D_has_dark_fault⟩
noncomputable def e4:Ent:=⟨nu,"steady",top 7,["length","wanted","lamps","spans"],["length","wanted","lamps","spans"],D_steady⟩
noncomputable def e5:Ent:=⟨d5,"_law_cell",top 9,["script","k"],["script","k"],D_law_cell⟩
noncomputable def e6:Ent:=⟨cu,"_law_stir",top 10,["cell","k","near"],["cell","k"],D_law_stir⟩
noncomputable def e7:Ent:=⟨gz,"_law_length",top 11,["cell","size"],["cell"],D_law_length⟩
noncomputable def e8:Ent:=⟨gk,"_law_fitting",top 12,["script","length","wanted","lamps","rest","ticks","k","low","high","cell","size","many"],["script","length","wanted","lamps"],D_law_fitting⟩
noncomputable def e9:Ent:=⟨jb,"_law_marks",top 13,["length","spans","marks","span"],["length","spans"],D_law_marks⟩
noncomputable def e10:Ent:=⟨cv,"_law_lamps_at",top 14,["spans","tick"],["spans","tick"],D_law_lamps_at⟩
noncomputable def e11:Ent:=⟨c8,"_law_span_good",top 15,["length","lamps","span"],["length","lamps","span"],D_law_span_good⟩
noncomputable def e12:Ent:=⟨ck,"_law_spans_good",top 16,["length","lamps","spans","k","other"],["length","lamps","spans"],D_law_spans_good⟩
noncomputable def e13:Ent:=⟨gq,"_law_place",top 17,["turn","length","marks"],["turn","length","marks"],D_law_place⟩
noncomputable def e14:Ent:=⟨jc,"_law_drawn",top 18,["cells","length","lamps","spans","marks","cell","start","end","lamp"],["cells","length","lamps"],D_law_drawn⟩
noncomputable def e15:Ent:=⟨g6,"_law_kept",top 19,["spans","kept","span","met"],["spans"],D_law_kept_2⟩
noncomputable def e16:Ent:=⟨g7,"_law_stands",top 20,["script","length","wanted","lamps","ticks","spans","at","lamp","end"],["script","length","wanted","lamps"],D_law_stands⟩
noncomputable def e17:Ent:=⟨g8,"_law_spoilt",top 21,["spans","length","lamps","cell","made","at","lamp","start","end","way"],["spans","length","lamps","cell"],D_law_spoilt⟩
noncomputable def e18:Ent:=⟨lj,"_law_due",top 22,["length","wanted","lamps","spans","mark"],["length","wanted","lamps","spans"],D_law_due⟩
noncomputable def e19:Ent:=⟨pk,"law",top 23,["script","length","head","lamps","spans","cell","spoilt","shown","wanted","found"],["script"],D_law_k15⟩
noncomputable def ents:List Ent:=[e0,e1,e2,e3,e4,e5,e6,e7,e8,e9,e10,e11,e12,e13,e14,e15,e16,e17,e18,e19]
noncomputable def qd:List Str:=["zip","all","any","len","range","max","min","sorted","set","tuple","list","isinstance","bool"]
theorem arS{k:Nat}{Q:List Value->Prop}(h:∀a us,us.length=k->Q (a::us)):∀us:List Value,us.length=k+1->Q us
 | [],e=>nomatch e
 |a::us,e=>h a us (Nat.succ.inj e)
theorem ar0{Q:List Value->Prop}(h:∀(_:Unit),Q []):∀us:List Value,us.length=0->Q us
 | [],_=>h ()
theorem ar1{Q:List Value->Prop}(h:∀(a0:Value),Q [a0]):∀us:List Value,us.length=1->Q us:=arS λa0=>ar0 (Q:=λus=>Q (a0::us)) (λ_=>h a0)
theorem ar2{Q:List Value->Prop}(h:∀(a0 a1:Value),Q [a0,a1]):∀us:List Value,us.length=2->Q us:=arS λa0=>ar1 (Q:=λus=>Q (a0::us)) (h a0)
theorem ar3{Q:List Value->Prop}(h:∀(a0 a1 a2:Value),Q [a0,a1,a2]):∀us:List Value,us.length=3->Q us:=arS λa0=>ar2 (Q:=λus=>Q (a0::us)) (h a0)
theorem ar4{Q:List Value->Prop}(h:∀(a0 a1 a2 a3:Value),Q [a0,a1,a2,a3]):∀us:List Value,us.length=4->Q us:=arS λa0=>ar3 (Q:=λus=>Q (a0::us)) (h a0)
section
variable{P:Program}{w:World}{K:PySem.W.Frag}{mg:Str -> Option Value}{base:Heap}
theorem dv0(B:∀(j:Nat) x,qd[j]? = some x->mg x=none):Derived GL P w K mg base ents e0:=dmk λn fa cdv A outer s H E hu C =>
 (az (dj (N3 (B 1 _ rfl) (ae (qq ["one","other"] (Kp (B 0 _ rfl) (aa 0) (O5 (aa 0) (N1 ag) Rl)) (λ_ _ _ _=>⟨(vn (fk 0 (fk 1 vm))),kb,(si (aa 0) (sh hu .lt (aa 1)))⟩)) ai))) cz)
theorem dv1(B:∀(j:Nat) x,qd[j]? = some x->mg x=none):Derived GL P w K mg base ents e1:=dmk λn fa cdv A outer s H E hu C =>
 (az (dj (Cc (si (gs (aa 0) ag) (sh hu .eq (gs (aa 1) ag))) (Ej (si (gs (aa 1) ag) (sh hu .lt (gs (aa 0) ag)))))) cz)
theorem dv2(B:∀(j:Nat) x,qd[j]? = some x->mg x=none):Derived GL P w K mg base ents e2:=dmk λn fa cdv A outer s H E hu C =>
 (az (l9 (gx (aa 2)) (vn (fk 3 (fk 4 (fk 5 vm)))) (az (qr (Ae (Iq (ou (bp ag (T5 hu .le (aa 3) (dq hu .lt (aa 1)))) (l8 (bp ag (T5 hu .le (aa 4) (T5 hu .lt (aa 5) (dq hu .le (aa 0))))))))) (az (dj Ip) cz) cz) cz)) (az (dj (Zc (N0 (bw (C 0 _ rfl) (ae (aa 2) ai))) (V0 (Em (B 2 _ rfl) (ae (qq ["one","other"] (Kp (B 0 _ rfl) (aa 2) (O5 (aa 2) (N1 ag) Rl)) (λ_ _ _ _=>⟨(vn (fk 0 (fk 1 vm))),kb,(bw (C 1 _ rfl) (ae (aa 0) (ae (aa 1) ai)))⟩)) ai))))) cz))
theorem dv3(B:∀(j:Nat) x,qd[j]? = some x->mg x=none):Derived GL P w K mg base ents e3:=dmk λn fa cdv A outer s H E hu C =>
 (az (c6 3 (Rr 1 0 1)) (az (l9 (gx (aa 2)) (vn (fk 4 (fk 5 (fk 6 vm)))) (az (Ah hu (aa 3) (aa 5) (au (Es hu (aa 3) (aa 5) ag) ag)) (az (Ah hu (aa 3) (aa 6) (au (Es hu (aa 3) (aa 6) ag) ag)) cz))) (az (dj (Em (B 2 _ rfl) (ae (qq ["change"] (N9 (aa 3)) (λ_ _ _ _=>⟨(di 0),kb,(si (aa 0) (sh hu .ne ag))⟩)) ai))) cz)))
theorem dv4(B:∀(j:Nat) x,qd[j]? = some x->mg x=none):Derived GL P w K mg base ents e4:=dmk λn fa cdv A outer s H E hu C =>
 (az (dj (Cc (N0 (bw (C 2 _ rfl) (ae (aa 0) (ae (aa 2) (ae (aa 3) ai))))) (Ej (N0 (bw (C 3 _ rfl) (ae (aa 0) (ae (aa 1) (ae (aa 3) ai)))))))) cz)
theorem dv5(B:∀(j:Nat) x,qd[j]? = some x->mg x=none):Derived GL P w K mg base ents e5:=dmk λn fa cdv A outer s H E hu C =>
 (az (qr (bp (aa 1) (dq hu .lt (i7 (B 3 _ rfl) (ae (aa 0) ai)))) (az (dj (gs (aa 0) (aa 1))) cz) cz) (az (dj ag) cz))
theorem dv6(B:∀(j:Nat) x,qd[j]? = some x->mg x=none):Derived GL P w K mg base ents e6:=dmk λn fa cdv A outer s H E hu C =>
 (az (c6 2 (au (au (au (aa 0) (au ag (aa 1))) ag) ag)) (az (c6 2 (au (au (aa 2) (aa 2)) ag)) (az (dj (au (au (au (aa 2) ag) ag) ag)) cz)))
theorem dv7(B:∀(j:Nat) x,qd[j]? = some x->mg x=none):Derived GL P w K mg base ents e7:=dmk λn fa cdv A outer s H E hu C =>
 (az (c6 1 (bw (C 6 _ rfl) (ae (aa 0) (ae ag ai)))) (az (qr (bp (au (aa 1) ag) (dq hu .eq ag)) (az (dj (au (au ag ag) (au (au (aa 1) ag) ag))) cz) cz) (az (qr (bp (au (aa 1) ag) (dq hu .eq ag)) (az (dj (au ag (au (aa 0) (au ag ag)))) cz) cz) (az (dj (au ag (au (au (aa 1) ag) ag))) cz))))
theorem dv8(B:∀(j:Nat) x,qd[j]? = some x->mg x=none):Derived GL P w K mg base ents e8:=dmk λn fa cdv A outer s H E hu C =>
 (az (c6 4 (au (aa 2) (aa 1))) (az (c6 5 (jh ai)) (az (l9 (En (B 4 _ rfl) (aa 3)) (di 6) (az (c6 7 (sj (B 5 _ rfl) (ae ag (ae (au (aa 4) (au (au (au (aa 3) (aa 6)) ag) (aa 1))) ai)))) (az (c6 8 (oy (B 6 _ rfl) (ae (aa 1) (ae (aa 4) ai)))) (az (c6 9 (bw (C 5 _ rfl) (ae (aa 0) (ae (au ag (aa 6)) ai)))) (az (c6 10 (bw (C 6 _ rfl) (ae (aa 9) (ae ag ai)))) (az (c6 11 (au (aa 7) (au (aa 9) (au (au (aa 8) (aa 7)) ag)))) (az (qr (bp (au (aa 10) ag) (dq hu .eq ag)) (az (c6 11 (gs (jh (ae (aa 7) (ae (aa 8) ai))) (au (au (aa 10) ag) ag))) cz) cz) (az (Iu (i8 (aa 5) (ae (aa 11) ai))) (az (c6 4 (au (aa 4) (aa 11))) cz))))))))) (az (dj (Ei 5)) cz))))
theorem dv9(B:∀(j:Nat) x,qd[j]? = some x->mg x=none):Derived GL P w K mg base ents e9:=dmk λn fa cdv A outer s H E hu C =>
 (az (c6 2 (jh (ae ag (ae (aa 0) ai)))) (az (l9 (gx (aa 1)) (di 3) (az (Iu (kc (aa 2) (ae (jh (ae (gs (aa 3) ag) (ae (gs (aa 3) ag) ai))) ai))) cz)) (az (dj (qq ["length","mark"] (gx (yz (B 7 _ rfl) (B 8 _ rfl) (aa 2))) (λ_ _ _ _=>⟨(di 1),(nq (bp ag (T5 hu .le (aa 1) (dq hu .lt (aa 0)))) kb),(aa 1)⟩))) cz)))
theorem Zk(B:∀(j:Nat) x,qd[j]? = some x->mg x=none):Derived GL P w K mg base ents e10:=dmk λn fa cdv A outer s H E hu C =>
 (az (dj (vk (B 9 _ rfl) (ae (qq ["tick","span"] (gx (aa 0)) (λ_ _ _ _=>⟨(di 1),(nq (Iq (ou (bp (gs (aa 1) ag) (dq hu .le (aa 0))) (l8 (bp (aa 0) (dq hu .lt (gs (aa 1) ag)))))) kb),(gs (aa 1) ag)⟩)) ai))) cz)
theorem Zl(B:∀(j:Nat) x,qd[j]? = some x->mg x=none):Derived GL P w K mg base ents e11:=dmk λn fa cdv A outer s H E hu C =>
 (az (dj (Cc (si ag (sh hu .le (gs (aa 2) ag))) (Cc (si (gs (aa 2) ag) (sh hu .lt (aa 1))) (Cc (si ag (sh hu .le (gs (aa 2) ag))) (Cc (si (gs (aa 2) ag) (sh hu .lt (gs (aa 2) ag))) (Ej (si (gs (aa 2) ag) (sh hu .le (aa 0))))))))) cz)
theorem Zm(B:∀(j:Nat) x,qd[j]? = some x->mg x=none):Derived GL P w K mg base ents e12:=dmk λn fa cdv A outer s H E hu C =>
 (az (l9 (En (B 4 _ rfl) (i7 (B 3 _ rfl) (ae (aa 2) ai))) (di 3) (az (qr (Iq (N2 (Ae (yp (bw (C 11 _ rfl) (ae (aa 0) (ae (aa 1) (ae (gs (aa 2) (aa 3)) ai)))))) (El (Iq (ou (bp (aa 3) (dq hu .gt ag)) (l8 (bp (gs (aa 2) (aa 3)) (dq hu .le (gs (aa 2) (au (aa 3) ag)))))))))) (az (dj Ip) cz) cz) (az (l9 (gx (O5 (aa 2) Rl (N1 (aa 3)))) (di 4) (az (qr (Iq (ou (bp (gs (aa 4) ag) (dq hu .eq (gs (gs (aa 2) (aa 3)) ag))) (ou (bp (gs (aa 4) ag) (dq hu .lt (gs (gs (aa 2) (aa 3)) ag))) (l8 (bp (gs (gs (aa 2) (aa 3)) ag) (dq hu .lt (gs (aa 4) ag))))))) (az (dj Ip) cz) cz) cz)) cz))) (az (dj Ip) cz))
theorem Zn(B:∀(j:Nat) x,qd[j]? = some x->mg x=none):Derived GL P w K mg base ents e13:=dmk λn fa cdv A outer s H E hu C =>
 (az (qr (bp (au (aa 0) ag) (dq hu .eq ag)) (az (dj (gs (aa 2) (au (au (aa 0) ag) (i7 (B 3 _ rfl) (ae (aa 2) ai))))) cz) cz) (az (qr (bp (au (aa 0) ag) (dq hu .eq ag)) (az (dj (au (au (aa 0) ag) (au (aa 1) ag))) cz) cz) (az (dj (oy (B 6 _ rfl) (ae (aa 1) (ae (sj (B 5 _ rfl) (ae ag (ae (au (au (gs (aa 2) (au (au (aa 0) ag) (i7 (B 3 _ rfl) (ae (aa 2) ai)))) (au (au (aa 0) ag) ag)) ag) ai))) ai)))) cz)))
theorem Zo(B:∀(j:Nat) x,qd[j]? = some x->mg x=none):Derived GL P w K mg base ents e14:=dmk λn fa cdv A outer s H E hu C =>
 (az (c6 3 (jh ai)) (az (c6 4 (jh (ae ag (ae (aa 1) ai)))) (az (l9 (gx (aa 0)) (di 5) (az (c6 6 (bw (C 13 _ rfl) (ae (bw (C 6 _ rfl) (ae (aa 5) (ae ag ai))) (ae (aa 1) (ae (aa 4) ai))))) (az (c6 7 (bw (C 13 _ rfl) (ae (bw (C 6 _ rfl) (ae (aa 5) (ae ag ai))) (ae (aa 1) (ae (aa 4) ai))))) (az (Iu (kc (aa 4) (ae (jh (ae (aa 6) (ae (aa 7) ai))) ai))) (az (c6 8 (au (bw (C 6 _ rfl) (ae (aa 5) (ae ag ai))) (aa 2))) (az (Iu (i8 (aa 3) (ae (Ek (ae (aa 8) (ae (oy (B 6 _ rfl) (ae (aa 6) (ae (aa 7) ai))) (ae (sj (B 5 _ rfl) (ae (aa 6) (ae (aa 7) ai))) ai)))) ai))) cz)))))) (az (dj (Ei 3)) cz))))
theorem Zp(B:∀(j:Nat) x,qd[j]? = some x->mg x=none):Derived GL P w K mg base ents e15:=dmk λn fa cdv A outer s H E hu C =>
 (az (c6 1 (jh ai)) (az (l9 (gx (Cu hu (B 7 _ rfl) (B 8 _ rfl) (aa 0))) (di 2) (az (Eo 3 ["span","other"] (gx (aa 1)) (λ_ _ _ _=>⟨(di 1),(nq (Iq (ou (bp (gs (aa 1) ag) (dq hu .eq (gs (aa 0) ag))) (l8 (bp (gs (aa 1) ag) (dq hu .gt (gs (aa 0) ag)))))) kb),(aa 1)⟩)) (az (qr (Iq (ou (bp (gs (aa 2) ag) (dq hu .lt (gs (aa 2) ag))) (l8 (bp (aa 3) (dq hu .eq (jh ai)))))) (az (Iu (i8 (aa 1) (ae (aa 2) ai))) cz) cz) cz))) (az (dj (Ei 1)) cz)))
theorem Zq(B:∀(j:Nat) x,qd[j]? = some x->mg x=none):Derived GL P w K mg base ents e16:=dmk λn fa cdv A outer s H E hu C =>
 (az (c6 4 (bw (C 8 _ rfl) (ae (aa 0) (ae (aa 1) (ae (aa 2) (ae (aa 3) ai)))))) (az (c6 5 (jh ai)) (az (c6 6 ag) (az (l9 (En (B 4 _ rfl) (aa 3)) (di 7) (az (c6 8 (au (aa 6) (gs (aa 4) (aa 7)))) (az (Iu (kc (aa 5) (ae (au (jh (ae (Ek (ae (aa 7) (ae (aa 6) (ae (oy (B 6 _ rfl) (ae (aa 8) (ae (aa 1) ai))) ai)))) ai)) (O5 (jh (ae (Ek (ae (aa 7) (ae ag (ae (au (aa 8) (aa 1)) ai)))) ai)) Rl (N1 (sj (B 5 _ rfl) (ae ag (ae (au (aa 8) (aa 1)) ai)))))) ai))) (az (c6 6 (au (aa 8) (aa 1))) cz)))) (az (dj (qq ["span"] (gx (Cd (B 7 _ rfl) (ae (aa 5) ai))) (λ_ _ _ _=>⟨(di 0),(nq (bp (gs (aa 0) ag) (dq hu .lt (gs (aa 0) ag))) kb),(aa 0)⟩))) cz)))))
theorem Zr(B:∀(j:Nat) x,qd[j]? = some x->mg x=none):Derived GL P w K mg base ents e17:=dmk λn fa cdv A outer s H E hu C =>
 (az (c6 4 (Ir (B 10 _ rfl) (ae (aa 0) ai))) (az (qr (bp (i7 (B 3 _ rfl) (ae (aa 4) ai)) (dq hu .eq ag)) (az (dj (Ei 4)) cz) cz) (az (c6 5 (au (au (aa 3) ag) (i7 (B 3 _ rfl) (ae (aa 4) ai)))) (az (V3 (vn (fk 6 (fk 7 (fk 8 vm)))) (gs (aa 4) (aa 5))) (az (c6 9 (au (aa 3) ag)) (az (qr (bp (aa 9) (dq hu .lt ag)) (az (c6 6 (gs (jh (ae (aa 6) (ae (au (au (aa 6) ag) (aa 2)) (ae (aa 2) (ae (Rk ag) (ae (aa 6) ai)))))) (aa 9))) (az (Ah hu (aa 4) (aa 5) (Ek (ae (aa 6) (ae (aa 7) (ae (au (aa 8) (gs (jh (ae ag (ae ag (ae ag (ae ag (ae ag ai)))))) (aa 9))) ai))))) cz)) cz) (az (qr (Iq (N2 (bp (aa 9) (dq hu .eq ag)) (El (bp (aa 9) (dq hu .eq ag))))) (az (Ah hu (aa 4) (aa 5) (Ek (ae (aa 6) (ae (au (aa 7) (gs (jh (ae ag (ae (Rk ag) ai))) (au (aa 9) ag))) (ae (aa 8) ai))))) cz) cz) (az (qr (bp (aa 9) (dq hu .eq ag)) (az (Iu (Ag (aa 4) (ae (aa 5) ai))) cz) cz) (az (qr (bp (aa 9) (dq hu .eq ag)) (az (Iu (zc (aa 4) (ae (aa 5) (ae (gs (aa 4) (au (au (aa 3) ag) (i7 (B 3 _ rfl) (ae (aa 4) ai)))) ai)))) cz) cz) (az (qr (bp (aa 9) (dq hu .eq ag)) (az (Iu (i8 (aa 4) (ae (Ag (aa 4) (ae (aa 5) ai)) ai))) cz) cz) (az (dj (Ei 4)) cz)))))))))))
theorem Zs(B:∀(j:Nat) x,qd[j]? = some x->mg x=none):Derived GL P w K mg base ents e18:=dmk λn fa cdv A outer s H E hu C =>
 (az (qr (Ae (yp (bw (C 12 _ rfl) (ae (aa 0) (ae (aa 2) (ae (aa 3) ai)))))) (az (dj Ip) cz) cz) (az (l9 (gx (bw (C 9 _ rfl) (ae (aa 0) (ae (aa 3) ai)))) (di 4) (az (qr (bp (i7 (B 3 _ rfl) (ae (bw (C 10 _ rfl) (ae (aa 3) (ae (aa 4) ai))) ai)) (dq hu .ne (aa 1))) (az (dj Ip) cz) cz) cz)) (az (dj Ip) cz)))
theorem Zt(B:∀(j:Nat) x,qd[j]? = some x->mg x=none):Derived GL P w K mg base ents e19:=dmk λn fa cdv A outer s H E hu C =>
 (az (c6 1 (bw (C 7 _ rfl) (ae (bw (C 5 _ rfl) (ae (aa 0) (ae ag ai))) ai))) (az (c6 2 (bw (C 6 _ rfl) (ae (bw (C 5 _ rfl) (ae (aa 0) (ae ag ai))) (ae ag ai)))) (az (c6 3 (au ag (au (aa 2) ag))) (az (c6 4 (bw (C 14 _ rfl) (ae (O5 (aa 0) (N1 ag) (N1 ag)) (ae (aa 1) (ae (aa 3) ai))))) (az (qr (bp (au (au (aa 2) ag) ag) (dq hu .eq ag)) (az (c6 4 (bw (C 16 _ rfl) (ae (aa 0) (ae (aa 1) (ae (au (au (aa 2) ag) (au (aa 3) ag)) (ae (aa 3) ai)))))) cz) cz) (az (l9 (gx (au (jh (ae (aa 2) ai)) (O5 (aa 0) Rl (N1 ag)))) (di 5) (az (c6 6 (bw (C 17 _ rfl) (ae (aa 4) (ae (aa 1) (ae (aa 3) (ae (bw (C 6 _ rfl) (ae (aa 5) (ae ag ai))) ai)))))) (az (l9 (gx (jh (ae (bw (C 15 _ rfl) (ae (aa 4) ai)) (ae (aa 6) ai)))) (di 7) (az (l9 (gx (jh (ae (oy (B 6 _ rfl) (ae ag (ae (i7 (B 3 _ rfl) (ae (bw (C 10 _ rfl) (ae (aa 7) (ae ag ai))) ai)) ai))) (ae (au (aa 5) (au (aa 3) ag)) ai)))) (di 8) (az (c6 9 (bw (C 4 _ rfl) (ae (aa 1) (ae (aa 8) (ae (aa 3) (ae (vk (B 9 _ rfl) (ae (aa 7) ai)) ai)))))) (az (qr (Iq (N2 (Ae (yp (V2 (aa 9) (B 11 _ rfl) (B 12 _ rfl)))) (El (bp (aa 9) (dq hu .ne (bw (C 18 _ rfl) (ae (aa 1) (ae (aa 8) (ae (aa 3) (ae (aa 7) ai)))))))))) (az (dj Ip) cz) cz) cz))) cz)) cz))) (az (dj Ip) cz)))))))
theorem dvs(B:∀(j:Nat) x,qd[j]? = some x->mg x=none):∀(j:Nat) e,ents[j]? = some e->Derived GL P w K mg base ents e:=(Lp.gb (dv0 B) (Lp.gb (dv1 B) (Lp.gb (dv2 B) (Lp.gb (dv3 B) (Lp.gb (dv4 B) (Lp.gb (dv5 B) (Lp.gb (dv6 B) (Lp.gb (dv7 B) (Lp.gb (dv8 B) (Lp.gb (dv9 B) (Lp.gb (Zk B) (Lp.gb (Zl B) (Lp.gb (Zm B) (Lp.gb (Zn B) (Lp.gb (Zo B) (Lp.gb (Zp B) (Lp.gb (Zq B) (Lp.gb (Zr B) (Lp.gb (Zs B) (Lp.gb (Zt B) Lp.V6))))))))))))))))))))
end
end Lp.Law
namespace PySem.W.Fast
noncomputable def tw6087210233570564296:=0
noncomputable def tw14963491707405053065:=0
noncomputable def tw2052061475258044241:=0
noncomputable def tw3808241606721893022:=0
noncomputable def tw3845461071431185026:=0
noncomputable def tw8068955060502615251:=0
noncomputable def tw7586852396873968455:=0
noncomputable def tw6806195693060101772:=0
noncomputable def tw14004889954715000002:=0
noncomputable def tw18358704520368141686:=0
noncomputable def tw553886337472987421:=0
noncomputable def tw9157358620432739183:=0
noncomputable def tw8525747904664174471:=0
noncomputable def tw8042357239780936608:=0
noncomputable def tw3325340215322971871:=0
noncomputable def tw10745492442217974423:=0
noncomputable def tw2451331661645483852:=0
noncomputable def tw2864897035512966170:=0
noncomputable def tw9451362104877079605:=0
noncomputable def tw7937107033169262954:=0
noncomputable def tw15267154403487701633:=0
noncomputable def tw17779538543005367045:=0
noncomputable def tw2373411244076133070:=0
noncomputable def tw5318628693571202850:=0
noncomputable def tw15161717219823358715:=0
noncomputable def tw14635530647808072077:=0
noncomputable def tw1524146582072992581:=0
noncomputable def tw3488267941470182998:=0
noncomputable def tw17736559379066946693:=0
noncomputable def tw10365571255691762408:=0
noncomputable def tw6888651002111741411:=0
noncomputable def tw17903807292449561913:=0
noncomputable def tw13351392389815691102:=0
noncomputable def tw2990930862790443985:=0
noncomputable def tw3263025649299419925:=0
noncomputable def tw4174918082637640070:=0
noncomputable def tw8801744570851553398:=0
end PySem.W.Fast
open PySem PySem.W PyProof.Rows Lp.Law
open Lp (ModOf)
set_option maxHeartbeats 0 in
theorem PySem.Challenge.cw_lamprota_k15_steady_spans_holds : PySem.Challenge.rw_lamprota_k15_steady_spans.Holds := by
 w_on;o_law;k_head;(case hw=>w_witness2)
 k_fill
 refine Lp.Io (l:=PySem.Challenge.rw_lamprota_k15_steady_spans) (n:=6) ⟨rfl,by decide,by decide⟩ rfl rfl (λw h Y=>PySem.W.kIn_of Y) ?F
 case F =>
  intro w mg fa h KX G hmg
  have m0:ModOf (L2.KOf KX) mg e0:=by
   dsimp only[L2.KOf]
   refine' Lp.dz (e:=e0) KX G ?a ?l ?c ?k λ_ _ _ _ _ _=>ar1 λ_=>rfl
   all_goals try dsimp only[e0]
   (case a=>k_is);(case l=>k_is);(case c=>k_is);(case k=>k_is)
  have m1:ModOf (L2.KOf KX) mg e1:=by
   dsimp only[L2.KOf]
   refine' Lp.dz (e:=e1) KX G ?a ?l ?c ?k λ_ _ _ _ _ _=>ar2 λ_ _=>rfl
   all_goals try dsimp only[e1]
   (case a=>k_is);(case l=>k_is);(case c=>k_is);(case k=>k_is)
  have m2:ModOf (L2.KOf KX) mg e2:=by
   dsimp only[L2.KOf]
   refine' Lp.dz (e:=e2) KX G ?a ?l ?c ?k λ_ _ _ _ _ _=>ar3 λ_ _ _=>rfl
   all_goals try dsimp only[e2]
   (case a=>k_is);(case l=>k_is);(case c=>k_is);(case k=>k_is)
  have m3:ModOf (L2.KOf KX) mg e3:=by
   dsimp only[L2.KOf]
   refine' Lp.dz (e:=e3) KX G ?a ?l ?c ?k λ_ _ _ _ _ _=>ar3 λ_ _ _=>rfl
   all_goals try dsimp only[e3]
   (case a=>k_is);(case l=>k_is);(case c=>k_is);(case k=>k_is)
  have m4:ModOf (L2.KOf KX) mg e4:=by
   dsimp only[L2.KOf]
   refine' Lp.dz (e:=e4) KX G ?a ?l ?c ?k λ_ _ _ _ _ _=>ar4 λ_ _ _ _=>rfl
   all_goals try dsimp only[e4]
   (case a=>k_is);(case l=>k_is);(case c=>k_is);(case k=>k_is)
  have m5:ModOf (L2.KOf KX) mg e5:=by
   dsimp only[L2.KOf]
   refine' Lp.dz (e:=e5) KX G ?a ?l ?c ?k λ_ _ _ _ _ _=>ar2 λ_ _=>rfl
   all_goals try dsimp only[e5]
   (case a=>k_is);(case l=>k_is);(case c=>k_is);(case k=>k_is)
  have m6:ModOf (L2.KOf KX) mg e6:=by
   dsimp only[L2.KOf]
   refine' Lp.dz (e:=e6) KX G ?a ?l ?c ?k λ_ _ _ _ _ _=>ar2 λ_ _=>rfl
   all_goals try dsimp only[e6]
   (case a=>k_is);(case l=>k_is);(case c=>k_is);(case k=>k_is)
  have m7:ModOf (L2.KOf KX) mg e7:=by
   dsimp only[L2.KOf]
   refine' Lp.dz (e:=e7) KX G ?a ?l ?c ?k λ_ _ _ _ _ _=>ar1 λ_=>rfl
   all_goals try dsimp only[e7]
   (case a=>k_is);(case l=>k_is);(case c=>k_is);(case k=>k_is)
  have m8:ModOf (L2.KOf KX) mg e8:=by
   dsimp only[L2.KOf]
   refine' Lp.dz (e:=e8) KX G ?a ?l ?c ?k λ_ _ _ _ _ _=>ar4 λ_ _ _ _=>rfl
   all_goals try dsimp only[e8]
   (case a=>k_is);(case l=>k_is);(case c=>k_is);(case k=>k_is)
  have m9:ModOf (L2.KOf KX) mg e9:=by
   dsimp only[L2.KOf]
   refine' Lp.dz (e:=e9) KX G ?a ?l ?c ?k λ_ _ _ _ _ _=>ar2 λ_ _=>rfl
   all_goals try dsimp only[e9]
   (case a=>k_is);(case l=>k_is);(case c=>k_is);(case k=>k_is)
  have m10:ModOf (L2.KOf KX) mg e10:=by
   dsimp only[L2.KOf]
   refine' Lp.dz (e:=e10) KX G ?a ?l ?c ?k λ_ _ _ _ _ _=>ar2 λ_ _=>rfl
   all_goals try dsimp only[e10]
   (case a=>k_is);(case l=>k_is);(case c=>k_is);(case k=>k_is)
  have m11:ModOf (L2.KOf KX) mg e11:=by
   dsimp only[L2.KOf]
   refine' Lp.dz (e:=e11) KX G ?a ?l ?c ?k λ_ _ _ _ _ _=>ar3 λ_ _ _=>rfl
   all_goals try dsimp only[e11]
   (case a=>k_is);(case l=>k_is);(case c=>k_is);(case k=>k_is)
  have m12:ModOf (L2.KOf KX) mg e12:=by
   dsimp only[L2.KOf]
   refine' Lp.dz (e:=e12) KX G ?a ?l ?c ?k λ_ _ _ _ _ _=>ar3 λ_ _ _=>rfl
   all_goals try dsimp only[e12]
   (case a=>k_is);(case l=>k_is);(case c=>k_is);(case k=>k_is)
  have m13:ModOf (L2.KOf KX) mg e13:=by
   dsimp only[L2.KOf]
   refine' Lp.dz (e:=e13) KX G ?a ?l ?c ?k λ_ _ _ _ _ _=>ar3 λ_ _ _=>rfl
   all_goals try dsimp only[e13]
   (case a=>k_is);(case l=>k_is);(case c=>k_is);(case k=>k_is)
  have m14:ModOf (L2.KOf KX) mg e14:=by
   dsimp only[L2.KOf]
   refine' Lp.dz (e:=e14) KX G ?a ?l ?c ?k λ_ _ _ _ _ _=>ar3 λ_ _ _=>rfl
   all_goals try dsimp only[e14]
   (case a=>k_is);(case l=>k_is);(case c=>k_is);(case k=>k_is)
  have m15:ModOf (L2.KOf KX) mg e15:=by
   dsimp only[L2.KOf]
   refine' Lp.dz (e:=e15) KX G ?a ?l ?c ?k λ_ _ _ _ _ _=>ar1 λ_=>rfl
   all_goals try dsimp only[e15]
   (case a=>k_is);(case l=>k_is);(case c=>k_is);(case k=>k_is)
  have m16:ModOf (L2.KOf KX) mg e16:=by
   dsimp only[L2.KOf]
   refine' Lp.dz (e:=e16) KX G ?a ?l ?c ?k λ_ _ _ _ _ _=>ar4 λ_ _ _ _=>rfl
   all_goals try dsimp only[e16]
   (case a=>k_is);(case l=>k_is);(case c=>k_is);(case k=>k_is)
  have m17:ModOf (L2.KOf KX) mg e17:=by
   dsimp only[L2.KOf]
   refine' Lp.dz (e:=e17) KX G ?a ?l ?c ?k λ_ _ _ _ _ _=>ar4 λ_ _ _ _=>rfl
   all_goals try dsimp only[e17]
   (case a=>k_is);(case l=>k_is);(case c=>k_is);(case k=>k_is)
  have m18:ModOf (L2.KOf KX) mg e18:=by
   dsimp only[L2.KOf]
   refine' Lp.dz (e:=e18) KX G ?a ?l ?c ?k λ_ _ _ _ _ _=>ar4 λ_ _ _ _=>rfl
   all_goals try dsimp only[e18]
   (case a=>k_is);(case l=>k_is);(case c=>k_is);(case k=>k_is)
  have m19:ModOf (L2.KOf KX) mg e19:=by
   dsimp only[L2.KOf]
   refine' Lp.dz (e:=e19) KX G ?a ?l ?c ?k λ_ _ _ _ _ _=>ar1 λ_=>rfl
   all_goals try dsimp only[e19]
   (case a=>k_is);(case l=>k_is);(case c=>k_is);(case k=>k_is)
  have b0:mg "zip"=none:=BR KX G (by k_is)
  have b1:mg "all"=none:=BR KX G (by k_is)
  have b2:mg "any"=none:=BR KX G (by k_is)
  have b3:mg "len"=none:=BR KX G (by k_is)
  have b4:mg "range"=none:=BR KX G (by k_is)
  have b5:mg "max"=none:=BR KX G (by k_is)
  have b6:mg "min"=none:=BR KX G (by k_is)
  have b7:mg "sorted"=none:=BR KX G (by k_is)
  have b8:mg "set"=none:=BR KX G (by k_is)
  have b9:mg "tuple"=none:=BR KX G (by k_is)
  have b10:mg "list"=none:=BR KX G (by k_is)
  have b11:mg "isinstance"=none:=BR KX G (by k_is)
  have b12:mg "bool"=none:=BR KX G (by k_is)
  exact Lp.Nz (T:=Lp.GL) (es:=ents) (n:=6) (j:=19) (e:=e19) (Lp.gb m0 (Lp.gb m1 (Lp.gb m2 (Lp.gb m3 (Lp.gb m4 (Lp.gb m5 (Lp.gb m6 (Lp.gb m7 (Lp.gb m8 (Lp.gb m9 (Lp.gb m10 (Lp.gb m11 (Lp.gb m12 (Lp.gb m13 (Lp.gb m14 (Lp.gb m15 (Lp.gb m16 (Lp.gb m17 (Lp.gb m18 (Lp.gb m19 Lp.V6)))))))))))))))))))) (λbase=>dvs (Lp.gb b0 (Lp.gb b1 (Lp.gb b2 (Lp.gb b3 (Lp.gb b4 (Lp.gb b5 (Lp.gb b6 (Lp.gb b7 (Lp.gb b8 (Lp.gb b9 (Lp.gb b10 (Lp.gb b11 (Lp.gb b12 Lp.V6)))))))))))))) rfl hmg rfl (λns hn=>Lr.Wv ns hn)
