import PyProof.Rows.All
import Wide.All
import OpenK.AllK
import Wide.FinOn
import Lean
import PyProof.EqAt
import PyProof.EqKinds
import PyProof.TupleCall
import PySem.Syntax
import KE.BitLaws
import PyProof.Rows.ZipGen
import PyProof.EnumMake
import PyProof.EnumFor
import PyProof.Rows.EnumRows
import PyProof.DictValues
import KE.KSortTup
import PyProof.Rows.SetFrom
import PyProof.WalksMore
import PyProof.FactsAll.set
import PyProof.ForAny
import PyProof.CollectWalk
import PyProof.ListRange
import PyProof.Rows.SortShell
import PyProof.TupleKey
import PyProof.IsRules
import PyProof.AttrMissHeap
import PyProof.ExcClass3
import PyProof.ExcInit
import PyProof.InstStoreFacts
import PyProof.InstLoad
import PyProof.ExcArgsOwn
import PyProof.ExcAttrAll.ValueError
import PyProof.StationsW
import KE.KDictList
import PyProof.MaxThree
import PyProof.Rows.SortRuns
import PyProof.Rows.SeqRoads
import PyProof.FactsAll.range_1
import PySem.Challenge.RW_lamprota_k26_flows_of_rotas
noncomputable section
local macro_rules | `(tactic| simp! [$ls,*] $[$l:location]?) => `(tactic| simp only [$ls,*] $[$l]?)
open List renaming getElem?_eq_getElem -> AA, getElem?_eq_some_iff -> AB, append_assoc -> AD, prefix_refl -> AE, map_cons -> AF, length_map -> AG, size_toArray -> AJ, all_eq_true -> AL, getElem?_append_left -> AN, length_append -> AQ, mem_cons -> AS, mem_cons_of_mem -> AU, getElem?_map -> AV, length_range -> AX, map_append -> AY, map_map -> BB, mem_append -> BD, all_cons -> BF, length_cons -> BH, mem_cons_self -> BI, mem_of_getElem? -> BK, getD_eq_getElem?_getD -> BM, mem_iff_getElem? -> BN, getElem?_append_right -> BO, take_of_length_le -> BQ, take_length -> BR, length_take -> BV, mem_map -> BW, not_mem_nil -> BY, take_append_drop -> BZ, length_nil -> CC, mem_append_right -> CG, map_congr_left -> CH, getElem?_range -> CI, flatMap_append -> CJ, drop_of_length_le -> CK, getElem?_take_of_lt -> CL, perm_append_comm -> CO, replicate_succ -> CQ, nil_prefix -> CU, getElem?_set_ne -> CV, all_map -> CW, any_cons -> CZ, map_nil -> Db, zip_cons_cons -> Do, mem_iff_getElem -> DA, mem_flatMap -> DB, flatten_cons -> DD, take_append_of_le_length -> DE, sum_cons -> DF, sum_append -> DG, range_succ -> DH, set_cons_zero -> DI, getElem?_cons_succ -> DL, getElem?_cons_zero -> DM, getElem?_set_self -> DP, flatMap_cons -> DS, append_nil -> DT, drop_eq_getElem_cons -> DW, length_drop -> DX, getElem?_replicate -> Ev, ext_getElem? -> EC, nil_append -> ED, cons_append -> EH, map_fst_zip -> EI, set_cons_succ -> EK, mem_singleton -> EL, getElem?_eq_none -> EN, extract_eq_take_drop -> EO, mem_of_mem_drop -> ES, mem_of_mem_take -> ET, take_add_one -> EU, lookup_cons -> EZ, getElem_mem -> FB, drop_zero -> FC, zip_nil_right -> FE, all_nil -> FM, mem_filter -> FN, find?_cons -> FO, getElem?_zip_eq_some -> Gt, pairwise_iff_getElem -> GA, lookup_append -> GF, zip_nil_left -> GI, drop_length -> GO, ext_getElem -> GP, mem_append_left -> GS, drop_append_of_le_length -> GV, eq_nil_of_length_eq_zero -> GW, nodup_cons -> GX, filterMap_cons -> GZ, toList_toArray -> HA, getElem?_drop -> HG, pairwise_cons -> HI, drop_append -> HZ, of_mem_zip -> IH, forIn_cons -> II, length_replicate -> IL, getElem?_toArray -> IP, countP_mono_left -> IQ, map_drop -> IX, any_map -> JC, map_set -> JD
open PySem renaming wpAny_bind -> AC, wpAny_pure -> AO, wpAny_loadPart' -> CY, mem_of_lookup -> DC, wpAny_callSpecial?_slot -> DK, wpAny_mono -> DQ, wpAny_field -> DU, wpAny_newObj_type -> EA, wpAny_call_entry -> EG, tupleKind_room_in1 -> EJ, wpAny_holding -> EV, richCompare_meets_room -> FF, wpAny_rule -> FG, wpAny_pyIter_tuple -> FH, wpAny_setField_rec -> FI, wpAny_truthy_bool -> FV, wpAny_passesOwn -> GD, sizeLine_eq -> GG, wpAny_forIn_list -> GN, wpAny_Call_Name_kw -> HF, noFill_tuple_add -> HS, wpAny_typeOf -> IC
open PySem.Heap renaming get?_push_of_some -> AH, lt_size -> AR, get?_push_size -> AZ, size_push -> FA, get?_update_other -> ID, get?_update_self -> IN
open PyProof.Rows renaming wpS_bind -> AI, wpS_pure -> AM, slot_tuple_getitem -> CN, wpS_forRange -> CT, callWith_type1 -> DN, wpS_modify -> EX, wpS_mono -> FD, wpS_get -> GR, boot_sorted -> HQ, wpS_lift -> HY, lt_int -> IU
open Nat renaming le_refl -> AK, lt_of_lt_of_le -> AT, le_trans -> BC, ne_of_lt -> BJ, le_of_lt -> CP, lt_irrefl -> DO, zero_le -> EF, ne_of_gt -> ER, zero_add -> FK, mul_le_mul_right -> FY, lt_succ_of_lt -> HL, add_assoc -> HP, le_of_not_lt -> HV, lt_succ_self -> HW, not_lt -> JB
open Bool renaming and_eq_true -> AW, false_eq_true -> BA, false_ne_true -> BP, not_false -> CD, not_true -> CM, and_true -> EY, true_and -> FS, beq_eq_decide_eq -> FT, not_eq_true' -> HM
open List.Perm renaming append_left -> BL, append_right -> FJ
open Array renaming toList_append -> BS, getElem?_toList -> BU, length_toList -> CA, toList_push -> FW, toList_extract -> FX, toList_reverse -> GU, perm_iff_toList_perm -> HH, toList_inj -> If
open Option.some renaming injEq -> BX, inj -> CB
open PySem.W renaming mg_none_of -> CF, kia_one -> FP, kat_cons -> HX, cellsFrom_some -> IA, kat_yes -> IJ, kat_one -> IK, kat_go -> IS, kat_no -> IT, mg_of -> IW
open Option renaming bind_some -> Da, map_some -> DV, isSome_iff_exists -> DY, getD_some -> Go, map_eq_some_iff -> GK, isSome_map -> HK
open Int renaming emod_lt_of_pos -> DJ, toNat_natCast -> DR, mul_nonneg -> DZ, emod_nonneg -> EE, add_mul -> FZ, mul_le_mul_of_nonneg_right -> GQ, fdiv_eq_ediv_of_nonneg -> HD, le_refl -> HN, add_zero -> IG
open PySem.F renaming slot_tuple_iterator_next -> EM, slot_enumerate_next -> FU, args_tuple_add_2 -> GB, entry_tuple_add -> GH, slot_tuple_add -> GJ, slot_dict_get -> GM, args_tuple_iterator_next_1 -> GY, entry_tuple_iterator_next -> HB, slot_dict_getitem -> HJ, args_tuple_lt_2 -> HR, args_dict_get_3 -> HU, entry_tuple_lt -> IB, entry_dict_get -> IF, slot_tuple_lt -> IM
open PySem.AutoSeq1 renaming sub_tuple_tuple -> EW
open PySem.Paired renaming length -> FR
open Prod.mk renaming injEq -> GC
open PySem.Calls renaming Name_function_global -> HC, spliced_cons -> HE, callWith_builtin -> IE, evalArgs_plain -> IR
open PyProof renaming noPylong_small -> Ix
open PySem.Heap.SameBut renaming update -> IV
open PySem.SeqAt.EqAt renaming int_str -> IY, str_int -> IZ, int_int -> JA
set_option Elab.async false
set_option linter.all false
set_option maxRecDepth 100000
namespace L2
open PySem PySem.Spec PyProof.Rows
noncomputable abbrev Key:=Sum Int Str
noncomputable def Gg:Key->Value->Bool
 |.inl k,v=>Value.isInt k v
 |.inr x,v=>Value.isStrOf x v
noncomputable def aef(w:World):Key->Int
 |.inl k=>hashInt k
 |.inr x=>hashStr w x
theorem dm:∀{k:Key} {v:Value},Gg k v=true->(∃i t,k=Sum.inl i/\v=Value.int i t)\/(∃x t,k=Sum.inr x/\v=Value.str x t)
 |.inl i,v,h=>by
  obtain⟨t,e⟩:=Value.isInt_shape (k:=i) (v:=v) h
  exact .inl ⟨i,t,rfl,e⟩
 |.inr x,v,h=>by
  obtain⟨t,e⟩:=Value.isStrOf_shape (x:=x) (v:=v) h
  exact .inr ⟨x,t,rfl,e⟩
theorem Hx(i:Int)(t:Tok):Gg (.inl i) (.int i t)=true:=by simp[Gg,Value.isInt]
theorem Hy(x:Str)(t:Tok):Gg (.inr x) (.str x t)=true:=by simp[Gg,Value.isStrOf]
theorem Vc(a b:Int):decide ((Sum.inl a:Key)=Sum.inl b)=(a==b):=by
 by_cases e:a=b
 ·subst e;simp
 ·have h:¬(Sum.inl a:Key)=Sum.inl b:=λq=>e (Sum.inl.inj q)
  rw[decide_eq_false h]
  exact(beq_eq_false_iff_ne.mpr e).symm
theorem Vd(a b:Str):decide ((Sum.inr a:Key)=Sum.inr b)=decide (a=b):=by
 by_cases e:a=b
 ·subst e;simp
 ·have h:¬(Sum.inr a:Key)=Sum.inr b:=λq=>e (Sum.inr.inj q)
  rw[decide_eq_false h,decide_eq_false e]
theorem Ve(a:Int)(b:Str):decide ((Sum.inl a:Key)=Sum.inr b)=false:=decide_eq_false (λq=>nomatch q)
theorem Vf(a:Str)(b:Int):decide ((Sum.inr a:Key)=Sum.inl b)=false:=decide_eq_false (λq=>nomatch q)
noncomputable def fu(prog:Program)(w:World):PySem.KeyKind prog w Key where
 is:=Gg
 hash:=aef w
 inj:=λv a b ha hb=>by
  rcases dm ha with⟨i,t,rfl,rfl⟩ | ⟨x,t,rfl,rfl⟩
  ·rcases dm hb with⟨j,u,rfl,e⟩ | ⟨y,u,rfl,e⟩
   ·injection e with e1 _;rw[e1]
   ·exact nomatch e
  ·rcases dm hb with⟨j,u,rfl,e⟩ | ⟨y,u,rfl,e⟩
   ·exact nomatch e
   ·injection e with e1 _;rw[e1]
 byValue:=λk v h=>by
  rcases dm h with⟨i,t,rfl,rfl⟩ | ⟨x,t,rfl,rfl⟩<;>rfl
 pyHash:=λhv h=>by
  rcases dm hv with⟨i,t,rfl,rfl⟩ | ⟨x,t,rfl,rfl⟩
  ·exact wpAny_pyHash_int h
  ·exact wpAny_pyHash_str h
 eqBool:=λhu hv h=>by
  rcases dm hu with⟨i,t,rfl,rfl⟩ | ⟨x,t,rfl,rfl⟩
  ·rcases dm hv with⟨j,u,rfl,rfl⟩ | ⟨y,u,rfl,rfl⟩
   ·rw[Vc]at h;exact wpAny_eqBool_int h
   ·rw[Ve]at h;exact IY i t y u _ _ _ _ h
  ·rcases dm hv with⟨j,u,rfl,rfl⟩ | ⟨y,u,rfl,rfl⟩
   ·rw[Vf]at h;exact IZ x t j u _ _ _ _ h
   ·rw[Vd]at h;exact wpAny_eqBool_str h
 «strs»:=λk x t v h=>by
  rcases dm h with⟨i,u,rfl,e⟩ | ⟨y,u,rfl,e⟩
  ·exact nomatch e
  ·injection e with e1 _
   subst e1
   cases v<;>rfl
theorem Ci(prog:Program)(w:World)(i:Int)(t:Tok):(fu prog w).is (.inl i) (.int i t)=true:=Hx i t
theorem Cj(prog:Program)(w:World)(x:Str)(t:Tok):(fu prog w).is (.inr x) (.str x t)=true:=Hy x t
inductive V where
 |non | bl (b:Bool) | int (i:Int) | str (x:Str) | byt (b:Array UInt8) | flt (b:UInt64) | ref (a:Addr) | ty (n:String)
 deriving DecidableEq
noncomputable def RelV:V->Value->Prop
 |.non,u=>u=Value.none
 |.bl b,u=>u=Value.bool b
 |.int i,u=>∃t,u=Value.int i t
 |.str x,u=>∃t,u=Value.str x t
 |.byt b,u=>∃t,u=Value.bytes b t
 |.flt b,u=>∃t,u=Value.float b t
 |.ref a,u=>u=Value.ref a
 |.ty n,u=>u=Value.type n
noncomputable abbrev c9:List V->List Value->Prop:=Paired RelV
theorem c9.length{xs:List V}{us:List Value}(r:c9 xs us):xs.length=us.length:=FR r
theorem c9.get:∀{xs:List V} {us:List Value} {i:Nat} {x:V},c9 xs us->xs[i]? = some x->∃u,us[i]? = some u/\RelV x u
 |_,_,_,_,.nil,e=>by simp at e
 |_,_,0,_,.cons r _,e=>by simp at e;subst e;exact⟨_,rfl,r⟩
 |_,_,i+1,x,.cons _ t,e=>by
  obtain⟨u,h1,h2⟩:=c9.get (i:=i) (x:=x) t (by simpa using e)
  exact⟨u,by simpa using h1,h2⟩
theorem c9.set{x:V}{u:Value}(r:RelV x u):∀{xs:List V} {us:List Value} (i:Nat),c9 xs us->c9 (xs.set i x) (us.set i u)
 |_,_,_,.nil=>.nil
 |_,_,0,.cons _ t=>.cons r t
 |_,_,i+1,.cons q t=>.cons q (c9.set r i t)
theorem c9.append:∀{xs ys:List V} {us ws:List Value},c9 xs us->c9 ys ws->c9 (xs++ys) (us++ws)
 |_,_,_,_,.nil,s=>s
 |_,_,_,_,.cons r t,s=>.cons r (c9.append t s)
theorem c9.take:∀{xs:List V} {us:List Value} (n:Nat),c9 xs us->c9 (xs.take n) (us.take n)
 |_,_,0,_=>.nil
 |_,_,_+1,.nil=>.nil
 |_,_,n+1,.cons r t=>.cons r (c9.take n t)
theorem c9.drop:∀{xs:List V} {us:List Value} (n:Nat),c9 xs us->c9 (xs.drop n) (us.drop n)
 |_,_,0,r=>r
 |_,_,_+1,.nil=>.nil
 |_,_,n+1,.cons _ t=>c9.drop n t
noncomputable def Gh:Option V->Option Value->Prop
 |some v,some u=>RelV v u
 |none,none=>True
 |_,_=>False
noncomputable def KV{κ:Type}:List (κ×V)->List (κ×Value)->Prop:=Paired fun(p:κ×V) (q:κ×Value)=>p.1=q.1/\RelV p.2 q.2
noncomputable def kV:Key->V
 |.inl i=>.int i
 |.inr x=>.str x
inductive HO where
 /-- a list -/
 |lst (xs:List V)
 /-- a tuple (never changes) -/
 |tup (xs:List V)
 /-- a dict whose keys are ints and texts;one whose keys are tuples of ints and texts (the empty one is both) -/
 |dK (kvs:List (Key×V)) | dT (kvs:List (List Key×V))
 /-- a set of ints: its members,its size -/
 |set (S:Int->Bool) (n:Nat)
 /-- an instance of the class at C,its dict at dx,its attributes -/
 |ins (C dx:Addr) (fs:List (Str×V))
 /-- the dict of the instance at x -/
 |own (x:Addr)
 /-- the dict of an exception -/
 |xd (fs:List (Str×V))
 /-- a bound method,f of x -/
 |met (f x:Addr)
 /-- a range object lo,lo+1,.. below hi -/
 |rng (lo hi:Int)
 /-- a thing that is known to the object (the script;a dict while a loop walks it): read,never written while it is so -/
 |frz (o:Obj) (u:HO)
 /-- a code object's table -/
 |tbl (ps:Array Value)
 /-- any other thing,by what is true of its one object (a def of one's own: SetO a S n:=HO.ext λh=>..) -/
 |ext (φ:Heap->Prop)
noncomputable abbrev Hp:=Addr->Option HO
noncomputable def upd(H:Hp)(a:Addr)(o:HO):Hp:=λb=>if b=a then some o else H b
theorem bg{H:Hp}{a:Addr}{o:HO}:upd H a o a=some o:=by unfold upd;rw[if_pos rfl]
theorem a9{H:Hp}{a b:Addr}{o:HO}(h:b≠a):upd H a o b=H b:=by unfold upd;rw[if_neg h]
theorem Ru{H:Hp}{a:Addr}{o u:HO}:upd (upd H a o) a u=upd H a u:=by
 funext b;unfold upd;split<;>rfl
theorem ug{H:Hp}{a b:Addr}{o u:HO}(h:H a=some o)(h':H b=some u)(d:o≠u):a≠b:=by
 intro e;subst e;rw[h]at h';exact d (CB h')
theorem cx{H:Hp}{a b:Addr}{o:HO}(h:H a=some o)(h':H b=none):a≠b:=by
 intro e;subst e;rw[h]at h';cases h'
noncomputable def ua(h:Heap)(a:Addr)(items:Array Value):Prop:=∃o,h.get? a=some o/\o.cls=.type "tuple"/\o.dict=none/\∃n,o.data=.seq items n
theorem ua.tup{h:Heap}{a:Addr}{items:Array Value}(x:ua h a items):IsTup h a items:=let ⟨o,e,c,_,d⟩:=x;⟨o,e,c,d⟩
theorem ua.new(h:Heap)(items:Array Value):ua (h.push {cls:=.type "tuple",data:=.seq items}) h.objs.size items:=⟨_,AZ _ rfl,rfl,rfl,_,rfl⟩
section
variable(P:Program)(w:World)
noncomputable def jk(H:Hp)(h:Heap)(a:Addr):HO->Prop
 |.lst xs=>xs.length<=sizeLine/\∃(its:List Value) (n:Nat),c9 xs its/\h.get? a=some {cls:=.type "list",data:=.seq its.toArray n}
 |.tup xs=>xs.length<=sizeLine/\∃its:List Value,c9 xs its/\ua h a its.toArray
 |.dK kvs=>kvs.length<=sizeLine/\(a==sysModules)=false/\∃vs,KV kvs vs/\h.DictOf (fu P w) a vs
 |.dT kvs=>kvs.length<=sizeLine/\(a==sysModules)=false/\∃xs:List (List Key×Addr×Value),
   Paired (fun(p:List Key×V) (q:List Key×Addr×Value)=>p.1=q.1/\H q.2.1=some (.tup (p.1.map kV))/\RelV p.2 q.2.2) kvs xs /\
   ∃o es ep,h.get? a=some o/\o.ExactDict/\o.data=.dict es ep/\es.toList=xs.map (entryOfKey (tupleKind (fu P w)))/\(xs.map (·.1)).Nodup
 |.set S n=>h.SetOf (intKind P w) a S n
 |.ins C dx fs=>H dx=some (.own a)/\fs.length<=1000/\dx≠a/\h.get? a=some (PySem.W.instObj C dx) /\
   ∃mA,h.Ns1 dx mA/\(∀f,Gh (fs.lookup f) (mA f))/\PySem.Within mA (fs.map (·.1))
 |.own _=>∃o,h.get? a=some o
 |.xd fs=>∃mA,h.Ns1 a mA/\∀f,Gh (fs.lookup f) (mA f)
 |.rng lo hi=>∃t u v,h.get? a=some {cls:=.type "range",data:=.fields #[.int lo t,.int hi u,.int 1 v]}
 |.frz o u=>h.get? a=some o/\jk H h a u
 |.tbl ps=>h.get? a=some {cls:=.none,data:=.fields ps}
 |.met f x=>h.get? a=some (PySem.W.methodObj (.ref f) (.ref x))
 |.ext φ=>φ h/\(∃o,h.get? a=some o)/\∀h1 h2:Heap,φ h1->(∀o,h1.get? a=some o->h2.get? a=some o)->φ h2
noncomputable def HOk(H:Hp)(h:Heap):Prop:=∀a o,H a=some o->jk P w H h a o
end
section
variable{P:Program}{w:World}{H H' : Hp}{h h' : Heap}{a:Addr}{o:HO}
theorem jk.lt(x:jk P w H h a o):a<h.objs.size:=by
 cases o with
 |lst xs=>obtain⟨_,_,_,_,e⟩:=x;exact AR e
 |tup xs=>obtain⟨_,_,_,p⟩:=x;exact p.tup.lt
 |dK kvs=>obtain⟨_,_,_,_,o,_,_,e,_⟩:=x;exact AR e
 |dT kvs=>obtain⟨_,_,_,_,o,_,_,e,_⟩:=x;exact AR e
 |set S n=>obtain⟨o,_,_,_,e,_⟩:=x;exact AR e
 |ins C dx fs=>obtain⟨_,_,_,e,_⟩:=x;exact AR e
 |own y=>obtain⟨_,e⟩:=x;exact AR e
 |xd fs=>obtain⟨_,⟨_,_,_,e,_⟩,_⟩:=x;exact AR e
 |rng lo hi=>obtain⟨_,_,_,e⟩:=x;exact AR e
 |frz ob u=>obtain⟨e,_⟩:=x;exact AR e
 |tbl ps=>exact AR (show h.get? a=some _ from x)
 |met f y=>exact AR (show h.get? a=some _ from x)
 |ext φ=>obtain⟨_,⟨_,e⟩,_⟩:=x;exact AR e
theorem Paired.mapP{α β:Type}{F G:α->β->Prop}:∀{l₁:List α} {l₂:List β},Paired F l₁ l₂->(∀a b,F a b->G a b)->Paired G l₁ l₂
 |_,_,.nil,_=>.nil
 |_,_,.cons r t,f=>.cons (f _ _ r) (Paired.mapP t f)
theorem jk.stay (x:jk P w H h a o) (k:∀b u,(b=a\/H b=some (.own a))->h.get? b=some u->h'.get? b=some u)
  (ho:∀b,H b=some (.own a)->H' b=some (.own a)) (ht:∀b xs,H b=some (.tup xs)->H' b=some (.tup xs)):jk P w H' h' a o:=by
 induction o with
 |lst xs=>obtain⟨z,its,n,r,e⟩:=x;exact⟨z,its,n,r,k _ _ (.inl rfl) e⟩
 |tup xs=>obtain⟨z,its,r,ob,e,c⟩:=x;exact⟨z,its,r,ob,k _ _ (.inl rfl) e,c⟩
 |dK kvs=>obtain⟨z,y,vs,r,ob,es,ep,e,c⟩:=x;exact⟨z,y,vs,r,ob,es,ep,k _ _ (.inl rfl) e,c⟩
 |dT kvs =>
  obtain⟨z,y,xs,r,ob,es,ep,e,c⟩:=x
  exact⟨z,y,xs,Paired.mapP r λp q z=>⟨z.1,ht _ _ z.2.1,z.2.2⟩,ob,es,ep,k _ _ (.inl rfl) e,c⟩
 |set S n=>obtain⟨ob,es,ep,t,e,c⟩:=x;exact⟨ob,es,ep,t,k _ _ (.inl rfl) e,c⟩
 |ins C dx fs =>
  obtain⟨d,z,ne,e,mA,⟨od,es,ep,e2,c⟩,r⟩:=x
  exact⟨ho _ d,z,ne,k _ _ (.inl rfl) e,mA,⟨od,es,ep,k _ _ (.inr d) e2,c⟩,r⟩
 |own y=>obtain⟨ob,e⟩:=x;exact⟨ob,k _ _ (.inl rfl) e⟩
 |xd fs=>obtain⟨mA,⟨od,es,ep,e,c⟩,r⟩:=x;exact⟨mA,⟨od,es,ep,k _ _ (.inl rfl) e,c⟩,r⟩
 |rng lo hi=>obtain⟨t,u,v,e⟩:=x;exact⟨t,u,v,k _ _ (.inl rfl) e⟩
 |frz ob u ih=>obtain⟨e,q⟩:=x;exact⟨k _ _ (.inl rfl) e,ih q⟩
 |tbl ps =>
  have e:h.get? a=some {cls:=.none,data:=.fields ps}:=x
  show h'.get? a=some {cls:=.none,data:=.fields ps}
  exact k a _ (.inl rfl) e
 |met f y =>
  have e:h.get? a=some (PySem.W.methodObj (.ref f) (.ref y)):=x
  show h'.get? a=some (PySem.W.methodObj (.ref f) (.ref y))
  exact k a _ (.inl rfl) e
 |ext φ=>obtain⟨p,⟨o,e⟩,st⟩:=x;exact⟨st _ _ p λo q=>k _ _ (.inl rfl) q,⟨o,k _ _ (.inl rfl) e⟩,st⟩
theorem HOk.lt(x:HOk P w H h)(e:H a=some o):a<h.objs.size:=(x a o e).lt
theorem HOk.fresh(x:HOk P w H h)(e:h.objs.size<=a):H a=none:=by
 cases q:H a with
 |none=>rfl
 |some u=>exact absurd (AT (x.lt q) e) (DO _)
theorem HOk.kept(x:HOk P w H h)(k:∀b u,h.get? b=some u->h'.get? b=some u):HOk P w H h':=λa o e =>
 (x a o e).stay (λb u _ q=>k b u q) (λ_ q=>q) λ_ _ q=>q
theorem HOk.laid(x:HOk P w H h)(k:∀b u,h.get? b=some u->h'.get? b=some u)(hp:h.objs.size<=a)(new:jk P w (upd H a o) h' a o):HOk P w (upd H a o) h':=λb u e=>by
 have hn:=x.fresh hp
 by_cases hb:b=a
 ·subst hb;rw[bg]at e;cases e;exact new
 ·rw[a9 hb]at e
  exact(x b u e).stay (λc v _ q=>k c v q) (λc q=>by rw[a9 (cx q hn)];exact q) λc xs q=>by rw[a9 (cx q hn)];exact q
end
noncomputable def Rd(H:Hp)(a:Addr)(u:HO):Prop:=H a=some u\/∃o,H a=some (.frz o u)
theorem Rd.ok{P:Program}{w:World}{H:Hp}{h:Heap}{a:Addr}{u:HO}(r:Rd H a u)(x:HOk P w H h):jk P w H h a u:=by
 rcases r with r | ⟨o,r⟩
 ·exact x a u r
 ·obtain⟨_,q⟩:=x a _ r
  exact q
noncomputable def Mut:Option HO->Prop
 |some (.lst _)=>True
 |some (.dK _)=>True
 |some (.dT _)=>True
 |some (.set _ _)=>True
 |some (.ins _ _ _)=>True
 |some (.ext _)=>True
 |_=>False
section
variable{P:Program}{w:World}{H:Hp}{h h' : Heap}{x e:Addr}{o' : HO}
theorem HOk.write (ok:HOk P w H h) (mu:Mut (H x)) (he:e=x\/H e=some (.own x)) (k:∀b u,b≠e->h.get? b=some u->h'.get? b=some u) (heo:∃u,h'.get? e=some u)
  (new:jk P w (upd H x o') h' x o'):HOk P w (upd H x o') h':=λb u q=>by
 have nown:∀c y,H c=some (.own y)->c≠x:=λc y r z=>by subst z;rw[r]at mu;exact mu
 have ntup:∀c xs,H c=some (.tup xs)->c≠x:=λc xs r z=>by subst z;rw[r]at mu;exact mu
 by_cases hb:b=x
 ·subst hb;rw[bg]at q;cases q;exact new
 ·rw[a9 hb]at q
  by_cases hbe:b=e
  ·have q':H b=some (.own x):=by
    rcases he with z | z
    ·exact absurd (hbe.trans z) hb
    ·rw[hbe];exact z
   rw[q]at q';cases q'
   obtain⟨v,hv⟩:=heo
   exact⟨v,by rw[hbe];exact hv⟩
  ·refine(ok b u q).stay (λc v hc r=>k c v ?_ r) (λc r=>by rw[a9 (nown c b r)];exact r) λc xs r=>by rw[a9 (ntup c xs r)];exact r
   rcases hc with rfl | hc
   ·exact hbe
   ·rintro rfl
    rcases he with z | z
    ·exact nown c b hc z
    ·rw[hc]at z;cases z;exact hb rfl
end
structure Un (fs ex:List Addr) (H H':Hp) (h h':Heap):Prop where
 keep:∀b o,h.get? b=some o->H b=none->b∉fs->b∉ex->h'.get? b=some o
 slot:∀b o,h.get? b=some o->H b=none->b∈fs->b∉ex->∃sl,h'.get? b=some {o with slots:=sl}
 free:∀b o,h.get? b=some o->H b=none->b∉ex->H' b=none
 there:∀b o,h.get? b=some o->b∉ex->∃o',h'.get? b=some o'
 tups:∀b xs,H b=some (.tup xs)->H' b=some (.tup xs)
 frzs:∀b o u,H b=some (.frz o u)->H' b=some (.frz o u)
 tbls:∀b ps,H b=some (.tbl ps)->∃more,H' b=some (.tbl (ps++more))
section
variable{fs fs' ex ex' : List Addr}{H H1 H2:Hp}{h h1 h2 h' : Heap}{a x e:Addr}{o:HO}
theorem Un.any(u:Un fs ex H H1 h h1){b:Addr}{ob:Obj}(q:h.get? b=some ob)(n:H b=none)(hx:b∉ex):∃sl,h1.get? b=some {ob with slots:=sl}:=by
 by_cases hb:b∈fs
 ·exact u.slot b ob q n hb hx
 ·exact⟨ob.slots,u.keep b ob q n hb hx⟩
theorem Un.kept(k:∀b u,h.get? b=some u->h'.get? b=some u):Un fs ex H H h h' :=
 ⟨λb ob q _ _ _=>k b ob q,λb ob q _ _ _=>⟨ob.slots,k b ob q⟩,λ_ _ _ n _=>n,λb ob q _=>⟨ob,k b ob q⟩,λ_ _ q=>q,λ_ _ _ q=>q,λ_ ps q=>⟨#[],by rw[q];simp⟩⟩
theorem Un.refl:Un fs ex H H h h:=Un.kept λ_ _ q=>q
theorem Un.laid(k:∀b u,h.get? b=some u->h'.get? b=some u)(hp:h.objs.size<=a)(hn:H a=none):Un fs ex H (upd H a o) h h' where
 keep:=λb u q _ _ _=>k b u q
 slot:=λb u q _ _ _=>⟨u.slots,k b u q⟩
 free:=λb u q n _=>by rw[a9 (BJ (AT (AR q) hp))];exact n
 there:=λb u q _=>⟨u,k b u q⟩
 tups:=λb xs q=>by rw[a9 (cx q hn)];exact q
 frzs:=λb u xs q=>by rw[a9 (cx q hn)];exact q
 tbls:=λb ps q=>⟨#[],by rw[a9 (cx q hn),q];simp⟩
theorem Un.write(mu:Mut (H x))(he:e=x\/H e=some (.own x))(k:∀b u,b≠e->h.get? b=some u->h'.get? b=some u)(heo:∃u,h'.get? e=some u):Un fs ex H (upd H x o) h h':=by
 have hx:∀b,H b=none->b≠x:=λb n z=>by subst z;rw[n]at mu;exact mu
 have hb:∀b,H b=none->b≠e:=λb n z=>by
  subst z
  rcases he with r | r
  ·exact hx b n r
  ·rw[n]at r;cases r
 have hm:∀b u,H b=some u->¬Mut (some u)->b≠x:=λb u q nm z=>by subst z;rw[q]at mu;exact nm mu
 refine⟨λb u q n _ _=>k b u (hb b n) q,λb u q n _ _=>⟨u.slots,k b u (hb b n) q⟩,λb u q n _=>by rw[a9 (hx b n)];exact n,λb u q _=>?_,
  λb xs q=>by rw[a9 (hm b _ q λz=>z)];exact q,λb u xs q=>by rw[a9 (hm b _ q λz=>z)];exact q,λb ps q=>⟨#[],by rw[a9 (hm b _ q λz=>z),q];simp⟩⟩
 by_cases hbe:b=e
 ·subst hbe;exact heo
 ·exact⟨u,k b u hbe q⟩
end
noncomputable def trk(h:Heap)(H:Hp):List Addr:=(List.range h.objs.size).filter λa=>(H a).isSome
noncomputable def Nc(h:Heap)(H:Hp):Heap:=PySem.W.hideAll h (trk h H)
theorem Hz(h:Heap)(H:Hp):(Nc h H).objs.size=h.objs.size:=PySem.W.hideAll_size _ _
theorem Nd{h:Heap}{H:Hp}{b:Addr}{o:Obj}(e:h.get? b=some o)(n:H b=none):(Nc h H).get? b=some o :=
 PySem.W.hideAll_get _ e λhm=>by
  have q:(H b).isSome=true:=(FN.mp hm).2
  rw[n]at q;simp at q
theorem Rv{h:Heap}{H:Hp}{b:Addr}{o:Obj}(e:(Nc h H).get? b=some o):h.get? b=some o/\H b=none:=by
 have e':h.get? b=some o:=PySem.W.of_hideAll (trk h H) e
 refine⟨e',?_⟩
 cases q:H b with
 |none=>rfl
 |some x =>
  have hm:b∈trk h H:=FN.mpr ⟨List.mem_range.mpr (AR e'),by simp[q]⟩
  have z:(Nc h H).get? b=none:=PySem.W.hideAll_none (trk h H) hm
  rw[z]at e;cases e
noncomputable def Rw(g h:Heap)(L:Addr):List (Addr×Obj):=(List.range h.objs.size).filterMap λa=>if a=L\/(g.get? a).isSome=true then none else(h.get? a).map λo=>(a,o)
noncomputable def rest(g h:Heap)(L d:Addr):List (Addr×Obj):=(Rw g h L).filter λp=>decide (p.1≠d)
structure Mod (K:PySem.W.Frag) (mg:Str->Option Value) (base:Heap):Prop where
 kin:K.In base
 glob:base.Ns mainGlobals mg
 blt:∃mb,base.Ns builtinsNs mb/\∀x:Str,x≠"__name__"->mb x=bootBuiltins x
 nolimit:base.NoLimit
structure Cx where
 prog:Program
 w:World
 K:PySem.W.Frag
 mg:Str->Option Value
 base:Heap
 A:Around
 N:List Str
 s₀:Shared
 H₀:Hp
 env:Env
 outer:List Env
 stack:List Env
 ex:List Addr
 fn:Str->Bool
 calm:Bool
 pn:List (Addr×Obj)
 xe:Value->Shared->Prop
noncomputable def frs(l:List Env):List Addr:=l.filterMap (·.frame)
noncomputable abbrev Cx.fs(X:Cx):List Addr:=frs X.outer
noncomputable def Vis(sc:Scope)(x:Str):Prop:=sc.names.lookup x=some .local\/sc.names.lookup x=some .cell\/sc.names.lookup x=some .free
noncomputable def Loc(sc:Scope)(x:Str):Prop:=sc.names.lookup x=some .local\/sc.names.lookup x=some .cell
noncomputable def Look(env:Env)(h:Heap)(m:Str->Option Value)(x:Str)(u:Value):Prop :=
 (env.kindOf x=some .local/\m x=some u)\/((env.kindOf x=some .cell\/env.kindOf x=some .free)/\∃c,env.cells.lookup x=some c/\h.IsCell c (some u))
structure Cx.Ok (X:Cx):Prop where
 mod:Mod X.K X.mg X.base
 kind:X.env.scope.kind=.function
 glob:X.env.globals=mainGlobals
 blt:X.env.builtins=builtinsNs
 above:X.s₀.heap.objs.size<=X.env.locals
 inj:∀x y c,X.env.cells.lookup x=some c->X.env.cells.lookup y=some c->x=y
 has:∀x,(X.env.kindOf x=some .cell\/X.env.kindOf x=some .free)->∃c,X.env.cells.lookup x=some c
 cab:∀x c,X.fn x=true->X.env.cells.lookup x=some c->X.s₀.heap.objs.size<=c
 hd:X.calm=true->X.A.handled=none
 frames:X.A.frames=some X.stack
 stk:X.stack=X.outer\/(X.stack=X.env::X.outer/\X.env.frame=some X.env.locals)
 exf:∀b∈X.ex,b≠X.env.locals/\∀x c,X.env.cells.lookup x=some c->c≠b
 bs:∀b o,X.base.get? b=some o->X.s₀.heap.get? b=some o/\X.H₀ b=none
 bsz:X.base.objs.size<=X.s₀.heap.objs.size
 noex:∀b o,X.base.get? b=some o->b∉X.ex
 exfs:∀b∈X.ex,b∉X.fs
 funs:X.s₀.heap.FunFrames X.base X.outer
 frf:∀b∈X.fs,X.H₀ b=none
structure Inv (X:Cx) (pins:List (Addr×Obj)) (σ:List (Option V)) (H:Hp) (s:Shared):Prop where
 ok:X.Ok
 os:s.os=X.s₀.os
 bare:AllBare s.gens
 base:Un X.fs X.ex X.H₀ H X.s₀.heap s.heap
 loc:∃m,s.heap.Ns X.env.locals m/\∀(i:Nat) (x:Str) (v:V),X.N[i]? = some x->σ[i]? = some (some v)->Vis X.env.scope x->∃u,RelV v u/\Look X.env s.heap m x u
 cell:∀x c,X.env.cells.lookup x=some c->∃v,s.heap.IsCell c v
 free:H X.env.locals=none
 freeC:∀x c,X.env.cells.lookup x=some c->H c=none
 pin:∀p∈X.pn++pins,s.heap.get? p.1=some p.2/\H p.1=none/\p.1≠X.env.locals/\p.1∉X.fs/\∀v,p.2.data≠.cell v
 hok:HOk X.prog X.w H s.heap
 len:σ.length=X.N.length
section
variable{X:Cx}{pins:List (Addr × Obj)}{σ:List (Option V)}{H H' : Hp}{s:Shared}{h' : Heap}
theorem Cx.Ok.nofr(ok:X.Ok){b:Addr}{o:Obj}(e:X.base.get? b=some o):b∉X.fs:=λhb=>by
 have:=(ok.funs.mem hb).1
 rw[e]at this;cases this
theorem Inv.bs(I:Inv X pins σ H s):∀b o,X.base.get? b=some o->s.heap.get? b=some o/\H b=none:=λb o e =>
 ⟨I.base.keep b o (I.ok.bs b o e).1 (I.ok.bs b o e).2 (I.ok.nofr e) (I.ok.noex b o e),I.base.free b o (I.ok.bs b o e).1 (I.ok.bs b o e).2 (I.ok.noex b o e)⟩
theorem Inv.bk(I:Inv X pins σ H s):∀b o,X.base.get? b=some o->s.heap.get? b=some o:=λb o e=>(I.bs b o e).1
theorem Inv.mod(I:Inv X pins σ H s):Mod X.K X.mg X.base:=I.ok.mod
theorem Inv.kIn(I:Inv X pins σ H s):X.K.In s.heap:=I.ok.mod.kin.keeps I.bk
theorem Inv.fr(I:Inv X pins σ H s):∃m,Fr X.base X.env.locals s.heap m :=
 let ⟨m,hn,_⟩:=I.loc
 ⟨m,hn,I.bk,BC I.ok.bsz I.ok.above⟩
theorem Inv.lt(I:Inv X pins σ H s):X.env.locals<s.heap.objs.size:=let ⟨_,hn,_⟩:=I.loc;hn.lt
theorem Inv.sz(I:Inv X pins σ H s):X.s₀.heap.objs.size<=s.heap.objs.size:=BC I.ok.above (CP I.lt)
theorem Inv.nofs(I:Inv X pins σ H s){a:Addr}(h:s.heap.objs.size<=a):a∉X.fs:=λhb=>by
 obtain⟨_,o,ho,_⟩:=I.ok.funs.mem hb
 exact absurd (AT (AR ho) (BC I.sz h)) (DO _)
theorem Inv.cne(I:Inv X pins σ H s):∀x c,X.env.cells.lookup x=some c->c≠X.env.locals:=λx c e z=>by
 obtain⟨v,o,ho,hd⟩:=I.cell x c e
 obtain⟨m,⟨o',es,ep,ho',hd',_⟩,_⟩:=I.loc
 rw[z,ho']at ho;cases ho;rw[hd']at hd;cases hd
theorem Inv.funs(I:Inv X pins σ H s):s.heap.FunFrames X.base X.outer:=by
 have all:∀(l:List Env),(∀b∈frs l,b∈X.fs)->X.s₀.heap.FunFrames X.base l->s.heap.FunFrames X.base l:=by
  intro l
  induction l with
  |nil=>intro _ _;trivial
  |cons env r ih =>
   intro hs hl
   obtain⟨hk,⟨L,o,hf,hn,ho,hd⟩,hr⟩:=hl
   have hL:L∈X.fs:=hs L (by unfold frs;rw[GZ,hf];exact BI)
   obtain⟨sl,e⟩:=I.base.slot L o ho (I.ok.frf L hL) hL λz=>I.ok.exfs L z hL
   exact⟨hk,⟨L,_,hf,hn,e,hd⟩,ih (λb hb=>hs b (by unfold frs;rw[GZ,hf];exact AU _ hb)) hr⟩
 exact all X.outer (λ_ hb=>hb) I.ok.funs
theorem Inv.stack(I:Inv X pins σ H s):s.heap.FunFrames X.base X.stack:=by
 rcases I.ok.stk with e | ⟨e,hf⟩
 ·rw[e];exact I.funs
 ·rw[e]
  obtain⟨m,hn,_⟩:=I.loc
  refine .cons (by rw[I.ok.kind];decide) hf hn ?_ I.funs
  exact Heap.get?_none_of_le (BC I.ok.bsz I.ok.above)
theorem Inv.stkSub(I:Inv X pins σ H s):∀b∈frs X.stack,b∈X.env.locals::X.fs:=λb hb=>by
 rcases I.ok.stk with e | ⟨e,hf⟩
 ·rw[e]at hb;exact AU _ hb
 ·rw[e]at hb
  unfold frs at hb
  rw[GZ,hf]at hb
  exact hb
theorem Inv.stkFree(I:Inv X pins σ H s):∀b∈frs X.stack,H b=none:=λb hb=>by
 rcases AS.mp (I.stkSub b hb)with e | hb
 ·rw[e];exact I.free
 ·obtain⟨_,o,ho,_⟩:=I.ok.funs.mem hb
  exact I.base.free b o ho (I.ok.frf b hb) λz=>I.ok.exfs b z hb
theorem Inv.step {g':Array GenState} {t':Nat} {d':Drawn} {ch:List Addr} (I:Inv X pins σ H s)
  (hch:∀b∈ch,(b∈X.ex\/X.s₀.heap.objs.size<=b)/\b≠X.env.locals/\(∀x c,X.env.cells.lookup x=some c->c≠b)/\∀p∈X.pn++pins,p.1≠b)
  (keep:∀b o,b≠X.env.locals->b∉X.fs->b∉ch->s.heap.get? b=some o->H b=none->h'.get? b=some o)
  (slot:∀b o,b≠X.env.locals->b∈X.fs->b∉ch->s.heap.get? b=some o->H b=none->∃sl,h'.get? b=some {o with slots:=sl}) (free:∀b o,b∉ch->s.heap.get? b=some o->H b=none->H' b=none)
  (there:∀b o,b∉ch->s.heap.get? b=some o->∃o',h'.get? b=some o')
  (tups:∀b xs,H b=some (.tup xs)->H' b=some (.tup xs)) (frzs:∀b o u,H b=some (.frz o u)->H' b=some (.frz o u)) (tbls:∀b ps,H b=some (.tbl ps)->∃more,H' b=some (.tbl (ps++more)))
  (ns:∀m,s.heap.Ns X.env.locals m->h'.Ns X.env.locals m) (hok:HOk X.prog X.w H' h') (hg:AllBare g') :
  Inv X pins σ H' {s with heap:=h',gens:=g',drawn:=d',toks:=t'}:=by
 have neL:∀b o,X.s₀.heap.get? b=some o->b≠X.env.locals:=λb o e=>BJ (AT (AR e) I.ok.above)
 have neC:∀b o,X.s₀.heap.get? b=some o->b∉X.ex->b∉ch:=λb o e hx hb=>by
  rcases(hch b hb).1 with z | z
  ·exact hx z
  ·exact absurd (AT (AR e) z) (DO _)
 have cellK:∀x c,X.env.cells.lookup x=some c->∀v,s.heap.IsCell c v->h'.IsCell c v:=λx c e v ⟨o,ho,hd⟩=>by
  have nch:c∉ch:=λz=>(hch c z).2.2.1 x c e rfl
  by_cases hc:c∈X.fs
  ·obtain⟨sl,q⟩:=slot c o (I.cne x c e) hc nch ho (I.freeC x c e)
   exact⟨_,q,hd⟩
  ·exact⟨o,keep c o (I.cne x c e) hc nch ho (I.freeC x c e),hd⟩
 refine⟨I.ok,I.os,hg,⟨λb o e n hb hx=>?_,λb o e n hb hx=>?_,λb o e n hx=>?_,λb o e hx=>?_,λb xs e=>tups b xs (I.base.tups b xs e),λb o xs e=>frzs b o xs (I.base.frzs b o xs e),λb ps e=>?_⟩,?_,λx c e=>?_,?_,λx c e=>?_,λp hp=>?_,hok,I.len⟩
 ·exact keep b o (neL b o e) hb (neC b o e hx) (I.base.keep b o e n hb hx) (I.base.free b o e n hx)
 ·obtain⟨sl,e1⟩:=I.base.slot b o e n hb hx
  obtain⟨sl',e2⟩:=slot b _ (neL b o e) hb (neC b o e hx) e1 (I.base.free b o e n hx)
  exact⟨sl',e2⟩
 ·obtain⟨o',e1⟩:=I.base.there b o e hx
  exact free b o' (neC b o e hx) e1 (I.base.free b o e n hx)
 ·obtain⟨o',e1⟩:=I.base.there b o e hx
  exact there b o' (neC b o e hx) e1
 ·obtain⟨m1,e1⟩:=I.base.tbls b ps e
  obtain⟨m2,e2⟩:=tbls b _ e1
  exact⟨m1++m2,by rw[e2,Array.append_assoc]⟩
 ·obtain⟨m,hn,hl⟩:=I.loc
  refine⟨m,ns m hn,λi x v e1 e2 e3=>?_⟩
  obtain⟨u,r,l⟩:=hl i x v e1 e2 e3
  refine⟨u,r,?_⟩
  rcases l with l | ⟨k,c,e,z⟩
  ·exact .inl l
  ·exact .inr ⟨k,c,e,cellK x c e _ z⟩
 ·obtain⟨v,z⟩:=I.cell x c e
  exact⟨v,cellK x c e v z⟩
 ·obtain⟨m,⟨o,_,_,ho,_⟩,_⟩:=I.loc
  exact free _ o (λz=>(hch _ z).2.1 rfl) ho I.free
 ·obtain⟨v,o,ho,hd⟩:=I.cell x c e
  exact free c o (λz=>(hch c z).2.2.1 x c e rfl) ho (I.freeC x c e)
 ·obtain⟨e,n,ne,nf,d⟩:=I.pin p hp
  have nch:p.1∉ch:=λz=>(hch p.1 z).2.2.2 p hp rfl
  exact⟨keep p.1 p.2 ne nf nch e n,free p.1 p.2 nch e n,ne,nf,d⟩
theorem Inv.un{t':Nat}(I:Inv X pins σ H s)(u:Un X.fs [] H H' s.heap h')(hok:HOk X.prog X.w H' h'):Inv X pins σ H' {s with heap:=h',toks:=t'}:=by
 obtain⟨m,⟨o,es,ep,ho,r⟩,_⟩:=id I.loc
 obtain⟨sl,hL⟩:=u.any ho I.free (by simp)
 exact I.step (g':=s.gens) (d':=s.drawn) (ch:=[]) (λ_ z=>nomatch z) (λb o _ hb _ e n=>u.keep b o e n hb (by simp)) (λb o _ hb _ e n=>u.slot b o e n hb (by simp)) (λb o _ e n=>u.free b o e n (by simp)) (λb o _ e=>u.there b o e (by simp)) u.tups u.frzs u.tbls (λm' hm=>by
  obtain⟨o',es',ep',ho',r'⟩:=hm
  rw[ho]at ho';cases ho'
  exact⟨_,es',ep',hL,r'⟩) hok I.bare
theorem Inv.call {g':Array GenState} {t':Nat} {d':Drawn} {ch:List Addr} (I:Inv X pins σ H s) (u:Un (frs X.stack) ch H H' s.heap h') (hok:HOk X.prog X.w H' h') (hg:AllBare g')
  (hch:∀b∈ch,(b∈X.ex\/X.s₀.heap.objs.size<=b)/\b≠X.env.locals/\(∀x c,X.env.cells.lookup x=some c->c≠b)/\∀p∈X.pn++pins,p.1≠b) :
  Inv X pins σ H' {s with heap:=h',gens:=g',drawn:=d',toks:=t'}:=by
 obtain⟨m,⟨o,es,ep,ho,r⟩,_⟩:=id I.loc
 obtain⟨sl,hL⟩:=u.any ho I.free λz=>(hch _ z).2.1 rfl
 exact I.step (ch:=ch) hch (λb o hL hb hc e n=>u.keep b o e n (λz=>(AS.mp (I.stkSub b z)).elim hL hb) hc) (λb o _ _ hc e n=>u.any e n hc) (λb o hc e n=>u.free b o e n hc) (λb o hc e=>u.there b o e hc) u.tups u.frzs u.tbls (λm' hm=>by
  obtain⟨o',es',ep',ho',r'⟩:=hm
  rw[ho]at ho';cases ho'
  exact⟨_,es',ep',hL,r'⟩) hok hg
theorem Inv.turned {t':Nat} {it:Addr} (I:Inv X pins σ H s) (k:∀b o,b≠it->s.heap.get? b=some o->h'.get? b=some o) (hn:H it=none) (hL:it≠X.env.locals)
  (h1:it∈X.ex\/X.s₀.heap.objs.size<=it) (h2:∀x c,X.env.cells.lookup x=some c->c≠it) (h3:∀p∈X.pn++pins,p.1≠it):Inv X pins σ H {s with heap:=h',toks:=t'}:=by
 have nit:∀b u,H b=some u->b≠it:=λb u e z=>by rw[z,hn]at e;cases e
 refine I.step (g':=s.gens) (d':=s.drawn) (ch:=[it]) (λb hb=>?_) (λb o _ _ hc e _=>k b o (λz=>hc (by simp[z])) e) (λb o _ _ hc e _=>⟨o.slots,k b o (λz=>hc (by simp[z])) e⟩) (λ_ _ _ _ n=>n)
  (λb o hc e=>⟨o,k b o (λz=>hc (by simp[z])) e⟩) (λ_ _ e=>e) (λ_ _ _ e=>e) (λb ps e=>⟨#[],by rw[e];simp⟩) (λm hm=>?_) (λb u e=>?_) I.bare
 ·have e:b=it:=by simpa using hb
  subst e
  exact⟨h1,hL,h2,h3⟩
 ·obtain⟨o,es,ep,ho,r⟩:=hm
  exact⟨o,es,ep,k _ o (Ne.symm hL) ho,r⟩
 ·refine(I.hok b u e).stay (λc v hc q=>k c v ?_ q) (λ_ q=>q) λ_ _ q=>q
  rcases hc with z | z
  ·rw[z];exact nit b u e
  ·exact nit c _ z
theorem Inv.tok(I:Inv X pins σ H s)(t:Nat):Inv X pins σ H {s with toks:=t}:=I.un (h':=s.heap) (t':=t) Un.refl I.hok
theorem Inv.kept{t':Nat}(I:Inv X pins σ H s)(k:∀b u,s.heap.get? b=some u->h'.get? b=some u):Inv X pins σ H {s with heap:=h',toks:=t'}:=I.un (Un.kept k) (I.hok.kept k)
theorem Inv.laid{a:Addr}{o:HO}{t':Nat}(I:Inv X pins σ H s)(k:∀b u,s.heap.get? b=some u->h'.get? b=some u)(hp:s.heap.objs.size<=a)(new:jk X.prog X.w (upd H a o) h' a o) :
  Inv X pins σ (upd H a o) {s with heap:=h',toks:=t'}:=I.un (Un.laid k hp (I.hok.fresh hp)) (I.hok.laid k hp new)
theorem Inv.write {x e:Addr} {o:HO} {t':Nat} (I:Inv X pins σ H s) (mu:Mut (H x)) (he:e=x\/H e=some (.own x)) (k:∀b u,b≠e->s.heap.get? b=some u->h'.get? b=some u) (heo:∃u,h'.get? e=some u)
  (new:jk X.prog X.w (upd H x o) h' x o):Inv X pins σ (upd H x o) {s with heap:=h',toks:=t'}:=I.un (Un.write mu he k heo) (I.hok.write mu he k heo new)
theorem Inv.weak{σ':List (Option V)}(I:Inv X pins σ H s)(hl:σ'.length=σ.length)(w:∀(i:Nat) v,σ'[i]? = some (some v)->σ[i]? = some (some v)):Inv X pins σ' H s :=
 ⟨I.ok,I.os,I.bare,I.base,let ⟨m,hn,hl'⟩:=I.loc;⟨m,hn,λi x v e1 e2 e3=>hl' i x v e1 (w i v e2) e3⟩,I.cell,I.free,I.freeC,I.pin,I.hok,hl.trans I.len⟩
theorem Inv.pins_of{pins':List (Addr×Obj)}(I:Inv X pins σ H s)(h:∀p∈pins',s.heap.get? p.1=some p.2/\H p.1=none/\p.1≠X.env.locals/\p.1∉X.fs/\∀v,p.2.data≠.cell v):Inv X pins' σ H s :=
 ⟨I.ok,I.os,I.bare,I.base,I.loc,I.cell,I.free,I.freeC,λp hp=>(BD.mp hp).elim (λz=>I.pin p (GS _ z)) (h p),I.hok,I.len⟩
theorem Ea{N:List Str}(hN:N.Nodup){i j:Nat}{x:Str}(a:N[i]? = some x)(b:N[j]? = some x):i=j:=by
 obtain⟨h1,e1⟩:=AB.mp a
 obtain⟨h2,e2⟩:=AB.mp b
 exact(List.getElem_inj hN).mp (e1.trans e2.symm)
theorem Ao {M:Model} {A:Around} {E:Value->Shared->Prop} {i:Nat} {x:Str} {v:V} {u:Value} {Q:Unit->Shared->Prop} (I:Inv X pins σ H s) (hN:X.N.Nodup) (hi:X.N[i]? = some x) (hx:Loc X.env.scope x) (r:RelV v u)
  (h:∀s',Inv X pins (σ.set i (some v)) H s'->(∃a,Heap.SameBut a s.heap s'.heap/\(a=X.env.locals\/X.env.cells.lookup x=some a))->Q () s') (hf:X.fn x=true\/X.env.scope.names.lookup x=some .local:=by first | exact .inl rfl | exact .inr rfl | assumption):wpAny M A (storeName X.env x u) Q E s:=by
 obtain⟨m,hn,hl⟩:=id I.loc
 have hcls:(X.env.scope.kind==.class || (X.env.scope.kind==.module&&X.env.locals != X.env.globals))=false:=by rw[I.ok.kind];rfl
 have hiσ:i<σ.length:=by rw[I.len];exact(AB.mp hi).1
 have cne:=I.cne
 have tracked:∀{a:Addr} {h':Heap},(∃o,s.heap.get? a=some o/\H a=none)->Heap.SameBut a s.heap h'->HOk X.prog X.w H h':=λ{a h'} ha hs b ob e=>by
  obtain⟨_,_,hfree⟩:=ha
  refine(I.hok b ob e).stay (λc w' hc q=>(hs.2 c ?_).trans q) (λ_ q=>q) λ_ _ q=>q
  rintro rfl
  rcases hc with rfl | hc
  ·rw[hfree]at e;cases e
  ·rw[hfree]at hc;cases hc
 rcases hx with hk | hk
 ·refine wpAny_storeName_local hk hn (λh' hn' hs=>?_) hcls
  obtain⟨oL,_,_,hoL,_⟩:=id hn
  refine h _ ⟨I.ok,I.os,I.bare,⟨λb o e n hb hx=>?_,λb o e n hb hx=>?_,I.base.free,λb o e hx=>?_,I.base.tups,I.base.frzs,I.base.tbls⟩,⟨_,hn',λj y v' e1 e2 e3=>?_⟩,λy c e=>?_,I.free,I.freeC,λp hp=>?_,tracked ⟨oL,hoL,I.free⟩ hs,by simpa using I.len⟩ ⟨_,hs,.inl rfl⟩
  ·exact(hs.2 b (BJ (AT (AR e) I.ok.above))).trans (I.base.keep b o e n hb hx)
  ·obtain⟨sl,e1⟩:=I.base.slot b o e n hb hx
   exact⟨sl,(hs.2 b (BJ (AT (AR e) I.ok.above))).trans e1⟩
  ·obtain⟨o',e1⟩:=I.base.there b o e hx
   exact⟨o',(hs.2 b (BJ (AT (AR e) I.ok.above))).trans e1⟩
  ·by_cases hj:j=i
   ·subst hj
    rw[hi]at e1;cases e1
    rw[DP hiσ]at e2
    cases e2
    exact⟨u,r,.inl ⟨hk,by simp⟩⟩
   ·rw[CV (Ne.symm hj)]at e2
    obtain⟨u',r',q⟩:=hl j y v' e1 e2 e3
    refine⟨u',r',?_⟩
    rcases q with⟨k,e⟩ | ⟨k,c,e,z⟩
    ·refine .inl ⟨k,?_⟩
     have:y≠x:=λe=>hj (Ea hN e1 (e ▸ hi))
     simp[this,e]
    ·exact .inr ⟨k,c,e,z.sameBut hs (cne y c e)⟩
  ·obtain⟨w',z⟩:=I.cell y c e
   exact⟨w',z.sameBut hs (cne y c e)⟩
  ·obtain⟨e,n,ne,nf,d⟩:=I.pin p hp
   exact⟨(hs.2 p.1 ne).trans e,n,ne,nf,d⟩
 ·have hfn:X.fn x=true:=by
   rcases hf with z | z
   ·exact z
   ·rw[z]at hk;cases hk
  obtain⟨c,hc⟩:=I.ok.has x (.inl hk)
  obtain⟨w',z⟩:=I.cell x c hc
  refine wpAny_storeName_cell I.ok.kind hk hc z (λh' hc' hs=>?_)
  obtain⟨oc,hoc,hocd⟩:=id z
  refine h {s with heap:=h'} ⟨I.ok,I.os,I.bare,⟨λb o e n hb hx=>?_,λb o e n hb hx=>?_,I.base.free,λb o e hx=>?_,I.base.tups,I.base.frzs,I.base.tbls⟩,⟨m,hn.sameBut hs (Ne.symm (cne x c hc)),λj y v' e1 e2 e3=>?_⟩,λy c' e=>?_,I.free,I.freeC,λp hp=>?_,tracked ⟨oc,hoc,I.freeC x c hc⟩ hs,by simpa using I.len⟩ ⟨c,hs,.inr hc⟩
  ·exact(hs.2 b (BJ (AT (AR e) (I.ok.cab x c hfn hc)))).trans (I.base.keep b o e n hb hx)
  ·obtain⟨sl,e1⟩:=I.base.slot b o e n hb hx
   exact⟨sl,(hs.2 b (BJ (AT (AR e) (I.ok.cab x c hfn hc)))).trans e1⟩
  ·obtain⟨o',e1⟩:=I.base.there b o e hx
   exact⟨o',(hs.2 b (BJ (AT (AR e) (I.ok.cab x c hfn hc)))).trans e1⟩
  ·by_cases hj:j=i
   ·subst hj
    rw[hi]at e1;cases e1
    rw[DP hiσ]at e2
    cases e2
    exact⟨u,r,.inr ⟨.inl hk,c,hc,hc'⟩⟩
   ·rw[CV (Ne.symm hj)]at e2
    obtain⟨u',r',q⟩:=hl j y v' e1 e2 e3
    refine⟨u',r',?_⟩
    rcases q with q | ⟨k,c',e,z'⟩
    ·exact .inl q
    ·refine .inr ⟨k,c',e,z'.sameBut hs ?_⟩
     rintro rfl
     exact hj (Ea hN e1 (I.ok.inj _ _ _ e hc ▸ hi))
  ·by_cases hcc:c'=c
   ·subst hcc;exact⟨_,hc'⟩
   ·obtain⟨w2,z2⟩:=I.cell y c' e
    exact⟨w2,z2.sameBut hs hcc⟩
  ·obtain⟨e,n,ne,nf,d⟩:=I.pin p hp
   refine⟨(hs.2 p.1 ?_).trans e,n,ne,nf,d⟩
   intro q
   rw[q,hoc]at e
   have q':oc=p.2:=CB e
   exact d w' (by rw[<-q'];exact hocd)
theorem Eb {M:Model} {A:Around} {E:Value->Shared->Prop} {i:Nat} {x:Str} {v:V} {u:Value} {Q:Unit->Shared->Prop} (I:Inv X pins σ H s) (hN:X.N.Nodup) (hi:X.N[i]? = some x) (hx:Loc X.env.scope x) (r:RelV v u)
  (h:∀s',Inv X pins (σ.set i (some v)) H s'->Q () s') (hf:X.fn x=true\/X.env.scope.names.lookup x=some .local:=by first | exact .inl rfl | exact .inr rfl | assumption):wpAny M A (storeName X.env x u) Q E s :=
 Ao I hN hi hx r (λs' I' _=>h s' I') hf
theorem Inv.call' {s':Shared} {ch:List Addr} (I:Inv X pins σ H s) (ho:s'.os=s.os) (u:Un (frs X.stack) ch H H' s.heap s'.heap) (hok:HOk X.prog X.w H' s'.heap) (hg:AllBare s'.gens)
  (hch:∀b∈ch,(b∈X.ex\/X.s₀.heap.objs.size<=b)/\b≠X.env.locals/\(∀x c,X.env.cells.lookup x=some c->c≠b)/\∀p∈X.pn++pins,p.1≠b):Inv X pins σ H' s':=by
 obtain⟨h',g',d',t',o'⟩:=s'
 have e:o'=s.os:=ho
 subst e
 exact I.call (g':=g') (t':=t') (d':=d') u hok hg hch
end
noncomputable abbrev XK:=Value->Option Addr->Hp->Prop
noncomputable abbrev St:=List (Option V)
noncomputable abbrev VK:=V->Hp->Prop
noncomputable abbrev TE:=St->Hp->VK->Prop
noncomputable abbrev TT:=St->Hp->(Bool->Hp->Prop)->Prop
noncomputable abbrev TA:=St->Hp->(List V->Hp->Prop)->Prop
structure Ends where
 nx:St->Hp->Prop
 rt:VK
 bk:St->Hp->Prop:=λ_ _=>False
 ct:St->Hp->Prop:=λ_ _=>False
noncomputable abbrev TS:=Ends->St->Hp->Prop
noncomputable def EP(X:Cx)(pins:List (Addr×Obj))(σ:St)(Q:VK)(u:Value)(s':Shared):Prop:=∃v H',Inv X pins σ H' s'/\RelV v u/\Q v H'
noncomputable def TP(X:Cx)(pins:List (Addr×Obj))(σ:St)(Q:Bool->Hp->Prop)(b:Bool)(s':Shared):Prop:=∃H',Inv X pins σ H' s'/\Q b H'
noncomputable def AP(X:Cx)(pins:List (Addr×Obj))(σ:St)(Q:List V->Hp->Prop)(us:List Value)(s':Shared):Prop:=∃vs H',Inv X pins σ H' s'/\c9 vs us/\Q vs H'
noncomputable def SP(X:Cx)(pins:List (Addr×Obj))(D:Ends)(f:Flow)(s':Shared):Prop :=
 match f with
 |.next=>∃σ' H',Inv X pins σ' H' s'/\D.nx σ' H'
 |.brk=>∃σ' H',Inv X pins σ' H' s'/\D.bk σ' H'
 |.cont=>∃σ' H',Inv X pins σ' H' s'/\D.ct σ' H'
 |.ret u=>∃v σ' H',Inv X pins σ' H' s'/\RelV v u/\D.rt v H'
noncomputable def PE(X:Cx)(e:Expr)(t:TE):Prop :=
 ∀(pins:List (Addr×Obj)) (s:Shared) (σ:St) (H:Hp) (Q:VK),Inv X pins σ H s->t σ H Q->wpAny (model X.prog X.w) X.A (eval e X.env) (EP X pins σ Q) X.xe s
noncomputable def PT(X:Cx)(e:Expr)(t:TT):Prop :=
 ∀(pins:List (Addr×Obj)) (s:Shared) (σ:St) (H:Hp) (Q:Bool->Hp->Prop),Inv X pins σ H s->t σ H Q->wpAny (model X.prog X.w) X.A (isTrue e X.env (eval e X.env)) (TP X pins σ Q) X.xe s
noncomputable def PW(X:Cx)(e:Expr)(t:TT):Prop :=
 ∀(whole:Sem Value) (pins:List (Addr×Obj)) (s:Shared) (σ:St) (H:Hp) (Q:Bool->Hp->Prop),Inv X pins σ H s->t σ H Q->wpAny (model X.prog X.w) X.A (isTrue e X.env whole) (TP X pins σ Q) X.xe s
theorem PW.pt{X:Cx}{e:Expr}{t:TT}(h:PW X e t):PT X e t:=h _
noncomputable def PA(X:Cx)(es:List Expr)(t:TA):Prop :=
 ∀(pos:Pos) (pins:List (Addr×Obj)) (s:Shared) (σ:St) (H:Hp) (Q:List V->Hp->Prop),Inv X pins σ H s->t σ H Q->wpAny (model X.prog X.w) X.A (spliced (backTo pos (starEach es X.env))) (AP X pins σ Q) X.xe s
noncomputable def PS(X:Cx)(st:Stmt)(t:TS):Prop :=
 ∀(pins:List (Addr×Obj)) (s:Shared) (σ:St) (H:Hp) (D:Ends),Inv X pins σ H s->t D σ H->wpAny (model X.prog X.w) X.A (exec st X.env) (SP X pins D) X.xe s
noncomputable def PSs(X:Cx)(st:List Stmt)(t:TS):Prop :=
 ∀(pins:List (Addr×Obj)) (s:Shared) (σ:St) (H:Hp) (D:Ends),Inv X pins σ H s->t D σ H->wpAny (model X.prog X.w) X.A (execs st X.env) (SP X pins D) X.xe s
theorem thn{α:Type}{t:Sem α}{Q Q':α->Shared->Prop}{M:Model}{A:Around}{E:Value->Shared->Prop}{s:Shared}(h:wpAny M A t Q E s)(hQ:∀a s,Q a s->Q' a s):wpAny M A t Q' E s:=DQ h hQ λ_ _ x=>x
section
variable{X:Cx}
theorem bin {a b:Expr} {ta tb:TE} (ha:PE X a ta) (hb:PE X b tb) {pins:List (Addr×Obj)} {s:Shared} {σ:St} {H:Hp} {R:V->V->Hp->Prop} (I:Inv X pins σ H s) (h:ta σ H λx H1=>tb σ H1 λy H2=>R x y H2)
  {α:Type} {Q:α->Shared->Prop} {f:Value->Value->Sem α}
  (hf:∀v u s2 x y H2,Inv X pins σ H2 s2->RelV x v->RelV y u->R x y H2->wpAny (model X.prog X.w) X.A (f v u) Q X.xe s2) :
  wpAny (model X.prog X.w) X.A (eval a X.env) (λv s₁=>wpAny (model X.prog X.w) X.A (eval b X.env) (λu s₂=>wpAny (model X.prog X.w) X.A (f v u) Q X.xe s₂) X.xe s₁) X.xe s:=by
 refine thn (ha pins s σ H _ I h) λv s1 ⟨x,H1,I1,r1,q1⟩=>?_
 refine thn (hb pins s1 σ H1 _ I1 q1) λu s2 ⟨y,H2,I2,r2,q2⟩=>?_
 exact hf v u s2 x y H2 I2 r1 r2 q2
noncomputable def acv(i:Nat):TE:=λσ H Q=>∃v,σ[i]? = some (some v)/\Q v H
noncomputable def tC(v:V):TE:=λ_ H Q=>Q v H
theorem Ia{i:Nat}{x:Str}{pos:Pos}(hN:X.N[i]? = some x)(hv:Vis X.env.scope x)(hd:(x==("__debug__":Str))=false:=by decide)(hcd:(x==("__classdict__":Str))=false:=by decide):PE X (.Name x pos) (acv i):=by
 intro pins s σ H Q I h
 obtain⟨v,e,h⟩:=h
 obtain⟨m,hn,hl⟩:=I.loc
 obtain⟨u,r,l⟩:=hl i x v hN e hv
 have fin:EP X pins σ Q u s:=⟨v,H,I,r,h⟩
 rcases l with⟨hk,hm⟩ | ⟨hk,c,hc,hcell⟩
 ·exact wpAny_Name (wpAny_loadName_local I.ok.kind hk hn hm fin) hd
 ·rcases hk with hk | hk
  ·exact wpAny_Name (wpAny_loadName_cell I.ok.kind hk hc hcell fin) hd
  ·exact wpAny_Name (wpAny_loadName_free I.ok.kind hk hc hcell fin hcd) hd
theorem Vg{i j pos}:PE X (.Constant (.int i) j pos) (tC (.int i)):=λ_ _ _ H _ I h=>wpAny_Constant_int ⟨.int i,H,I.tok _,⟨_,rfl⟩,h⟩
theorem Z5{b j pos}:PE X (.Constant (.bool b) j pos) (tC (.bl b)):=λ_ _ _ H _ I h=>Constant_bool ⟨.bl b,H,I,rfl,h⟩
theorem Vh{x j pos}:PE X (.Constant (.str x) j pos) (tC (.str x)):=λ_ _ _ H _ I h=>Calls.Constant_str ⟨.str x,H,I.tok _,⟨_,rfl⟩,h⟩
noncomputable def Gl(X:Cx)(x:Str):Prop:=X.env.kindOf x=some .globalImplicit
theorem Ib {E:Value->Shared->Prop} {pins:List (Addr×Obj)} {s:Shared} {σ:St} {H:Hp} {x:Str} {u:Value} {pos:Pos} {Q:Value->Shared->Prop} (I:Inv X pins σ H s) (hg:Gl X x) (hm:X.mg x=some u) (h:Q u s)
  (hd:(x==("__debug__":Str))=false:=by decide):wpAny (model X.prog X.w) X.A (eval (.Name x pos) X.env) Q E s :=
 HC I.ok.kind hg (Calls.loadGlobal_global (by rw[I.ok.glob];exact I.mod.glob.keeps I.bk) hm h) hd
theorem u4 {E:Value->Shared->Prop} {pins:List (Addr×Obj)} {s:Shared} {σ:St} {H:Hp} {x:Str} {u:Value} {pos:Pos} {Q:Value->Shared->Prop} (I:Inv X pins σ H s) (hg:Gl X x) (hm:X.mg x=none) (hv:bootBuiltins x=some u) (h:Q u s)
  (hn:x≠"__name__":=by decide) (hd:(x==("__debug__":Str))=false:=by decide):wpAny (model X.prog X.w) X.A (eval (.Name x pos) X.env) Q E s:=by
 obtain⟨mb,h1,h2⟩:=I.mod.blt
 exact HC I.ok.kind hg (Calls.loadGlobal_builtin (by rw[I.ok.glob];exact I.mod.glob.keeps I.bk) hm (by rw[I.ok.blt];exact h1.keeps I.bk) ((h2 x hn).trans hv) h) hd
theorem Rx{x:Str}{v:V}{u:Value}{pos:Pos}(hg:Gl X x)(hm:X.mg x=some u)(r:RelV v u)(hd:(x==("__debug__":Str))=false:=by decide):PE X (.Name x pos) (tC v) :=
 λ_ _ _ H _ I h=>Ib I hg hm ⟨v,H,I,r,h⟩ hd
theorem Ry{x:Str}{v:V}{u:Value}{pos:Pos}(hg:Gl X x)(hm:X.mg x=none)(hv:bootBuiltins x=some u)(r:RelV v u)(hn:x≠"__name__":=by decide)(hd:(x==("__debug__":Str))=false:=by decide):PE X (.Name x pos) (tC v) :=
 λ_ _ _ H _ I h=>u4 I hg hm hv ⟨v,H,I,r,h⟩ hn hd
variable{a b:Expr}{ta tb:TE}{pos:Pos}
variable{tA tB' : TT}{rest:List Expr}
noncomputable def aeg(t u:TT):TT:=λσ H Q=>t σ H λc H1=>if c=true then u σ H1 Q else Q false H1
noncomputable def tOr(t u:TT):TT:=λσ H Q=>t σ H λc H1=>if c=true then Q true H1 else u σ H1 Q
noncomputable def aeh(t:TT):TT:=λσ H Q=>t σ H λc H1=>Q (!c) H1
theorem Rz(ha:PT X a tA):PW X (.BoolOp .And [a] pos) tA:=by
 intro wh pins s σ H Q I h
 refine isTrue_and (thn (ha pins s σ H Q I h) λc s1 e=>?_)
 cases c with
 |true=>exact isTrue_and_nil e
 |false=>exact e
theorem Vi(ha:PT X a tA):PW X (.BoolOp .Or [a] pos) tA:=by
 intro wh pins s σ H Q I h
 refine isTrue_or (thn (ha pins s σ H Q I h) λc s1 e=>?_)
 cases c with
 |false=>exact isTrue_or_nil e
 |true=>exact e
theorem Vj(ha:PT X a tA)(hb:PW X (.BoolOp .And (b::rest) pos) tB'):PW X (.BoolOp .And (a::b::rest) pos) (aeg tA tB'):=by
 intro wh pins s σ H Q I h
 refine isTrue_and (thn (ha pins s σ H _ I h) λc s1 ⟨H1,I1,q1⟩=>?_)
 cases c with
 |true=>exact hb wh pins s1 σ H1 Q I1 q1
 |false=>exact⟨H1,I1,q1⟩
theorem Z6(ha:PT X a tA)(hb:PW X (.BoolOp .Or (b::rest) pos) tB'):PW X (.BoolOp .Or (a::b::rest) pos) (tOr tA tB'):=by
 intro wh pins s σ H Q I h
 refine isTrue_or (thn (ha pins s σ H _ I h) λc s1 ⟨H1,I1,q1⟩=>?_)
 cases c with
 |true=>exact⟨H1,I1,q1⟩
 |false=>exact hb wh pins s1 σ H1 Q I1 q1
theorem Vk(ha:PT X a tA):PT X (.UnaryOp .Not a pos) (aeh tA):=by
 intro pins s σ H Q I h
 exact isTrue_not (ha pins s σ H (λc H1=>Q (!c) H1) I h)
noncomputable def Z7(ta tb:TE):TE:=λσ H Q=>ta σ H λx H1=>∃c,x=.bl c/\if c=true then tb σ H1 Q else Q (.bl false) H1
noncomputable def Z8(ta:TE):TE:=λσ H Q=>ta σ H λx H1=>∃c,x=.bl c/\Q (.bl (!c)) H1
theorem Vl{op}{t:TE}(h:PE X a t):PE X (.BoolOp op [a] pos) t:=λpins s σ H Q I hw=>BoolOp_one (h pins s σ H Q I hw)
theorem Vm(ha:PE X a ta)(hb:PE X (.BoolOp .And (b::rest) pos) tb):PE X (.BoolOp .And (a::b::rest) pos) (Z7 ta tb):=by
 intro pins s σ H Q I h
 refine BoolOp_and (thn (ha pins s σ H _ I h) λv s1 ⟨x,H1,I1,r1,q1⟩=>?_)
 obtain⟨c,rfl,q1⟩:=q1
 cases r1
 refine FV ?_
 cases c with
 |true=>exact hb pins s1 σ H1 Q I1 q1
 |false=>exact⟨.bl false,H1,I1,rfl,q1⟩
theorem Vn(ha:PE X a ta):PE X (.UnaryOp .Not a pos) (Z8 ta):=by
 intro pins s σ H Q I h
 refine UnaryOp_ (thn (ha pins s σ H _ I h) λv s1 ⟨x,H1,I1,r1,q1⟩=>?_)
 obtain⟨c,rfl,q1⟩:=q1
 cases r1
 exact not_of (FV ⟨.bl (!c),H1,I1,rfl,q1⟩)
noncomputable def tIf(t:TT)(ta tb:TE):TE:=λσ H Q=>t σ H λc H1=>if c=true then ta σ H1 Q else tb σ H1 Q
theorem Nf{c:Expr}(hc:PT X c tA)(ha:PE X a ta)(hb:PE X b tb):PE X (.IfExp c a b pos) (tIf tA ta tb):=by
 intro pins s σ H Q I h
 refine wpAny_IfExp (thn (hc pins s σ H _ I h) λd s1 ⟨H1,I1,q1⟩=>?_)
 cases d with
 |true=>exact ha pins s1 σ H1 Q I1 q1
 |false=>exact hb pins s1 σ H1 Q I1 q1
end
noncomputable def SqL(K:PySem.W.Frag)(H:Hp)(a:Addr)(xs:List V):Prop :=
 Rd H a (.lst xs) \/
  ∃(o:Obj) (its:Array Value) (n:Nat),K.lookup a=some o/\o.cls=.type "list"/\o.dict=none/\o.data=.seq its n/\its.size<=sizeLine/\c9 xs its.toList
noncomputable def SqT(K:PySem.W.Frag)(H:Hp)(a:Addr)(xs:List V):Prop :=
 Rd H a (.tup xs) \/
  ∃(o:Obj) (its:Array Value) (n:Nat),K.lookup a=some o/\o.cls=.type "tuple"/\o.data=.seq its n/\its.size<=sizeLine/\c9 xs its.toList/\o.dict=none
noncomputable def aei:Value->Option V
 |.none=>some .non
 |.bool b=>some (.bl b)
 |.int i _=>some (.int i)
 |.str x _=>some (.str x)
 |.bytes b _=>some (.byt b)
 |.float b _=>some (.flt b)
 |.ref a=>some (.ref a)
 |.type n=>some (.ty n)
 |_=>none
theorem RelV.abs{x:V}{u:Value}(r:RelV x u):aei u=some x:=by
 cases x with
 |non=>cases r;rfl
 |bl _=>cases r;rfl
 |int _=>obtain⟨t,rfl⟩:=r;rfl
 |str _=>obtain⟨t,rfl⟩:=r;rfl
 |byt _=>obtain⟨t,rfl⟩:=r;rfl
 |flt _=>obtain⟨t,rfl⟩:=r;rfl
 |ref _=>cases r;rfl
 |ty _=>cases r;rfl
theorem RelV.inj{x y:V}{u:Value}(r:RelV x u)(q:RelV y u):x=y:=CB (r.abs.symm.trans q.abs)
theorem c9.inj:∀{xs ys:List V} {us:List Value},c9 xs us->c9 ys us->xs=ys
 |_,_,_,.nil,.nil=>rfl
 |_,_,_,.cons r t,.cons r' t'=>by rw[r.inj r',c9.inj t t']
section
variable{X:Cx}{pins:List (Addr × Obj)}{σ:St}{H:Hp}{s:Shared}{a:Addr}{xs ys:List V}
theorem SqL.of{K:PySem.W.Frag}(h:H a=some (.lst xs)):SqL K H a xs:=.inl (.inl h)
theorem SqT.of{K:PySem.W.Frag}(h:H a=some (.tup xs)):SqT K H a xs:=.inl (.inl h)
theorem Inv.list(I:Inv X pins σ H s)(h:SqL X.K H a xs):∃its:List Value,c9 xs its/\PlainL s.heap a its.toArray/\xs.length<=sizeLine:=by
 rcases h with h | ⟨o,its,n,hk,hc,hd,hs,hz,r⟩
 ·obtain⟨z,its,n,r,e⟩:=h.ok I.hok
  exact⟨its,r,⟨_,n,e,rfl,rfl,rfl⟩,z⟩
 ·refine⟨its.toList,r,⟨o,n,I.kIn a o hk,hc,hd,by simpa using hs⟩,?_⟩
  have e:=r.length
  simp![CA]at e
  lia
theorem Inv.tuple(I:Inv X pins σ H s)(h:SqT X.K H a xs):∃its:List Value,c9 xs its/\IsTup s.heap a its.toArray/\xs.length<=sizeLine:=by
 rcases h with h | ⟨o,its,n,hk,hc,hs,hz,r,_⟩
 ·obtain⟨z,its,r,p⟩:=h.ok I.hok
  exact⟨its,r,p.tup,z⟩
 ·refine⟨its.toList,r,⟨o,I.kIn a o hk,hc,n,by simpa using hs⟩,?_⟩
  have e:=r.length
  simp![CA]at e
  lia
theorem Inv.list_inj(I:Inv X pins σ H s)(h:SqL X.K H a xs)(h':SqL X.K H a ys):xs=ys:=by
 obtain⟨its,r,⟨o,n,e,_,_,d⟩,_⟩:=I.list h
 obtain⟨its',r',⟨o',n',e',_,_,d'⟩,_⟩:=I.list h'
 rw[e]at e';cases e'
 rw[d]at d'
 injection d' with d1 _
 have:its=its':=by simpa using congrArg Array.toList d1
 subst this
 exact r.inj r'
theorem Inv.tuple_inj(I:Inv X pins σ H s)(h:SqT X.K H a xs)(h':SqT X.K H a ys):xs=ys:=by
 obtain⟨its,r,⟨o,e,_,n,d⟩,_⟩:=I.tuple h
 obtain⟨its',r',⟨o',e',_,n',d'⟩,_⟩:=I.tuple h'
 rw[e]at e';cases e'
 rw[d]at d'
 injection d' with d1 _
 have:its=its':=by simpa using congrArg Array.toList d1
 subst this
 exact r.inj r'
end
noncomputable abbrev Cx.wish(X:Cx)(E:Value->Shared->Prop):Cx:={X with xe:=E}
noncomputable abbrev Cx.nox(X:Cx):Cx:=X.wish λ_ _=>False
theorem Cx.Ok.wish{X:Cx}(ok:X.Ok)(E:Value->Shared->Prop):(X.wish E).Ok :=
 ⟨ok.mod,ok.kind,ok.glob,ok.blt,ok.above,ok.inj,ok.has,ok.cab,ok.hd,ok.frames,ok.stk,ok.exf,ok.bs,ok.bsz,ok.noex,ok.exfs,ok.funs,ok.frf⟩
theorem Cx.Ok.unwish{X:Cx}{E:Value->Shared->Prop}(ok:(X.wish E).Ok):X.Ok :=
 ⟨ok.mod,ok.kind,ok.glob,ok.blt,ok.above,ok.inj,ok.has,ok.cab,ok.hd,ok.frames,ok.stk,ok.exf,ok.bs,ok.bsz,ok.noex,ok.exfs,ok.funs,ok.frf⟩
section
variable{X:Cx}{pins:List (Addr × Obj)}{σ:St}{H:Hp}{s:Shared}{E:Value -> Shared -> Prop}
theorem Inv.wish(I:Inv X pins σ H s)(E:Value->Shared->Prop):Inv (X.wish E) pins σ H s:=⟨I.ok.wish E,I.os,I.bare,I.base,I.loc,I.cell,I.free,I.freeC,I.pin,I.hok,I.len⟩
theorem Inv.unwish(I:Inv (X.wish E) pins σ H s):Inv X pins σ H s:=⟨I.ok.unwish,I.os,I.bare,I.base,I.loc,I.cell,I.free,I.freeC,I.pin,I.hok,I.len⟩
theorem SP.unwish{D:Ends}{f:Flow}{s':Shared}(h:SP (X.wish E) pins D f s'):SP X pins D f s':=by
 cases f with
 |next=>obtain⟨σ',H',I,q⟩:=h;exact⟨σ',H',I.unwish,q⟩
 |brk=>obtain⟨σ',H',I,q⟩:=h;exact⟨σ',H',I.unwish,q⟩
 |cont=>obtain⟨σ',H',I,q⟩:=h;exact⟨σ',H',I.unwish,q⟩
 |ret u=>obtain⟨v,σ',H',I,r,q⟩:=h;exact⟨v,σ',H',I.unwish,r,q⟩
theorem PSs.nox{st:List Stmt}{t:TS}(h:PSs X.nox st t):PSs X st t:=λpins s σ H D I hw =>
 DQ (h pins s σ H D (I.wish _) hw) (λ_ _ q=>q.unwish) λ_ _ z=>False.elim z
end
section
variable{X:Cx}{st:Stmt}{rest:List Stmt}{t u:TS}{e:Expr}{te:TE}{pos:Pos}
noncomputable def tNext:TS:=λD σ H=>D.nx σ H
noncomputable def aej(t u:TS):TS:=λD σ H=>t {D with nx:=u D} σ H
theorem R0:PSs X [] tNext:=λ_ _ σ H _ I h=>wpAny_execs_nil ⟨σ,H,I,h⟩
theorem Ng(h1:PS X st t)(h2:PSs X rest u):PSs X (st::rest) (aej t u):=by
 intro pins s σ H D I h
 refine wpAny_execs_cons (thn (h1 pins s σ H {D with nx:=u D} I h) λf s1 q=>?_)
 cases f with
 |next =>
  obtain⟨σ',H',I',q⟩:=q
  exact h2 pins s1 σ' H' D I' q
 |ret v=>exact q
 |brk=>exact q
 |cont=>exact q
theorem Inv.quiet{pins:List (Addr×Obj)}{σ:St}{H:Hp}{s:Shared}(I:Inv X pins σ H s):interactive X.env=false:=by simp[interactive,I.ok.kind]
noncomputable def Z9(te:TE):TS:=λD σ H=>te σ H λ_ H1=>D.nx σ H1
theorem R1(he:PE X e te)(hs:swapsWith e none pos.line X.env=pure false:=by rfl):PS X (.Expr e pos) (Z9 te):=by
 intro pins s σ H D I h
 exact wpAny_Expr_any (thn (he pins s σ H _ I h) λv s1 ⟨x,H1,I1,r1,q1⟩=>⟨σ,H1,I1,q1⟩) I.quiet hs
noncomputable def aek(te:TE):TS:=λD σ H=>te σ H D.rt
theorem Vo(he:PE X e te):PS X (.Return (some e) pos) (aek te):=by
 intro pins s σ H D I h
 exact wpAny_Return_some (thn (he pins s σ H _ I h) λv s1 ⟨x,H1,I1,r1,q1⟩=>⟨x,σ,H1,I1,r1,q1⟩)
noncomputable def ael(c:TT)(t u:TS):TS:=λD σ H=>c σ H λb H1=>if b=true then t D σ H1 else u D σ H1
theorem aaa{c:Expr}{a b:List Stmt}{tc:TT}(hc:PT X c tc)(ha:PSs X a t)(hb:PSs X b u):PS X (.If c a b pos) (ael tc t u):=by
 intro pins s σ H D I h
 refine wpAny_If (thn (hc pins s σ H _ I h) λd s1 ⟨H1,I1,q1⟩=>?_)
 cases d with
 |true=>exact ha pins s1 σ H1 D I1 q1
 |false=>exact hb pins s1 σ H1 D I1 q1
end
noncomputable abbrev TG:=V->St->Hp->(St->Hp->Prop)->Prop
noncomputable abbrev TGs:=List V->St->Hp->(St->Hp->Prop)->Prop
noncomputable def PG(X:Cx)(target:Expr)(t:TG):Prop :=
 ∀(pins:List (Addr×Obj)) (s:Shared) (σ:St) (H:Hp) (v:V) (u:Value) (Q:St->Hp->Prop),Inv X pins σ H s->RelV v u->t v σ H Q ->
  wpAny (model X.prog X.w) X.A (assign target X.env u) (λ_ s'=>∃σ' H',Inv X pins σ' H' s'/\Q σ' H') X.xe s
noncomputable def PGs(X:Cx)(ts:List Expr)(t:TGs):Prop :=
 ∀(pins:List (Addr×Obj)) (s:Shared) (σ:St) (H:Hp) (vs:List V) (us:List Value) (Q:St->Hp->Prop),Inv X pins σ H s->c9 vs us->t vs σ H Q ->
  wpAny (model X.prog X.w) X.A (assignInOrder ((assignEach ts X.env).map (·.2)) us) (λ_ s'=>∃σ' H',Inv X pins σ' H' s'/\Q σ' H') X.xe s
noncomputable abbrev TSet:=V->V->V->Hp->(Hp->Prop)->Prop
noncomputable def Zp(X:Cx)(t:TSet):Prop :=
 ∀(pins:List (Addr×Obj)) (s:Shared) (σ:St) (H:Hp) (o i v:V) (ov iv u:Value) (Q:Hp->Prop),Inv X pins σ H s->RelV o ov->RelV i iv->RelV v u->t o i v H Q ->
  wpAny (model X.prog X.w) X.A (setItem ov iv u) (λ_ s'=>∃H',Inv X pins σ H' s'/\Q H') X.xe s
section
variable{X:Cx}{pos:Pos}
noncomputable def R3(i:Nat):TG:=λv σ H Q=>Q (σ.set i (some v)) H
theorem Ic{i:Nat}{x:Str}(hN:X.N.Nodup)(hi:X.N[i]? = some x)(hx:Loc X.env.scope x)(hf:X.fn x=true\/X.env.scope.names.lookup x=some .local:=by first | exact .inl rfl | exact .inr rfl | assumption):PG X (.Name x pos) (R3 i):=by
 intro pins s σ H v u Q I r h
 exact wpAny_assign_Name (Eb I hN hi hx r (λs' I'=>⟨_,H,I',h⟩) hf)
noncomputable def gNil:TGs:=λvs σ H Q=>vs=[]/\Q σ H
noncomputable def aab(t:TG)(u:TGs):TGs:=λvs σ H Q=>∃v r,vs=v::r/\t v σ H λσ' H'=>u r σ' H' Q
theorem R4:PGs X [] gNil:=by
 intro pins s σ H vs us Q I r h
 obtain⟨e,h⟩:=h
 subst e
 cases r
 exact assignInOrder_nil ⟨σ,H,I,h⟩
theorem Nh {e:Expr} {es:List Expr} {t:TG} {u:TGs} (h1:PG X e t) (h2:PGs X es u)
  (hs:(assignEach (e::es) X.env).map (·.2)=assign e X.env::(assignEach es X.env).map (·.2):=by rfl):PGs X (e::es) (aab t u):=by
 intro pins s σ H vs us Q I r h
 obtain⟨v,vr,e1,h⟩:=h
 subst e1
 cases r with
 |cons r rr =>
  rw[hs]
  refine assignInOrder_cons (thn (h1 pins s σ H _ _ _ I r h) λ_ s1 ⟨σ1,H1,I1,q1⟩=>?_)
  exact h2 pins s1 σ1 H1 _ _ Q I1 rr q1
noncomputable def aem(K:PySem.W.Frag)(n:Nat)(t:TGs):TG:=λv σ H Q=>∃a xs,v=.ref a/\SqT K H a xs/\xs.length=n/\t xs σ H Q
theorem Vp {es:List Expr} {k:Nat} {t:TGs} {n:Nat} (hc:X.calm=true) (h:PGs X es t)
  (hn:(assignEach es X.env).length=n:=by rfl) (hst:(assignEach es X.env).findIdx? (·.1)=none:=by rfl):PG X (.Tuple es k pos) (aem X.K n t):=by
 intro pins s σ H v u Q I r hw
 obtain⟨a,xs,e1,hq,hl,hw⟩:=hw
 subst e1
 cases r
 obtain⟨its,rv,ht,hz⟩:=I.tuple hq
 refine assign_Tuple_tuple (I.ok.hd hc) ht (by simp[hn,<-hl,rv.length]) hst λh' hx=>?_
 have I1:Inv X pins σ H {s with heap:=h'}:=I.kept (t':=s.toks) λb o e=>hx b o (BJ (AR e)) e
 exact h pins _ σ H xs _ Q I1 (by simpa using rv) hw
noncomputable def aen(to ti:TE)(t:TSet):TG:=λv σ H Q=>to σ H λo H1=>ti σ H1 λi H2=>t o i v H2 λH3=>Q σ H3
theorem Vq {o i:Expr} {to ti:TE} {t:TSet} (ho:PE X o to) (hi:PE X i ti) (hs:Zp X t)
  (ha:∀v,assign (.Subscript o i pos) X.env v=(do
   let ov <-holding [v] (eval o X.env)
   let iv <-holding [v,ov] (eval i X.env)
   standAt pos
   holding [v,ov,iv] (setItem ov iv v)
   release [v,ov,iv] []):=by intro _;rfl):PG X (.Subscript o i pos) (aen to ti t):=by
 intro pins s σ H v u Q I r h
 rw[ha]
 refine AC (EV (thn (ho pins s σ H _ I h) λov s1 ⟨x,H1,I1,r1,q1⟩=>?_))
 refine AC (EV (thn (hi pins s1 σ H1 _ I1 q1) λiv s2 ⟨y,H2,I2,r2,q2⟩=>?_))
 refine AC (wpAny_standAt (AC (EV (thn (hs pins s2 σ H2 x y v ov iv u _ I2 r1 r2 r q2) λ_ s3 ⟨H3,I3,q3⟩=>?_))))
 exact wpAny_release ⟨σ,H3,I3,q3⟩
noncomputable def acw(te:TE)(g:TG):TS:=λD σ H=>te σ H λx H1=>g x σ H1 D.nx
theorem Pm {tg e:Expr} {te:TE} {g:TG} (he:PE X e te) (hg:PG X tg g) (hs:swapsWithSole [tg] e pos.line X.env=pure false:=by rfl) (hw:swappedStores [tg] e X.env=pure none:=by rfl)
  (h1:(assignEach [tg] X.env).map (·.2)=[assign tg X.env]:=by rfl):PS X (.Assign [tg] e pos) (acw te g):=by
 intro pins s σ H D I h
 refine wpAny_Assign_stores (thn (he pins s σ H _ I h) λv s1 ⟨x,H1,I1,r1,q1⟩=>?_) hs hw
 rw[h1]
 exact thn (hg pins s1 σ H1 x v _ I1 r1 q1) λ_ s2 q=>q
theorem Vr{i:Nat}{x:Str}{e:Expr}{te:TE}{pos':Pos}(hN:X.N.Nodup)(hi:X.N[i]? = some x)(hx:Loc X.env.scope x)(he:PE X e te)(hs:swapsWith e (some (.Name x pos')) pos.line X.env=pure false:=by rfl)(hf:X.fn x=true\/X.env.scope.names.lookup x=some .local:=by first | exact .inl rfl | exact .inr rfl | assumption) :
  PS X (.Assign [.Name x pos'] e pos) (acw te (R3 i)):=by
 intro pins s σ H D I h
 refine wpAny_Assign_Name (thn (he pins s σ H _ I h) λv s1 ⟨y,H1,I1,r1,q1⟩=>?_) hs
 exact Eb I1 hN hi hx r1 (λs2 I2=>⟨_,H1,I2,q1⟩) hf
end
structure It where
 go:Nat->Hp->Prop
 yld:Nat->Hp->V->Hp->Prop
 stop:Nat->Hp->Prop
noncomputable def Hv(X:Cx)(pins:List (Addr×Obj))(H:Hp)(b:Addr):Prop :=
 H b=none/\b≠X.env.locals/\b∉X.fs/\(b∈X.ex\/X.s₀.heap.objs.size<=b)/\(∀x c,X.env.cells.lookup x=some c->c≠b)/\∀p∈X.pn++pins,p.1≠b
theorem Inv.fpOk{X:Cx}{pins:List (Addr×Obj)}{σ:St}{H H':Hp}{s:Shared}{b:Addr}(I:Inv X pins σ H s)(hb:s.heap.objs.size<=b)(hn:H' b=none):Hv X pins H' b:=by
 refine⟨hn,ER (AT I.lt hb),I.nofs hb,.inr (BC I.sz hb),λx c e z=>?_,λp hp z=>?_⟩
 ·obtain⟨v,q⟩:=I.cell x c e
  exact absurd (AT q.lt (by rw[z];exact hb)) (DO _)
 ·exact absurd (AT (AR (I.pin p hp).1) (by rw[z];exact hb)) (DO _)
structure Turn (P:Program) (w:World) (K:PySem.W.Frag) (tg:Expr) (J:It) (fp:List Addr) (it:Addr) (tn:Nat->Heap->Prop):Prop where
 mem:it∈fp
 obj:∀i h,tn i h->∀b∈fp,∃o,h.get? b=some o/\∀v,o.data≠.cell v
 keep:∀i h h',tn i h->(∀b∈fp,∀o,h.get? b=some o->h'.get? b=some o)->tn i h'
 item:∀(X:Cx),X.prog=P->X.w=w->X.K=K->X.calm=true->∀(i:Nat) (pins:List (Addr×Obj)) (s:Shared) (σ:St) (H:Hp) (E:Value->Shared->Prop),Inv X pins σ H s->(∀b∈fp,Hv X pins H b)->tn i s.heap->J.go i H ->
  wpAny (model P w) X.A (pyNext (.ref it)) (λr s1=>∃u,r=some u /\
   wpAny (model P w) X.A (letOwnedTupleGo tg (.ref it) u) (λ_ s2=>∃x H',Inv X pins σ H' s2/\RelV x u/\J.yld i H x H'/\tn (i+1) s2.heap/\∀b∈fp,H' b=none) E s1) E s
 done:∀(X:Cx),X.prog=P->X.w=w->X.K=K->X.calm=true->∀(i:Nat) (pins:List (Addr×Obj)) (s:Shared) (σ:St) (H:Hp) (E:Value->Shared->Prop),Inv X pins σ H s->(∀b∈fp,Hv X pins H b)->tn i s.heap->J.stop i H ->
  wpAny (model P w) X.A (pyNext (.ref it)) (λr s1=>r=none/\Inv X pins σ H s1) E s
 self:∀(A:Around) (i:Nat) (s:Shared) (Q:Value->Shared->Prop) (E:Value->Shared->Prop),tn i s.heap->Q (.ref it) s->wpAny (model P w) A (pyIter (.ref it)) Q E s
noncomputable abbrev TI:=St->Hp->(It->Hp->Prop)->Prop
noncomputable def PIE(X:Cx)(pins:List (Addr×Obj))(σ:St)(tg:Expr)(R:It->Hp->Prop)(itv:Value)(s2:Shared):Prop :=
 ∃(it:Addr) (fp:List Addr) (tn:Nat->Heap->Prop) (J:It) (H':Hp),itv=.ref it/\Inv X pins σ H' s2/\Turn X.prog X.w X.K tg J fp it tn/\tn 0 s2.heap/\(∀b∈fp,Hv X pins H' b)/\R J H'
noncomputable def PI(X:Cx)(tg iter:Expr)(wi:TI):Prop :=
 ∀(pins:List (Addr×Obj)) (s:Shared) (σ:St) (H:Hp) (R:It->Hp->Prop),Inv X pins σ H s->wi σ H R ->
  wpAny (model X.prog X.w) X.A (eval iter X.env) (λv s1=>wpAny (model X.prog X.w) X.A (pyIter v) (PIE X pins σ tg R) X.xe s1) X.xe s
theorem Ni {M:Model} {A:Around} {E:Value->Shared->Prop} {s:Shared} {tg:Expr} {it:Addr} {u:Value} {o:Obj} {n:String} {vs:Array Value} {Q:Unit->Shared->Prop} (ho:s.heap.get? it=some o) (hc:o.cls=.type n) (hd:o.data=.fields vs)
  (hn:["enumerate","zip","dict_itemiterator","dict_reverseitemiterator","odict_iterator","itertools.zip_longest","itertools.pairwise"].contains n=false) (hQ:Q () s):wpAny M A (letOwnedTupleGo tg (.ref it) u) Q E s:=by
 unfold letOwnedTupleGo
 cases tg<;>first
  |exact AO hQ
  |(cases u<;>first
    |exact AO hQ
    |(
     refine AC (wpAny_load ho ?_)
     rw[hc,hd]
     show wpAny M A (if(["enumerate","zip","dict_itemiterator","dict_reverseitemiterator","odict_iterator","itertools.zip_longest","itertools.pairwise"].contains n&&vs[0]?==some (rawInt _))=true then _ else _) Q E s
     rw[if_neg (by intro h;rw[hn,Bool.false_and]at h;cases h)]
     exact AO hQ))
noncomputable def Itl(K:PySem.W.Frag)(a:Addr):It :=
 ⟨λi H=>∃xs x,SqL K H a xs/\xs[i]? = some x,λi H x H'=>H'=H/\∀xs,SqL K H a xs->xs[i]? = some x,λi H=>∃xs,SqL K H a xs/\xs.length<=i⟩
noncomputable def Itt(K:PySem.W.Frag)(a:Addr):It :=
 ⟨λi H=>∃xs x,SqT K H a xs/\xs[i]? = some x,λi H x H'=>H'=H/\∀xs,SqT K H a xs->xs[i]? = some x,λi H=>∃xs,SqT K H a xs/\xs.length<=i⟩
noncomputable def Itr(lo:Int)(n:Nat):It:=⟨λi _=>i<n,λi H x H'=>H'=H/\x=.int (lo+i),λi _=>n<=i⟩
theorem Ie{P:Program}{w:World}{K:PySem.W.Frag}{tg:Expr}(a it:Addr):Turn P w K tg (Itl K a) [it] it (λi h=>h.IsListIter it a i) where
 mem:=by simp
 obj:=λi h st b hb=>by
  have e:b=it:=by simpa using hb
  subst e
  obtain⟨o,e,c,d⟩:=st
  exact⟨o,e,λv z=>by rw[d]at z;cases z⟩
 keep:=λi h h' st k=>st.at λo e=>k it (by simp) o e
 item:=by
  intro X hP hw hK hc i pins s σ H E I hf st hg
  subst hP hw hK
  obtain⟨xs,x,hq,hx⟩:=hg
  obtain⟨its,rv,p,hz⟩:=I.list hq
  obtain⟨u,hu,ru⟩:=rv.get hx
  obtain⟨f0,f1,f2,f3,f4,f5⟩:=hf it (by simp)
  refine wpAny_pyNext_list_item st p.isList (x:=u) (by simpa using hu) λh' st' sb=>?_
  have I1:Inv X pins σ H {s with heap:=h'}:=I.turned (t':=s.toks) (λb o hb e=>(sb.2 b hb).trans e) f0 f1 f3 f4 f5
  obtain⟨o,e,c,d⟩:=id st'
  exact⟨u,rfl,Ni (s:={s with heap:=h'}) e c d (by decide) ⟨x,H,I1,ru,⟨rfl,λys hy=>by rw[I.list_inj hy hq];exact hx⟩,st',λb hb=>(hf b hb).1⟩⟩
 done:=by
  intro X hP hw hK hc i pins s σ H E I hf st hg
  subst hP hw hK
  obtain⟨xs,hq,hx⟩:=hg
  obtain⟨its,rv,p,hz⟩:=I.list hq
  obtain⟨f0,f1,f2,f3,f4,f5⟩:=hf it (by simp)
  have hl:=rv.length
  exact wpAny_pyNext_list_end (I.ok.hd hc) st p.isList (by simp;lia) λh' eb=>⟨rfl,I.turned (t':=s.toks) (λb o hb e=>eb b o hb e) f0 f1 f3 f4 f5⟩
 self:=λ_ _ _ _ _ st h=>wpAny_pyIter_listiter st h
theorem Gi{P:Program}{w:World}{K:PySem.W.Frag}{tg:Expr}(a it:Addr):Turn P w K tg (Itt K a) [it] it (λi h=>h.IsTupleIter it a i) where
 mem:=by simp
 obj:=λi h st b hb=>by
  have e:b=it:=by simpa using hb
  subst e
  obtain⟨o,e,c,d⟩:=st
  exact⟨o,e,λv z=>by rw[d]at z;cases z⟩
 keep:=λi h h' st k=>st.at λo e=>k it (by simp) o e
 item:=by
  intro X hP hw hK hc i pins s σ H E I hf st hg
  subst hP hw hK
  obtain⟨xs,x,hq,hx⟩:=hg
  obtain⟨its,rv,p,hz⟩:=I.tuple hq
  obtain⟨u,hu,ru⟩:=rv.get hx
  obtain⟨f0,f1,f2,f3,f4,f5⟩:=hf it (by simp)
  refine wpAny_pyNext_tuple_item st (show s.heap.IsTuple a its.toArray from p) (x:=u) (by simpa using hu) λh' st' sb=>?_
  have I1:Inv X pins σ H {s with heap:=h'}:=I.turned (t':=s.toks) (λb o hb e=>(sb.2 b hb).trans e) f0 f1 f3 f4 f5
  obtain⟨o,e,c,d⟩:=id st'
  exact⟨u,rfl,Ni (s:={s with heap:=h'}) e c d (by decide) ⟨x,H,I1,ru,⟨rfl,λys hy=>by rw[I.tuple_inj hy hq];exact hx⟩,st',λb hb=>(hf b hb).1⟩⟩
 done:=by
  intro X hP hw hK hc i pins s σ H E I hf st hg
  subst hP hw hK
  obtain⟨xs,hq,hx⟩:=hg
  obtain⟨its,rv,p,hz⟩:=I.tuple hq
  obtain⟨f0,f1,f2,f3,f4,f5⟩:=hf it (by simp)
  have hl:=rv.length
  exact wpAny_pyNext_tuple_end (I.ok.hd hc) st (show s.heap.IsTuple a its.toArray from p) (by simp;lia) λh' eb=>⟨rfl,I.turned (t':=s.toks) (λb o hb e=>eb b o hb e) f0 f1 f3 f4 f5⟩
 self:=λ_ _ _ _ _ st h=>wpAny_pyIter_tupleiter st h
theorem Gj{P:Program}{w:World}{K:PySem.W.Frag}{tg:Expr}(it:Addr)(lo:Int)(n:Nat):Turn P w K tg (Itr lo n) [it] it (λi h=>IsRangeIter h it (lo+(i:Nat)*1) ((n:Int)-(i:Nat)) 1) where
 mem:=by simp
 obj:=λi h st b hb=>by
  have e:b=it:=by simpa using hb
  subst e
  exact⟨_,st,λv z=>by
   have z':Data.fields _=Data.cell v:=z
   cases z'⟩
 keep:=λi h h' st k=>k it (by simp) _ st
 item:=by
  intro X hP hw hK hc i pins s σ H E I hf st hg
  subst hP hw hK
  obtain⟨f0,f1,f2,f3,f4,f5⟩:=hf it (by simp)
  have W:=Walks.range (prog:=X.prog) (w:=X.w) (I.ok.hd hc) it lo 1 n
  refine W.item i s _ _ hg st λv h' tk hv st' kk=>?_
  obtain⟨t,rfl⟩:=hv
  have I1:Inv X pins σ H {s with heap:=h',toks:=tk}:=I.turned (λb o hb e=>kk b o (by simpa using hb) e) f0 f1 f3 f4 f5
  refine⟨_,rfl,Ni (s:={s with heap:=h',toks:=tk}) (n:="range_iterator") st' rfl rfl (by decide) ⟨.int (lo+i),H,I1,⟨t,?_⟩,⟨rfl,rfl⟩,st',λb hb=>(hf b hb).1⟩⟩
  rw[Int.mul_one]
 done:=by
  intro X hP hw hK hc i pins s σ H E I hf st hg
  subst hP hw hK
  obtain⟨f0,f1,f2,f3,f4,f5⟩:=hf it (by simp)
  exact wpAny_pyNext_range_end (I.ok.hd hc) st (by have:n<=i:=hg;lia) λh' eb=>⟨rfl,I.turned (t':=s.toks) (λb o hb e=>eb b o hb e) f0 f1 f3 f4 f5⟩
 self:=λ_ _ _ _ _ st h=>wpAny_pyIter_rangeiter st h
section
variable{X:Cx}{tg:Expr}
theorem Ec {pins:List (Addr×Obj)} {σ:St} {H:Hp} {s:Shared} {R:It->Hp->Prop} {E:Value->Shared->Prop} {lo hi:Int} {t u v:Tok} {tk:Nat} (I:Inv X pins σ H s) (h1:-(2 ^ 62)<=lo) (h2:lo<2 ^ 62) (h3:-(2 ^ 62)<=hi) (h4:hi<2 ^ 62)
  (q:R (Itr lo (hi-lo).toNat) H):wpAny (model X.prog X.w) X.A (pyIter (.ref s.heap.objs.size)) (PIE X pins σ tg R) E {s with heap:=s.heap.push {cls:=.type "range",data:=.fields #[.int lo t,.int hi u,.int 1 v]},toks:=tk}:=by
 refine wpAny_pyIter_range (IsRange.new ..) (small_one h1 h2 h3 h4) ?_
 have I1:Inv X pins σ H {s with heap:=s.heap.push {cls:=.type "range",data:=.fields #[.int lo t,.int hi u,.int 1 v]},toks:=tk}:=I.kept λb o e=>AH _ e
 refine⟨(s.heap.push {cls:=.type "range",data:=.fields #[.int lo t,.int hi u,.int 1 v]}).objs.size,[(s.heap.push {cls:=.type "range",data:=.fields #[.int lo t,.int hi u,.int 1 v]}).objs.size],_,_,H,rfl,
  I1.kept (t':=tk) λb o e=>AH _ e,Gj _ lo (hi-lo).toNat,?_,λb hb=>?_,q⟩
 ·have e1:lo+((0:Nat):Int)*1=lo:=by simp
  have e2:(((hi-lo).toNat:Nat):Int)-((0:Nat):Int)=Builtin.Range.rangeSize lo hi 1:=by rw[rangeSize_one];split<;>lia
  show IsRangeIter _ _ (lo+((0:Nat):Int)*1) ((((hi-lo).toNat:Nat):Int)-((0:Nat):Int)) 1
  rw[e1,e2]
  exact AZ _ rfl
 ·have e:b=(s.heap.push {cls:=.type "range",data:=.fields #[.int lo t,.int hi u,.int 1 v]}).objs.size:=by simpa using hb
  subst e
  exact I1.fpOk (AK _) (I1.hok.fresh (AK _))
noncomputable def aac(ta:TA):TI:=λσ H R=>ta σ H λvs H1=>∃j:Int,vs=[.int j] /\ -(2 ^ 62)<=j/\j<2 ^ 62/\R (Itr 0 j.toNat) H1
noncomputable def aad(ta:TA):TI:=λσ H R=>ta σ H λvs H1=>∃i j:Int,vs=[.int i,.int j]/\(-(2 ^ 62)<=i/\i<2 ^ 62 /\ -(2 ^ 62)<=j/\j<2 ^ 62)/\R (Itr i (j-i).toNat) H1
theorem Ig{a:Expr}{ta:TA}{p pos:Pos}(hg:Gl X "range")(hm:X.mg "range"=none)(ha:PA X [a] ta)(hs:starEach [a] X.env=[(false,eval a X.env)]:=by rfl):PI X tg (.Call (.Name "range" p) [a] [] pos) (aac ta):=by
 intro pins s σ H R I h
 refine Call_ (u4 I hg hm boot_range (DN (thn (ha pos pins s σ H _ I h) λus s1 ⟨vs,H1,I1,r1,q1⟩=>?_) hs rfl))
 obtain⟨j,e,q1,q2,q⟩:=q1
 subst e
 cases r1 with
 |cons r rr =>
  cases rr
  obtain⟨t,rfl⟩:=r
  exact call_range_1 (Ec I1 (by lia) (by lia) q1 q2 (by simpa using q))
theorem Ih{a b:Expr}{ta:TA}{p pos:Pos}(hg:Gl X "range")(hm:X.mg "range"=none)(ha:PA X [a,b] ta)(hs:starEach [a,b] X.env=[(false,eval a X.env),(false,eval b X.env)]:=by rfl)(hs2:starEach [b] X.env=[(false,eval b X.env)]:=by rfl) :
  PI X tg (.Call (.Name "range" p) [a,b] [] pos) (aad ta):=by
 intro pins s σ H R I h
 refine Call_ (u4 I hg hm boot_range (DN (thn (ha pos pins s σ H _ I h) λus s1 ⟨vs,H1,I1,r1,q1⟩=>?_) (by rw[hs,hs2]) (by rw[hs2];rfl)))
 obtain⟨i,j,e,⟨q1,q2,q3,q4⟩,q⟩:=q1
 subst e
 cases r1 with
 |cons r rr =>
  cases rr with
  |cons r' rr =>
   cases rr
   obtain⟨t,rfl⟩:=r
   obtain⟨t',rfl⟩:=r'
   exact call_range_2 (Ec I1 q1 q2 q3 q4 q)
noncomputable def aeo(wi:TI)(g:TG)(tb:TS):TS:=λD σ H=>wi σ H λJ H1=>∃W:Nat->Nat->St->Hp->Prop,(∃m,W 0 m σ H1)/\∀i m σ H,W i m σ H ->
 (J.stop i H/\D.nx σ H)\/(J.go i H/\∃N:St->Hp->Prop,(∀σ' H',N σ' H'->∃m',m'<m/\W (i+1) m' σ' H')/\∀x H',J.yld i H x H'->g x σ H' λσ2 H2=>tb {D with nx:=N,ct:=N,bk:=D.nx} σ2 H2)
noncomputable def Ap(fp:List Addr)(h:Heap):List (Addr×Obj):=fp.filterMap λb=>(h.get? b).map λo=>(b,o)
theorem ph{fp:List Addr}{h:Heap}{b:Addr}{o:Obj}(hb:b∈fp)(e:h.get? b=some o):(b,o)∈Ap fp h:=List.mem_filterMap.mpr ⟨b,hb,by rw[e];rfl⟩
theorem Ii{fp:List Addr}{h:Heap}{p:Addr×Obj}(hp:p∈Ap fp h):p.1∈fp/\h.get? p.1=some p.2:=by
 obtain⟨b,hb,e⟩:=List.mem_filterMap.mp hp
 cases q:h.get? b with
 |none=>rw[q]at e;cases e
 |some o =>
  rw[q]at e
  have e':(b,o)=p:=CB e
  subst e'
  exact⟨hb,q⟩
theorem Inv.pinned{pins:List (Addr×Obj)}{σ:St}{H:Hp}{s:Shared}{fp:List Addr}(I:Inv X pins σ H s)(hf:∀b∈fp,Hv X pins H b)(ho:∀b∈fp,∃o,s.heap.get? b=some o/\∀v,o.data≠.cell v):Inv X (pins++Ap fp s.heap) σ H s :=
 I.pins_of λp hp=>(BD.mp hp).elim (λz=>I.pin p (CG _ z)) λz=>by
  obtain⟨hb,e⟩:=Ii z
  obtain⟨f0,f1,f2,_⟩:=hf p.1 hb
  obtain⟨o,e',d⟩:=ho p.1 hb
  rw[e]at e';cases e'
  exact⟨e,f0,f1,f2,d⟩
theorem Inv.unpinned{pins pl:List (Addr×Obj)}{σ:St}{H:Hp}{s:Shared}(I:Inv X (pins++pl) σ H s):Inv X pins σ H s:=I.pins_of λp hp=>I.pin p (CG _ (GS _ hp))
theorem Vs {iter:Expr} {body:List Stmt} {wi:TI} {g:TG} {tb:TS} {pos:Pos} (hp:PassesOwn (model X.prog X.w) X.A X.env X.xe) (hc:X.calm=true) (hi:PI X tg iter wi) (hg:PG X tg g) (hb:PSs X body tb)
  (hs:∀x,foldedSetIterable iter X.env x=pure x:=by intro _;rfl):PS X (.For tg iter body [] pos) (aeo wi g tb):=by
 intro pins s σ H D I h
 refine wpAny_For (thn (hi pins s σ H _ I h) λv s1 h1=>thn h1 λitv s2 h2=>?_) hs
 obtain⟨it,fp,tn,J,H2,e,I2,T,st2,f2,W,⟨m0,w0⟩,turn⟩:=h2
 subst e
 -- what stays true of the iterator's objects through the loop
 have stat:∀{H':Hp},(∀b∈fp,H' b=none)->∀b∈fp,Hv X pins H' b:=λhn b hb=>⟨hn b hb,(f2 b hb).2⟩
 refine codeAny_forLoop_any (λn s'=>∃i σ' H',Inv X pins σ' H' s'/\tn i s'.heap/\(∀b∈fp,H' b=none)/\W i n σ' H') ?_ m0 ⟨0,σ,H2,I2,st2,λb hb=>(f2 b hb).1,w0⟩
 rintro n s3 ⟨i,σ3,H3,I3,st3,fr3,w3⟩
 rcases turn i n σ3 H3 w3 with⟨stop,qn⟩ | ⟨go,N,hN,step⟩
 ·refine GD hp (thn (T.done X rfl rfl rfl hc i pins s3 σ3 H3 X.xe I3 (stat fr3) st3 stop) λr s4 ⟨hr,I4⟩=>?_)
  subst hr
  exact wpAny_execs_nil ⟨σ3,H3,I4,qn⟩
 ·refine GD hp (thn (T.item X rfl rfl rfl hc i pins s3 σ3 H3 X.xe I3 (stat fr3) st3 go) λr s4 ⟨u,hr,h4⟩=>?_)
  subst hr
  refine GD hp (thn h4 λ_ s5 ⟨x,H5,I5,r5,y5,st5,fr5⟩=>?_)
  have I5':=I5.pinned (stat fr5) (T.obj _ _ st5)
  refine GD hp (thn (hg _ s5 σ3 H5 x u _ I5' r5 (step x H5 y5)) λ_ s6 ⟨σ6,H6,I6,q6⟩=>?_)
  refine GD hp (thn (hb _ s6 σ6 H6 _ I6 q6) λf s7 q7=>?_)
  have again:∀{σ7:St} {H7:Hp},Inv X (pins++Ap fp s5.heap) σ7 H7 s7->N σ7 H7->∃m,m<n/\∃i σ' H',Inv X pins σ' H' s7/\tn i s7.heap/\(∀b∈fp,H' b=none)/\W i m σ' H':=λ{σ7 H7} I7 n7=>by
   obtain⟨m',hm,w7⟩:=hN σ7 H7 n7
   refine⟨m',hm,i+1,σ7,H7,I7.unpinned,T.keep _ _ _ st5 λb hb o e=>(I7.pin (b,o) (CG _ (CG _ (ph hb e)))).1,λb hb=>?_,w7⟩
   obtain⟨o,e,d⟩:=T.obj _ _ st5 b hb
   exact(I7.pin (b,o) (CG _ (CG _ (ph hb e)))).2.1
  cases f with
  |next=>obtain⟨σ7,H7,I7,n7⟩:=q7;exact again I7 n7
  |cont=>obtain⟨σ7,H7,I7,n7⟩:=q7;exact again I7 n7
  |brk=>obtain⟨σ7,H7,I7,q7⟩:=q7;exact⟨σ7,H7,I7.unpinned,q7⟩
  |ret v=>obtain⟨x7,σ7,H7,I7,r7,q7⟩:=q7;exact⟨x7,σ7,H7,I7.unpinned,r7,q7⟩
end
noncomputable abbrev R2:=V->V->Hp->VK->Prop
noncomputable def OpR(X:Cx)(f:Value->Value->Sem Value)(r:R2):Prop :=
 ∀(pins:List (Addr×Obj)) (s:Shared) (σ:St) (H:Hp) (x y:V) (v u:Value) (Q:VK),Inv X pins σ H s->RelV x v->RelV y u->r x y H Q ->
  wpAny (model X.prog X.w) X.A (f v u) (EP X pins σ Q) X.xe s
noncomputable def UnR(X:Cx)(f:Value->Sem Value)(r:V->Hp->VK->Prop):Prop :=
 ∀(pins:List (Addr×Obj)) (s:Shared) (σ:St) (H:Hp) (x:V) (v:Value) (Q:VK),Inv X pins σ H s->RelV x v->r x H Q ->
  wpAny (model X.prog X.w) X.A (f v) (EP X pins σ Q) X.xe s
noncomputable def gk(X:Cx)(f:Value)(r:List V->Hp->VK->Prop):Prop :=
 ∀(pins:List (Addr×Obj)) (s:Shared) (σ:St) (H:Hp) (xs:List V) (us:List Value) (Q:VK),Inv X pins σ H s->c9 xs us->r xs H Q ->
  wpAny (model X.prog X.w) X.A (call f us) (EP X pins σ Q) X.xe s
noncomputable def aep(X:Cx)(r:V->Hp->(Bool->Hp->Prop)->Prop):Prop :=
 ∀(pins:List (Addr×Obj)) (s:Shared) (σ:St) (H:Hp) (x:V) (v:Value) (Q:Bool->Hp->Prop),Inv X pins σ H s->RelV x v->r x H Q ->
  wpAny (model X.prog X.w) X.A (truthy v) (TP X pins σ Q) X.xe s
noncomputable def tOp(r:R2)(ta tb:TE):TE:=λσ H Q=>ta σ H λx H1=>tb σ H1 λy H2=>r x y H2 Q
noncomputable def tUn(r:V->Hp->VK->Prop)(ta:TE):TE:=λσ H Q=>ta σ H λx H1=>r x H1 Q
noncomputable def rI(C:Int->Int->Prop)(g:Int->Int->V):R2:=λx y H Q=>∃i j,x=.int i/\y=.int j/\C i j/\Q (g i j) H
noncomputable def rI0(g:Int->Int->V):R2:=λx y H Q=>∃i j,x=.int i/\y=.int j/\Q (g i j) H
noncomputable def rU(g:Int->V):V->Hp->VK->Prop:=λx H Q=>∃i,x=.int i/\Q (g i) H
section
variable{X:Cx}{a b c:Expr}{ta tb tc:TE}{pos:Pos}
theorem acx (ha:PE X a ta) (hb:PE X b tb) {pins:List (Addr×Obj)} {s:Shared} {σ:St} {H:Hp} {R:V->V->Hp->Prop} (I:Inv X pins σ H s)
  (h:ta σ H λx H1=>tb σ H1 λy H2=>R x y H2) {Q:Value->Shared->Prop} {f:Value->Value->Sem Value}
  (hf:∀v u s2 x y H2,Inv X pins σ H2 s2->RelV x v->RelV y u->R x y H2->wpAny (model X.prog X.w) X.A (f v u) Q X.xe s2) :
  wpAny (model X.prog X.w) X.A (eval a X.env) (λv s₁=>wpAny (model X.prog X.w) X.A (eval b X.env) (λu s₂=>wpAny (model X.prog X.w) X.A (f v u) Q X.xe s₂) X.xe s₁) X.xe s:=by
 refine thn (ha pins s σ H _ I h) λv s1 ⟨x,H1,I1,r1,q1⟩=>?_
 refine thn (hb pins s1 σ H1 _ I1 q1) λu s2 ⟨y,H2,I2,r2,q2⟩=>?_
 exact hf v u s2 x y H2 I2 r1 r2 q2
theorem aae{op:Operator}{r:R2}(ho:OpR X (binaryOp op) r)(ha:PE X a ta)(hb:PE X b tb):PE X (.BinOp a op b pos) (tOp r ta tb):=by
 intro pins s σ H Q I h
 exact wpAny_BinOp (acx ha hb I h λv u s2 x y H2 I2 rx ry q=>ho pins s2 σ H2 x y v u Q I2 rx ry q)
theorem aaf{op:UnaryOp}{r:V->Hp->VK->Prop}(ho:UnR X (unaryOp op) r)(ha:PE X a ta):PE X (.UnaryOp op a pos) (tUn r ta):=by
 intro pins s σ H Q I h
 exact UnaryOp_ (thn (ha pins s σ H _ I h) λv s1 ⟨x,H1,I1,r1,q1⟩=>ho pins s1 σ H1 x v Q I1 r1 q1)
theorem opI {f:Value->Value->Sem Value} {C:Int->Int->Prop} {g:Int->Int->Int}
  (rule:∀(i j:Int) (t u:Tok) (s:Shared) (Q:Value->Shared->Prop) (E:Value->Shared->Prop),C i j->Q (.int (g i j) s.toks) {s with toks:=s.toks+1}->wpAny (model X.prog X.w) X.A (f (.int i t) (.int j u)) Q E s) :
  OpR X f (rI C λi j=>.int (g i j)):=by
 intro pins s σ H x y v u Q I rx ry h
 obtain⟨i,j,rfl,rfl,hc,q⟩:=h
 obtain⟨t,rfl⟩:=rx
 obtain⟨t',rfl⟩:=ry
 exact rule i j t t' s _ _ hc ⟨.int (g i j),H,I.tok _,⟨_,rfl⟩,q⟩
theorem aag {f:Value->Value->Sem Value} {g:Int->Int->Int}
  (rule:∀(i j:Int) (t u:Tok) (s:Shared) (Q:Value->Shared->Prop) (E:Value->Shared->Prop),Q (.int (g i j) s.toks) {s with toks:=s.toks+1}->wpAny (model X.prog X.w) X.A (f (.int i t) (.int j u)) Q E s) :
  OpR X f (rI0 λi j=>.int (g i j)):=by
 intro pins s σ H x y v u Q I rx ry h
 obtain⟨i,j,rfl,rfl,q⟩:=h
 obtain⟨t,rfl⟩:=rx
 obtain⟨t',rfl⟩:=ry
 exact rule i j t t' s _ _ ⟨.int (g i j),H,I.tok _,⟨_,rfl⟩,q⟩
theorem Zq {f:Value->Value->Sem Value} {g:Int->Int->Bool}
  (rule:∀(i j:Int) (t u:Tok) (s:Shared) (Q:Value->Shared->Prop) (E:Value->Shared->Prop),Q (.bool (g i j)) s->wpAny (model X.prog X.w) X.A (f (.int i t) (.int j u)) Q E s) :
  OpR X f (rI0 λi j=>.bl (g i j)):=by
 intro pins s σ H x y v u Q I rx ry h
 obtain⟨i,j,rfl,rfl,q⟩:=h
 obtain⟨t,rfl⟩:=rx
 obtain⟨t',rfl⟩:=ry
 exact rule i j t t' s _ _ ⟨.bl (g i j),H,I,rfl,q⟩
noncomputable def aeq(i j:Int):Prop:=0<j/\j<1073741824
noncomputable def acy(i j:Int):Prop:=0<=j/\j<=1000000/\i.natAbs<2 ^ 64
noncomputable def CMul(i j:Int):Prop:=(-(2 ^ 64)<i/\i<2 ^ 64)\/(-(2 ^ 64)<j/\j<2 ^ 64)
theorem CMul.ok{i j:Int}(h:CMul i j):IntMulOk i j:=by
 rcases h with⟨h1,h2⟩ | ⟨h1,h2⟩
 ·exact .of_left (intBits_le_64 h1 h2)
 ·exact .of_right (intBits_le_64 h1 h2)
theorem Gk(k:Nat):(0:Int)<=2 ^ k:=by
 rw[two_pow_cast]
 exact Int.natCast_nonneg _
theorem op_add:OpR X (binaryOp .Add) (rI0 λi j=>.int (i+j)):=aag λ_ _ _ _ _ _ _ q=>add_int q
theorem op_sub:OpR X (binaryOp .Sub) (rI0 λi j=>.int (i-j)):=aag λ_ _ _ _ _ _ _ q=>sub_int q
theorem op_mul:OpR X (binaryOp .Mult) (rI CMul λi j=>.int (i*j)):=opI λ_ _ _ _ _ _ _ hc q=>mul_int q hc.ok
theorem R5:OpR X (binaryOp .FloorDiv) (rI aeq λi j=>.int (i / j)):=opI λi j _ _ _ _ _ hc q=>by
 have h1:(0:Int)<j:=hc.1
 have h2:j<1073741824:=hc.2
 exact floordiv_int (by lia) (by rw[HD i (by lia)];exact q) (.inl (Ix (by lia)))
theorem op_mod:OpR X (binaryOp .Mod) (rI (λ_ j=>0<j) λi j=>.int (i % j)):=opI λi j _ _ _ _ _ hc q=>by
 have h1:(0:Int)<j:=hc
 exact mod_int' (by lia) (by rw[Int.fmod_eq_emod_of_nonneg i (by lia)];exact q)
theorem op_pow:OpR X (binaryOp .Pow) (rI acy λi j=>.int (i ^ j.toNat)):=opI λ_ _ _ _ _ _ _ hc q=>pow_int_small hc.1 hc.2.1 hc.2.2 q
theorem Vt:OpR X (binaryOp .LShift) (rI acy λi j=>.int (i*2 ^ j.toNat)):=opI λ_ _ _ _ _ _ _ hc q=>lshift_int_small hc.1 hc.2.1 hc.2.2 q
theorem op_shr:OpR X (binaryOp .RShift) (rI (λ_ j=>0<=j) λi j=>.int (i / 2 ^ j.toNat)):=opI λi j _ _ _ _ _ hc q =>
 rshift_int hc (by rw[HD i (Gk _)];exact q)
theorem Vu:OpR X (binaryOp .BitXor) (rI0 λi j=>.int (Builtin.bitXor i j)):=aag λ_ _ _ _ _ _ _ q=>xor_int q
theorem unI {f:Value->Sem Value} {g:Int->Int}
  (rule:∀(i:Int) (t:Tok) (s:Shared) (Q:Value->Shared->Prop) (E:Value->Shared->Prop),Q (.int (g i) s.toks) {s with toks:=s.toks+1}->wpAny (model X.prog X.w) X.A (f (.int i t)) Q E s) :
  UnR X f (rU λi=>.int (g i)):=by
 intro pins s σ H x v Q I rx h
 obtain⟨i,rfl,q⟩:=h
 obtain⟨t,rfl⟩:=rx
 exact rule i t s _ _ ⟨.int (g i),H,I.tok _,⟨_,rfl⟩,q⟩
theorem Vv:UnR X (unaryOp .USub) (rU λi=>.int (-i)):=unI λ_ _ _ _ _ q=>neg_int q
theorem Pn{pins:List (Addr×Obj)}{σ:St}{H:Hp}{s:Shared}{Q:VK}{k k':Bool}(I:Inv X pins σ H s)(q:Q (.bl k) H)(e:k=k'):EP X pins σ Q (.bool k') s:=by
 subst e
 exact⟨.bl k,H,I,rfl,q⟩
theorem aah:OpR X (compareOp .Lt) (rI0 λi j=>.bl (decide (i<j))):=Zq λ_ _ _ _ _ _ _ q=>lt_int q
theorem aai:OpR X (compareOp .LtE) (rI0 λi j=>.bl (decide (i<=j))):=Zq λ_ _ _ _ _ _ _ q=>le_int q
theorem aaj:OpR X (compareOp .Gt) (rI0 λi j=>.bl (decide (j<i))):=Zq λ_ _ _ _ _ _ _ q=>gt_int q
theorem aak:OpR X (compareOp .GtE) (rI0 λi j=>.bl (decide (j<=i))):=Zq λ_ _ _ _ _ _ _ q=>ge_int q
theorem Vw:OpR X (compareOp .Is) (λx y H Q=>y=.non/\Q (.bl (decide (x=.non))) H):=by
 intro pins s σ H x y v u Q I rx ry h
 obtain⟨rfl,q⟩:=h
 cases ry
 refine is_none_gen (Pn I q ?_)
 cases x<;>first
  |(cases rx;rfl)
  |(obtain⟨t,rfl⟩:=rx;rfl)
theorem R6:OpR X (compareOp .IsNot) (λx y H Q=>y=.non/\Q (.bl (!decide (x=.non))) H):=by
 intro pins s σ H x y v u Q I rx ry h
 obtain⟨rfl,q⟩:=h
 cases ry
 refine isnot_none_gen (Pn I q ?_)
 cases x<;>first
  |(cases rx;rfl)
  |(obtain⟨t,rfl⟩:=rx;rfl)
noncomputable def isObj:HO->Bool
 |.lst _=>true
 |.ins _ _ _=>true
 |_=>false
noncomputable def acz(K:PySem.W.Frag)(x:V)(H:Hp)(k:Bool):Prop :=
 match x with
 |.non=>k=false
 |.bl b=>k=b
 |.int i=>k=(i != 0)
 |.str y=>y.length<=sizeLine/\k=((y.length:Int) != 0)
 |.byt y=>y.size<=sizeLine/\k=((y.size:Int) != 0)
 |.ref p=>(∃xs,SqL K H p xs/\k=!xs.isEmpty)\/(∃xs,SqT K H p xs/\k=!xs.isEmpty)\/∃kvs,H p=some (.dK kvs)/\k=!kvs.isEmpty
 |_=>False
theorem Gm{κ:Type}{kvs:List (κ×V)}{vs:List (κ×Value)}(r:KV kvs vs):(!vs.isEmpty)=!kvs.isEmpty:=by
 cases r<;>rfl
theorem x8{xs:List V}{its:List Value}(r:c9 xs its):(!its.toArray.isEmpty)=!xs.isEmpty:=by
 cases r<;>simp
theorem ya:(sizeLine:Nat)<2 ^ 63:=by rw[GG];decide
theorem Vx:aep X (λx H Q=>∃k,acz X.K x H k/\Q k H):=by
 intro pins s σ H x v Q I rx h
 obtain⟨k,e,q⟩:=h
 have hl:=ya
 have hs:sizeLine=16777216:=GG
 cases x with
 |non =>
  cases rx
  have e':k=false:=e
  subst e'
  exact truthy_none ⟨H,I,q⟩
 |bl b =>
  cases rx
  have e':k=b:=e
  subst e'
  exact FV ⟨H,I,q⟩
 |int i =>
  obtain⟨t,rfl⟩:=rx
  have e':k=(i != 0):=e
  subst e'
  exact PySem.P.truthy_int ⟨H,I,q⟩
 |str y =>
  obtain⟨t,rfl⟩:=rx
  obtain⟨hy,e'⟩:y.length<=sizeLine/\k=((y.length:Int) != 0):=e
  subst e'
  exact PySem.P.truthy_str (by lia) ⟨H,I.tok _,q⟩
 |byt y =>
  obtain⟨t,rfl⟩:=rx
  obtain⟨hy,e'⟩:y.size<=sizeLine/\k=((y.size:Int) != 0):=e
  subst e'
  exact PySem.W.truthy_bytes (by lia) ⟨H,I.tok _,q⟩
 |ref p =>
  cases rx
  have e':(∃xs,SqL X.K H p xs/\k=!xs.isEmpty)\/(∃xs,SqT X.K H p xs/\k=!xs.isEmpty)\/∃kvs,H p=some (.dK kvs)/\k=!kvs.isEmpty:=e
  rcases e' with⟨xs,hx,e'⟩ | ⟨xs,hx,e'⟩ | ⟨kvs,hx,e'⟩
  ·subst e'
   obtain⟨its,r,pl,hz⟩:=I.list hx
   have hlen:=r.length
   exact wpAny_truthy_list pl.isList (by simp![AJ];lia) ⟨H,I.tok _,by rw[x8 r];exact q⟩
  ·subst e'
   obtain⟨its,r,pl,hz⟩:=I.tuple hx
   have hlen:=r.length
   exact truthy_tuple pl (by simp![AJ];lia) ⟨H,I.tok _,by rw[x8 r];exact q⟩
  ·subst e'
   obtain⟨hz,hS,vs,r,m⟩:kvs.length<=sizeLine/\(p==sysModules)=false/\∃vs,KV kvs vs/\s.heap.DictOf (fu X.prog X.w) p vs:=I.hok p _ hx
   have hlen:kvs.length=vs.length:=FR r
   exact wpAny_truthy_dict hS m (by lia) ⟨H,I.tok _,by rw[Gm r];exact q⟩
 |_=>exact(show False from e).elim
theorem Nj(ha:PE X a ta)(he:∀whole,isTrue a X.env whole=(do let v <-whole;standAt a.pos;holding [v] (truthy v))) :
  PT X a (λσ H Q=>ta σ H λx H'=>∃k,acz X.K x H' k/\Q k H'):=by
 intro pins s σ H Q I h
 exact isTrue_plain (thn (ha pins s σ H _ I h) λv s1 ⟨x,H1,I1,r1,q1⟩=>Vx pins s1 σ H1 x v Q I1 r1 q1) (he _)
theorem vals1{x:V}{us:List Value}(r:c9 [x] us):∃u,us=[u]/\RelV x u:=by
 cases r with
 |cons r1 r2=>cases r2;exact⟨_,rfl,r1⟩
theorem vals2{x y:V}{us:List Value}(r:c9 [x,y] us):∃u w',us=[u,w']/\RelV x u/\RelV y w':=by
 cases r with
 |cons r1 r2 =>
  cases r2 with
  |cons r3 r4=>cases r4;exact⟨_,_,rfl,r1,r3⟩
theorem Ij(hc:X.calm=true):gk X (.builtin "max") (λxs H Q=>∃i j,xs=[.int i,.int j]/\Q (.int (if j > i then j else i)) H):=by
 intro pins s σ H xs us Q I r h
 obtain⟨i,j,rfl,q⟩:=h
 obtain⟨u,w',rfl,⟨t,rfl⟩,⟨t',rfl⟩⟩:=vals2 r
 refine max_two_ints (I.ok.hd hc) λh' tk k=>⟨_,H,I.kept k,?_,q⟩
 by_cases hj:j > i
 ·rw[if_pos hj,if_pos hj];exact⟨_,rfl⟩
 ·rw[if_neg hj,if_neg hj];exact⟨_,rfl⟩
theorem Ik(hc:X.calm=true):gk X (.builtin "min") (λxs H Q=>∃i j,xs=[.int i,.int j]/\Q (.int (if j<i then j else i)) H):=by
 intro pins s σ H xs us Q I r h
 obtain⟨i,j,rfl,q⟩:=h
 obtain⟨u,w',rfl,⟨t,rfl⟩,⟨t',rfl⟩⟩:=vals2 r
 refine min_two_ints (I.ok.hd hc) λh' tk k=>⟨_,H,I.kept k,?_,q⟩
 by_cases hj:j<i
 ·rw[if_pos hj,if_pos hj];exact⟨_,rfl⟩
 ·rw[if_neg hj,if_neg hj];exact⟨_,rfl⟩
theorem Il:gk X (.type "int") (λxs H Q=>(∃i,xs=[.int i]/\Q (.int i) H)\/∃k,xs=[.bl k]/\Q (.int (if k then 1 else 0)) H):=by
 intro pins s σ H xs us Q I r h
 rcases h with⟨i,rfl,q⟩ | ⟨k,rfl,q⟩
 ·obtain⟨u,rfl,t,rfl⟩:=vals1 r
  exact call_int_int ⟨.int i,H,I,⟨_,rfl⟩,q⟩
 ·obtain⟨u,rfl,r1⟩:=vals1 r
  cases r1
  exact call_int_bool ⟨.int (if k then 1 else 0),H,I.tok _,⟨_,rfl⟩,q⟩
end
theorem Gh.some_of{v:V}{o:Option Value}(r:Gh (some v) o):∃u,o=some u/\RelV v u:=by
 cases o with
 |none=>exact(show False from r).elim
 |some u=>exact⟨u,rfl,r⟩
structure Room (k:Nat) (A:Around):Prop where
 hd:A.handled=none
 dp:A.depth+3*k+5<recursionLimit
 un:A.units+16*k+200<cLine
theorem Room.deeper{k:Nat}{A:Around}(r:Room (k+1) A)(env:Env):Room k (A.deeper env) :=
 ⟨r.hd,by have:=r.dp;show A.depth+1+3*k+5<_;lia,by have:=r.un;show A.units+3+16*k+200<_;lia⟩
theorem Gn{A:Around}{C:Addr}{us:List Value}{kw:List (Str×Value)}:(A.under (.builtin "type.__call__" ⟨.ref C::us,kw⟩)).depth=A.depth+1:=by
 first | rfl | simp[Around.under,Code.weight,Code.isCreation,Code.isGuard,Code.isCaller,Code.frames,Code.isFrame,guardIds]
theorem Gp{A:Around}{C:Addr}{us:List Value}{kw:List (Str×Value)}:(A.under (.builtin "type.__call__" ⟨.ref C::us,kw⟩)).units=A.units+1:=by
 first | rfl | simp[Around.under,Code.cUnits,Code.frames,Code.isFrame]
theorem Room.depth{k:Nat}{A:Around}(r:Room k A):A.depth<recursionLimit:=by have:=r.dp;lia
theorem Room.units{k:Nat}{A:Around}(r:Room k A):A.units+64<cLine:=by have:=r.un;lia
noncomputable def Im(k:Nat)(A:Around):Prop:=Room k A/\∀(C:Addr) (us:List Value) (kw:List (Str×Value)),Room k (A.under (.builtin "type.__call__" ⟨.ref C::us,kw⟩))
theorem Room.deeperX{k:Nat}{A:Around}(r:Room (k+1) A)(env:Env):Im k (A.deeper env) :=
 ⟨r.deeper env,λC us kw=>⟨r.hd,by have:=r.dp;rw[Gn];show A.depth+1+1+3*k+5<_;lia,by have:=r.un;rw[Gp];show A.units+3+1+16*k+200<_;lia⟩⟩
noncomputable def tNil:TA:=λ_ H Q=>Q [] H
noncomputable def aal(ta:TE)(tr:TA):TA:=λσ H Q=>ta σ H λx H1=>tr σ H1 λxs H2=>Q (x::xs) H2
section
variable{X:Cx}{e:Expr}{es:List Expr}{te:TE}{t:TA}{pos:Pos}
theorem Po:PA X [] tNil:=λ_ _ _ _ H Q I h=>Calls.spliced_nil ⟨[],H,I,.nil,h⟩
theorem Ck(ha:PE X e te)(hr:PA X es t)(hs:starEach (e::es) X.env=(false,eval e X.env)::starEach es X.env:=by rfl):PA X (e::es) (aal te t):=by
 intro pos pins s σ H Q I h
 rw[hs]
 show wpAny _ _ (spliced ((false,eval e X.env)::backTo pos (starEach es X.env))) _ _ s
 refine HE (thn (ha pins s σ H _ I h) λu s1 ⟨x,H1,I1,r1,q1⟩=>?_)
 exact thn (hr pos pins s1 σ H1 _ I1 q1) λus s2 ⟨xs,H2,I2,r2,q2⟩=>⟨x::xs,H2,I2,.cons r1 r2,q2⟩
noncomputable def aer(t:TA):TE:=λσ H Q=>t σ H λxs H1=>xs.length<=sizeLine/\∀p,H1 p=none->Q (.ref p) (upd H1 p (.tup xs))
noncomputable def aes(t:TA):TE:=λσ H Q=>t σ H λxs H1=>xs.length<=sizeLine/\∀p,H1 p=none->Q (.ref p) (upd H1 p (.lst xs))
theorem Ed{x1}(h:PA X es t):PE X (.Tuple es x1 pos) (aer t):=by
 intro pins s σ H Q I hq
 refine wpAny_Tuple_spliced (thn (h pos pins s σ H _ I hq) λus s1 ⟨xs,H1,I1,r,z,q⟩=>⟨by rw[<-r.length];exact z,?_⟩)
 have hf:H1 s1.heap.objs.size=none:=I1.hok.fresh (AK _)
 refine⟨.ref s1.heap.objs.size,upd H1 s1.heap.objs.size (.tup xs),I1.laid (t':=s1.toks) (λb u e=>AH _ e) (AK _) ?_,rfl,q _ hf⟩
 exact⟨z,us,r,⟨_,AZ _ rfl,rfl,rfl,_,rfl⟩⟩
theorem Vy(h:PA X es t):PE X (.List es pos) (aes t):=by
 intro pins s σ H Q I hq
 refine wpAny_List_spliced (thn (h pos pins s σ H _ I hq) λus s1 ⟨xs,H1,I1,r,z,q⟩=>⟨by rw[<-r.length];exact z,?_⟩)
 have hf:H1 s1.heap.objs.size=none:=I1.hok.fresh (AK _)
 refine⟨.ref s1.heap.objs.size,upd H1 s1.heap.objs.size (.lst xs),I1.laid (t':=s1.toks) (λb u e=>AH _ e) (AK _) ?_,rfl,q _ hf⟩
 exact⟨z,us,0,r,AZ _ rfl⟩
end
noncomputable abbrev Sp:=List V->Hp->VK->XK->Prop
noncomputable abbrev CXT:=List Env->Hp->Shared->XK->Value->Shared->Prop
structure Env0 (P:Program) (w:World) (K:PySem.W.Frag) (mg:Str->Option Value) (base:Heap) (A:Around) (outer:List Env) (s:Shared) (H:Hp):Prop where
 frames:A.frames=some outer
 mod:Mod K mg base
 bs:∀b o,base.get? b=some o->s.heap.get? b=some o/\H b=none
 bsz:base.objs.size<=s.heap.objs.size
 funs:s.heap.FunFrames base outer
 frf:∀b∈frs outer,H b=none
 hok:HOk P w H s.heap
 bare:AllBare s.gens
noncomputable def CE(outer:List Env)(P:Program)(w:World)(H:Hp)(s:Shared)(Q:VK)(u:Value)(s':Shared):Prop :=
 ∃v H',s'.os=s.os/\AllBare s'.gens/\Un (frs outer) [] H H' s.heap s'.heap/\HOk P w H' s'.heap/\RelV v u/\Q v H'
noncomputable def CR(CX:CXT)(outer:List Env)(P:Program)(w:World)(H:Hp)(s:Shared)(Q:VK)(E:XK)(r:Result)(s':Shared):Prop :=
 match r with
 |.ok (.ret u)=>CE outer P w H s Q u s'
 |.ok _=>False
 |.error e=>CX outer H s E e s'
structure FnOk (P:Program) (w:World) (K:PySem.W.Frag) (mg:Str->Option Value) (base:Heap) (CX:CXT) (k:Nat) (f:Addr) (fd:FuncData) (ps:List Str) (sp:Sp):Prop where
 len:∀vs H Q E,sp vs H Q E->vs.length=ps.length
 run:∀(A:Around) (outer:List Env) (s:Shared) (H:Hp) (args:Args) (us:List Value) (vs:List V) (Q:VK) (E:XK),Room k A->Env0 P w K mg base A outer s H->BindsTo s fd args (ps.zip us)->c9 vs us->sp vs H Q E ->
  codeAny (model P w) A (.call (.ref f) args) (CR CX outer P w H s Q E) s
theorem FnOk.imp {P:Program} {w:World} {K:PySem.W.Frag} {mg:Str->Option Value} {base:Heap} {CX:CXT} {k:Nat} {f:Addr} {fd:FuncData} {ps:List Str} {sp sp':Sp} (F:FnOk P w K mg base CX k f fd ps sp)
  (h:∀vs H Q E,sp' vs H Q E->sp vs H Q E):FnOk P w K mg base CX k f fd ps sp' :=
 ⟨λvs H Q E q=>F.len vs H Q E (h _ _ _ _ q),λA outer s H args us vs Q E hr he hb hv hs=>F.run A outer s H args us vs Q E hr he hb hv (h _ _ _ _ hs)⟩
section
variable{X:Cx}{pins:List (Addr × Obj)}{σ:St}{H:Hp}{s s' : Shared}
theorem Inv.env0(I:Inv X pins σ H s):Env0 X.prog X.w X.K X.mg X.base X.A X.stack s H :=
 ⟨I.ok.frames,I.ok.mod,I.bs,BC I.ok.bsz I.sz,I.stack,I.stkFree,I.hok,I.bare⟩
theorem Inv.after{Q:VK}{u:Value}(I:Inv X pins σ H s)(h:CE X.stack X.prog X.w H s Q u s'):EP X pins σ Q u s':=by
 obtain⟨v,H',os,bare,un,hok,r,q⟩:=h
 obtain⟨hh,g,d,t,os'⟩:=s'
 obtain rfl:os'=s.os:=os
 exact⟨v,H',I.call (h':=hh) (g':=g) (d':=d) (t':=t) (ch:=[]) un hok bare (λb z=>absurd z (by simp)),r,q⟩
end
noncomputable def aam(sp:Sp)(dvs:List V)(E:XK)(t:TA):TE:=λσ H Q=>t σ H λvs H1=>sp (vs++dvs) H1 Q E
noncomputable def Binds(K:PySem.W.Frag)(fd:FuncData)(ps:List Str)(ds:List Value):Prop :=
 ∀(s:Shared) (us:List Value),K.In s.heap->(us++ds).length=ps.length->BindsTo s fd ⟨us,[]⟩ (ps.zip (us++ds))
theorem Binds.all{K:PySem.W.Frag}{fd:FuncData}{ps:List Str}(h:∀us:List Value,us.length=ps.length->bindArgs fd ⟨us,[]⟩=pure (ps.zip us)):Binds K fd ps []:=λs us _ hl=>by
 rw[DT]at hl ⊢
 exact .of_eq (h us hl)
noncomputable def Io(CX:CXT)(X:Cx)(E:XK):Prop:=∀(pins:List (Addr×Obj)) (σ:St) (H:Hp) (s:Shared) (e:Value) (s':Shared),Inv X pins σ H s->CX X.stack H s E e s'->X.xe e s'
section
variable{X:Cx}{CX:CXT}{k:Nat}{f C:Addr}{fd:FuncData}{ps:List Str}{sp:Sp}{dvs:List V}{ds:List Value}{E:XK}{x m:Str}{p pos apos:Pos}{e o:Expr}{es:List Expr}{ta:TE}{t:TA}
theorem Vz {pins:List (Addr×Obj)} {σ:St} {H:Hp} {s:Shared} {Q:VK} {us:List Value} {vs:List V} (F:FnOk X.prog X.w X.K X.mg X.base CX k f fd ps sp) (hr:Room k X.A) (hb:Binds X.K fd ps ds) (hd:c9 dvs ds) (hx:Io CX X E)
  (I:Inv X pins σ H s) (r:c9 vs us) (h:sp (vs++dvs) H Q E):wpAny (model X.prog X.w) X.A (call (.ref f) us) (EP X pins σ Q) X.xe s:=by
 have r2:c9 (vs++dvs) (us++ds):=r.append hd
 have hl:(us++ds).length=ps.length:=by rw[<-r2.length];exact F.len _ _ _ _ h
 refine wpAny_call (codeAny_mono (F.run X.A X.stack s H ⟨us,[]⟩ (us++ds) (vs++dvs) Q E hr I.env0 (hb s us I.kIn hl) r2 h) λr s' hq=>?_)
 cases r with
 |error e=>exact hx pins σ H s e s' I hq
 |ok fl =>
  cases fl with
  |ret u=>exact I.after hq
  |next=>exact False.elim hq
  |brk=>exact False.elim hq
  |cont=>exact False.elim hq
theorem R7 (F:FnOk X.prog X.w X.K X.mg X.base CX k f fd ps sp) (hr:Room k X.A) (hg:Gl X x) (hm:X.mg x=some (.ref f)) (hk:PySem.W.keepIn X.K (.ref f)=true) (hb:Binds X.K fd ps ds) (hd:c9 dvs ds) (hx:Io CX X E)
  (ha:PA X (e::es) t) (hdb:(x==("__debug__":Str))=false:=by decide) (he:starEach (e::es) X.env=(false,eval e X.env)::starEach es X.env:=by rfl) (hpl:(backTo pos (starEach es X.env)).any (·.1)=false:=by rfl) :
  PE X (.Call (.Name x p) (e::es) [] pos) (aam sp dvs E t):=by
 intro pins s σ H Q I h
 refine HF (Ib I hg hm ?_ hdb)
 refine PySem.W.callWith_K (h₀:=X.base) I.ok.mod.kin hk (thn (ha pos pins s σ H _ I h) λus s1 ⟨vs,H1,I1,r,q⟩=>⟨I1.kIn,?_⟩) he hpl
 exact Vz F hr hb hd hx I1 r q
structure Mk (K:PySem.W.Frag) (C f:Addr):Prop where
 makes:PySem.W.makesIn K C=true
 init:PySem.W.findIn K (.ref C) "__init__"=some (some (.ref f))
 fn:PySem.W.isFn K (.ref f)=true
 kp:PySem.W.keepIn K (.ref C)=true
end
structure FnScope (N P:List Str) (sc:Scope):Prop where
 kind:sc.kind=.function
 co:sc.isCoroutine=false
 gen:sc.isGenerator=false
 nd:N.Nodup
 pre:N.take P.length=P
 par:∀x∈P,sc.names.lookup x=some .local\/sc.names.lookup x=some .cell
 nofree:∀y∈sc.names,y.2≠.free
theorem Aq{kindOf:Str->Option NameKind}{x:Str}:∀{binds:List (Str×Value)} {m:Str->Option Value},(∀v,(x,v)∉binds)->bindL kindOf binds m x=m x
 | [],_,_=>rfl
 |(n,v)::r,m,h=>by
  unfold bindL
  rw[Aq λw hw=>h w (AU _ hw)]
  split
  ·have:x≠n:=by rintro rfl;exact h v BI
   simp[this]
  ·rfl
theorem Ar{kindOf:Str->Option NameKind}{x:Str}:∀{binds:List (Str×Value)} {m:Str->Option Value},(∀v,(x,v)∉binds)->bindC kindOf binds m x=m x
 | [],_,_=>rfl
 |(n,v)::r,m,h=>by
  unfold bindC
  rw[Ar λw hw=>h w (AU _ hw)]
  split
  ·rfl
  ·have:x≠n:=by rintro rfl;exact h v BI
   simp[this]
theorem As{kindOf:Str->Option NameKind}{x:Str}{v:Value}:∀{P:List Str} {vs:List Value} {i:Nat} {m:Str->Option Value},P.Nodup->P[i]? = some x->vs[i]? = some v->kindOf x=some .local ->
  bindL kindOf (P.zip vs) m x=some v
 | [],_,_,_,_,h,_,_=>by simp at h
 |_::_,[],_,_,_,_,h,_=>by simp at h
 |p::P,w::vs,0,m,nd,h1,h2,hk=>by
  simp at h1 h2;subst h1;subst h2
  show bindL kindOf ((p,w)::P.zip vs) m p=_
  unfold bindL
  rw[Aq λv hv=>(GX.mp nd).1 (IH hv).1,if_pos hk]
  simp
 |p::P,w::vs,i+1,m,nd,h1,h2,hk=>by
  show bindL kindOf ((p,w)::P.zip vs) m x=_
  unfold bindL
  exact As (i:=i) (GX.mp nd).2 (by simpa using h1) (by simpa using h2) hk
theorem Au{kindOf:Str->Option NameKind}{x:Str}{v:Value}:∀{P:List Str} {vs:List Value} {i:Nat} {m:Str->Option Value},P.Nodup->P[i]? = some x->vs[i]? = some v->kindOf x≠some .local ->
  bindC kindOf (P.zip vs) m x=some v
 | [],_,_,_,_,h,_,_=>by simp at h
 |_::_,[],_,_,_,_,h,_=>by simp at h
 |p::P,w::vs,0,m,nd,h1,h2,hk=>by
  simp at h1 h2;subst h1;subst h2
  show bindC kindOf ((p,w)::P.zip vs) m p=_
  unfold bindC
  rw[Ar λv hv=>(GX.mp nd).1 (IH hv).1,if_neg hk]
  simp
 |p::P,w::vs,i+1,m,nd,h1,h2,hk=>by
  show bindC kindOf ((p,w)::P.zip vs) m x=_
  unfold bindC
  exact Au (i:=i) (GX.mp nd).2 (by simpa using h1) (by simpa using h2) hk
noncomputable def start(N:List Str)(vs:List V):St:=vs.map some++List.replicate (N.length-vs.length) none
noncomputable def Nk(CX:CXT)(P:Program)(w:World)(K:PySem.W.Frag)(mg:Str->Option Value)(base:Heap)(N:List Str)(qual:Str)(scope:Scope)(f:Addr)(cd:Value)(A:Around)(outer:List Env)(s:Shared)(H:Hp)(E:XK):Cx where
 prog:=P
 w:=w
 K:=K
 mg:=mg
 base:=base
 A:=A.deeper (envOfC qual scope s.heap.objs.size f cd)
 N:=N
 s₀:=s
 H₀:=H
 env:=envOfC qual scope s.heap.objs.size f cd
 outer:=outer
 stack:=envOfC qual scope s.heap.objs.size f cd::outer
 ex:=[]
 calm:=true
 fn:=λ_=>true
 pn:=[]
 xe:=λe s'=>wpAny (model P w) (A.deeper (envOfC qual scope s.heap.objs.size f cd)) (leaving (envOfC qual scope s.heap.objs.size f cd) e) (λ_ s''=>CX outer H s E e s'') (λe' s''=>CX outer H s E e' s'') s'
theorem uj{sc:Scope}{n:Nat}{x:Str}(h:sc.names.lookup x=some .cell):∃c,(cellsFrom n sc.names []).lookup x=some c:=by
 have q:=IA sc.names n [] (.inl h)
 exact DY.mp q
theorem Ip {CX:CXT} {P:Program} {w:World} {K:PySem.W.Frag} {mg:Str->Option Value} {base:Heap} {N ps:List Str} {qual:Str} {scope:Scope} {f:Addr} {cd:Value} {A:Around} {outer:List Env} {s s1:Shared} {H:Hp} {E:XK} {us:List Value} {vs:List V}
  (S:FnScope N ps scope) (hd:A.handled=none) (e0:Env0 P w K mg base A outer s H) (hl:vs.length=ps.length) (r:c9 vs us)
  (x:InCallC s s.heap.objs.size (bindL (envOfC qual scope s.heap.objs.size f cd).kindOf (ps.zip us) λ_=>none) (cellsFrom (s.heap.objs.size+1) scope.names []) (bindC (envOfC qual scope s.heap.objs.size f cd).kindOf (ps.zip us) λ_=>none) s1) :
  Inv (Nk CX P w K mg base N qual scope f cd A outer s H E) [] (start N vs) H s1:=by
 have hpl:ps.length<=N.length:=by have:=congrArg List.length S.pre;rw[BV]at this;lia
 obtain⟨h1,tk,rfl,hk⟩:=x.done
 have noA:∀b:Addr,b∉(Nk CX P w K mg base N qual scope f cd A outer s H E).ex:=λb z=>absurd (show b∈([]:List Addr)from z) (by simp)
 refine⟨⟨e0.mod,S.kind,rfl,rfl,AK _,λy z c h1 h2=>?_,λy hy=>?_,λy c _ h=>?_,λ_=>hd,Around.frames_deeper e0.frames,.inr ⟨rfl,rfl⟩,λb z=>absurd z (noA b),e0.bs,e0.bsz,λb _ _=>noA b,λb z=>absurd z (noA b),e0.funs,e0.frf⟩,
  rfl,e0.bare,Un.kept hk,⟨_,x.toInCall.ns,λi y v h1 h2 h3=>?_⟩,λy c h=>⟨_,x.cell y c h⟩,e0.hok.fresh (AK _),λy c h=>?_,λp hp=>absurd (show p∈([]:List (Addr×Obj))from hp) (by simp),e0.hok.kept hk,?_⟩
 ·exact name_of_addr x.apart (DC h1) (DC h2)
 ·have hy:scope.names.lookup y=some .cell\/scope.names.lookup y=some .free:=hy
  rcases hy with hy | hy
  ·exact uj hy
  ·exact absurd rfl (S.nofree _ (DC hy))
 ·exact CP (x.above y c (DC h))
 ·have hi:i<vs.length:=by
   unfold start at h2
   by_cases hi:i<vs.length
   ·exact hi
   ·rw[BO (by simpa using hi)]at h2
    rw[Ev]at h2
    split at h2<;>cases h2
  have ha:vs[i]? = some v:=by
   unfold start at h2
   rw[AN (by simpa using hi),AV]at h2
   cases e:vs[i]? with
   |none=>rw[e]at h2;cases h2
   |some a=>rw[e]at h2;cases h2;rfl
  obtain⟨u,hu,rv⟩:=r.get ha
  have hp:ps[i]? = some y:=by
   rw[<-S.pre,CL (by lia)];exact h1
  have ndP:ps.Nodup:=by rw[<-S.pre];exact S.nd.sublist (List.take_sublist _ _)
  refine⟨u,rv,?_⟩
  rcases S.par y (BK hp)with k | k
  ·exact .inl ⟨k,As ndP hp hu k⟩
  ·obtain⟨c,e⟩:=uj (n:=s.heap.objs.size+1) k
   refine .inr ⟨.inl k,c,e,?_⟩
   have q:=x.cell y c e
   rw[Au ndP hp hu (by show scope.names.lookup y≠_;rw[k];decide)]at q
   exact q
 ·exact e0.hok.fresh (CP (x.above y c (DC h)))
 ·unfold start
  show _=N.length
  rw[AQ,AG,IL]
  lia
theorem aan {CX:CXT} {P:Program} {w:World} {K:PySem.W.Frag} {mg:Str->Option Value} {base:Heap} {k:Nat} {f:Addr} {name qual:Str} {params:Arguments} {body:List Stmt} {scope:Scope} {dV kV doc pm cdv ct oc:Value} {an od:Option Addr}
  {osl:Array (Option Value)} {N ps:List Str} {sp:Sp} (lk:K.lookup f=some ⟨oc,od,.func (PySem.W.fnOf name qual params body scope dV kV doc pm an cdv ct),osl⟩) (hcd:PySem.W.codeIn K cdv qual=true) (S:FnScope N ps scope)
  (len:∀vs H Q E,sp vs H Q E->vs.length=ps.length)
  (hbody:∀(A:Around) (outer:List Env) (s:Shared) (H:Hp) (vs:List V) (Q:VK) (E:XK),Im k (A.deeper (envOfC qual scope s.heap.objs.size f cdv))->sp vs H Q E ->
   ∃t,PSs (Nk CX P w K mg base N qual scope f cdv A outer s H E) body t/\t {nx:=λ_ H'=>Q .non H',rt:=Q} (start N vs) H) :
  FnOk P w K mg base CX (k+1) f (PySem.W.fnOf name qual params body scope dV kV doc pm an cdv ct) ps sp:=by
 refine⟨len,λA outer s H args us vs Q E hr e0 hb r hsp=>?_⟩
 have hl:=len _ _ _ _ hsp
 have KX:K.In s.heap:=e0.mod.kin.keeps λb o e=>(e0.bs b o e).1
 have lim:s.heap.NoLimit:=e0.mod.nolimit.keeps λb o e=>(e0.bs b o e).1
 have hkind:∀y∈ps.zip us,scope.names.lookup y.1=some .local\/(scope.names.lookup y.1=some .cell/\((cellsFrom (s.heap.objs.size+1) scope.names []).lookup y.1).isSome=true):=fun⟨n,v⟩ hy=>by
  rcases S.par n (IH hy).1 with q | q
  ·exact .inl q
  ·exact .inr ⟨q,IA _ _ _ (.inl q)⟩
 refine codeAny_call_function hr.depth (KX _ _ lk) rfl S.co S.gen rfl (PySem.W.codeRec_of KX hcd) (hb _ _ _ _ ?_)
 refine wpAny_newFunctionEnv_cells S.kind hkind λenv he s1 x=>?_
 subst he
 refine⟨lim.keeps x.toInCall.keep,codeAny_func ?_⟩
 obtain⟨t,ht,hq⟩:=hbody A outer s H vs Q E (hr.deeperX _) hsp
 have I:Inv (Nk CX P w K mg base N qual scope f cdv A outer s H E) [] (start N vs) H s1:=Ip S hr.hd e0 hl r x
 refine DQ (ht [] s1 (start N vs) H _ I hq) (λfl s' hs=>?_) λe s' hs=>hs
 have fin:∀{σ':St} {H':Hp} {v:V} {u:Value},Inv (Nk CX P w K mg base N qual scope f cdv A outer s H E) [] σ' H' s'->RelV v u->Q v H'->CE outer P w H s Q u s' :=
  λ{σ' H' v u} J rv q=>⟨v,H',J.os,J.bare,J.base,J.hok,rv,q⟩
 cases fl with
 |ret u =>
  obtain⟨v,σ',H',J,rv,q⟩:=hs
  exact fin J rv q
 |next =>
  obtain⟨σ',H',J,q⟩:=hs
  exact fin (v:=V.non) (u:=Value.none) J rfl q
 |brk =>
  obtain⟨_,_,_,q⟩:=hs
  exact False.elim q
 |cont =>
  obtain⟨_,_,_,q⟩:=hs
  exact False.elim q
section
variable{X:Cx}{x:Str}{p pos:Pos}{e:Expr}{es:List Expr}{t:TA}{id T:String}{r:List V -> Hp -> VK -> Prop}
noncomputable def tCB(r:List V->Hp->VK->Prop)(t:TA):TE:=λσ H Q=>t σ H λvs H1=>r vs H1 Q
theorem nc (hc:gk X (.builtin id) r) (hg:Gl X x) (hm:X.mg x=none) (hv:bootBuiltins x=some (.builtin id)) (ha:PA X (e::es) t) (hn:x≠"__name__":=by decide) (hdb:(x==("__debug__":Str))=false:=by decide)
  (he:starEach (e::es) X.env=(false,eval e X.env)::starEach es X.env:=by rfl) (hpl:(backTo pos (starEach es X.env)).any (·.1)=false:=by rfl):PE X (.Call (.Name x p) (e::es) [] pos) (tCB r t):=by
 intro pins s σ H Q I h
 refine HF (u4 I hg hm hv ?_ hn hdb)
 exact PyProof.Rows.callWith_builtin1 (thn (ha pos pins s σ H _ I h) λus s1 ⟨vs,H1,I1,r1,q1⟩=>hc pins s1 σ H1 vs us Q I1 r1 q1) he hpl
theorem u6 (hc:gk X (.type T) r) (hg:Gl X x) (hm:X.mg x=none) (hv:bootBuiltins x=some (.type T)) (ha:PA X (e::es) t) (hn:x≠"__name__":=by decide) (hdb:(x==("__debug__":Str))=false:=by decide)
  (he:starEach (e::es) X.env=(false,eval e X.env)::starEach es X.env:=by rfl) (hpl:(backTo pos (starEach es X.env)).any (·.1)=false:=by rfl):PE X (.Call (.Name x p) (e::es) [] pos) (tCB r t):=by
 intro pins s σ H Q I h
 refine HF (u4 I hg hm hv ?_ hn hdb)
 exact DN (thn (ha pos pins s σ H _ I h) λus s1 ⟨vs,H1,I1,r1,q1⟩=>hc pins s1 σ H1 vs us Q I1 r1 q1) he hpl
end
end L2
namespace HT
open PySem PyProof.Rows
noncomputable def lexLt:List Int->List Int->Bool
 | [],[]=>false
 | [],_::_=>true
 |_::_,[]=>false
 |x::xs,y::ys=>if x=y then lexLt xs ys else decide (x<y)
theorem jf(x y:Int)(xs ys:List Int):lexLt (x::xs) (y::ys)=if x=y then lexLt xs ys else decide (x<y):=rfl
theorem ni:lexLt [] []=false:=rfl
theorem ku(y:Int)(ys:List Int):lexLt [] (y::ys)=true:=rfl
theorem kz(x:Int)(xs:List Int):lexLt (x::xs) []=false:=rfl
theorem uk(A:Around)(s:Shared)(a:Int)(t:Tok)(c:Int)(u:Tok):∃e,SeqAt.EqAt A s (.int a t) (.int c u) e/\(e=true↔a=c) :=
 ⟨(a==c),JA a t c u,by simp⟩
theorem Nl(A:Around)(s:Shared)(a:Int)(t:Tok)(c:Int)(u:Tok)(prog:Program)(w:World)(E:Value->Shared->Prop)(Q:Value->Shared->Prop)(h:Q (.bool (decide (a<c))) s) :
  wpAny (model prog w) A (richCompare .Lt (.int a t) (.int c u)) Q E s :=
 (IU h:wpAny (model prog w) A (compareOp .Lt (.int a t) (.int c u)) Q E s)
section
open PySem.SeqAt
open PySem.AutoSeq1 (wpAny_loadPart')
open PySem.MeetsSeq PySem.MeetsSeq2 PySem.MeetsSeq3
theorem yx(l b:Addr)(items items2:Array Value)(n n2:Nat)(dd dd2:Option Addr)(sl sl2:Array (Option Value))(ns ms:List Int)(hi:IntsAre items.toList ns)(hj:IntsAre items2.toList ms) :
  Meets (Builtin.«tuple.__lt__» ⟨[.ref l,.ref b],[]⟩)
   (λ_ R s=>s.heap.get? l=some {cls:=.type "tuple",dict:=dd,data:=.seq items n,slots:=sl}/\s.heap.get? b=some {cls:=.type "tuple",dict:=dd2,data:=.seq items2 n2,slots:=sl2} /\
    R (.ok (.ret (.bool (lexLt ns ms)))) s) :=
 .of_wp λprog w A R s h=>by
  obtain⟨hp,g,d,tk,os⟩:=s;obtain⟨hl,hb,h⟩:=h
  have f2:=EW
  have z1:items.size=ns.length:=by rw[<-hi.length];simp
  have z2:items2.size=ms.length:=by rw[<-hj.length];simp
  wp_walk using CY hl,CY hb,GN _ (λrest b s'=>b.1=none/\s'=⟨hp,g,d,tk,os⟩/\∃(vs ws:List Value) (ns' ms':List Int),rest=vs.zip ws /\
   IntsAre vs ns'/\IntsAre ws ms'/\ns'.length+items2.size=ms'.length+items.size/\R (.ok (.ret (.bool (lexLt ns' ms')))) ⟨hp,g,d,tk,os⟩) _
  case turn =>
   rintro⟨y,x⟩ rest b s' ⟨hb',rfl,vs,ws,ns',ms',hz,hvi,hwi,hlen,hR⟩
   cases hvi with
   |nil=>rw[GI]at hz;cases hz
   |cons a t hvi' =>
    cases hwi with
    |nil=>rw[FE]at hz;cases hz
    |cons c u hwi' =>
     rw[Do]at hz
     injection hz with hyx hrest
     injection hyx with hy hx
     subst hy hx
     rw[jf]at hR
     simp![BH]at hlen
     obtain⟨e,he,hiff⟩:=uk A.in1 ⟨hp,g,d,tk,os⟩ a t c u
     refine AC (he prog w _ _ ?_)
     cases e with
     |true =>
      rw[if_pos (hiff.mp rfl)]at hR
      wp_walk
      exact⟨rfl,rfl,_,_,_,_,hrest,hvi',hwi',by lia,hR⟩
     |false =>
      rw[if_neg (λq=>absurd (hiff.mpr q) BP)]at hR
      have hri:=Nl A.in1 ⟨hp,g,d,tk,os⟩ a t c u prog w
      wp_walk using hri
      exact⟨_,rfl,by simpa using hR⟩
  case fin =>
   rintro⟨b1,b2⟩ s' ⟨hb',rfl,vs,ws,ns',ms',hz,hvi,hwi,hlen,hR⟩
   simp only at hb'
   subst hb'
   have hv:lexLt ns' ms'=decide (items.size<items2.size):=by
    cases hvi with
    |nil =>
     cases hwi with
     |nil =>
      simp![CC]at hlen
      rw[ni]
      exact(decide_eq_false (by lia)).symm
     |cons c u hw =>
      simp![CC,BH]at hlen
      rw[ku]
      exact(decide_eq_true (by lia)).symm
    |cons a t hv =>
     cases hwi with
     |nil =>
      simp![CC,BH]at hlen
      rw[kz]
      exact(decide_eq_false (by lia)).symm
     |cons c u hw =>
      rw[Do]at hz
      cases hz
   rw[hv]at hR
   wp_walk
   exact⟨_,rfl,by simpa[Builtin.Tuple.tupleCompareSizes]using hR⟩
  case h =>
   exact⟨rfl,rfl,items.toList,items2.toList,ns,ms,rfl,hi,hj,by lia,h⟩
end
section
variable{prog:Program}{w:World}{A:Around}{E:Value -> Shared -> Prop}{s:Shared}
theorem Gq {l b:Addr} {items items2:Array Value} {ns ms:List Int} {Q:Value->Shared->Prop} (hl:IsTup s.heap l items) (hb:IsTup s.heap b items2) (hi:IntsAre items.toList ns) (hj:IntsAre items2.toList ms)
  (hu:A.units<cLine) (h:Q (.bool (lexLt ns ms)) s):wpAny (model prog w) A (compareOp .Lt (.ref l) (.ref b)) Q E s:=by
 obtain⟨⟨cls,dd,data,sl⟩,ho,hc,n,hd⟩:=id hl
 obtain⟨⟨cls2,dd2,data2,sl2⟩,ho2,hc2,n2,hd2⟩:=id hb
 simp only at hc hd hc2 hd2
 subst hc hd hc2 hd2
 exact FF (op:=.Lt) ⟨_,ho,rfl⟩ ⟨_,ho2,rfl⟩ IM IB (HR _ _) (yx l b items items2 n n2 dd dd2 sl sl2 ns ms hi hj)
  ⟨ho,ho2,show Value.bool (lexLt ns ms)≠Value.notImplemented/\Q (.bool (lexLt ns ms)) s from⟨(λx=>nomatch x),h⟩⟩ hu
theorem R8 {t b:Addr} {vs ws:List Value} {Q:Value->Shared->Prop} (ht:IsTup s.heap t vs.toArray) (hb:IsTup s.heap b ws.toArray) (hv:vs≠[])
  (h1:ws=[]->Q (.ref t) s) (h2:ws≠[]->Q (.ref s.heap.objs.size) {s with heap:=s.heap.push {cls:=.type "tuple",data:=.seq (vs++ws).toArray}})
  (hsz:vs.length+ws.length<=sizeLine):wpAny (model prog w) A (binaryOp .Add (.ref t) (.ref b)) Q E s:=by
 obtain⟨⟨cls,dd,data,sl⟩,ho,hc,n,hd⟩:=id ht
 obtain⟨⟨cls2,dd2,data2,sl2⟩,ho2,hc2,n2,hd2⟩:=id hb
 simp only at hc hd hc2 hd2
 subst hc hd hc2 hd2
 have e:vs.toArray++ws.toArray=(vs++ws).toArray:=by simp
 by_cases hw:ws=[]
 ·exact concat_meets ⟨_,ho,rfl⟩ ⟨_,ho2,rfl⟩ HS seq_tuple_add GJ GH (GB _ _)
   (tuple_addW1 t b vs.toArray ws.toArray n n2 dd dd2 sl sl2 (by simpa using hv) (by simp[hw])) ⟨ho,ho2,h1 hw⟩
 ·refine concat_meets ⟨_,ho,rfl⟩ ⟨_,ho2,rfl⟩ HS seq_tuple_add GJ GH (GB _ _)
   (tuple_addW2 t b vs.toArray ws.toArray n n2 dd dd2 sl sl2 (by simpa using hv) (by simpa using hw) (by rw[AJ,AJ];exact hsz)) ⟨ho,ho2,?_⟩
  rw[e]
  exact h2 hw
noncomputable def sIx(n d:Nat):Option Int->Nat
 |none=>d
 |some v=>if v<0 then(v+(n:Int)).toNat else min v.toNat n
theorem V0(n d:Nat)(hd:d<=n)(o:Option Int):sIx n d o<=n:=by
 cases o with
 |none=>exact hd
 |some v =>
  show(if v<0 then(v+(n:Int)).toNat else min v.toNat n)<=n
  by_cases hv:v<0
  ·rw[if_pos hv];lia
  ·rw[if_neg hv];exact Nat.min_le_right _ _
theorem Iq(v:Int)(n d:Nat):(if v<0 then max (v+(n:Int)) 0 else min v (n:Int))=((sIx n d (some v):Nat):Int):=by
 show(if v<0 then max (v+(n:Int)) 0 else min v (n:Int))=(((if v<0 then(v+(n:Int)).toNat else min v.toNat n):Nat):Int)
 by_cases hv:v<0
 ·simp![if_pos hv];lia
 ·simp![if_neg hv];lia
theorem Gr(lo hi:Option Int)(n:Nat):Builtin.Slice.sliceAdjust lo hi 1 (n:Int)=(((sIx n 0 lo:Nat):Int),((sIx n n hi:Nat):Int)):=by
 have h1:¬((1:Int)<0):=by lia
 unfold Builtin.Slice.sliceAdjust
 simp![h1,if_false]
 refine Prod.ext ?_ ?_
 ·cases lo with
  |none=>rfl
  |some v=>exact Iq v n 0
 ·cases hi with
  |none=>rfl
  |some v=>exact Iq v n n
theorem Gs(i j:Nat):Builtin.Slice.slicePlaces (i:Int) (j:Int) 1=j-i:=by
 unfold Builtin.Slice.slicePlaces
 have h1:(1:Int) > 0:=by lia
 simp![h1,if_true,Int.ediv_one]
 split<;>lia
theorem yb{v:Value}{o:Option Int}{Q:Option Int->Shared->Prop}(p:IsPart v o)(h:Q o s):wpAny (model prog w) A (Builtin.Slice.slicePartIndex v) Q E s:=by
 cases p with
 |none=>exact slicePart_none h
 |int i t=>exact slicePart_int h
theorem og {sl:Addr} {vl vu:Value} {lo hi:Option Int} {n:Nat} {Q:Int×Int×Nat->Shared->Prop} (hs:s.heap.IsSliceOf sl vl vu .none) (pl:IsPart vl lo) (pu:IsPart vu hi)
  (h:Q (((sIx n 0 lo:Nat):Int),1,sIx n n hi-sIx n 0 lo) s):wpAny (model prog w) A (Builtin.Slice.sliceApplied (.ref sl) (pure (n:Int))) Q E s:=by
 obtain⟨os,hos,hcs,hds⟩:=id hs
 unfold Builtin.Slice.sliceApplied Builtin.Slice.sliceFields
 refine AC (AC (DU hos hds (x:=vl) rfl (AC (DU hos hds (x:=vu) rfl (AC (DU hos hds (x:=.none) rfl (AO ?_)))))))
 refine AC (slicePart_none ?_)
 show wpAny _ _ (if((1:Int)==0)=true then _ else _) _ _ s
 rw[if_neg (by decide)]
 refine AC (yb pl (AC (yb pu (AC (AO ?_)))))
 show wpAny _ _ (match Builtin.Slice.sliceAdjust lo hi 1 (n:Int)with | (lo,hi)=>pure (lo,(1:Int),Builtin.Slice.slicePlaces lo hi 1)) _ _ s
 rw[Gr lo hi n]
 show wpAny _ _ (pure (((sIx n 0 lo:Nat):Int),(1:Int),Builtin.Slice.slicePlaces ((sIx n 0 lo:Nat):Int) ((sIx n n hi:Nat):Int) 1)) _ _ s
 rw[Gs]
 exact AO h
theorem Nn(xs:Array Value)(i k:Nat):((List.range k).filterMap fun(m:Nat)=>xs[((i:Int)+(m:Int)*1).toNat]?).toArray=((xs.toList.drop i).take k).toArray:=by
 have e:(fun(m:Nat)=>xs[((i:Int)+(m:Int)*1).toNat]?)=λm=>xs[i+m]?:=by
  funext m
  have:((i:Int)+(m:Int)*1).toNat=i+m:=by lia
  rw[this]
 rw[e]
 have:=pick_run xs i k
 rw[List.filterMap_map]at this
 have e2:((λx=>xs[x]?)∘λx=>i+x)=λm=>xs[i+m]?:=rfl
 rw[e2]at this
 rw[this]
theorem sf {t sl:Addr} {items:Array Value} {vl vu:Value} {lo hi:Option Int} {Q:Value->Shared->Prop} (ht:IsTup s.heap t items) (hs:s.heap.IsSliceOf sl vl vu .none) (pl:IsPart vl lo) (pu:IsPart vu hi)
  (hw:¬(sIx items.size 0 lo=0/\sIx items.size items.size hi=items.size))
  (h:Q (.ref s.heap.objs.size) {s with heap:=s.heap.push {cls:=.type "tuple",data:=.seq ((items.toList.drop (sIx items.size 0 lo)).take (sIx items.size items.size hi-sIx items.size 0 lo)).toArray}})
  (hsz:items.size<=sizeLine):wpAny (model prog w) A (getItem (.ref t) (.ref sl)) Q E s:=by
 have htake:sizeOk (.seq ((items.toList.drop (sIx items.size 0 lo)).take (sIx items.size items.size hi-sIx items.size 0 lo)).toArray):=by
  show((items.toList.drop (sIx items.size 0 lo)).take (sIx items.size items.size hi-sIx items.size 0 lo)).toArray.size<=sizeLine
  rw[AJ,BV,DX,CA]
  lia
 have hj:sIx items.size items.size hi<=items.size:=V0 _ _ (AK _) hi
 obtain⟨os,hos,hcs,hds⟩:=id hs
 have hTs:s.TypeIs (.ref sl) "slice":=⟨os,hos,hcs⟩
 unfold getItem
 try with_reducible refine EV ?_
 first | refine AC (AO ?_) | skip
 refine AC (wpAny_sequenceKey ht.typeIs (by decide) ?_)
 refine AC (DK (name:=Str.ofString "__getitem__") ht.typeIs CN
  (EG CN ht.typeIs entry_tuple_getitem ?_ (args_tuple_getitem _ _)))
 show wpAny _ _ (Builtin.Tuple.tupleItemsOf (.ref t)>>=_) _ _ s
 refine AC (tupleItemsOf_ ht ?_)
 refine AC (IC hTs ?_)
 rw[if_pos (by decide)]
 refine AC (og hs pl pu ?_)
 have hno:¬((((sIx items.size 0 lo:Nat):Int)==0&&(1:Int)==1&&(sIx items.size items.size hi-sIx items.size 0 lo)==items.size)=true):=by
  intro q
  rw[AW,AW]at q
  have q1:((sIx items.size 0 lo:Nat):Int)=0:=eq_of_beq q.1.1
  have q2:sIx items.size items.size hi-sIx items.size 0 lo=items.size:=eq_of_beq q.2
  exact hw ⟨by lia,by lia⟩
 show wpAny _ _ (if(((sIx items.size 0 lo:Nat):Int)==0&&(1:Int)==1&&(sIx items.size items.size hi-sIx items.size 0 lo)==items.size)=true then _ else _) _ _ s
 rw[if_neg hno,Nn]
 first
  |exact AC (m:=Builtin.Tuple.tupleExact _) (EA (AO ⟨_,rfl,AO h⟩) htake)
  |exact AC (m:=Builtin.Tuple.tupleExact _) (EA (AC (AO (AO ⟨_,rfl,AO h⟩))) htake)
  |exact AC (AC (m:=Builtin.Tuple.tupleExact _) (EA (AO (AO ⟨_,rfl,AO h⟩)) htake))
  |exact AC (AC (m:=Builtin.Tuple.tupleExact _) (EA (AO ⟨_,rfl,AO h⟩) htake))
end
end HT
namespace L2
open PySem PySem.Spec PyProof.Rows
noncomputable abbrev TO:=St->Hp->(Option Int->Hp->Prop)->Prop
noncomputable def PO(X:Cx)(e:Option Expr)(t:TO):Prop :=
 ∀(pins:List (Addr×Obj)) (s:Shared) (σ:St) (H:Hp) (Q:Option Int->Hp->Prop),Inv X pins σ H s->t σ H Q ->
  wpAny (model X.prog X.w) X.A (evalPart e X.env) (λu s'=>∃o H',Inv X pins σ H' s'/\IsPart u o/\Q o H') X.xe s
noncomputable def tNoPart:TO:=λ_ H Q=>Q none H
noncomputable def aao(t:TE):TO:=λσ H Q=>t σ H λx H1=>∃i,x=.int i/\Q (some i) H1
theorem intsAre_of{ns:List Int}:∀{us:List Value},c9 (ns.map V.int) us->IntsAre us ns:=by
 induction ns with
 |nil=>intro us r;rw[Db]at r;cases r;exact .nil
 |cons n ns ih =>
  intro us r
  rw[AF]at r
  cases r with
  |cons r1 r2 =>
   obtain⟨t,e⟩:=r1
   subst e
   exact .cons n t (ih r2)
section
variable{X:Cx}{e:Expr}{te:TE}{lo hi:Option Expr}{tl th:TO}{pos p2:Pos}
theorem R9:PO X none tNoPart:=by
 intro pins s σ H Q I h
 rw[evalPart_none]
 exact AO ⟨none,H,I,.none,h⟩
theorem Sa(h:PE X e te):PO X (some e) (aao te):=by
 intro pins s σ H Q I hw
 rw[evalPart_some]
 refine thn (h pins s σ H _ I hw) λu s1 ⟨x,H1,I1,r1,q1⟩=>?_
 obtain⟨i,rfl,q⟩:=q1
 obtain⟨t,rfl⟩:=r1
 exact⟨some i,H1,I1,.int i t,q⟩
noncomputable def SlR(X:Cx)(r:V->Option Int->Option Int->Hp->VK->Prop):Prop :=
 ∀(pins:List (Addr×Obj)) (s:Shared) (σ:St) (H:Hp) (x:V) (v vl vu:Value) (lo hi:Option Int) (sl:Addr) (Q:VK),Inv X pins σ H s->RelV x v->s.heap.IsSliceOf sl vl vu .none->IsPart vl lo->IsPart vu hi->r x lo hi H Q ->
  ∃T id,typeLookup (.type T) "__getitem__"=pure (some (.builtin id))/\s.TypeIs v T/\wpAny (model X.prog X.w) X.A (getItem v (.ref sl)) (EP X pins σ Q) X.xe s
noncomputable def tSl(r:V->Option Int->Option Int->Hp->VK->Prop)(te:TE)(tl th:TO):TE:=λσ H Q=>te σ H λx H1=>tl σ H1 λl H2=>th σ H2 λu H3=>r x l u H3 Q
theorem Np{r:V->Option Int->Option Int->Hp->VK->Prop}(hr:SlR X r)(he:PE X e te)(hl:PO X lo tl)(hu:PO X hi th):PE X (.Subscript e (.Slice lo hi none p2) pos) (tSl r te tl th):=by
 intro pins s σ H Q I h
 refine Subscript_ (thn (he pins s σ H _ I h) λv s1 ⟨x,H1,I1,r1,q1⟩=>?_)
 refine wpAny_Slice (thn (hl pins s1 σ H1 _ I1 q1) λvl s2 ⟨l,H2,I2,pl,q2⟩=>thn (hu pins s2 σ H2 _ I2 q2) λvu s3 ⟨u,H3,I3,pu,q3⟩=>?_)
 rw[evalPart_none]
 refine AO ?_
 have I4:Inv X pins σ H3 {s3 with heap:=s3.heap.push {cls:=.type "slice",data:=.fields #[vl,vu,.none]}}:=I3.kept (t':=s3.toks) λb ob q=>AH _ q
 obtain⟨T,id,hT,ht,hg⟩:=hr pins {s3 with heap:=s3.heap.push {cls:=.type "slice",data:=.fields #[vl,vu,.none]}} σ H3 x v vl vu l u s3.heap.objs.size Q I4 r1 (Heap.IsSliceOf.new ..) pl pu q3
 show wpAny (model X.prog X.w) X.A (subscriptTail e (.Slice lo hi none p2) v (.ref s3.heap.objs.size)) (EP X pins σ Q) X.xe {s3 with heap:=s3.heap.push {cls:=.type "slice",data:=.fields #[vl,vu,.none]}}
 exact tail_any (ops:=[.ref s3.heap.objs.size,v]) ht hT hg (by with_unfolding_all rfl)
noncomputable def Pp(xs:List V)(lo hi:Option Int):List V:=(xs.drop (HT.sIx xs.length 0 lo)).take (HT.sIx xs.length xs.length hi-HT.sIx xs.length 0 lo)
theorem u7(xs:List V)(lo hi:Option Int):(Pp xs lo hi).length<=xs.length:=by
 unfold Pp
 rw[BV,DX]
 lia
noncomputable def aet(K:PySem.W.Frag):V->Option Int->Option Int->Hp->VK->Prop:=λx lo hi H Q=>∃a xs,x=.ref a/\SqT K H a xs /\
 ¬(HT.sIx xs.length 0 lo=0/\HT.sIx xs.length xs.length hi=xs.length)/\∀p,H p=none->Q (.ref p) (upd H p (.tup (Pp xs lo hi)))
theorem V1:SlR X (aet X.K):=by
 intro pins s σ H x v vl vu lo hi sl Q I rx hs pl pu h
 obtain⟨a,xs,rfl,hx,hw,q⟩:=h
 cases rx
 obtain⟨its,r,ht,hz⟩:=I.tuple hx
 have hlen:its.toArray.size=xs.length:=by rw[AJ];exact r.length.symm
 refine⟨"tuple",_,CN.lookup,ht.typeIs,?_⟩
 refine HT.sf ht hs pl pu (by rw[hlen];exact hw) ?_ (by rw[hlen];exact hz)
 rw[hlen]
 refine⟨.ref s.heap.objs.size,_,I.laid (t':=s.toks) (o:=.tup (Pp xs lo hi)) (λb ob q=>AH _ q) (AK _) ?_,rfl,q _ (I.hok.fresh (AK _))⟩
 exact⟨BC (u7 xs lo hi) hz,_,(r.drop (HT.sIx xs.length 0 lo)).take (HT.sIx xs.length xs.length hi-HT.sIx xs.length 0 lo),ua.new _ _⟩
noncomputable def aeu(K:PySem.W.Frag):R2:=λx y H Q=>∃a b ns ms,x=.ref a/\y=.ref b/\SqT K H a (ns.map V.int)/\SqT K H b (ms.map V.int)/\Q (.bl (HT.lexLt ns ms)) H
theorem V2(hu:X.A.units<cLine):OpR X (compareOp .Lt) (aeu X.K):=by
 intro pins s σ H x y v u Q I rx ry h
 obtain⟨a,b,ns,ms,rfl,rfl,ha,hb,q⟩:=h
 cases rx
 cases ry
 obtain⟨its,r1,p1,_⟩:=I.tuple ha
 obtain⟨its2,r2,p2,_⟩:=I.tuple hb
 have i1:IntsAre its.toArray.toList ns:=intsAre_of r1
 have i2:IntsAre its2.toArray.toList ms:=intsAre_of r2
 exact HT.Gq p1 p2 i1 i2 hu ⟨.bl (HT.lexLt ns ms),H,I,rfl,q⟩
noncomputable def aap(K:PySem.W.Frag):R2:=λx y H Q=>∃a b xs ys,x=.ref a/\y=.ref b/\SqT K H a xs/\SqT K H b ys/\xs≠[]/\xs.length+ys.length<=sizeLine /\
 (ys=[]->Q (.ref a) H)/\(ys≠[]->∀p,H p=none->Q (.ref p) (upd H p (.tup (xs++ys))))
theorem c9.nil_iff{xs:List V}{us:List Value}(r:c9 xs us):us=[]↔xs=[]:=by
 cases r with
 |nil=>simp
 |cons _ _=>simp
theorem Sb:OpR X (binaryOp .Add) (aap X.K):=by
 intro pins s σ H x y v u Q I rx ry h
 obtain⟨a,b,xs,ys,rfl,rfl,ha,hb,hx,hz,q1,q2⟩:=h
 cases rx
 cases ry
 obtain⟨its,r1,p1,_⟩:=I.tuple ha
 obtain⟨its2,r2,p2,_⟩:=I.tuple hb
 refine HT.R8 p1 p2 (λz=>hx (r1.nil_iff.mp z)) (λz=>⟨.ref a,H,I,rfl,q1 (r2.nil_iff.mp z)⟩) (λz=>?_) (by rw[<-r1.length,<-r2.length];exact hz)
 refine⟨.ref s.heap.objs.size,_,I.laid (t':=s.toks) (o:=.tup (xs++ys)) (λb ob q=>AH _ q) (AK _) ?_,rfl,q2 (λw=>z (r2.nil_iff.mpr w)) _ (I.hok.fresh (AK _))⟩
 exact⟨by rw[AQ];exact hz,_,r1.append r2,ua.new _ _⟩
end
noncomputable def ixN(n:Nat)(i:Int):Option Nat:=if 0<=i then(if i<n then some i.toNat else none)else if -(n:Int)<=i then some (i+n).toNat else none
noncomputable def atI{α:Type}(xs:List α)(i:Int):Option α:=(ixN xs.length i).bind λj=>xs[j]?
theorem Ir{n:Nat}{i:Int}{j:Nat}(h:ixN n i=some j):seqIndex? i n=some j/\j<n /\ -(n:Int)<=i/\i<n:=by
 unfold ixN at h
 by_cases h0:0<=i
 ·rw[if_pos h0]at h
  by_cases h1:i<n
  ·rw[if_pos h1]at h
   have e:i.toNat=j:=CB h
   exact⟨by rw[seqIndex_of h0 h1,e],by lia,by lia,h1⟩
  ·rw[if_neg h1]at h;cases h
 ·rw[if_neg h0]at h
  by_cases h1:-(n:Int)<=i
  ·rw[if_pos h1]at h
   have e:(i+n).toNat=j:=CB h
   exact⟨by rw[seqIndex_neg (by lia) h1,e],by lia,h1,by lia⟩
  ·rw[if_neg h1]at h;cases h
theorem Cm{α:Type}{xs:List α}{i:Int}{v:α}(h:atI xs i=some v):∃j,seqIndex? i xs.length=some j/\xs[j]? = some v/\j<xs.length /\ -(xs.length:Int)<=i/\i<xs.length:=by
 unfold atI at h
 cases e:ixN xs.length i with
 |none=>rw[e]at h;cases h
 |some j =>
  rw[e]at h
  obtain⟨h1,h2,h3,h4⟩:=Ir e
  exact⟨j,h1,h,h2,h3,h4⟩
noncomputable def Co(b:Expr):Prop:=∀o i,subscripted b false o i=operate [o,i] (getItem o i)
noncomputable def IxR(X:Cx)(r:R2):Prop :=
 ∀(value slice:Expr) (pins:List (Addr×Obj)) (s:Shared) (σ:St) (H:Hp) (x y:V) (v u:Value) (Q:VK),Inv X pins σ H s->RelV x v->RelV y u->r x y H Q ->
  subscripted slice false v u=operate [v,u] (getItem v u)->wpAny (model X.prog X.w) X.A (subscriptTail value slice v u) (EP X pins σ Q) X.xe s
noncomputable def MtR(X:Cx)(id:String)(r:V->List V->Hp->VK->Prop):Prop :=
 ∀(pins:List (Addr×Obj)) (s:Shared) (σ:St) (H:Hp) (x:V) (xs:List V) (v:Value) (us:List Value) (Q:VK),Inv X pins σ H s->RelV x v->c9 xs us->r x xs H Q ->
  wpAny (model X.prog X.w) X.A (call (.builtin id) (v::us)) (EP X pins σ Q) X.xe s
section
variable{X:Cx}{a b:Expr}{ta tb:TE}{pos:Pos}
theorem IxR.or{r r':R2}(h:IxR X r)(h':IxR X r'):IxR X (λx y H Q=>r x y H Q\/r' x y H Q):=by
 intro value slice pins s σ H x y v u Q I rx ry q hs
 rcases q with q | q
 ·exact h value slice pins s σ H x y v u Q I rx ry q hs
 ·exact h' value slice pins s σ H x y v u Q I rx ry q hs
theorem aaq{r:R2}(hr:IxR X r)(ha:PE X a ta)(hb:PE X b tb)(hs:Co b):PE X (.Subscript a b pos) (tOp r ta tb):=by
 intro pins s σ H Q I h
 exact Subscript_ (acx ha hb I h λv u s2 x y H2 I2 rx ry q=>hr a b pins s2 σ H2 x y v u Q I2 rx ry q (hs _ _))
noncomputable def ac0(K:PySem.W.Frag):R2:=λx y H Q=>∃p xs i v,x=.ref p/\y=.int i/\SqL K H p xs/\atI xs i=some v/\Q v H
noncomputable def ac1(K:PySem.W.Frag):R2:=λx y H Q=>∃p xs i v,x=.ref p/\y=.int i/\SqT K H p xs/\atI xs i=some v/\Q v H
noncomputable def rIxS:R2:=λx y H Q=>∃z i c,x=.str z/\y=.int i/\z.length<=sizeLine/\atI z.cps.toList i=some c/\Q (.str ⟨#[c]⟩) H
theorem Sd:IxR X (ac0 X.K):=by
 intro value slice pins s σ H x y v u Q I rx ry h hs
 obtain⟨p,xs,i,z,rfl,rfl,hq,he,q⟩:=h
 cases rx
 obtain⟨t,rfl⟩:=ry
 obtain⟨its,r,pl,hz⟩:=I.list hq
 obtain⟨j,h1,h2,h3,h4,h5⟩:=Cm he
 obtain⟨w,ew,rw'⟩:=r.get h2
 have hl:=r.length
 have hn:=ya
 have fin:EP X pins σ Q w s:=⟨z,H,I,rw',q⟩
 by_cases h0:0<=i
 ·have hj:i.toNat=j:=by
   rw[seqIndex_of h0 h5]at h1
   exact CB h1
  exact item_listR pl.isList h0 (by lia) (by rw[hj];simpa using ew) fin hs
 ·have hj:(i+(its.toArray.size:Int)).toNat=j:=by
   rw[seqIndex_neg (by lia) h4]at h1
   rw[AJ,<-hl]
   exact CB h1
  exact subscriptTail_builtinR (x:=w) pl.isList.typeIs slot_list_getitem.lookup
   (wpAny_getItem_list_neg (Q:=λr s'=>r=w/\EP X pins σ Q r s') pl.isList (by lia) (by rw[AJ]<;>lia) (by lia) (by rw[hj];simpa using ew) ⟨rfl,fin⟩) hs
theorem V3:IxR X (ac1 X.K):=by
 intro value slice pins s σ H x y v u Q I rx ry h hs
 obtain⟨p,xs,i,z,rfl,rfl,hq,he,q⟩:=h
 cases rx
 obtain⟨t,rfl⟩:=ry
 obtain⟨its,r,pl,hz⟩:=I.tuple hq
 obtain⟨j,h1,h2,h3,h4,h5⟩:=Cm he
 obtain⟨w,ew,rw'⟩:=r.get h2
 have hl:=r.length
 have hn:=ya
 have fin:EP X pins σ Q w s:=⟨z,H,I,rw',q⟩
 exact subscriptTail_builtinR (x:=w) pl.typeIs slot_tuple_getitem.lookup
  (getItem_tuple (j:=j) (Q:=λr s'=>r=w/\EP X pins σ Q r s') pl (by lia) (by lia) (by rw[AJ,<-hl];exact h1) (by simpa using ew) ⟨rfl,fin⟩) hs
theorem V4:IxR X rIxS:=by
 intro value slice pins s σ H x y v u Q I rx ry h hs
 obtain⟨z,i,c,rfl,rfl,hz,he,q⟩:=h
 obtain⟨t,rfl⟩:=rx
 obtain⟨t',rfl⟩:=ry
 obtain⟨j,h1,h2,h3,h4,h5⟩:=Cm he
 have hl:z.cps.toList.length=z.length:=by simp[Str.length]
 rw[hl]at h1 h4 h5
 have hn:=ya
 exact tail_any (typeIs_str s z t) slot_str_getitem.lookup (getItem_str (c:=c) (by
  have e1:decide (i < -(2 ^ 63:Int))=false:=decide_eq_false (by lia)
  have e2:decide (i≥2 ^ 63)=false:=decide_eq_false (by lia)
  rw[e1,e2,Bool.or_false]) (by rw[h1];simpa using h2) ⟨.str ⟨#[c]⟩,H,I.tok _,⟨_,rfl⟩,q⟩) hs
noncomputable def rIx(K:PySem.W.Frag):R2:=λx y H Q=>ac0 K x y H Q\/ac1 K x y H Q\/rIxS x y H Q
theorem V5:IxR X (rIx X.K):=Sd.or (V3.or V4)
theorem Gu(its:List Value)(n j:Nat)(u:Value):Obj.mapSeq (·.setIfInBounds j u) {cls:=.type "list",data:=.seq its.toArray n}={cls:=.type "list",data:=.seq (its.set j u).toArray n}:=by
 simp[Obj.mapSeq]
theorem Inv.lst{pins:List (Addr×Obj)}{σ:St}{H:Hp}{s:Shared}{p:Addr}{xs:List V}(I:Inv X pins σ H s)(h:H p=some (.lst xs)) :
  ∃(its:List Value) (n:Nat),c9 xs its/\s.heap.get? p=some {cls:=.type "list",data:=.seq its.toArray n}/\xs.length<=sizeLine:=by
 obtain⟨z,its,n,r,e⟩:=I.hok p _ h
 exact⟨its,n,r,e,z⟩
theorem Inv.lstUpd {pins:List (Addr×Obj)} {σ:St} {H:Hp} {s:Shared} {p:Addr} {xs ys:List V} {its its':List Value} {n n':Nat} {f:Obj->Obj} (I:Inv X pins σ H s) (h:H p=some (.lst xs))
  (ho:s.heap.get? p=some {cls:=.type "list",data:=.seq its.toArray n}) (hf:f {cls:=.type "list",data:=.seq its.toArray n}={cls:=.type "list",data:=.seq its'.toArray n'}) (r:c9 ys its') (hz:ys.length<=sizeLine) (t:Nat) :
  Inv X pins σ (upd H p (.lst ys)) {s with heap:=s.heap.update p f,toks:=t}:=by
 have e:(s.heap.update p f).get? p=some {cls:=.type "list",data:=.seq its'.toArray n'}:=by
  rw[IN f ho (by rw[hf]<;>rfl),hf]
 refine I.write (x:=p) (e:=p) (by rw[h];trivial) (.inl rfl) (λb u hb q=>(ID _ _ (Ne.symm hb)).trans q) ⟨_,e⟩ ?_
 exact⟨hz,its',n',r,e⟩
noncomputable def rSetL:V->V->V->Hp->(Hp->Prop)->Prop:=λo i v H Q=>∃p xs k j,o=.ref p/\i=.int k/\H p=some (.lst xs)/\ixN xs.length k=some j/\Q (upd H p (.lst (xs.set j v)))
theorem set_list:Zp X rSetL:=by
 intro pins s σ H o i v ov iv u Q I ro ri rv h
 obtain⟨p,xs,k,j,rfl,rfl,hp,hj,q⟩:=h
 cases ro
 obtain⟨t,rfl⟩:=ri
 obtain⟨its,n,r,ho,hz⟩:=I.lst hp
 obtain⟨h1,h2,h3,h4⟩:=Ir hj
 have hl:=r.length
 have hn:=ya
 have I':Inv X pins σ (upd H p (.lst (xs.set j v))) {s with heap:=s.heap.update p (Obj.mapSeq (·.setIfInBounds j u))} :=
  I.lstUpd hp ho (Gu its n j u) (r.set rv j) (by rw[List.length_set];exact hz) s.toks
 by_cases h0:0<=k
 ·have hk:k.toNat=j:=by
   rw[seqIndex_of h0 h4]at h1
   exact CB h1
  exact PySem.W.ki_setAt ho h0 (by lia) (by rw[AJ,<-hl];exact h4) (by rw[hk];exact⟨_,I',q⟩)
 ·have hk:(k+(its.toArray.size:Int)).toNat=j:=by
   rw[seqIndex_neg (by lia) h3]at h1
   rw[AJ,<-hl]
   exact CB h1
  exact PySem.W.ki_setBack ho (by lia) (by rw[AJ,<-hl];exact h3) (by lia) (by rw[hk];exact⟨_,I',q⟩)
theorem Av(lo hi:Option Int)(n:Nat):(sliceBounds lo hi none n).1=((HT.sIx n 0 lo:Nat):Int)/\(sliceBounds lo hi none n).2.1=((HT.sIx n n hi:Nat):Int)/\(sliceBounds lo hi none n).2.2=1:=by
 refine⟨?_,?_,rfl⟩
 ·cases lo with
  |none=>simp[sliceBounds,HT.sIx]
  |some i =>
   simp![sliceBounds,HT.sIx,Option.getD_none,show(1:Int) > 0 by decide,if_true]
   by_cases h:i<0
   ·simp![h,if_true]<;>lia
   ·simp![h,if_false]<;>lia
 ·cases hi with
  |none=>simp[sliceBounds,HT.sIx]
  |some i =>
   simp![sliceBounds,HT.sIx,Option.getD_none,show(1:Int) > 0 by decide,if_true]
   by_cases h:i<0
   ·simp![h,if_true]<;>lia
   ·simp![h,if_false]<;>lia
theorem yy(its:List Value)(lo hi:Option Int):slicePick its.toArray lo hi none=((its.drop (HT.sIx its.length 0 lo)).take (HT.sIx its.length its.length hi-HT.sIx its.length 0 lo)).toArray:=by
 obtain⟨h1,h2,h3⟩:=Av lo hi its.toArray.size
 unfold slicePick
 rw[h1,h2,h3]
 simp![sliceRange_one,pick_run,AJ]<;>rfl
noncomputable def aev(K:PySem.W.Frag):V->Option Int->Option Int->Hp->VK->Prop:=λx lo hi H Q=>∃a xs,x=.ref a/\SqL K H a xs/\∀p,H p=none->Q (.ref p) (upd H p (.lst (Pp xs lo hi)))
theorem Se:SlR X (aev X.K):=by
 intro pins s σ H x v vl vu lo hi sl Q I rx hs pl pu h
 obtain⟨a,xs,rfl,hx,q⟩:=h
 cases rx
 obtain⟨its,r,ht,hz⟩:=I.list hx
 have hlen:=r.length
 refine⟨"list",_,slot_list_getitem.lookup,ht.isList.typeIs,?_⟩
 refine wpAny_getItem_list_slice ht.isList hs pl pu .none (by simp) ?_ (by rw[AJ]<;>lia)
 rw[yy,<-hlen]
 refine⟨.ref s.heap.objs.size,_,I.laid (t':=s.toks) (o:=.lst (Pp xs lo hi)) (λb ob q=>AH _ q) (AK _) ?_,rfl,q _ (I.hok.fresh (AK _))⟩
 exact⟨BC (u7 xs lo hi) hz,_,0,(r.drop (HT.sIx xs.length 0 lo)).take (HT.sIx xs.length xs.length hi-HT.sIx xs.length 0 lo),AZ _ rfl⟩
noncomputable def xq:V->Bool
 |.non=>true
 |.bl _=>true
 |.int _=>true
 |.str _=>true
 |_=>false
noncomputable def eqV:V->V->Bool
 |.non,.non=>true
 |.bl a,.bl b=>a==b
 |.bl a,.int b=>(if a then 1 else 0)==b
 |.int a,.bl b=>a==(if b then 1 else 0)
 |.int a,.int b=>a==b
 |.str a,.str b=>a==b
 |_,_=>false
theorem V6{A:Around}{s:Shared}{y x:V}{u v:Value}(ry:RelV y u)(rx:RelV x v)(fy:xq y=true)(fx:xq x=true):SeqAt.EqAt A s u v (eqV y x):=by
 cases y with
 |non =>
  cases ry
  cases x with
  |non=>cases rx;exact SeqAt.EqAt.same _
  |bl b=>cases rx;exact SeqAt.EqAt.none_bool b
  |int b=>obtain⟨t,rfl⟩:=rx;exact SeqAt.EqAt.none_int b t
  |str b=>obtain⟨t,rfl⟩:=rx;exact SeqAt.EqAt.none_str b t
  |_=>exact absurd (show false=true from fx) BP
 |bl a =>
  cases ry
  cases x with
  |non=>cases rx;exact SeqAt.EqAt.bool_none a
  |bl b=>cases rx;exact SeqAt.EqAt.bool_bool a b
  |int b=>obtain⟨t,rfl⟩:=rx;exact SeqAt.EqAt.bool_int a b t
  |str b=>obtain⟨t,rfl⟩:=rx;exact SeqAt.EqAt.bool_str a b t
  |_=>exact absurd (show false=true from fx) BP
 |int a =>
  obtain⟨t',rfl⟩:=ry
  cases x with
  |non=>cases rx;exact SeqAt.EqAt.int_none a t'
  |bl b=>cases rx;exact SeqAt.EqAt.int_bool a t' b
  |int b=>obtain⟨t,rfl⟩:=rx;exact JA a t' b t
  |str b=>obtain⟨t,rfl⟩:=rx;exact IY a t' b t
  |_=>exact absurd (show false=true from fx) BP
 |str a =>
  obtain⟨t',rfl⟩:=ry
  cases x with
  |non=>cases rx;exact SeqAt.EqAt.str_none a t'
  |bl b=>cases rx;exact SeqAt.EqAt.str_bool a t' b
  |int b=>obtain⟨t,rfl⟩:=rx;exact IZ a t' b t
  |str b=>obtain⟨t,rfl⟩:=rx;exact SeqAt.EqAt.str_str a t' b t
  |_=>exact absurd (show false=true from fx) BP
 |_=>exact absurd (show false=true from fy) BP
noncomputable def eqU(x:V)(u:Value):Bool:=match u with
 |.none=>eqV .non x
 |.bool b=>eqV (.bl b) x
 |.int i _=>eqV (.int i) x
 |.str z _=>eqV (.str z) x
 |_=>false
theorem Pq{x y:V}{u:Value}(r:RelV y u)(f:xq y=true):eqU x u=eqV y x:=by
 cases y with
 |non=>cases r;rfl
 |bl b=>cases r;rfl
 |int i=>obtain⟨t,rfl⟩:=r;rfl
 |str z=>obtain⟨t,rfl⟩:=r;rfl
 |_=>exact absurd (show false=true from f) BP
theorem u9{x:V}:∀{xs:List V} {us:List Value},c9 xs us->xs.all xq=true->us.any (eqU x)=xs.any λy=>eqV y x
 |_,_,.nil,_=>rfl
 |y::xs,u::us,.cons r t,f=>by
  rw[BF,AW]at f
  rw[CZ,CZ,Pq r f.1,u9 t f.2]
theorem qy{A:Around}{s:Shared}{x:V}{v:Value}(rx:RelV x v)(fx:xq x=true):∀{xs:List V} {us:List Value},c9 xs us->xs.all xq=true->∀u∈us,SeqAt.EqAt A s u v (eqU x u)
 |_,_,.nil,_=>λu hu=>by cases hu
 |y::xs,u::us,.cons r t,f=>λu' hu=>by
  rw[BF,AW]at f
  rcases AS.mp hu with rfl | hu
  ·rw[Pq r f.1];exact V6 r rx f.1 fx
  ·exact qy rx fx t f.2 u' hu
noncomputable def inV(x:V)(xs:List V):Bool:=xs.any λy=>eqV y x
noncomputable def rIn(K:PySem.W.Frag)(neg:Bool):R2:=λx y H Q=>∃p xs,y=.ref p/\(SqL K H p xs\/SqT K H p xs)/\xq x=true/\xs.all xq=true/\Q (.bl (if neg then !inV x xs else inV x xs)) H
theorem Iu:OpR X (compareOp .In) (rIn X.K false):=by
 intro pins s σ H x y v u Q I rx ry h
 obtain⟨p,xs,rfl,hq,fx,fs,q⟩:=h
 cases ry
 rcases hq with hq | hq
 ·obtain⟨its,r,pl,hz⟩:=I.list hq
  refine SeqAt.in_listAt (eqU x) pl.isList (λw hw=>qy rx fx r fs w (by simpa using hw)) ⟨.bl _,H,I,rfl,?_⟩
  rw[show its.toArray.any (eqU x)=its.any (eqU x)by simp,u9 r fs]
  exact q
 ·obtain⟨its,r,pl,hz⟩:=I.tuple hq
  refine SeqAt.in_tupleAt (eqU x) pl (λw hw=>qy rx fx r fs w (by simpa using hw)) ⟨.bl _,H,I,rfl,?_⟩
  rw[show its.toArray.any (eqU x)=its.any (eqU x)by simp,u9 r fs]
  exact q
theorem Aw:OpR X (compareOp .NotIn) (rIn X.K true):=by
 intro pins s σ H x y v u Q I rx ry h
 obtain⟨p,xs,rfl,hq,fx,fs,q⟩:=h
 cases ry
 rcases hq with hq | hq
 ·obtain⟨its,r,pl,hz⟩:=I.list hq
  refine SeqAt.notIn_listAt (eqU x) pl.isList (λw hw=>qy rx fx r fs w (by simpa using hw)) ⟨.bl _,H,I,rfl,?_⟩
  rw[show its.toArray.any (eqU x)=its.any (eqU x)by simp,u9 r fs]
  exact q
 ·obtain⟨its,r,pl,hz⟩:=I.tuple hq
  refine SeqAt.notIn_tupleAt (eqU x) pl (λw hw=>qy rx fx r fs w (by simpa using hw)) ⟨.bl _,H,I,rfl,?_⟩
  rw[show its.toArray.any (eqU x)=its.any (eqU x)by simp,u9 r fs]
  exact q
theorem Ax:gk X (.builtin "len") (λxs H Q=>∃p ys,xs=[.ref p]/\(SqL X.K H p ys\/SqT X.K H p ys)/\Q (.int ys.length) H):=by
 intro pins s σ H xs us Q I r h
 obtain⟨p,ys,rfl,hq,q⟩:=h
 obtain⟨u,rfl,rx⟩:=vals1 r
 cases rx
 have hn:=ya
 rcases hq with hq | hq
 ·obtain⟨its,r',pl,hz⟩:=I.list hq
  have hlen:=r'.length
  exact Calls.call_len_list pl.isList (by simp![AJ]<;>lia) ⟨.int ys.length,H,I.tok _,⟨s.toks+1,by rw[AJ,hlen]⟩,q⟩
 ·obtain⟨its,r',pl,hz⟩:=I.tuple hq
  have hlen:=r'.length
  exact len_tuple pl (by simp![AJ]<;>lia) ⟨.int ys.length,H,I.tok _,⟨s.toks+1,by rw[AJ,hlen]⟩,q⟩
theorem Ay:gk X (.type "list") (λxs H Q=>∃p ys,xs=[.ref p]/\(SqL X.K H p ys\/SqT X.K H p ys)/\∀l,H l=none->Q (.ref l) (upd H l (.lst ys))):=by
 intro pins s σ H xs us Q I r h
 obtain⟨p,ys,rfl,hq,q⟩:=h
 obtain⟨u,rfl,rx⟩:=vals1 r
 cases rx
 have fin:∀(its:List Value),c9 ys its->ys.length<=sizeLine->∀(h':Heap) (c':Nat),(∀b o',s.heap.get? b=some o'->h'.get? b=some o') ->
   h'.get? s.heap.objs.size=some {cls:=.type "list",dict:=none,data:=.seq its.toArray c',slots:=#[]}->EP X pins σ Q (.ref s.heap.objs.size) {s with heap:=h'}:=λits r' hz h' c' kp e =>
  ⟨.ref s.heap.objs.size,_,I.laid (t':=s.toks) kp (AK _) (show jk X.prog X.w _ h' _ (.lst ys)from⟨hz,its,c',r',e⟩),rfl,q _ (I.hok.fresh (AK _))⟩
 rcases hq with hq | hq
 ·obtain⟨its,r',pl,hz⟩:=I.list hq
  have hlen:=r'.length
  obtain⟨o,ho,hc,n,hd⟩:=pl.isList
  exact call_list_seq p (.inl rfl) ho hc hd (λh' c' kp e=>fin its r' hz h' c' kp e) (by simp![AJ]<;>lia)
 ·obtain⟨its,r',pl,hz⟩:=I.tuple hq
  have hlen:=r'.length
  obtain⟨o,ho,hc,n,hd⟩:=pl
  exact call_list_seq p (.inr rfl) ho hc hd (λh' c' kp e=>fin its r' hz h' c' kp e) (by simp![AJ]<;>lia)
theorem yz:gk X (.type "tuple") (λxs H Q=>∃p ys,xs=[.ref p]/\((SqL X.K H p ys/\∀l,H l=none->Q (.ref l) (upd H l (.tup ys)))\/(SqT X.K H p ys/\Q (.ref p) H))):=by
 intro pins s σ H xs us Q I r h
 obtain⟨p,ys,rfl,h⟩:=h
 obtain⟨u,rfl,rx⟩:=vals1 r
 cases rx
 rcases h with⟨hq,q⟩ | ⟨hq,q⟩
 ·obtain⟨its,r',pl,hz⟩:=I.list hq
  have hlen:=r'.length
  refine call_tuple_list pl.isList (λh' kp=>?_) (by simp![AJ]<;>lia)
  have I1:Inv X pins σ H {s with heap:=h'}:=I.kept (t':=s.toks) kp
  have I2:Inv X pins σ (upd H h'.objs.size (.tup ys)) {s with heap:=h'.push {cls:=.type "tuple",data:=.seq its.toArray}} :=
   I1.laid (t':=s.toks) (λb o e=>AH _ e) (AK _) (show jk X.prog X.w _ _ _ (.tup ys)from⟨hz,its,r',ua.new _ _⟩)
  exact⟨.ref h'.objs.size,_,I2,rfl,q _ (I1.hok.fresh (AK _))⟩
 ·obtain⟨its,r',pl,hz⟩:=I.tuple hq
  exact call_tuple_same pl ⟨.ref p,H,I,rfl,q⟩
noncomputable def tyV(K:PySem.W.Frag)(T:String)(x:V)(H:Hp):Prop:=match x with
 |.str _=>T="str"
 |.int _=>T="int"
 |.ref p=>(T="list"/\∃xs,SqL K H p xs)\/(T="tuple"/\∃o,K.lookup p=some o/\o.cls=.type "tuple"/\o.dict=none) \/
   (T="dict"/\((∃kvs,H p=some (.dK kvs))\/∃kvs,H p=some (.dT kvs)))\/(T="set"/\∃S n,H p=some (.set S n))
 |_=>False
theorem V7{pins:List (Addr×Obj)}{σ:St}{H:Hp}{s:Shared}{T:String}{x:V}{v:Value}(I:Inv X pins σ H s)(r:RelV x v)(ty:tyV X.K T x H) :
  s.TypeIs v T/\∀a,v=.ref a->∃ob,s.heap.get? a=some ob/\ob.dict=none:=by
 cases x with
 |str z =>
  obtain⟨t,rfl⟩:=r
  cases(show T="str" from ty)
  exact⟨typeIs_str s z t,λ_ e=>nomatch e⟩
 |int i =>
  obtain⟨t,rfl⟩:=r
  cases(show T="int" from ty)
  exact⟨typeIs_int s i t,λ_ e=>nomatch e⟩
 |ref p =>
  cases r
  rcases ty with⟨rfl,xs,hq⟩ | ⟨rfl,o,hk,hc,hd⟩ | ⟨rfl,hk⟩ | ⟨rfl,S,n,hk⟩
  ·obtain⟨its,_,pl,_⟩:=I.list hq
   refine⟨pl.isList.typeIs,λa e=>?_⟩
   cases e
   obtain⟨o,n,e,c,hd,_⟩:=pl
   exact⟨o,e,hd⟩
  ·refine⟨⟨o,I.kIn p o hk,hc⟩,λa e=>?_⟩
   cases e
   exact⟨o,I.kIn _ o hk,hd⟩
  ·have z:∃o,s.heap.get? p=some o/\o.ExactDict:=by
    rcases hk with⟨kvs,hk⟩ | ⟨kvs,hk⟩
    ·obtain⟨_,_,_,_,o,_,_,e,ex,_⟩:=I.hok p _ hk
     exact⟨o,e,ex⟩
    ·obtain⟨_,_,_,_,o,_,_,e,ex,_⟩:=I.hok p _ hk
     exact⟨o,e,ex⟩
   obtain⟨o,e,ex⟩:=z
   refine⟨⟨o,e,ex.1⟩,λa e2=>?_⟩
   cases e2
   exact⟨o,e,ex.2.1⟩
  ·obtain⟨o,_,_,_,e,ex,_⟩:=I.hok p _ hk
   refine⟨⟨o,e,ex.1⟩,λa e2=>?_⟩
   cases e2
   exact⟨o,e,ex.2.1⟩
 |_=>exact False.elim ty
noncomputable def tBM(K:PySem.W.Frag)(T:String)(r:V->List V->Hp->VK->Prop)(to:TE)(t:TA):TE:=λσ H Q=>to σ H λx H1=>tyV K T x H1/\t σ H1 λxs H2=>r x xs H2 Q
variable{o e:Expr}{es:List Expr}{to:TE}{t:TA}{name:Str}{apos cpos:Pos}{T id:String}{r:V -> List V -> Hp -> VK -> Prop}
theorem V8 (pa:PlainAttrs T) (slot:Slot T name id) (hty:typeOf (.builtin id)=pure (.type "method_descriptor")) (hm:MtR X id r) (ho:PE X o to) (ha:PA X (e::es) t)
  (hbase:attributeBase o name X.env (eval o X.env)=eval o X.env:=by rfl)
  (hfew:((backTo cpos (starEach (e::es) X.env)).all (λx=>!x.1)&&(backToKw cpos (keywordEach [] X.env)).all (λx=>x.1.isSome)
   && decide ((e::es).length+([]:List Keyword).length+(if([]:List Keyword).isEmpty then 0 else 1)<30))=true:=by rfl)
  (hline:(apos.endLine==cpos.line)=true:=by rfl) (hs:starEach (e::es) X.env=(false,eval e X.env)::starEach es X.env:=by rfl) (hplain:(backTo cpos (starEach es X.env)).any (·.1)=false:=by rfl) :
  PE X (.Call (.Attribute o name apos) (e::es) [] cpos) (tBM X.K T r to t):=by
 intro pins s σ H Q I h
 refine wpAny_Call_method_late hbase hfew hline rfl (thn (ho pins s σ H _ I h) λv s1 ⟨x,H1,I1,r1,ty,q1⟩=>?_)
 obtain⟨h1,h2⟩:=V7 I1 r1 ty
 refine⟨T,id,pa,slot,hty,h1,h2,?_⟩
 have hA:=ha cpos pins s1 σ H1 _ I1 q1
 rw[hs]at hA ⊢
 refine IE (by show(false || (backTo cpos (starEach es X.env)).any (·.1))=false;rw[hplain]<;>rfl) (IR ?_)
 exact thn hA λus s2 ⟨vs,H2,I2,r2,q2⟩=>hm pins s2 σ H2 x vs v us Q I2 r1 r2 q2
end
noncomputable def MtM(X:Cx)(id:String)(r:V->List V->Hp->VK->Prop):Prop :=
 ∀(pins:List (Addr×Obj)) (s:Shared) (σ:St) (H:Hp) (x:V) (xs:List V) (v:Value) (us:List Value) (Q:VK),Inv X pins σ H s->RelV x v->c9 xs us->r x xs H Q ->
  wpAny (model X.prog X.w) X.A (call (.builtin id) (v::us)) (EP X pins σ Q) X.xe s
theorem c9.one:∀{x:V} {us:List Value},c9 [x] us->∃u,us=[u]/\RelV x u
 |_,_,.cons r .nil=>⟨_,rfl,r⟩
theorem c9.rep{xs:List V}{us:List Value}(h:c9 xs us):∀k:Nat,c9 (List.replicate k xs).flatten (List.replicate k us).flatten
 |0=>.nil
 |k+1=>by
  rw[CQ,CQ,DD,DD]
  exact c9.append h (c9.rep h k)
theorem foldl_rep(its:List Value):∀(k:Nat) (acc:List Value),
  List.foldl (λx1 x2=>x1++x2) acc.toArray (List.replicate k its.toArray)=(acc++(List.replicate k its).flatten).toArray
 |0,acc=>by simp
 |k+1,acc=>by
  have e:acc.toArray++its.toArray=(acc++its).toArray:=by simp
  have e2:(acc++its)++(List.replicate k its).flatten=acc++(List.replicate (k+1) its).flatten:=by
   rw[CQ,DD,AD]
  rw[<-e2,<-foldl_rep its k (acc++its),<-e,CQ,List.foldl_cons]
section
variable{X:Cx}{pins:List (Addr × Obj)}{σ:St}{H:Hp}{s:Shared}{l b:Addr}{xs ys zs:List V}
theorem Inv.lset {its its':List Value} {n:Nat} {f:Array Value->Array Value} {t':Nat} (I:Inv X pins σ H s) (hH:H l=some (.lst xs))
  (e:s.heap.get? l=some {cls:=.type "list",data:=.seq its.toArray n}) (hf:f its.toArray=its'.toArray) (hv:c9 ys its') (hz:ys.length<=sizeLine) :
  Inv X pins σ (upd H l (.lst ys)) {s with heap:=s.heap.update l (Obj.mapSeq f),toks:=t'}:=by
 have q:=PySem.IsL.update e f
 rw[hf]at q
 refine I.write (x:=l) (e:=l) (by rw[hH];exact trivial) (.inl rfl) (λb' u hb hu=>(ID s.heap (Obj.mapSeq f) (Ne.symm hb)).trans hu) ⟨_,q⟩ ?_
 exact⟨hz,its',_,hv,q⟩
theorem Inv.lnew{its:List Value}{t':Nat}(I:Inv X pins σ H s)(hv:c9 ys its)(hz:ys.length<=sizeLine) :
  Inv X pins σ (upd H s.heap.objs.size (.lst ys)) {s with heap:=s.heap.push {cls:=.type "list",data:=.seq its.toArray},toks:=t'} :=
 I.laid (λ_ _ q=>AH _ q) (AK _) ⟨hz,its,0,hv,AZ _ rfl⟩
theorem Inv.fresh(I:Inv X pins σ H s):H s.heap.objs.size=none:=I.hok.fresh (AK _)
theorem Inv.lstM(I:Inv X pins σ H s)(hH:H l=some (.lst xs)):xs.length<=sizeLine/\∃(its:List Value) (n:Nat),c9 xs its/\xs.length=its.length/\s.heap.get? l=some {cls:=.type "list",data:=.seq its.toArray n}:=by
 obtain⟨z,its,n,r,e⟩:=I.hok l _ hH
 exact⟨z,its,n,r,r.length,e⟩
theorem Ee{n:Nat}(h:n<=sizeLine):Builtin.List.listTooLong n=false:=by
 unfold Builtin.List.listTooLong
 exact decide_eq_false (by lia)
end
section
variable{X:Cx}
noncomputable def rAppend:V->List V->Hp->VK->Prop:=λx vs H Q=>∃l xs y,x=.ref l/\vs=[y]/\H l=some (.lst xs)/\xs.length<sizeLine/\Q .non (upd H l (.lst (xs++[y])))
theorem Iv:MtM X "list.append" rAppend:=by
 intro pins s σ H x vs v us Q I rx rv h
 obtain⟨l,xs,y,rfl,rfl,hH,hz,q⟩:=h
 cases rx
 obtain⟨u,rfl,ru⟩:=rv.one
 obtain⟨z,its,n,r,hl,e⟩:=I.lstM hH
 refine call_meets F.slot_list_append ⟨_,e,rfl⟩ F.entry_list_append (F.args_list_append_2 _ _) (PySem.list_append l its.toArray n u (by rw[AJ];lia)) ⟨e,?_⟩
 refine⟨.non,_,I.lset (its':=its++[u]) hH e (by simp) (r.append (.cons ru .nil)) ?_,rfl,q⟩
 rw[AQ,List.length_singleton]
 lia
theorem len_rep{α:Type}(xs:List α)(k:Nat):(List.replicate k xs).flatten.length=k*xs.length:=by
 induction k with
 |zero=>simp
 |succ k ih=>rw[CQ,DD,AQ,ih,Nat.succ_mul,Nat.add_comm]
end
section
variable{κ:Type}[DecidableEq κ]
noncomputable def yc(kvs:List (κ×V))(k:κ):Option V:=(kvs.find? λkv=>decide (kv.1=k)).map (·.2)
noncomputable def putK(kvs:List (κ×V))(k:κ)(v:V):List (κ×V) :=
 if(kvs.any λkv=>decide (kv.1=k))=true then kvs.map (λkv=>if kv.1=k then(kv.1,v)else kv)else kvs++[(k,v)]
theorem qz{p:κ×V}{r:List (κ×V)}{k:κ}(e:p.1=k):yc (p::r) k=some p.2:=by simp[yc,FO,e]
theorem rf{p:κ×V}{r:List (κ×V)}{k:κ}(e:¬p.1=k):yc (p::r) k=yc r k:=by simp[yc,FO,e]
theorem Ef(k:κ):∀kvs:List (κ×V),(kvs.any λkv=>decide (kv.1=k))=(yc kvs k).isSome
 | []=>rfl
 |p::r=>by
  rw[CZ]
  by_cases e:p.1=k
  ·simp![qz e,decide_eq_true e,Bool.true_or,Option.isSome_some]
  ·rw[rf e,decide_eq_false e,Bool.false_or];exact Ef k r
theorem vc(kvs:List (κ×V))(k:κ)(v:V):(putK kvs k v).length<=kvs.length+1:=by
 unfold putK
 split
 ·rw[AG];lia
 ·rw[AQ,BH,CC];lia
theorem Gh.isSome_eq{o:Option V}{u:Option Value}(r:Gh o u):o.isSome=u.isSome:=by
 cases o with
 |none=>cases u with
  |none=>rfl
  |some _=>exact(show False from r).elim
 |some _=>cases u with
  |none=>exact(show False from r).elim
  |some _=>rfl
theorem Gh.getD{o:Option V}{u:Option Value}{d:V}{d':Value}(r:Gh o u)(rd:RelV d d'):RelV (o.getD d) (u.getD d'):=by
 cases o with
 |none=>cases u with
  |none=>exact rd
  |some _=>exact(show False from r).elim
 |some _=>cases u with
  |none=>exact(show False from r).elim
  |some _=>exact r
theorem KV.val{kvs:List (κ×V)}{vs:List (κ×Value)}(r:KV kvs vs)(k:κ):Gh (yc kvs k) (valueAt vs k):=by
 unfold KV at r
 induction r with
 |nil=>exact True.intro
 | @cons p q ps qs h t ih =>
  obtain⟨h1,h2⟩:=h
  by_cases e:p.1=k
  ·have e':q.1=k:=h1.symm.trans e
   have b:valueAt (q::qs) k=some q.2:=by simp[valueAt,FO,e']
   rw[qz e,b];exact h2
  ·have e':¬q.1=k:=λz=>e (h1.trans z)
   have b:valueAt (q::qs) k=valueAt qs k:=by simp[valueAt,FO,e']
   rw[rf e,b];exact ih
theorem KV.any{kvs:List (κ×V)}{vs:List (κ×Value)}(r:KV kvs vs)(k:κ):(kvs.any λkv=>decide (kv.1=k))=vs.any λkv=>decide (kv.1=k):=by
 unfold KV at r
 induction r with
 |nil=>rfl
 |cons h t ih=>rw[CZ,CZ,ih,h.1]
theorem KV.repl{kvs:List (κ×V)}{vs:List (κ×Value)}(r:KV kvs vs)(k:κ){y:V}{u:Value}(ry:RelV y u) :
  KV (kvs.map λkv=>if kv.1=k then(kv.1,y)else kv) (vs.map λkv=>if kv.1=k then(kv.1,u)else kv):=by
 unfold KV at r ⊢
 induction r with
 |nil=>exact .nil
 | @cons p q ps qs h t ih =>
  rw[AF,AF]
  refine .cons ?_ ih
  obtain⟨h1,h2⟩:=h
  by_cases e:p.1=k
  ·rw[if_pos e,if_pos (h1.symm.trans e)];exact⟨h1,ry⟩
  ·rw[if_neg e,if_neg (λz=>e (h1.trans z))];exact⟨h1,h2⟩
theorem KV.put{kvs:List (κ×V)}{vs:List (κ×Value)}(r:KV kvs vs)(k:κ){y:V}{u:Value}(ry:RelV y u):KV (putK kvs k y) (stored vs k u):=by
 unfold putK stored
 rw[r.any k]
 by_cases e:(vs.any λkv=>decide (kv.1=k))=true
 ·rw[if_pos e,if_pos e];exact r.repl k ry
 ·rw[if_neg e,if_neg e];exact Paired.snoc r ⟨rfl,ry⟩
theorem KV.length{kvs:List (κ×V)}{vs:List (κ×Value)}(r:KV kvs vs):kvs.length=vs.length:=FR r
end
theorem Gv{P:Program}{w:World}{k:Key}{u:Value}(r:RelV (kV k) u):(fu P w).is k u=true:=by
 cases k with
 |inl i=>obtain⟨t,e⟩:=(show ∃t,u=Value.int i t from r);subst e;exact Ci P w i t
 |inr x=>obtain⟨t,e⟩:=(show ∃t,u=Value.str x t from r);subst e;exact Cj P w x t
theorem vd{P:Program}{w:World}:∀{ks:List Key} {us:List Value},c9 (ks.map kV) us->ItemsAre (fu P w) ks us
 | [],_,r=>by rw[Db]at r;cases r;exact .nil
 |k::ks,_,r=>by
  rw[AF]at r
  cases r with
  |cons h t=>exact .cons (Gv h) (vd t)
noncomputable abbrev KT(H:Hp):List (List Key×V)->List (List Key×Addr×Value)->Prop:=Paired λp q=>p.1=q.1/\H q.2.1=some (.tup (p.1.map kV))/\RelV p.2 q.2.2
theorem KT.val{H:Hp}{kvs:List (List Key×V)}{xs:List (List Key×Addr×Value)}(r:KT H kvs xs)(k:List Key):Gh (yc kvs k) ((atKey xs k).map (·.2)):=by
 induction r with
 |nil=>exact True.intro
 | @cons p q ps qs h t ih =>
  obtain⟨h1,_,h2⟩:=h
  by_cases e:p.1=k
  ·have e':q.1=k:=h1.symm.trans e
   have b:atKey (q::qs) k=some q.2:=by simp[atKey,FO,e']
   rw[qz e,b];exact h2
  ·have e':¬q.1=k:=λz=>e (h1.trans z)
   have b:atKey (q::qs) k=atKey qs k:=by simp[atKey,FO,e']
   rw[rf e,b];exact ih
theorem KT.repl{H:Hp}{kvs:List (List Key×V)}{xs:List (List Key×Addr×Value)}(r:KT H kvs xs)(k:List Key){y:V}{u:Value}(ry:RelV y u) :
  KT H (kvs.map λkv=>if kv.1=k then(kv.1,y)else kv) (xs.map (putAt k u)):=by
 induction r with
 |nil=>exact .nil
 | @cons p q ps qs h t ih =>
  rw[AF,AF]
  refine .cons ?_ ih
  obtain⟨h1,h2,h3⟩:=h
  unfold putAt
  by_cases e:p.1=k
  ·rw[if_pos e,if_pos (h1.symm.trans e)];exact⟨h1,h2,ry⟩
  ·rw[if_neg e,if_neg (λz=>e (h1.trans z))];exact⟨h1,h2,h3⟩
theorem KT.put{H:Hp}{kvs:List (List Key×V)}{xs:List (List Key×Addr×Value)}(r:KT H kvs xs)(k:List Key){b:Addr}{y:V}{u:Value}(hb:H b=some (.tup (k.map kV)))(ry:RelV y u) :
  KT H (putK kvs k y) (storedH xs k b u):=by
 have e:(kvs.any λkv=>decide (kv.1=k))=(atKey xs k).isSome:=by
  rw[Ef,(r.val k).isSome_eq,HK]
 unfold putK storedH
 rw[e]
 by_cases q:(atKey xs k).isSome=true
 ·rw[if_pos q,if_pos q];exact r.repl k ry
 ·rw[if_neg q,if_neg q];exact Paired.snoc r ⟨rfl,hb,ry⟩
theorem KT.keeps{H H':Hp}{kvs:List (List Key×V)}{xs:List (List Key×Addr×Value)}(r:KT H kvs xs)(ht:∀b ys,H b=some (.tup ys)->H' b=some (.tup ys)):KT H' kvs xs :=
 Paired.mapP r λ_ _ z=>⟨z.1,ht _ _ z.2.1,z.2.2⟩
section
variable{P:Program}{w:World}{H:Hp}{h:Heap}{a:Addr}
theorem V9{u:HO}(ok:HOk P w H h)(e:Rd H a u):jk P w H h a u:=e.ok ok
theorem Cq{kvs:List (Key×V)}(ok:HOk P w H h)(e:Rd H a (.dK kvs)):kvs.length<=sizeLine/\(a==sysModules)=false/\∃vs,KV kvs vs/\h.DictOf (fu P w) a vs :=
 show jk P w H h a (.dK kvs)from V9 ok e
theorem aar{kvs:List (Key×V)}(ok:HOk P w H h)(e:H a=some (.dK kvs)):kvs.length<=sizeLine/\(a==sysModules)=false/\∃vs,KV kvs vs/\h.DictOf (fu P w) a vs:=Cq ok (.inl e)
theorem ye{ks:List Key}(ok:HOk P w H h)(e:H a=some (.tup (ks.map kV))):(tupleKind (fu P w)).is h ks a:=by
 obtain⟨_,its,r,o,h1,h2,_,n,h3⟩:=(show jk P w H h a (.tup (ks.map kV))from ok a _ e)
 exact⟨o,its.toArray,n,h1,h2,h3,by simpa using vd r⟩
theorem Az{kvs:List (List Key×V)}(ok:HOk P w H h)(e:Rd H a (.dT kvs)):kvs.length<=sizeLine/\(a==sysModules)=false /\
  ∃xs,KT H kvs xs/\h.DictOfH (tupleKind (fu P w)) a xs:=by
 obtain⟨z,y,xs,r,o,es,ep,h1,h2,h3,h4,h5⟩:=(show jk P w H h a (.dT kvs)from V9 ok e)
 refine⟨z,y,xs,r,o,es,ep,h1,h2,h3,h4,λx hx=>?_,h5⟩
 have all:∀{l:List (List Key×V)} {m:List (List Key×Addr×Value)},KT H l m->∀x∈m,(tupleKind (fu P w)).is h x.1 x.2.1:=by
  intro l m q
  induction q with
  |nil=>intro x hx;exact nomatch hx
  | @cons p q ps qs hq t ih =>
   intro x hx
   rcases AS.mp hx with e | hx
   ·subst e
    exact ye ok (by rw[<-hq.1];exact hq.2.1)
   ·exact ih x hx
 exact all r x hx
theorem aas{kvs:List (List Key×V)}(ok:HOk P w H h)(e:H a=some (.dT kvs)):kvs.length<=sizeLine/\(a==sysModules)=false /\
  ∃xs,KT H kvs xs/\h.DictOfH (tupleKind (fu P w)) a xs:=Az ok (.inl e)
end
noncomputable def Sf(H:Hp)(a:Addr)(y:V)(r:Option V):Prop :=
 (∃kvs k,Rd H a (.dK kvs)/\y=kV k/\r=yc kvs k)\/∃kvs k b,Rd H a (.dT kvs)/\y=.ref b/\H b=some (.tup (k.map kV))/\r=yc kvs k
noncomputable def U5(H:Hp)(a:Addr)(y v:V)(H':Hp):Prop :=
 (∃kvs k,H a=some (.dK kvs)/\y=kV k/\kvs.length<sizeLine/\H'=upd H a (.dK (putK kvs k v))) \/
 ∃kvs k b,H a=some (.dT kvs)/\y=.ref b/\H b=some (.tup (k.map kV))/\kvs.length<sizeLine/\H'=upd H a (.dT (putK kvs k v))
theorem U5.k{H:Hp}{a:Addr}{kvs:List (Key×V)}{k:Key}{v:V}(e:H a=some (.dK kvs))(hl:kvs.length<sizeLine):U5 H a (kV k) v (upd H a (.dK (putK kvs k v))):=.inl ⟨kvs,k,e,rfl,hl,rfl⟩
section
variable{X:Cx}{pins:List (Addr × Obj)}{σ:St}{H:Hp}{s:Shared}{a:Addr}{y v:V}{u r:Value}{o:Option V}{A:Around}{E:Value -> Shared -> Prop}
theorem Inv.big(I:Inv X pins σ H s):sysModules<s.heap.objs.size:=by
 have h:mainGlobals<s.heap.objs.size:=(I.mod.glob.keeps I.bk).lt
 exact Nat.lt_trans (by decide) h
theorem Iw{Q:Value->Shared->Prop}(hu:A.units+1<cLine)(I:Inv X pins σ H s)(g:Sf H a y (some v))(ry:RelV y u)(h:∀w' s',Inv X pins σ H s'->RelV v w'->Q w' s') :
  wpAny (model X.prog X.w) A (getItem (.ref a) u) Q E s:=by
 rcases g with⟨kvs,k,e,ey,l⟩ | ⟨kvs,k,b,e,ey,eb,l⟩
 ·subst ey
  obtain⟨z,hd,vs,rel,dd⟩:=Cq I.hok e
  obtain⟨w',hw,rw'⟩:=Gh.some_of (v:=v) (o:=valueAt vs k) (by rw[l];exact rel.val k)
  exact wpAny_getItem_of (Gv ry) dd.mapOf hw (h w' _ (I.tok _) rw')
 ·subst ey
  cases(show u=Value.ref b from ry)
  obtain⟨z,hd,xs,rel,dd⟩:=Az I.hok e
  obtain⟨w',hw,rw'⟩:=Gh.some_of (v:=v) (o:=(atKey xs k).map (·.2)) (by rw[l];exact rel.val k)
  obtain⟨p,hp,hp2⟩:=GK.mp hw
  refine wpAny_getItem_heap (EJ hu) (ye I.hok eb) dd hp ?_
  rw[hp2]
  exact h w' _ (I.tok _) rw'
theorem aew{Q:Value->Shared->Prop}(hu:A.units+1<cLine)(I:Inv X pins σ H s)(g:Sf H a y o)(ry:RelV y u)(h:∀s',Inv X pins σ H s'->Q (.bool o.isSome) s') :
  wpAny (model X.prog X.w) A (compareOp .In u (.ref a)) Q E s:=by
 rcases g with⟨kvs,k,e,ey,l⟩ | ⟨kvs,k,b,e,ey,eb,l⟩
 ·subst ey
  obtain⟨z,hd,vs,rel,dd⟩:=Cq I.hok e
  refine wpAny_in_of (Gv ry) hd dd.mapOf ?_
  rw[<-(rel.val k).isSome_eq,<-l]
  exact h _ (I.tok _)
 ·subst ey
  cases(show u=Value.ref b from ry)
  obtain⟨z,hd,xs,rel,dd⟩:=Az I.hok e
  refine wpAny_in_heap (EJ hu) (ye I.hok eb) hd dd ?_
  have q:=(rel.val k).isSome_eq
  rw[HK]at q
  rw[<-q,<-l]
  exact h _ (I.tok _)
theorem Sg{Q:Value->Shared->Prop}(hu:A.units+1<cLine)(I:Inv X pins σ H s)(g:Sf H a y o)(ry:RelV y u)(h:∀s',Inv X pins σ H s'->Q (.bool (!o.isSome)) s') :
  wpAny (model X.prog X.w) A (compareOp .NotIn u (.ref a)) Q E s:=by
 rcases g with⟨kvs,k,e,ey,l⟩ | ⟨kvs,k,b,e,ey,eb,l⟩
 ·subst ey
  obtain⟨z,hd,vs,rel,dd⟩:=Cq I.hok e
  refine wpAny_notIn_of (Gv ry) hd dd.mapOf ?_
  rw[<-(rel.val k).isSome_eq,<-l]
  exact h _ (I.tok _)
 ·subst ey
  cases(show u=Value.ref b from ry)
  obtain⟨z,hd,xs,rel,dd⟩:=Az I.hok e
  refine wpAny_notIn_heap (EJ hu) (ye I.hok eb) hd dd ?_
  have q:=(rel.val k).isSome_eq
  rw[HK]at q
  rw[<-q,<-l]
  exact h _ (I.tok _)
theorem Iy{h':Heap}{t':Nat}{ob:HO}(I:Inv X pins σ H s)(mu:Mut (H a))(hs:Heap.SameBut a s.heap h')(he:∃q,h'.get? a=some q)(new:jk X.prog X.w (upd H a ob) h' a ob) :
  Inv X pins σ (upd H a ob) {s with heap:=h',toks:=t'} :=
 I.write (x:=a) (e:=a) mu (.inl rfl) (λb q hb z=>(hs.2 b hb).trans z) he new
theorem Wa{P:Program}{w:World}{H':Hp}{h':Heap}{kvs:List (Key×V)}{vs:List (Key×Value)}(z:kvs.length<=sizeLine)(hd:(a==sysModules)=false)(rel:KV kvs vs)(dd:h'.DictOf (fu P w) a vs) :
  jk P w H' h' a (.dK kvs):=⟨z,hd,vs,rel,dd⟩
theorem ve{H':Hp}{Q:Unit->Shared->Prop}(hu:A.units+1<cLine)(I:Inv X pins σ H s)(g:U5 H a y v H')(ry:RelV y u)(rv:RelV v r)(h:∀s',Inv X pins σ H' s'->Q () s') :
  wpAny (model X.prog X.w) A (setItem (.ref a) u r) Q E s:=by
 rcases g with⟨kvs,k,e,ey,l,eH⟩ | ⟨kvs,k,b,e,ey,eb,l,eH⟩
 ·subst ey eH
  obtain⟨z,hd,vs,rel,dd⟩:=aar I.hok e
  have hz:vs.length<=sizeLine:=by rw[<-rel.length];exact z
  have hl:(putK kvs k v).length<=sizeLine:=by have:=vc kvs k v;lia
  refine wpAny_setItem_pairs (hsz:=hz) (Gv ry) dd λh' dd' hs=>h _ ?_
  have he:∃q,h'.get? a=some q:=let ⟨q,_,_,hq,_⟩:=dd';⟨q,hq⟩
  exact Iy I (by rw[e];exact True.intro) hs he (Wa hl hd (rel.put k rv) dd')
 ·subst ey eH
  cases(show u=Value.ref b from ry)
  obtain⟨z,hd,xs,rel,dd⟩:=aas I.hok e
  have hz:xs.length<=sizeLine:=by rw[<-FR rel];exact z
  have hl:(putK kvs k v).length<=sizeLine:=by have:=vc kvs k v;lia
  refine wpAny_setItem_heap (hsz:=hz) (EJ hu) (ye I.hok eb) dd λh' dd' hs=>h _ ?_
  obtain⟨q,es,ep,hq,h2,h3,h4,_,h5⟩:=dd'
  refine Iy I (by rw[e];exact True.intro) hs ⟨q,hq⟩ ⟨hl,hd,_,(rel.put k eb rv).keeps λc ys ec=>?_,q,es,ep,hq,h2,h3,h4,h5⟩
  rw[a9 (ug ec e (λz=>nomatch z))]
  exact ec
end
noncomputable def Wb(i:Expr):Prop:=∀ov iv,subscripted i false ov iv=operate [ov,iv] (getItem ov iv)
theorem Iz {prog:Program} {w:World} {A:Around} {E:Value->Shared->Prop} {s:Shared} {env:Env} {value slice:Expr} {pos:Pos} {T id:String} {Q:Value->Shared->Prop}
  (hl:typeLookup (.type T) "__getitem__"=pure (some (.builtin id))) (hs:Wb slice)
  (h:wpAny (model prog w) A (eval value env) (λo s₁=>wpAny (model prog w) A (eval slice env) (λi s₂=>s₂.TypeIs o T/\wpAny (model prog w) A (getItem o i) Q E s₂) E s₁) E s) :
  wpAny (model prog w) A (eval (.Subscript value slice pos) env) Q E s:=by
 refine Subscript_ (DQ h (λo s₁ h₁=>DQ h₁ (λi s₂ h₂=>?_) λ_ _ x=>x) λ_ _ x=>x)
 obtain⟨hT,h₂⟩:=h₂
 unfold subscriptTail
 refine AC ?_
 rw[getitemInPython_of_ne hT.not_modules]
 refine AC (wpAny_specialOf hT hl ?_)
 have fin:wpAny (model prog w) A (subscripted slice false o i) (λr s₃=>wpAny (model prog w) A (letTemporaryGo value o r>>=λ_=>pure r) Q E s₃) E s₂:=by
  rw[hs o i]
  exact wpAny_operating (DQ h₂ (λr s₃ h₃=>AC (wpAny_letTemporaryGo (AO h₃))) λ_ _ x=>x)
 first
  |exact AO (AC fin)
  |exact AC (AO (AC fin))
  |exact AC fin
theorem Cr{X:Cx}{pins:List (Addr×Obj)}{σ:St}{H:Hp}{s:Shared}{a:Addr}{y:V}{o:Option V}(I:Inv X pins σ H s)(g:Sf H a y o):s.TypeIs (.ref a) "dict":=by
 rcases g with⟨kvs,k,e,_,_⟩ | ⟨kvs,k,b,e,_,_,_⟩
 ·obtain⟨_,_,vs,_,dd⟩:=Cq I.hok e
  exact dd.typeIs
 ·obtain⟨_,_,xs,_,dd⟩:=Az I.hok e
  exact dd.typeIs
noncomputable def aat(td ty:TE):TE:=λσ H Q=>td σ H λx H1=>ty σ H1 λy H2=>∃a v,x=.ref a/\Sf H2 a y (some v)/\Q v H2
noncomputable def aau(td ty tv:TE):TS:=λD σ H=>tv σ H λv H1=>td σ H1 λx H2=>ty σ H2 λy H3=>∃a H4,x=.ref a/\U5 H3 a y v H4/\D.nx σ H4
section
variable{X:Cx}{o i e value:Expr}{pos pos' tpos:Pos}{td ty tv:TE}
theorem Sh(hu:X.A.units+1<cLine)(ho:PE X o td)(hi:PE X i ty)(hs:Wb i):PE X (.Subscript o i pos) (aat td ty):=by
 intro pins s σ H Q I h
 refine Iz HJ.lookup hs (thn (ho pins s σ H _ I h) λu s1 ⟨x,H1,I1,rx,q1⟩=>thn (hi pins s1 σ H1 _ I1 q1) λiv s2 ⟨y,H2,I2,ry,a,v,ex,g,q2⟩=>?_)
 subst ex
 obtain rfl:u=Value.ref a:=rx
 exact⟨Cr I2 g,Iw hu I2 g ry λw' s3 I3 rw'=>⟨v,H2,I3,rw',q2⟩⟩
theorem Si(hu:X.A.units+1<cLine)(ho:PE X o td)(hi:PE X i ty)(hv:PE X value tv)(hs:swapsWith value (some (.Subscript o i pos')) pos.line X.env=pure false) :
  PS X (.Assign [.Subscript o i pos'] value pos) (aau td ty tv):=by
 intro pins s σ H D I h
 refine wpAny_Assign_Subscript (thn (hv pins s σ H _ I h) λr s1 ⟨v,H1,I1,rv,q1⟩=>thn (ho pins s1 σ H1 _ I1 q1) λu s2 ⟨x,H2,I2,rx,q2⟩=>thn (hi pins s2 σ H2 _ I2 q2) λiv s3 ⟨y,H3,I3,ry,a,H4,ex,g,q3⟩=>?_) hs
 subst ex
 obtain rfl:u=Value.ref a:=rx
 exact ve hu I3 g ry rv λs4 I4=>⟨σ,H4,I4,q3⟩
end
theorem Nq{P:Program}{w:World}{H:Hp}(h:Heap)(hb:sysModules<h.objs.size):jk P w H (h.push {cls:=.type "dict",data:=.dict #[]}) h.objs.size (.dK []) :=
 ⟨EF _,beq_eq_false_iff_ne.mpr (Ne.symm (BJ hb)),[],.nil,Heap.DictOf.new h⟩
theorem Nr{P:Program}{w:World}{H:Hp}(h:Heap)(hb:sysModules<h.objs.size):jk P w H (h.push {cls:=.type "dict",data:=.dict #[]}) h.objs.size (.dT []) :=
 ⟨EF _,beq_eq_false_iff_ne.mpr (Ne.symm (BJ hb)),[],.nil,_,#[],0,AZ _ rfl,⟨rfl,rfl,rfl⟩,rfl,rfl,List.nodup_nil⟩
noncomputable def tDNewK:TE:=λ_ H Q=>∀p,H p=none->Q (.ref p) (upd H p (.dK []))
noncomputable def tDNewT:TE:=λ_ H Q=>∀p,H p=none->Q (.ref p) (upd H p (.dT []))
section
variable{X:Cx}{pos:Pos}
theorem Nt:PE X (.Dict [] [] pos) tDNewK:=λpins s σ H Q I h =>
 wpAny_Dict_empty ⟨.ref s.heap.objs.size,_,I.laid (a:=s.heap.objs.size) (o:=.dK []) (t':=s.toks) (λ_ _ q=>AH _ q) (AK _) (Nq s.heap I.big),rfl,h _ (I.hok.fresh (AK _))⟩
theorem Nu:PE X (.Dict [] [] pos) tDNewT:=λpins s σ H Q I h =>
 wpAny_Dict_empty ⟨.ref s.heap.objs.size,_,I.laid (a:=s.heap.objs.size) (o:=.dT []) (t':=s.toks) (λ_ _ q=>AH _ q) (AK _) (Nr s.heap I.big),rfl,h _ (I.hok.fresh (AK _))⟩
end
structure M1 (X:Cx) (o:Expr) (m:Str) (apos:Pos) (e:Expr) (cpos:Pos):Prop where
 base:attributeBase o m X.env (eval o X.env)=eval o X.env
 few:((backTo cpos (starEach [e] X.env)).all (λx=>!x.1)&&(backToKw cpos (keywordEach [] X.env)).all (λx=>x.1.isSome)
  && decide (([e]:List Expr).length+([]:List Keyword).length+(if([]:List Keyword).isEmpty then 0 else 1)<30))=true
 line:(apos.endLine==cpos.line)=true
 trees:backTo cpos (starEach [e] X.env)=[(false,eval e X.env)]
structure M2 (X:Cx) (o:Expr) (m:Str) (apos:Pos) (e f:Expr) (cpos:Pos):Prop where
 base:attributeBase o m X.env (eval o X.env)=eval o X.env
 few:((backTo cpos (starEach [e,f] X.env)).all (λx=>!x.1)&&(backToKw cpos (keywordEach [] X.env)).all (λx=>x.1.isSome)
  && decide (([e,f]:List Expr).length+([]:List Keyword).length+(if([]:List Keyword).isEmpty then 0 else 1)<30))=true
 line:(apos.endLine==cpos.line)=true
 trees:backTo cpos (starEach [e,f] X.env)=[(false,eval e X.env),(false,eval f X.env)]
noncomputable def IsD(H:Hp)(a:Addr):Prop:=(∃kvs,Rd H a (.dK kvs))\/∃kvs,Rd H a (.dT kvs)
theorem Wc{X:Cx}{pins:List (Addr×Obj)}{σ:St}{H:Hp}{s:Shared}{a:Addr}(I:Inv X pins σ H s)(d:IsD H a) :
  s.TypeIs (.ref a) "dict"/\(∀b,Value.ref a=.ref b->∃ob,s.heap.get? b=some ob/\ob.dict=none)/\(a==sysModules)=false:=by
 rcases d with⟨kvs,e⟩ | ⟨kvs,e⟩
 ·obtain⟨_,hd,vs,_,dd⟩:=Cq I.hok e
  refine⟨dd.typeIs,λb q=>?_,hd⟩
  cases q
  obtain⟨ob,_,_,h1,h2,_⟩:=dd
  exact⟨ob,h1,h2.2.1⟩
 ·obtain⟨_,hd,xs,_,dd⟩:=Az I.hok e
  refine⟨dd.typeIs,λb q=>?_,hd⟩
  cases q
  obtain⟨ob,_,_,h1,h2,_⟩:=dd
  exact⟨ob,h1,h2.2.1⟩
section
variable{X:Cx}{pins:List (Addr × Obj)}{σ:St}{H:Hp}{s:Shared}{a:Addr}{y d:V}{u r:Value}{o:Option V}{A:Around}{E:Value -> Shared -> Prop}
theorem Wd{Q:Value->Shared->Prop}(hu:A.units+1<cLine)(I:Inv X pins σ H s)(g:Sf H a y o)(ry:RelV y u)(rd:RelV d r)(h:∀w' s',Inv X pins σ H s'->RelV (o.getD d) w'->Q w' s') :
  wpAny (model X.prog X.w) A (call (.builtin "dict.get") [.ref a,u,r]) Q E s:=by
 rcases g with⟨kvs,k,e,ey,l⟩ | ⟨kvs,k,b,e,ey,eb,l⟩
 ·subst ey
  obtain⟨z,hd,vs,rel,dd⟩:=Cq I.hok e
  refine call_meetsIn GM dd.typeIs IF (HU _ _ _) (meets_dict_get_default (fu X.prog X.w) a (Gv ry) hd r) ⟨_,dd.mapOf,h _ _ (I.tok _) ?_⟩
  rw[l]
  exact(rel.val k).getD rd
 ·subst ey
  cases(show u=Value.ref b from ry)
  obtain⟨z,hd,xs,rel,dd⟩:=Az I.hok e
  refine call_meetsIn GM dd.typeIs IF (HU _ _ _) (meetsH_dict_get_default (tupleKind (fu X.prog X.w)) a b hd r) ⟨EJ hu,k,xs,ye I.hok eb,dd,h _ _ (I.tok _) ?_⟩
  rw[l]
  exact(rel.val k).getD rd
end
noncomputable def We(td ty tx:TE):TE:=λσ H Q=>td σ H λx H1=>∃a,x=.ref a/\IsD H1 a/\ty σ H1 λy H2=>tx σ H2 λz H3=>∃o,Sf H3 a y o/\Q (o.getD z) H3
section
variable{X:Cx}{o e f:Expr}{apos cpos:Pos}{td ty tx:TE}
theorem Eg(hu:X.A.units+1<cLine)(ho:PE X o td)(he:PE X e ty)(hf:PE X f tx)(m:M2 X o "get" apos e f cpos):PE X (.Call (.Attribute o "get" apos) [e,f] [] cpos) (We td ty tx):=by
 intro pins s σ H Q I h
 refine wpAny_Call_method m.base m.few m.line PySem.F.plainAttrs_dict GM PySem.F.type_dict_get (thn (ho pins s σ H _ I h) λu s1 ⟨x,H1,I1,rx,a,ex,d,q1⟩=>?_)
 subst ex
 obtain rfl:u=Value.ref a:=rx
 obtain⟨t1,t2,_⟩:=Wc I1 d
 refine⟨t1,t2,?_⟩
 rw[m.trees]
 refine IE rfl (IR (HE (thn (he pins s1 σ H1 _ I1 q1) λiv s2 ⟨y,H2,I2,ry,q2⟩ =>
  HE (thn (hf pins s2 σ H2 _ I2 q2) λfv s3 ⟨z,H3,I3,rz,ov,g,q3⟩=>Calls.spliced_nil ?_))))
 exact Wd hu I3 g ry rz λw' s4 I4 rw'=>⟨_,H3,I4,rw',q3⟩
end
end L2
namespace Att
open PySem PySem.W PySem.Calls PyProof.Rows
theorem vf{P:Params}{h:Heap}:∀(ns:List Int) (vs:List Value),WellAll P h vs (ns.map WData.int)->IntsAre vs ns:=by
 intro ns
 induction ns with
 |nil =>
  intro vs w
  rw[Db]at w
  cases w
  exact .nil
 |cons n ns ih =>
  intro vs w
  rw[AF]at w
  cases w with
  |cons a b =>
   cases a
   exact .cons _ _ (ih _ b)
theorem I0 {l:OpenLaw} {n:Nat} (hn:l.most=some n) {P:Params} {h:Heap} {args:List WData} {vals:List Value}
  (hpre:l.row.toRowW.claim.pre args=true) (hwl:WellAll P h vals args) :
  ∃a vs ns,vals=[Value.ref a]/\args=[WData.list (ns.map WData.int)]/\h.get? a=some {cls:=.type "list",data:=.seq vs.toArray}/\IntsAre vs ns/\ns.length<=n:=by
 have hsh:WShape.hasAll [] args [.list .int]=true:=(pre_splitW hpre).1
 have hc:l.pre.holds [] {args:=args}=true:=(pre_splitW hpre).2
 obtain⟨d,r,rfl,h1,h2⟩:=hasAllW_cons hsh
 obtain rfl:=hasAllW_nil h2
 obtain⟨xs,rfl,h3⟩:=hasW_list h1
 obtain⟨ns,rfl⟩:=items_int h3
 have hlen:ns.length<=n:=by
  unfold OpenLaw.pre at hc
  have h4:(WTm.not (.lt (.lit (.int (n:Int))) (.len (.arg 0)))).holds [] {args:=[.list (ns.map .int)]}=true:=by
   have h4:=(holds_andW hc).1
   rw[hn]at h4
   exact h4
  have h5:=condW_of h4 (w_not (w_lt w_lit (w_len_list (w_arg rfl))))
  rw[AG]at h5
  refine HV λq=>?_
  have q':(n:Int)<((ns.length:Nat):Int):=by lia
  first
   |(rw[decide_eq_true q']at h5;exact absurd h5 (by decide))
   |(simp at h5;lia)
 cases hwl with
 |cons w1 w2 =>
  cases w2
  cases w1 with
  |list ho hall=>exact⟨_,_,ns,rfl,rfl,ho,vf ns _ hall,hlen⟩
theorem Ja(l:OpenLaw)(args:List WData):l.row.toRowW.claim.post args (.bool true) args=true :=
 postW_of (r:=l.row.toRowW) (X:=(true==true))
  (show WShape.has [] (.bool true) .bool=true by first | rfl | decide | simp[WShape.has,WShape.arms,WShape.armsAll])
  (show(WTm.eq .res (.lit (.bool true))).value [] {args:=args,res:=some (.bool true),after:=args}=some (.bool (true==true))from w_eq_bool (w_res rfl) w_lit) rfl
theorem Cs {l:OpenLaw} {n:Nat} {q:Program} {loose:List Str} {XP:(Str->Option Value)->Heap->Prop} {YP:World->Heap->Prop} {d:DefRec}
  (hn:l.most=some n) (hdf:d.params.defaults=[])
  (call:∀(w:World) (s₀ s₁:Shared) (mg mb:Str->Option Value) (fa:Addr) (o:Obj) (pm cd doc:Value) (a:Addr) (vs:List Value) (ns:List Int),
   Ground q loose [] XP w s₀ mg mb s₁.heap->YP w s₁.heap ->
   s₁.heap.get? fa=some o->o.data=.func (docDef d.name d.params d.body d.scope pm cd doc)->s₁.heap.CodeRec cd d.name->mg d.name=some (.ref fa) ->
   s₁.heap.get? a=some {cls:=.type "list",data:=.seq vs.toArray}->IntsAre vs ns->ns.length<=n->s₁.gens=#[] ->
   codeAny (model l.prog w) callerA (.call (.ref fa) ⟨[.ref a],[]⟩) (λr s'=>r=.ok (.ret (.bool true))/\OldK s₁.heap s'.heap/\s'.os=s₁.os/\AllBare s'.gens) s₁) :
  WalkO q loose XP YP l.row.toRowW d [] (λf vs=>PySem.call f vs):=by
 intro w s₀ s₁ mg mb G Y fa o pm cd doc dV kV ho hd hcd hD hmg hg args vals as hpre hlay hrd hwl hlo
 obtain rfl:dV=.none:=Dflts.none hD hdf
 obtain rfl:kV=.none:=Dflts.noKw hD
 obtain⟨a,vs,ns,rfl,rfl,hobj,hints,hlen⟩:=I0 hn hpre hwl
 refine enter_call (codeAny_mono (call w s₀ s₁ mg mb fa o pm cd doc a vs ns G Y ho (fd_plain hd) hcd hmg hobj hints hlen hg) λr s' hq=>?_)
 obtain⟨rfl,h2,h3,h4⟩:=hq
 exact⟨.inl ⟨.bool true,.bool true,[],rfl,λ_=>rfl,.bool true,Ja l _,λ_=>⟨List.Pairwise.nil,λ_ hm=>(nomatch hm)⟩⟩,h2,h3,h4⟩
end Att
namespace L2
open PySem PySem.Spec PyProof.Rows
noncomputable def FzL(K:PySem.W.Frag)(H:Hp)(a:Addr)(xs:List V):Prop :=
 (∃o,H a=some (.frz o (.lst xs))) \/
  ∃(its:List Value) (n:Nat),K.lookup a=some {cls:=.type "list",data:=.seq its.toArray n}/\xs.length<=sizeLine/\c9 xs its
theorem vals_ints:∀{vs:List Value} {ns:List Int},IntsAre vs ns->c9 (ns.map V.int) vs
 |_,_,.nil=>.nil
 |_,_,.cons n t h=>.cons ⟨t,rfl⟩ (vals_ints h)
noncomputable def aav(H:Hp):Prop:=∀b,H b=none\/∃o xs,H b=some (.frz o (.lst xs))
theorem Nv {P:Program} {w:World} {K:PySem.W.Frag} {mg mb:Str->Option Value} {CX:CXT} {k:Nat} {fa a:Addr} {fd:FuncData} {x:Str} {sp:Sp} {s₁:Shared} {vs:List Value} {ns:List Int}
  (KX:K.In s₁.heap) (hns:s₁.heap.Ns mainGlobals mg) (hb:s₁.heap.Ns builtinsNs mb) (hbb:∀x:Str,x≠"__name__"->mb x=bootBuiltins x) (hlim:s₁.heap.NoLimit) (hg:s₁.gens=#[])
  (ha:s₁.heap.get? a=some {cls:=.type "list",data:=.seq vs.toArray}) (hi:IntsAre vs ns) (hl:ns.length<=sizeLine) (hr:Room k callerA)
  (F:∀base:Heap,K.In base->base.Ns mainGlobals mg->FnOk P w K mg base CX k fa fd [x] sp) (hbind:∀(s:Shared) (u:Value),BindsTo s fd ⟨[u],[]⟩ [(x,u)])
  (hsp:∀H:Hp,aav H->FzL K H a (ns.map V.int)->sp [.ref a] H (λv _=>v=.bl true) λ_ _ _=>False)
  (hCX:∀H e s',CX [] H s₁ (λ_ _ _=>False) e s'->False) :
  codeAny (model P w) callerA (.call (.ref fa) ⟨[.ref a],[]⟩) (λr s'=>r=.ok (.ret (.bool true))/\OldK s₁.heap s'.heap/\s'.os=s₁.os/\AllBare s'.gens) s₁:=by
 have rv:=vals_ints hi
 have lenV:=hi.length
 -- from an abstract heap in which nothing but the script may be tracked
 have core:∀H:Hp,aav H->FzL K H a (ns.map V.int)->HOk P w H s₁.heap->(∀b,H b≠none->b=a)->(H a≠none->K.lookup a=none) ->
   codeAny (model P w) callerA (.call (.ref fa) ⟨[.ref a],[]⟩) (λr s'=>r=.ok (.ret (.bool true))/\OldK s₁.heap s'.heap/\s'.os=s₁.os/\AllBare s'.gens) s₁:=by
  intro H hO hS hok hA hK
  have base_of:∀{b:Addr} {o:Obj},s₁.heap.get? b=some o->H b=none->(Nc s₁.heap H).get? b=some o:=λe n=>Nd e n
  have noA:∀{b:Addr} {o:Obj} {es:Array DictEntry} {ep:Nat},s₁.heap.get? b=some o->o.data=.dict es ep->H b=none:=λ{b o es ep} e d=>by
   cases q:H b with
   |none=>rfl
   |some u =>
    have e':b=a:=hA b (by rw[q];simp)
    subst e'
    rw[ha]at e;cases e
    have d':Data.seq vs.toArray _=Data.dict es ep:=d
    cases d'
  have nsK:∀{b:Addr} {m:Str->Option Value},s₁.heap.Ns b m->(Nc s₁.heap H).Ns b m:=λ{b m} ⟨o,es,ep,e,d,r⟩=>⟨o,es,ep,base_of e (noA e d),d,r⟩
  have hKb:K.In (Nc s₁.heap H):=λb o e=>base_of (KX b o e) (by
   cases q:H b with
   |none=>rfl
   |some u =>
    have e':b=a:=hA b (by rw[q];simp)
    subst e'
    rw[hK (by rw[q];simp)]at e;cases e)
  have hM:Mod K mg (Nc s₁.heap H):=⟨hKb,nsK hns,⟨mb,nsK hb,hbb⟩,let ⟨mc,h1,h2⟩:=hlim;⟨mc,nsK h1,h2⟩⟩
  have e0:Env0 P w K mg (Nc s₁.heap H) callerA [] s₁ H:=⟨rfl,hM,λb o e=>Rv e,Nat.le_of_eq (Hz _ _),trivial,λb hb=>absurd (show b∈([]:List Addr)from hb) (by simp),hok,.of_eq hg⟩
  refine codeAny_mono ((F _ hKb (nsK hns)).run callerA [] s₁ H ⟨[.ref a],[]⟩ [.ref a] [.ref a] _ _ hr e0 (hbind s₁ (.ref a)) (.cons rfl .nil) (hsp H hO hS)) λr s' h=>?_
  cases r with
  |error e=>exact(hCX H e s' h).elim
  |ok fl =>
   cases fl with
   |next=>exact False.elim h
   |brk=>exact False.elim h
   |cont=>exact False.elim h
   |ret u =>
    obtain⟨v,H',os,bare,un,hok',r',q⟩:=h
    have q':v=.bl true:=q
    subst q'
    obtain rfl:u=Value.bool true:=r'
    refine⟨rfl,OldK.of_keep λb o e=>?_,os,bare⟩
    cases q:H b with
    |none=>exact un.keep b o e q (by intro z;exact absurd (show b∈([]:List Addr)from z) (by simp)) (by simp)
    |some u =>
     rcases hO b with z | ⟨ob,xs,z⟩
     ·rw[q]at z;cases z
     ·have z2:=un.frzs b ob _ z
      obtain⟨e1,_⟩:=hok b _ z
      obtain⟨e2,_⟩:=hok' b _ z2
      rw[e]at e1;cases e1
      exact e2
 cases hk:K.lookup a with
 |some o =>
  -- the script is one of the module's own objects
  have e:=KX a o hk
  rw[ha]at e
  cases e
  refine core (λ_=>none) (λ_=>.inl rfl) (.inr ⟨vs,_,hk,by rw[AG];exact hl,rv⟩) (λb u z=>by have z':(none:Option HO)=some u:=z;cases z') (λb z=>absurd rfl z) λz=>absurd rfl z
 |none =>
  refine core (λb=>if b=a then some (.frz {cls:=.type "list",data:=.seq vs.toArray} (.lst (ns.map V.int)))else none) (λb=>?_) (.inl ⟨{cls:=.type "list",data:=.seq vs.toArray},if_pos rfl⟩) (λb u z=>?_) (λb z=>?_) λ_=>hk
  ·by_cases hb:b=a
   ·exact .inr ⟨_,_,if_pos hb⟩
   ·exact .inl (if_neg hb)
  ·by_cases hb:b=a
   ·have z':=(if_pos hb).symm.trans z
    cases z'
    subst hb
    exact⟨ha,by rw[AG];exact hl,vs,_,rv,ha⟩
   ·have z':=(if_neg hb).symm.trans z
    cases z'
  ·by_cases hb:b=a
   ·exact hb
   ·exact absurd (if_neg hb) z
noncomputable abbrev KOf{K:PySem.W.Frag}{h:Heap}(_:K.In h):PySem.W.Frag:=K
theorem Sj {l:PySem.W.OpenLaw} {n k:Nat} {q:Program} {loose:List Str} {XP:(Str->Option Value)->Heap->Prop} {YP:World->Heap->Prop} {d:DefRec} {K:Params->PySem.W.Frag} {CX:World->CXT} {sp:World->Sp} {x:Str}
  (hn:l.most=some n) (hn2:n<=sizeLine) (hdf:d.params.defaults=[]) (hr:Room k callerA)
  (hY:∀(w:World) (h:Heap),YP w h->(K w.params).In h)
  (F:∀(w:World) (mg:Str->Option Value) (fa:Addr) (h:Heap),(K w.params).In h->h.Ns mainGlobals mg->mg d.name=some (.ref fa) ->
   ∃fd:FuncData,(∀(s:Shared) (u:Value),BindsTo s fd ⟨[u],[]⟩ [(x,u)]) /\
    ∀base:Heap,(K w.params).In base->base.Ns mainGlobals mg->FnOk l.prog w (K w.params) mg base (CX w) k fa fd [x] (sp w))
  (hsp:∀(w:World) (H:Hp) (a:Addr) (ns:List Int),ns.length<=n->aav H->FzL (K w.params) H a (ns.map V.int)->sp w [.ref a] H (λv _=>v=.bl true) λ_ _ _=>False)
  (hCX:∀(w:World) (H:Hp) (s:Shared) (e:Value) (s':Shared),CX w [] H s (λ_ _ _=>False) e s'->False) :
  PySem.W.WalkO q loose XP YP l.row.toRowW d [] (λf vs=>PySem.call f vs):=by
 refine Att.Cs hn hdf λw s₀ s₁ mg mb fa o pm cd doc a vs ns G Y ho hd hcd hmg hobj hints hlen hg=>?_
 have KX:=hY w _ Y
 obtain⟨fd,hb,hF⟩:=F w mg fa _ KX G.T.g hmg
 exact Nv KX G.T.g G.T.b G.T.builtins G.T.nolimit hg hobj hints (BC hlen hn2) hr hF hb (λH hO hS=>hsp w H a ns hlen hO hS) λH e s'=>hCX w H s₁ e s'
noncomputable def vg(s:Stmt):Arguments:=match s with
 |.FunctionDef _ a _ _ _ _ _ _ _ _=>a
 |_=>{posonlyargs:=[],args:=[],vararg:=none,kwonlyargs:=[],kw_defaults:=[],kwarg:=none,defaults:=[]}
noncomputable def nj(s:Stmt):List Stmt:=match s with
 |.FunctionDef _ _ b _ _ _ _ _ _ _=>b
 |_=>[]
noncomputable def cv(s:Stmt):Scope:=match s with
 |.FunctionDef _ _ _ _ _ _ sc _ _ _=>sc
 |_=>{kind:=.function,names:=[],isGenerator:=false,isCoroutine:=false}
noncomputable abbrev CX0:CXT:=λ_ _ _ _ _ _=>False
noncomputable abbrev E0:XK:=λ_ _ _=>False
theorem aaw{X:Cx}:Io CX0 X E0:=λ_ _ _ _ _ _ _ h=>h.elim
structure Fun (K:PySem.W.Frag) (x qual:Str) (st:Stmt) (f:Addr) (fd:FuncData):Prop where
 ex:∃(oc:Value) (od:Option Addr) (kV doc pm:Value) (an:Option Addr) (cdv ct:Value) (osl:Array (Option Value)),
  fd=PySem.W.fnOf x qual (vg st) (nj st) (cv st) .none kV doc pm an cdv ct/\K.lookup f=some ⟨oc,od,.func fd,osl⟩/\PySem.W.codeIn K cdv qual=true
 kp:PySem.W.keepIn K (.ref f)=true
section
variable{P:Program}{w:World}{K:PySem.W.Frag}{mg:Str -> Option Value}{base:Heap}
theorem Fun.ok {x qual:Str} {st:Stmt} {f:Addr} {fd:FuncData} {N ps:List Str} {k:Nat} {sp:Sp} (F:Fun K x qual st f fd) (S:FnScope N ps (cv st)) (len:∀vs H Q E,sp vs H Q E->vs.length=ps.length)
  (hbody:∀(cdv:Value) (A:Around) (outer:List Env) (s:Shared) (H:Hp) (vs:List V) (Q:VK) (E:XK),Im k (A.deeper (envOfC qual (cv st) s.heap.objs.size f cdv))->sp vs H Q E ->
   ∃t,PSs (Nk CX0 P w K mg base N qual (cv st) f cdv A outer s H E).nox (nj st) t/\t {nx:=λ_ H'=>Q .non H',rt:=Q} (start N vs) H):FnOk P w K mg base CX0 (k+1) f fd ps sp:=by
 obtain⟨oc,od,kV,doc,pm,an,cdv,ct,osl,rfl,lk,hcd⟩:=F.ex
 refine aan lk hcd S len λA outer s H vs Q E hr hsp=>?_
 obtain⟨t,h,q⟩:=hbody cdv A outer s H vs Q E hr hsp
 exact⟨t,h.nox,q⟩
theorem Wg {x qual:Str} {st:Stmt} {f:Addr} {oc:Value} {od an:Option Addr} {osl:Array (Option Value)} {kV doc pm cdv ct:Value} (l:K.lookup f=some ⟨oc,od,.func (PySem.W.fnOf x qual (vg st) (nj st) (cv st) .none kV doc pm an cdv ct),osl⟩)
  (c:PySem.W.codeIn K cdv qual=true) (k:PySem.W.keepIn K (.ref f)=true):Fun K x qual st f (PySem.W.fnOf x qual (vg st) (nj st) (cv st) .none kV doc pm an cdv ct):=⟨⟨oc,od,kV,doc,pm,an,cdv,ct,osl,rfl,l,c⟩,k⟩
end
theorem oq{n:Nat}(h:n<=1000):n<sizeLine:=Nat.lt_of_le_of_lt h (by decide)
section
variable{X:Cx}
theorem pv (i:Nat) {x:Str} {pos:Pos} (hN:X.N[i]? = some x:=by rfl) (hv:Vis X.env.scope x:=by first | exact Or.inl rfl | exact Or.inr (Or.inl rfl) | exact Or.inr (Or.inr rfl)) (hd:(x==("__debug__":Str))=false:=by decide)
  (hcd:(x==("__classdict__":Str))=false:=by decide):PE X (.Name x pos) (acv i):=Ia hN hv hd hcd
end
end L2
set_option maxHeartbeats 4000000
namespace L2
open PySem PySem.Spec PyProof.Rows
noncomputable def aex(h0:Heap)(H:Hp)(h:Heap)(e:Addr)(cls:Value):Prop:=∃oe vs T oT ts a0,h.get? e=some oe/\(oe.cls=cls/\vs[0]? = some a0)/\oe.data=.fields vs/\vs[1]? = some (.ref T)/\(h0.get? T=none/\H T=none)/\T≠e/\h.get? T=some oT/\oT.data=.fields ts/\ts[3]? = some Value.none
section
variable{X:Cx}{pins:List (Addr × Obj)}{σ:St}{H H' : Hp}{s:Shared}{e:Addr}{cls:Value}
structure Fl (X:Cx) (H0:Hp) (s0:Shared) (H':Hp) (e:Addr) (cls:Value) (s:Shared):Prop where
 os:s.os=s0.os
 bare:AllBare s.gens
 un:Un (frs X.stack) [] H0 H' s0.heap s.heap
 hok:HOk X.prog X.w H' s.heap
 new:s0.heap.get? e=none
 free:H' e=none
 fly:aex s0.heap H' s.heap e cls
section
variable{H0:Hp}{s0:Shared}
noncomputable def aey(e:Addr)(cls:Value):HO:=.ext λh=>∃o vs,h.get? e=some o/\o.cls=cls/\o.data=.fields vs
end
end
end L2
namespace Lp
open PySem
inductive D where
 |non | bl (b:Bool) | int (i:Int) | str (x:Str)
 |tup (ds:List D) | lst (ds:List D) | loc (n:Nat)
 deriving Inhabited
noncomputable def D.pureN:Nat->D->Bool
 |0,d=>match d with | .tup _=>false | .lst _=>false | .loc _=>false | _=>true
 |k+1,d=>match d with | .tup ds=>ds.all (D.pureN k) | .lst ds=>ds.all (D.pureN k) | .loc _=>false | _=>true
noncomputable abbrev D.pure(d:D):Bool:=D.pureN 8 d
inductive O where
 |l (ds:List D)
 |r (ds:List D)
 |d (kvs:List (D×D))
 |dt (kvs:List (D×D))
 |x (c:Str)
 |o (c:Str) (fs:List (Str×D))
 |dr (kvs:List (D×D))
 |fd (kvs:List (D×D))
 |dead
 deriving Inhabited
noncomputable abbrev Sto:=List O
noncomputable abbrev Sl:=List (Option D)
inductive Res (α:Type) where
 |ok (a:α) (μ:Sto)
 |exc (c:Nat) (ds:List D) (μ:Sto)
 |stuck
namespace Res
variable{α β:Type}
noncomputable def bind(x:Res α)(f:α->Sto->Res β):Res β:=match x with
 |.ok a μ=>f a μ
 |.exc c ds μ=>.exc c ds μ
 |.stuck=>.stuck
@[simp] theorem br (a:α) (μ:Sto) (f:α->Sto->Res β):(Res.ok a μ).bind f=f a μ:=rfl
@[simp] theorem Zr (c:Nat) (ds:List D) (μ:Sto) (f:α->Sto->Res β):(Res.exc c ds μ:Res α).bind f=.exc c ds μ:=rfl
@[simp] theorem U6 (f:α->Sto->Res β):(Res.stuck:Res α).bind f=.stuck:=rfl
theorem bind_assoc{γ:Type}(x:Res α)(f:α->Sto->Res β)(g:β->Sto->Res γ):(x.bind f).bind g=x.bind λa μ=>(f a μ).bind g:=by
 cases x<;>rfl
end Res
inductive Mk where | z | l | r
 deriving DecidableEq,Inhabited
inductive Bt where
 |len | tuple | list | sum | min | min1 | max | all | any | sorted | sortedSet | sortedL | int | listRev | listRange | tupleRange | dictP | sortedI | sortedD | odds | min3 | max1 | sortedN | sortedT | inR3 | sortedST
 deriving DecidableEq,Inhabited
inductive Mt where
 |append | pop | extend | extendT | insert | remove | reverse | clear | count | countL | get
 deriving DecidableEq,Inhabited
inductive Cl where
 |int | bool | tuple | list | str | own (c:Str)
 deriving DecidableEq,Inhabited
inductive Tg where
 |one (i:Nat) | many (is:List Nat)
 deriving DecidableEq,Inhabited
inductive Cp where
 |eq | ne | eqM | neM | lt | le | gt | ge | is | isnot | in_ | notin
 deriving DecidableEq,Inhabited
mutual
inductive Ex where
 |var (i:Nat)
 |frz (i:Nat)
 |cst (d:D)
 |bin (op:Operator) (m:Mk) (a b:Ex)
 |neg (a:Ex)
 |not (a:Ex)
 |and (a b:Ex)
 |or (a b:Ex)
 |ite (c a b:Ex)
 |cmp (a:Ex) (r:Cps)
 |call (keep:Bool) (f:Nat) (es:Exs)
 |blt (b:Bt) (m:Mk) (es:Exs)
 |isi (a:Ex) (c:Cl)
 |meth (mt:Mt) (o:Ex) (es:Exs)
 |ix (a b:Ex)
 |dix (a b:Ex)
 |sl (m:Mk) (a:Ex) (lo hi:ExO)
 |tup (es:Exs)
 |lst (m:Mk) (es:Exs)
 |dic (t:Bool) (es:Exs)
 |inT (neg:Bool) (es:Exs) (d:Ex)
 |ixT (d:Ex) (es:Exs)
 |getT (d:Ex) (es:Exs) (x:Ex)
 |ixV (d k:Ex)
 |att (e:Ex) (f:Str)
 |mcall (k1:Bool) (c m:Str) (f:Nat) (o:Ex) (es:Exs)
 |make (c:Str) (f:Nat) (es:Exs)
 |callK (f:Nat) (es:Exs)
 |tru (e:Ex)
 |drp (e:Ex)
 |gix (a b:Ex)
 |dicr
 |comp (m:Mk) (cap:List Nat) (nl:Nat) (tg:Tg) (it:It) (cs:Exs) (elt:Ex)
inductive Exs where
 |nil
 |cons (e:Ex) (es:Exs)
inductive Cps where
 |nil
 |cons (op:Cp) (e:Ex) (r:Cps)
inductive ExO where
 |no
 |so (e:Ex)
inductive It where
 |seq (e:Ex)
 |rng (a:Ex)
 |rng2 (a b:Ex)
 |rng3 (a b c:Ex)
 |rngD (a b c:Ex)
 |zip (a b:Ex)
 |enum (a:Ex)
 |rev (a:Ex)
 |vals (a:Ex)
 |keys (a:Ex)
end
mutual
inductive Sm where
 |set (i:Nat) (e:Ex)
 |unp (is:List Nat) (e:Ex)
 |setx (o i v:Ex)
 |augx (op:Operator) (o i v:Ex)
 |setxT (o:Ex) (i:Exs) (v:Ex)
 |ex (e:Ex)
 |ite (c:Ex) (a b:Sms)
 |loop (tg:Tg) (it:It) (b:Sms)
 |ret (e:Ex)
 |raise (c:Str) (es:Exs)
 |pl (s:Sm)
 |callx (f:Nat) (es:Exs)
 |tryc (f:Nat) (es:Exs) (ei:Nat) (h:Sms)
 |mapx (i:Nat) (cap:List Nat) (nl:Nat) (tg:Tg) (it:It) (f:Nat) (es:Exs)
 |tryi (i j:Nat) (e:Ex)
 |seta (o:Ex) (f:Str) (e:Ex)
 |whl (c:Ex) (b:Sms)
 |pass | brk | cont
 |never
inductive Sms where
 |nil
 |cons (s:Sm) (r:Sms)
end
@[irreducible] def lim:Nat:=2 ^ 24
theorem Pr:lim=2 ^ 24:=by with_unfolding_all rfl
theorem jl:1000000<=lim:=by rw[Pr];decide
noncomputable def g7(μ:Sto):D->Option (List D)
 |.tup ds=>some ds
 |.lst ds=>some ds
 |.loc n=>match μ[n]? with
  |some (.l ds)=>some ds
  |some (.r ds)=>some ds
  |_=>none
 |_=>none
noncomputable def listOf(μ:Sto):D->Option (List D)
 |.lst ds=>some ds
 |.loc n=>match μ[n]? with
  |some (.l ds)=>some ds
  |some (.r ds)=>some ds
  |_=>none
 |_=>none
noncomputable def ot{α β:Type}(o:Option α)(k:α->Res β):Res β:=match o with
 |some a=>k a
 |none=>.stuck
@[simp] theorem qo {α β:Type} (a:α) (k:α->Res β):ot (some a) k=k a:=rfl
@[simp] theorem Sk {α β:Type} (k:α->Res β):ot none k=.stuck:=rfl
noncomputable def mkL(m:Mk)(ds:List D)(μ:Sto):Res D:=match m with
 |.z=>.ok (.lst ds) μ
 |.l=>if ds.all (D.pureN 8)=true then .ok (.loc μ.length) (μ++[.l ds])else .stuck
 |.r=>.ok (.loc μ.length) (μ++[.r ds])
mutual
noncomputable def deq:D->D->Bool
 |.non,.non=>true
 |.bl a,.bl b=>a==b
 |.int a,.int b=>decide (a=b)
 |.bl a,.int b=>decide ((if a then 1 else 0:Int)=b)
 |.int a,.bl b=>decide (a=(if b then 1 else 0:Int))
 |.str a,.str b=>decide (a=b)
 |.tup a,.tup b=>pj a b
 |.lst a,.lst b=>pj a b
 |_,_=>false
noncomputable def pj:List D->List D->Bool
 | [],[]=>true
 |a::r,b::q=>deq a b&&pj r q
 |_,_=>false
end
noncomputable def rs1(μ:Sto):Nat->D->D
 |0,d=>d
 |_,.loc n=>match μ[n]? with
  |some (.l ds)=>.lst ds
  |some (.r ds)=>.lst ds
  |_=>.loc n
 |k+1,.tup ds=>.tup (ds.map (rs1 μ k))
 |k+1,.lst ds=>.lst (ds.map (rs1 μ k))
 |_,d=>d
noncomputable def rs(μ:Sto)(d:D):D:=rs1 μ 8 (rs1 μ 8 (rs1 μ 8 d))
noncomputable def fg:List D->Option (List Int)
 | []=>some []
 |.int i::r=>(fg r).map (i::·)
 |_=>none
noncomputable def Pt:List D->Option (List Bool)
 | []=>some []
 |.bl i::r=>(Pt r).map (i::·)
 |_=>none
noncomputable def lexLt:List Int->List Int->Bool
 |_,[]=>false
 | [],_::_=>true
 |x::xs,y::ys=>if x=y then lexLt xs ys else decide (x<y)
noncomputable def rowsOf:List D->Option (List (List Int))
 | []=>some []
 |.tup ds::r=>(fg ds).bind λx=>(rowsOf r).map (x::·)
 |_=>none
noncomputable def ixN(n:Nat)(i:Int):Option Nat:=if 0<=i then(if i<n then some i.toNat else none)else if -(n:Int)<=i then some (i+n).toNat else none
noncomputable def sIx(n d:Nat):Option Int->Nat
 |none=>d
 |some v=>if v<0 then(v+(n:Int)).toNat else min v.toNat n
noncomputable def cut(ds:List D)(lo hi:Option Int):List D:=(ds.drop (sIx ds.length 0 lo)).take (sIx ds.length ds.length hi-sIx ds.length 0 lo)
noncomputable def CMul(i j:Int):Prop:=(-(2 ^ 64)<i/\i<2 ^ 64)\/(-(2 ^ 64)<j/\j<2 ^ 64)
instance (i j:Int):Decidable (CMul i j):=by unfold CMul;infer_instance
noncomputable def opI(op:Operator)(i j:Int)(μ:Sto):Res D:=match op with
 |.Add=>.ok (.int (i+j)) μ
 |.Sub=>.ok (.int (i-j)) μ
 |.Mult=>if CMul i j then .ok (.int (i*j)) μ else .stuck
 |.FloorDiv=>if 0<j/\j<1073741824 then .ok (.int (i / j)) μ else .stuck
 |.Mod=>if 0<j then .ok (.int (i % j)) μ else .stuck
 |.Pow=>if 0<=j/\j<=1000000/\i.natAbs<2 ^ 64 then .ok (.int (i ^ j.toNat)) μ else .stuck
 |.RShift=>if 0<=j then .ok (.int (i / 2 ^ j.toNat)) μ else .stuck
 |.LShift=>if 0<=j/\j<=1000000/\i.natAbs<2 ^ 64 then .ok (.int (i*2 ^ j.toNat)) μ else .stuck
 |.BitXor=>if 0<=i/\j=1 then .ok (.int (if i % 2=0 then i+1 else i-1)) μ else .stuck
 |_=>.stuck
noncomputable def opD(op:Operator)(m:Mk)(a b:D)(μ:Sto):Res D:=match a,b with
 |.int i,.int j=>opI op i j μ
 |.tup xs,.tup ys=>match op with
  |.Add=>if xs.length+ys.length<=lim then .ok (.tup (xs++ys)) μ else .stuck
  |_=>.stuck
 |x,.int j=>match op,listOf μ x with
  |.Mult,some xs=>if xs.length*j.toNat<=lim /\ -(2 ^ 63)<=j/\j<2 ^ 63 then mkL m (List.replicate j.toNat xs).flatten μ else .stuck
  |_,_=>.stuck
 |x,y=>match op,listOf μ x,listOf μ y with
  |.Add,some xs,some ys=>if xs.length+ys.length<=lim then mkL m (xs++ys) μ else .stuck
  |_,_,_=>.stuck
noncomputable def flat:D->Bool
 |.tup _=>false
 |.lst _=>false
 |.loc _=>false
 |_=>true
noncomputable def da(μ:Sto)(x:D):Option (List D×Option (Nat×O)):=match x with
 |.tup ds=>some (ds,none)
 |.lst ds=>some (ds,none)
 |.loc n=>match μ[n]? with
  |some (.l ds)=>some (ds,some (n,.l ds))
  |some (.r ds)=>some (ds,some (n,.r ds))
  |_=>none
 |_=>none
noncomputable def A0:D->Bool
 |.int _=>true
 |.str _=>true
 |_=>false
noncomputable def aez:D->Bool
 |.tup ds=>ds.all A0
 |_=>false
noncomputable def xp(k:D):List (D×D)->Option D
 | []=>none
 |(x,v)::r=>if deq x k then some v else xp k r
noncomputable def dput(k v:D)(kvs:List (D×D)):List (D×D) :=
 if(kvs.any λp=>deq p.1 k)=true then kvs.map (λp=>if deq p.1 k=true then(p.1,v)else p)else kvs++[(k,v)]
noncomputable def dictAt(μ:Sto)(o k:D):Option (List (D×D)):=match o with
 |.loc n=>match μ[n]? with
  |some (.d kvs)=>if A0 k=true then some kvs else none
  |some (.dr kvs)=>if A0 k=true then some kvs else none
  |some (.fd kvs)=>if A0 k=true then some kvs else none
  |_=>none
 |_=>none
noncomputable def ip(μ:Sto)(o:D)(ks:List D):Option (List (D×D)):=match o with
 |.loc n=>match μ[n]? with
  |some (.dt kvs)=>if ks.all A0=true then some kvs else none
  |_=>none
 |_=>none
noncomputable def fi:List (Option D)->Option (List D)
 | []=>some []
 |none::_=>none
 |some d::r=>match fi r with
  |some ds=>some (d::ds)
  |none=>none
noncomputable def cc(μ:Sto):Nat->D->Option D
 |0,d=>if flat d=true then some d else none
 |k+1,d=>match d with
  |.tup ds=>(fi (ds.map (cc μ k))).map .tup
  |.lst ds=>(fi (ds.map (cc μ k))).map .lst
  |.loc n=>match μ[n]? with
   |some (.l ds)=>(fi (ds.map (cc μ k))).map .lst
   |some (.r ds)=>(fi (ds.map (cc μ k))).map .lst
   |_=>none
  |d=>some d
noncomputable def cpD(op:Cp)(a b:D)(μ:Sto):Res D:=match op with
 |.eq=>if a.pure=true/\b.pure=true then .ok (.bl (deq a b)) μ else .stuck
 |.ne=>if a.pure=true/\b.pure=true then .ok (.bl (!deq a b)) μ else .stuck
 |.eqM=>match cc μ 8 a,cc μ 8 b with
  |some x,some y=>.ok (.bl (deq x y)) μ
  |_,_=>.stuck
 |.neM=>match cc μ 8 a,cc μ 8 b with
  |some x,some y=>.ok (.bl (!deq x y)) μ
  |_,_=>.stuck
 |.lt=>match a,b with
  |.int i,.int j=>.ok (.bl (decide (i<j))) μ
  |.tup x,.tup y=>match fg x,fg y with
   |some xs,some ys=>.ok (.bl (lexLt xs ys)) μ
   |_,_=>.stuck
  |_,_=>.stuck
 |.le=>match a,b with
  |.int i,.int j=>.ok (.bl (decide (i<=j))) μ
  |.tup x,.tup y=>match fg x,fg y with
   |some xs,some ys=>.ok (.bl (!lexLt ys xs)) μ
   |_,_=>.stuck
  |_,_=>.stuck
 |.gt=>match a,b with
  |.int i,.int j=>.ok (.bl (decide (j<i))) μ
  |_,_=>.stuck
 |.ge=>match a,b with
  |.int i,.int j=>.ok (.bl (decide (j<=i))) μ
  |.tup x,.tup y=>match fg x,fg y with
   |some xs,some ys=>.ok (.bl (!lexLt xs ys)) μ
   |_,_=>.stuck
  |_,_=>.stuck
 |.is=>match b with
  |.non=>.ok (.bl (match a with | .non=>true | _=>false)) μ
  |.bl k=>match a with
   |.bl j=>.ok (.bl (j==k)) μ
   |.non=>.ok (.bl false) μ
   |_=>.stuck
  |_=>.stuck
 |.isnot=>match b with
  |.non=>.ok (.bl (match a with | .non=>false | _=>true)) μ
  |.bl k=>match a with
   |.bl j=>.ok (.bl (!(j==k))) μ
   |.non=>.ok (.bl true) μ
   |_=>.stuck
  |_=>.stuck
 |.in_=>match g7 μ b with
  |some ds=>if flat a=true/\ds.all flat=true then .ok (.bl (ds.any λy=>deq y a)) μ else .stuck
  |none=>match dictAt μ b a with
   |some kvs=>.ok (.bl (xp a kvs).isSome) μ
   |none=>.stuck
 |.notin=>match g7 μ b with
  |some ds=>if flat a=true/\ds.all flat=true then .ok (.bl (!ds.any λy=>deq y a)) μ else .stuck
  |none=>match dictAt μ b a with
   |some kvs=>.ok (.bl (!(xp a kvs).isSome)) μ
   |none=>.stuck
noncomputable def insI(x:Int):List Int->List Int
 | []=>[x]
 |y::r=>if x<=y then x::y::r else y::insI x r
noncomputable def sortI:List Int->List Int
 | []=>[]
 |x::r=>insI x (sortI r)
noncomputable def ac3(x:List Int):List (List Int)->List (List Int)
 | []=>[x]
 |y::r=>if lexLt y x=true then y::ac3 x r else x::y::r
noncomputable def Nw:List (List Int)->List (List Int)
 | []=>[]
 |x::r=>ac3 x (Nw r)
noncomputable def ac4:Int->List Int->Int
 |x,[]=>x
 |x,y::r=>ac4 (if y<x then y else x) r
noncomputable def ac5:Int->List Int->Int
 |x,[]=>x
 |x,y::r=>ac5 (if y > x then y else x) r
noncomputable def qx(f:D->Sto->Res D)(ds:List D)(μ:Sto):Res D:=match ds with
 | [x]=>f x μ
 |_=>.stuck
@[simp] theorem nk (f:D->Sto->Res D) (x:D) (μ:Sto):qx f [x] μ=f x μ:=rfl
noncomputable def seq1(f:List D->Sto->Res D)(x:D)(μ:Sto):Res D:=match g7 μ x with
 |some xs=>f xs μ
 |none=>.stuck
noncomputable def Sn(f:List Int->Sto->Res D)(x:D)(μ:Sto):Res D:=match(g7 μ x).bind fg with
 |some ns=>f ns μ
 |none=>.stuck
noncomputable def Wh(f:List Bool->Sto->Res D)(x:D)(μ:Sto):Res D:=match(g7 μ x).bind Pt with
 |some ns=>f ns μ
 |none=>.stuck
noncomputable def Nx(m:Mk)(x:D)(μ:Sto):Res D:=match listOf μ x with
 |some xs=>mkL m xs.reverse μ
 |none=>.stuck
noncomputable def minD(ds:List D)(μ:Sto):Res D:=match ds with
 | [.int i,.int j]=>.ok (.int (if j<i then j else i)) μ
 |_=>.stuck
noncomputable def aax(ds:List D)(μ:Sto):Res D:=match ds with
 | [.int i,.int j,.int k]=>.ok (.int (if k<(if j<i then j else i)then k else(if j<i then j else i))) μ
 |_=>.stuck
noncomputable def maxD(ds:List D)(μ:Sto):Res D:=match ds with
 | [.int i,.int j]=>.ok (.int (if j > i then j else i)) μ
 |_=>.stuck
noncomputable def So(m:Mk)(xs:List D)(μ:Sto):Res D:=match rowsOf xs with
 |some rs=>if rs.all (λr=>!r.isEmpty)=true then mkL m ((Nw rs).map λr=>.tup (r.map .int)) μ else .stuck
 |none=>.stuck
noncomputable def ae0(ns:List Int):List Int:=ns.foldl (λσ k=>if σ.any (·==k)then σ else σ++[k]) []
noncomputable def Wi(m:Mk):D->Sto->Res D:=Sn λns μ=>if ns.length<64 then mkL m ((sortI (ae0 ns)).map .int) μ else .stuck
noncomputable def ae1(rs:List (List Int)):List (List Int):=rs.foldl (λσ k=>if k∈σ then σ else σ++[k]) []
noncomputable def Sr(m:Mk)(x:D)(μ:Sto):Res D:=match(listOf μ x).bind rowsOf with
 |some rs=>if rs.length<60/\(rs.all λr=>!r.isEmpty)=true then mkL m ((Nw (ae1 rs)).map λr=>.tup (r.map .int)) μ else .stuck
 |none=>.stuck
noncomputable def Wj(m:Mk)(x:D)(μ:Sto):Res D:=match listOf μ x with
 |some xs=>if xs.length<64 then So m xs μ else .stuck
 |none=>.stuck
noncomputable def aay(ds:List D)(μ:Sto):Res D:=match ds with
 | [.int x,.int i,.int j,.int k]=>if 0<=i/\i<2 ^ 32/\0<=j/\j<2 ^ 32/\1<=k/\k<=1000 then .ok (.bl (decide (i<=x/\x<j/\(x-i) % k=0))) μ else .stuck
 |_=>.stuck
noncomputable def Ss{R:Type}(lt:R->R->Bool)(x:R):List R->List R
 | []=>[x]
 |y::r=>if lt y x=true then y::Ss lt x r else x::y::r
noncomputable def gb{R:Type}(lt:R->R->Bool):List R->List R
 | []=>[]
 |x::r=>Ss lt x (gb lt r)
noncomputable abbrev NR:=List Int×Str×List Int
noncomputable abbrev gf(x:NR):D:=.tup [.tup (x.1.map .int),.tup (.str x.2.1::x.2.2.map .int)]
noncomputable def ltN(x y:NR):Bool:=if x.1=y.1 then(if x.2.1=y.2.1 then lexLt x.2.2 y.2.2 else decide (x.2.1.cps.toList<y.2.1.cps.toList))else lexLt x.1 y.1
noncomputable def y4:List D->Option (List NR)
 | []=>some []
 |.tup [.tup ds,.tup (.str t::es)]::r=>(fg ds).bind λx=>(fg es).bind λy=>(y4 r).map ((x,t,y)::·)
 |_=>none
noncomputable def Jb(m:Mk)(x:D)(μ:Sto):Res D:=match(listOf μ x).bind y4 with
 |some rs=>if rs.length<=1000 then mkL m ((gb ltN rs).map gf) μ else .stuck
 |none=>.stuck
noncomputable def Eh(m:Mk)(x:D)(μ:Sto):Res D:=match(listOf μ x).bind rowsOf with
 |some rs=>if rs.length<=1000/\(rs.all λr=>!r.isEmpty)=true then mkL m ((gb lexLt rs).map λr=>.tup (r.map .int)) μ else .stuck
 |none=>.stuck
noncomputable def Wk(m:Mk)(x:D)(μ:Sto):Res D:=match(listOf μ x).bind fg with
 |some ns=>if ns.length<64 then mkL m ((sortI ns).map .int) μ else .stuck
 |none=>.stuck
noncomputable def keysOf(μ:Sto):D->Option (List (D×D))
 |.loc n=>match μ[n]? with
  |some (.d kvs)=>some kvs
  |some (.dr kvs)=>some kvs
  |some (.fd kvs)=>some kvs
  |_=>none
 |_=>none
noncomputable def Wl(m:Mk)(x:D)(μ:Sto):Res D:=match(keysOf μ x).bind λkvs=>fg (kvs.map (·.1))with
 |some ns=>if ns.length<64 then mkL m ((sortI ns).map .int) μ else .stuck
 |none=>.stuck
noncomputable def aaz(xs:List D):List D:=(List.range (xs.length / 2)).filterMap λi=>xs[2*i+1]?
noncomputable def aa0(m:Mk)(x:D)(μ:Sto):Res D:=match listOf μ x with
 |some xs=>mkL m (aaz xs) μ
 |none=>.stuck
noncomputable def Wm:List D->Sto->Option (List (List Int)×Sto)
 | [],μ=>some ([],μ)
 |.loc n::r,μ=>match μ[n]? with
  |some (.l ds)=>match fg ds,Wm r (μ.set n .dead)with
   |some x,some p=>some (x::p.1,p.2)
   |_,_=>none
  |_=>none
 |_,_=>none
noncomputable def Su(m:Mk)(x:D)(μ:Sto):Res D:=match listOf μ x with
 |some xs=>if xs.length<64 then(match Wm xs μ with
  |some p=>mkL m ((Nw p.1).map λr=>.lst (r.map .int)) p.2
  |none=>.stuck)else .stuck
 |none=>.stuck
noncomputable def aa1:D->Sto->Res D:=Sn λns μ=>match ns with
 |n::r=>.ok (.int (ac4 n r)) μ
 | []=>.stuck
noncomputable def aa2:D->Sto->Res D:=Sn λns μ=>match ns with
 |n::r=>.ok (.int (ac5 n r)) μ
 | []=>.stuck
noncomputable def Pu(x:D)(μ:Sto):Res D:=match x with
 |.bl b=>.ok (.int (if b then 1 else 0)) μ
 |.int i=>.ok (.int i) μ
 |_=>.stuck
noncomputable def Pw(f:List D->Sto->Res D)(x:D)(μ:Sto):Res D:=match x with
 |.int j=>if -(lim:Int)<=j/\j<=lim then f ((List.range j.toNat).map fun(i:Nat)=>D.int i) μ else .stuck
 |_=>.stuck
noncomputable def Px:List D->Option (List (D×D))
 | []=>some []
 |.tup [k,v]::r=>if A0 k=true/\v.pure=true then(Px r).map ((k,v)::·)else none
 |_=>none
noncomputable def Wn(x:D)(μ:Sto):Res D:=match(listOf μ x).bind Px with
 |some ps=>if ps.length<1000 then .ok (.loc μ.length) (μ++[.d (ps.foldl (λm p=>dput p.1 p.2 m) [])])else .stuck
 |none=>.stuck
noncomputable def btD(b:Bt)(m:Mk)(ds:List D)(μ:Sto):Res D:=match b with
 |.len=>qx (seq1 λxs μ=>.ok (.int xs.length) μ) ds μ
 |.tuple=>qx (seq1 λxs μ=>.ok (.tup xs) μ) ds μ
 |.list=>qx (seq1 λxs μ=>mkL m xs μ) ds μ
 |.listRev=>qx (Nx m) ds μ
 |.sum=>qx (Sn λns μ=>.ok (.int ns.sum) μ) ds μ
 |.min=>minD ds μ
 |.max=>maxD ds μ
 |.all=>qx (Wh λbs μ=>.ok (.bl (bs.all id)) μ) ds μ
 |.any=>qx (Wh λbs μ=>.ok (.bl (bs.any id)) μ) ds μ
 |.sorted=>qx (Wj m) ds μ
 |.min1=>qx aa1 ds μ
 |.max1=>qx aa2 ds μ
 |.sortedN=>qx (Jb m) ds μ
 |.sortedT=>qx (Eh m) ds μ
 |.sortedST=>qx (Sr m) ds μ
 |.inR3=>aay ds μ
 |.sortedSet=>qx (Wi m) ds μ
 |.sortedL=>qx (Su m) ds μ
 |.int=>qx Pu ds μ
 |.listRange=>qx (Pw λxs μ=>mkL m xs μ) ds μ
 |.tupleRange=>qx (Pw λxs μ=>.ok (.tup xs) μ) ds μ
 |.dictP=>qx Wn ds μ
 |.sortedI=>qx (Wk m) ds μ
 |.sortedD=>qx (Wl m) ds μ
 |.odds=>qx (aa0 m) ds μ
 |.min3=>aax ds μ
noncomputable def ac6:List Str:=["BadBook","BadTicks","NoDeed","NoRest","BadRow"]
noncomputable def ae2(k c:Str):Bool:=decide (c=k) || decide (c="LampError") || decide (c="ValueError")
noncomputable def U7(c:Cl)(d:D)(μ:Sto):Res D:=match d,c with
 |.int _,.int=>.ok (.bl true) μ
 |.bl _,.int=>.ok (.bl true) μ
 |.bl _,.bool=>.ok (.bl true) μ
 |.tup _,.tuple=>.ok (.bl true) μ
 |.lst _,.list=>.ok (.bl true) μ
 |.str _,.str=>.ok (.bl true) μ
 |.loc n,.list=>match μ[n]? with
  |some (.l _)=>.ok (.bl true) μ
  |some (.r _)=>.ok (.bl true) μ
  |_=>.stuck
 |.loc n,.own c=>match μ[n]? with
  |some (.x k)=>if ac6.contains k=true then .ok (.bl (ae2 k c)) μ else .stuck
  |_=>.stuck
 |.loc _,_=>.stuck
 |_,.own _=>.stuck
 |_,_=>.ok (.bl false) μ
noncomputable def putL(n:Nat)(o:O)(ds:List D)(d:D)(μ:Sto):Res D:=match o with
 |.l _=>.ok d (μ.set n (.l ds))
 |.r _=>.ok d (μ.set n (.r ds))
 |_=>.stuck
noncomputable def fits(o:O)(d:D):Bool:=match o with
 |.l _=>d.pure
 |.r _=>true
 |_=>false
noncomputable def ik:O->Option (List D)
 |.l ds=>some ds
 |.r ds=>some ds
 |_=>none
noncomputable def mtL(mt:Mt)(n:Nat)(ob:O)(xs:List D)(ds:List D)(μ:Sto):Res D:=match mt with
 |.append=>qx (λd μ=>if fits ob d=true/\xs.length<lim then putL n ob (xs++[d]) .non μ else .stuck) ds μ
 |.pop=>match ds with
  | []=>match xs.getLast? with
   |some d=>putL n ob xs.dropLast d μ
   |none=>.stuck
  | [.int i]=>if 0<=i/\i<lim then(match xs[i.toNat]? with
   |some d=>putL n ob (xs.eraseIdx i.toNat) d μ
   |none=>.stuck)else .stuck
  |_=>.stuck
 |.extend=>qx (λy μ=>match listOf μ y with
  |some ys=>if ys.all (fits ob)=true/\xs.length+ys.length<=lim then putL n ob (xs++ys) .non μ else .stuck
  |none=>.stuck) ds μ
 |.extendT=>qx (λy μ=>match y with
  |.tup ys=>if ys.all (fits ob)=true/\xs.length+ys.length<=lim then putL n ob (xs++ys) .non μ else .stuck
  |_=>.stuck) ds μ
 |.insert=>match ds with
  | [.int i,d]=>if 0<=i/\i<=(xs.length:Int)/\fits ob d=true/\xs.length<lim then putL n ob (xs.take i.toNat++d::xs.drop i.toNat) .non μ else .stuck
  |_=>.stuck
 |.remove=>qx (λd μ=>match fi (xs.map (cc μ 8)),cc μ 8 d with
  |some es,some e=>match es.findIdx? (λx=>deq x e)with
   |some j=>putL n ob (xs.eraseIdx j) .non μ
   |none=>.stuck
  |_,_=>.stuck) ds μ
 |.reverse=>match ds with
  | []=>putL n ob xs.reverse .non μ
  |_=>.stuck
 |.clear=>match ds with
  | []=>putL n ob [] .non μ
  |_=>.stuck
 |_=>.stuck
noncomputable def ac7(xs ds:List D)(μ:Sto):Res D:=qx (λx μ=>if flat x=true/\xs.all flat=true then .ok (.int (xs.countP λy=>deq y x)) μ else .stuck) ds μ
noncomputable def ae3(o:D)(ds:List D)(μ:Sto):Res D:=match o with
 |.tup xs=>ac7 xs ds μ
 |_=>.stuck
noncomputable def ae4(o:D)(ds:List D)(μ:Sto):Res D:=match listOf μ o with
 |some xs=>ac7 xs ds μ
 |none=>.stuck
noncomputable def oh(mt:Mt)(x:D)(μ:Sto):Bool:=match mt with
 |.get=>match x with
  |.loc n=>match μ[n]? with
   |some (.d _)=>true
   |_=>false
  |_=>false
 |.count=>match x with
  |.tup _=>true
  |_=>false
 |_=>(listOf μ x).isSome
noncomputable def Sv(o:D)(ds:List D)(μ:Sto):Res D:=match ds with
 | [k,x]=>match dictAt μ o k with
  |some kvs=>.ok ((xp k kvs).getD x) μ
  |none=>.stuck
 |_=>.stuck
noncomputable def Ct(mt:Mt)(o:D)(ds:List D)(μ:Sto):Res D:=match o with
 |.loc n=>match μ[n]? with
  |none=>.stuck
  |some ob=>match ik ob with
   |none=>.stuck
   |some xs=>mtL mt n ob xs ds μ
 |_=>.stuck
noncomputable def mtD(mt:Mt)(o:D)(ds:List D)(μ:Sto):Res D:=match mt with
 |.count=>ae3 o ds μ
 |.countL=>ae4 o ds μ
 |.get=>Sv o ds μ
 |mt=>Ct mt o ds μ
noncomputable def ou(a:D)(ks:List D)(v:D)(μ:Sto):Res Unit:=match a with
 |.loc n=>match μ[n]? with
  |some (.dt kvs)=>if ks.all A0=true/\v.pure=true/\kvs.length<lim then .ok () (μ.set n (.dt (dput (.tup ks) v kvs)))else .stuck
  |_=>.stuck
 |_=>.stuck
noncomputable def Ny(a:D)(ks:List D)(μ:Sto):Res D:=match ip μ a ks with
 |some kvs=>match xp (.tup ks) kvs with
  |some v=>.ok v μ
  |none=>.stuck
 |none=>.stuck
noncomputable def A6(a:D)(ks:List D)(v:D)(μ:Sto):Res D:=match ip μ a ks with
 |some kvs=>.ok ((xp (.tup ks) kvs).getD v) μ
 |none=>.stuck
noncomputable def Sw(a k:D)(μ:Sto):Res D:=match k with
 |.tup ks=>Ny a ks μ
 |_=>.stuck
noncomputable def Nz(a:D)(μ:Sto):Bool:=match a with
 |.loc n=>match μ[n]? with
  |some (.dt _)=>true
  |_=>false
 |_=>false
noncomputable def ae5(neg:Bool)(ks:List D)(a:D)(μ:Sto):Res D:=match ip μ a ks with
 |some kvs=>.ok (.bl (neg ^^ (xp (.tup ks) kvs).isSome)) μ
 |none=>.stuck
noncomputable def ixD(a b:D)(μ:Sto):Res D:=match b with
 |.int i=>match g7 μ a with
  |some xs=>match ixN xs.length i with
   |some j=>match xs[j]? with
    |some d=>.ok d μ
    |none=>.stuck
   |none=>.stuck
  |none=>.stuck
 |_=>.stuck
noncomputable def ixL(a b:D)(μ:Sto):Res D:=match a with
 |.loc n=>ixD (.loc n) b μ
 |_=>.stuck
noncomputable def Zt(a b:D)(μ:Sto):Res D:=match dictAt μ a b with
 |some kvs=>match xp b kvs with
  |some v=>.ok v μ
  |none=>.stuck
 |none=>.stuck
noncomputable def aa3(a b:D)(μ:Sto):Res D:=match keysOf μ a with
 |some _=>Zt a b μ
 |none=>ixD a b μ
noncomputable def objOf(μ:Sto):D->Option (Nat×Str×List (Str×D))
 |.loc n=>match μ[n]? with
  |some (.o c fs)=>some (n,c,fs)
  |_=>none
 |_=>none
noncomputable def Wo(c f:Str):Bool :=
 if c="Residue" then decide (f="heads") || decide (f="rooms") || decide (f="leaving") || decide (f="surplus")
 else if c="Slope" then decide (f="residue") || decide (f="scale") || decide (f="costs") || decide (f="worths")
 else if c="Watch" then decide (f="rests")else false
noncomputable def ac8(f:Str)(x:D)(μ:Sto):Res D:=match objOf μ x with
 |some (_,c,fs)=>if Wo c f=true then(match fs.lookup f with
  |some v=>.ok v μ
  |none=>.stuck)else .stuck
 |none=>.stuck
noncomputable def ac9(f:Str)(v:D):List (Str×D)->List (Str×D)
 | []=>[(f,v)]
 |(g,x)::r=>if g=f then(g,v)::r else(g,x)::ac9 f v r
noncomputable def Sx(f:Str)(x v:D)(μ:Sto):Res Unit:=match objOf μ x with
 |some (n,c,fs)=>if Wo c f=true/\fs.length<100 then .ok () (μ.set n (.o c (ac9 f v fs)))else .stuck
 |none=>.stuck
noncomputable def isObj(c m:Str)(x:D)(μ:Sto):Bool:=match objOf μ x with
 |some (_,c',fs)=>decide (c'=c)&&(fs.lookup m).isNone
 |none=>false
noncomputable def truD(x:D)(μ:Sto):Res D:=match x with
 |.bl b=>.ok (.bl b) μ
 |x=>match g7 μ x with
  |some xs=>.ok (.bl (!xs.isEmpty)) μ
  |none=>.stuck
noncomputable def ada(op:Operator)(a b:D)(μ:Sto):Res D:=match a,b with
 |.int i,.int j=>match op with
  |.Add=>.ok (.int (i+j)) μ
  |.Sub=>.ok (.int (i-j)) μ
  |_=>.stuck
 |_,_=>.stuck
noncomputable def slD(m:Mk)(a:D)(lo hi:Option Int)(μ:Sto):Res D:=match a with
 |.tup xs=>.ok (.tup (cut xs lo hi)) μ
 |x=>match listOf μ x with
  |some xs=>mkL m (cut xs lo hi) μ
  |none=>.stuck
noncomputable def Cg(a b v:D)(μ:Sto):Res Unit:=match a with
 |.loc n=>match μ[n]? with
  |none=>.stuck
  |some (.d kvs)=>if A0 b=true/\v.pure=true/\kvs.length<lim then .ok () (μ.set n (.d (dput b v kvs)))else .stuck
  |some (.dr kvs)=>if A0 b=true/\kvs.length<lim then .ok () (μ.set n (.dr (dput b v kvs)))else .stuck
  |some ob=>match ik ob,b with
   |some xs,.int i=>match ixN xs.length i with
    |some j=>if fits ob v=true then(putL n ob (xs.set j v) .non μ).bind λ_ μ=>.ok () μ else .stuck
    |none=>.stuck
   |_,_=>.stuck
 |_=>.stuck
noncomputable def iz(tg:Tg)(d:D)(σ:Sl):Option Sl:=match tg with
 |.one i=>some (σ.set i (some d))
 |.many is=>match d with
  |.tup ds=>if ds.length=is.length then some ((is.zip ds).foldl (λs p=>s.set p.1 (some p.2)) σ)else none
  |_=>none
noncomputable abbrev Gd:=Option (Nat×O)
noncomputable def gd(g:Gd)(μ:Sto):Prop:=match g with
 |none=>True
 |some (n,o)=>μ[n]? = some o
@[simp] theorem Cu (μ:Sto):gd none μ=True:=rfl
open Classical in
noncomputable def mapR(g:Gd)(f:D->Sto->Res (List D)):List D->Sto->Res (List D)
 | [],μ=>if gd g μ then .ok [] μ else .stuck
 |d::ds,μ=>if gd g μ then(f d μ).bind λxs μ1=>(mapR g f ds μ1).bind λys μ2=>.ok (xs++ys) μ2 else .stuck
inductive Fl where
 |nx (σ:Sl) | rt (d:D) | bk (σ:Sl) | ct (σ:Sl)
open Classical in
noncomputable def k7(g:Gd)(f:D->Sl->Sto->Res Fl):List D->Sl->Sto->Res Fl
 | [],σ,μ=>if gd g μ then .ok (.nx σ) μ else .stuck
 |d::ds,σ,μ=>if gd g μ then(f d σ μ).bind λfl μ1=>match fl with
  |.nx σ1=>k7 g f ds σ1 μ1
  |.ct σ1=>k7 g f ds σ1 μ1
  |.bk σ1=>.ok (.nx σ1) μ1
  |.rt v=>.ok (.rt v) μ1 else .stuck
noncomputable def U8(t:Bool)(ds:List D)(μ:Sto):Res D:=match ds with
 | []=>.ok (.loc μ.length) (μ++[if t then .dt []else .d []])
 | [.int a,x]=>if t=false/\x.pure=true then .ok (.loc μ.length) (μ++[.d [(.int a,x)]])else .stuck
 | [.int a,x,.int b,y]=>if t=false/\x.pure=true/\y.pure=true then .ok (.loc μ.length) (μ++[.d (dput (.int b) y [(.int a,x)])])else .stuck
 |_=>.stuck
noncomputable abbrev Phi:=Nat->List D->Sto->Res D
noncomputable def D.belowN(b:Nat):Nat->D->Bool
 |0,d=>match d with | .tup _=>false | .lst _=>false | .loc n=>decide (n<b) | _=>true
 |k+1,d=>match d with | .tup ds=>ds.all (D.belowN b k) | .lst ds=>ds.all (D.belowN b k) | .loc n=>decide (n<b) | _=>true
noncomputable def gm(b:Nat):O->Bool
 |.r ds=>ds.all (D.belowN b 8)
 |.o _ fs=>fs.all λp=>D.belowN b 8 p.2
 |.dr kvs=>kvs.all λp=>D.belowN b 8 p.2
 |_=>true
noncomputable def noR:O->Bool
 |.r _=>false
 |.o _ _=>false
 |.dr _=>false
 |_=>true
noncomputable def sg(keep:Bool)(base:Nat)(r:Res D):Res D:=match r with
 |.ok d μ'=>if keep=true then .ok d μ' else if D.belowN base 8 d=true/\(μ'.take base).all (gm base)=true then .ok d (μ'.take base)else .stuck
 |x=>x
noncomputable def ae6:O->Bool
 |.l _=>true
 |.d _=>true
 |.dt _=>true
 |.fd _=>true
 |_=>false
noncomputable def Sy(base:Nat)(r:Res D):Res D:=match r with
 |.ok d μ'=>if(μ'.take base).all (gm base)=true then(if D.belowN base 8 d=true then .ok d (μ'.take base)else match d with
  |.loc n=>match μ'[n]? with
   |some o=>if ae6 o=true then .ok (.loc base) (μ'.take base++[o])else .stuck
   |none=>.stuck
  |_=>.stuck)else .stuck
 |x=>x
noncomputable def Wp(k1:Bool)(base:Nat)(r:Res D):Res D:=if k1=true then Sy base r else sg false base r
noncomputable def Wq(base:Nat)(r:Res D):Res D:=match r with
 |.ok .non μ'=>.ok (.loc base) μ'
 |_=>.stuck
noncomputable def adb:D->Option (Sum D Str)
 |.non=>some (.inl .non)
 |.tup [.bl true,d]=>some (.inl d)
 |.tup [.bl false,.str c]=>some (.inr c)
 |_=>none
noncomputable def Wr(base:Nat)(r:Res D):Res (Option Str):=match r with
 |.ok d μ'=>if(μ'.take base).all (gm base)=true then(match adb d with
  |some (.inl _)=>.ok none (μ'.take base)
  |some (.inr c)=>.ok (some c) (μ'.take base)
  |none=>.stuck)else .stuck
 |.exc c ds μ'=>.exc c ds μ'
 |.stuck=>.stuck
noncomputable def kTh(σ:Sl)(r:Option Str)(μ:Sto):Res Fl:=match r with
 |none=>.ok (.nx σ) μ
 |some c=>.ok (.rt (.tup [.bl false,.str c])) μ
noncomputable def kPl(fl:Fl)(μ:Sto):Res Fl:=match fl with
 |.nx σ=>.ok (.nx σ) μ
 |_=>.stuck
noncomputable def kGo(ei:Nat)(fl:Fl)(μ:Sto):Res Fl:=match fl with
 |.nx σ=>.ok (.nx (σ.set ei none)) μ
 |_=>.stuck
noncomputable def kTi(σ:Sl)(i j:Nat)(d:D)(μ:Sto):Res Fl:=match d with
 |.int n=>if i=j then .stuck else .ok (.nx ((σ.set j (some (.int n))).set i none)) μ
 |_=>.stuck
noncomputable def ae7(σ:Sl)(ei:Nat)(h:Sl->Sto->Res Fl)(r:Option Str)(μ:Sto):Res Fl:=match r with
 |none=>.ok (.nx σ) μ
 |some c=>if ac6.contains c=true then(h (σ.set ei (some (.loc μ.length))) (μ++[.x c])).bind (kGo ei)else .stuck
noncomputable def aa4(base:Nat)(r:Res D):Res (Sum D Str):=match r with
 |.ok d μ'=>if(μ'.take base).all (gm base)=true then(match adb d with
  |some (.inl d')=>if D.belowN base 8 d'=true then .ok (.inl d') (μ'.take base)else .stuck
  |some (.inr c)=>.ok (.inr c) (μ'.take base)
  |none=>.stuck)else .stuck
 |.exc c ds μ'=>.exc c ds μ'
 |.stuck=>.stuck
noncomputable def kMd(x:D)(q:Sum (List D) Str)(μ:Sto):Res (Sum (List D) Str):=match q with
 |.inl xs=>.ok (.inl (x::xs)) μ
 |.inr c=>.ok (.inr c) μ
noncomputable def kMc(rest:Sto->Res (Sum (List D) Str))(r:Sum D Str)(μ:Sto):Res (Sum (List D) Str):=match r with
 |.inl x=>(rest μ).bind (kMd x)
 |.inr c=>.ok (.inr c) μ
open Classical in
noncomputable def ade(g:Gd)(f:D->Sto->Res (Sum D Str)):List D->Sto->Res (Sum (List D) Str)
 | [],μ=>if gd g μ then .ok (.inl []) μ else .stuck
 |d::ds,μ=>if gd g μ then(f d μ).bind (kMc λμ=>ade g f ds μ)else .stuck
noncomputable def kMx(σ:Sl)(i:Nat)(ys:List D)(r:Sum (List D) Str)(μ:Sto):Res Fl:=match r with
 |.inl xs=>.ok (.nx (σ.set i (some (.tup (ys++xs))))) μ
 |.inr c=>.ok (.rt (.tup [.bl false,.str c])) μ
noncomputable def Zu(d:D)(μ:Sto):Res Bool:=match d with
 |.bl b=>.ok b μ
 |_=>.stuck
section
variable(φ:Phi)
mutual
noncomputable def evE:Ex->Sl->Sto->Res D
 |.var i,σ,μ=>match σ[i]? with
  |some (some d)=>.ok d μ
  |_=>.stuck
 |.frz i,σ,μ=>match σ[i]? with
  |some (some (.loc n))=>match μ[n]? with
   |some (.l ds)=>.ok (.lst ds) (μ.set n .dead)
   |some (.r ds)=>.ok (.lst ds) (μ.set n .dead)
   |_=>.stuck
  |_=>.stuck
 |.cst d,_,μ=>.ok d μ
 |.bin op m a b,σ,μ=>(evE a σ μ).bind λx μ=>(evE b σ μ).bind λy μ=>opD op m x y μ
 |.neg a,σ,μ=>(evE a σ μ).bind λx μ=>match x with
  |.int i=>.ok (.int (-i)) μ
  |_=>.stuck
 |.not a,σ,μ=>(evE a σ μ).bind λx μ=>match x with
  |.bl b=>.ok (.bl (!b)) μ
  |_=>.stuck
 |.and a b,σ,μ=>(evE a σ μ).bind λx μ=>match x with
  |.bl c=>if c=true then evE b σ μ else .ok (.bl false) μ
  |_=>.stuck
 |.or a b,σ,μ=>(evE a σ μ).bind λx μ=>match x with
  |.bl c=>if c=true then .ok (.bl true) μ else evE b σ μ
  |_=>.stuck
 |.ite c a b,σ,μ=>(evE c σ μ).bind λx μ=>match x with
  |.bl c=>if c=true then evE a σ μ else evE b σ μ
  |_=>.stuck
 |.cmp a r,σ,μ=>(evE a σ μ).bind λx μ=>evC r x σ μ
 |.call keep f es,σ,μ=>(gn es σ μ).bind λds μ=>sg keep μ.length (φ f ds μ)
 |.blt b m es,σ,μ=>(gn es σ μ).bind λds μ=>btD b m ds μ
 |.isi a c,σ,μ=>(evE a σ μ).bind λx μ=>U7 c x μ
 |.meth mt o es,σ,μ=>(evE o σ μ).bind λx μ=>if oh mt x μ=true then(gn es σ μ).bind λds μ=>mtD mt x ds μ else .stuck
 |.ix a b,σ,μ=>(evE a σ μ).bind λx μ=>(evE b σ μ).bind λy μ=>ixD x y μ
 |.dix a b,σ,μ=>(evE a σ μ).bind λx μ=>(evE b σ μ).bind λy μ=>Zt x y μ
 |.sl m a lo hi,σ,μ=>(evE a σ μ).bind λx μ=>(evO lo σ μ).bind λl μ=>(evO hi σ μ).bind λh μ=>slD m x l h μ
 |.tup es,σ,μ=>(gn es σ μ).bind λds μ=>.ok (.tup ds) μ
 |.lst m es,σ,μ=>(gn es σ μ).bind λds μ=>mkL m ds μ
 |.dic t es,σ,μ=>(gn es σ μ).bind λds μ=>U8 t ds μ
 |.ixT d es,σ,μ=>(evE d σ μ).bind λx μ=>(gn es σ μ).bind λks μ=>Ny x ks μ
 |.ixV d k,σ,μ=>(evE d σ μ).bind λx μ=>(evE k σ μ).bind λy μ=>Sw x y μ
 |.getT d es e,σ,μ=>(evE d σ μ).bind λx μ=>if Nz x μ=true then(gn es σ μ).bind λks μ=>(evE e σ μ).bind λv μ=>A6 x ks v μ else .stuck
 |.inT neg es d,σ,μ=>(gn es σ μ).bind λds μ=>(evE d σ μ).bind λx μ=>ae5 neg ds x μ
 |.att e f,σ,μ=>(evE e σ μ).bind λx μ=>ac8 f x μ
 |.mcall k1 c m f o es,σ,μ=>(evE o σ μ).bind λx μ=>if isObj c m x μ=true then(gn es σ μ).bind λds μ=>Wp k1 μ.length (φ f (x::ds) μ)else .stuck
 |.make c f es,σ,μ=>(gn es σ μ).bind λds μ=>Wq μ.length (φ f (.loc μ.length::ds) (μ++[.o c []]))
 |.callK f es,σ,μ=>(gn es σ μ).bind λds μ=>Sy μ.length (φ f ds μ)
 |.tru e,σ,μ=>(evE e σ μ).bind λx μ=>truD x μ
 |.drp e,σ,μ=>sg false μ.length (evE e σ μ)
 |.dicr,_,μ=>.ok (.loc μ.length) (μ++[.dr []])
 |.gix a b,σ,μ=>(evE a σ μ).bind λx μ=>(evE b σ μ).bind λy μ=>aa3 x y μ
 |.comp m cap nl tg it cs elt,σ,μ=>(evI it σ μ).bind λds μ =>
   (mapR ds.2 (λd μ=>ot (iz tg d (cap.map (λi=>(σ[i]?).getD none)++List.replicate nl none)) λσ' =>
    (Gw cs σ' μ).bind λb μ=>if b=true then(evE elt σ' μ).bind λx μ=>.ok [x] μ else .ok [] μ) ds.1 μ).bind λxs μ=>mkL m xs μ
noncomputable def gn:Exs->Sl->Sto->Res (List D)
 |.nil,_,μ=>.ok [] μ
 |.cons e es,σ,μ=>(evE e σ μ).bind λd μ=>(gn es σ μ).bind λds μ=>.ok (d::ds) μ
noncomputable def evC:Cps->D->Sl->Sto->Res D
 |.nil,_,_,_=>.stuck
 |.cons op e r,x,σ,μ=>(evE e σ μ).bind λy μ=>(cpD op x y μ).bind λz μ=>match r with
  |.nil=>.ok z μ
  |r=>match z with
   |.bl b=>if b=true then evC r y σ μ else .ok (.bl false) μ
   |_=>.stuck
noncomputable def evO:ExO->Sl->Sto->Res (Option Int)
 |.no,_,μ=>.ok none μ
 |.so e,σ,μ=>(evE e σ μ).bind λx μ=>match x with
  |.int i=>.ok (some i) μ
  |_=>.stuck
noncomputable def Gw:Exs->Sl->Sto->Res Bool
 |.nil,_,μ=>.ok true μ
 |.cons e es,σ,μ=>(evE e σ μ).bind λx μ=>match x with
  |.bl b=>if b=true then Gw es σ μ else .ok false μ
  |_=>.stuck
noncomputable def evI:It->Sl->Sto->Res (List D×Gd)
 |.seq e,σ,μ=>(evE e σ μ).bind λx μ=>match da μ x with
  |some w=>.ok w μ
  |none=>.stuck
 |.rng a,σ,μ=>(evE a σ μ).bind λx μ=>match x with
  |.int j=>if -(lim:Int)<=j/\j<=lim then .ok ((List.range j.toNat).map fun(i:Nat)=>D.int i,none) μ else .stuck
  |_=>.stuck
 |.rng2 a b,σ,μ=>(evE a σ μ).bind λx μ=>(evE b σ μ).bind λy μ=>match x,y with
  |.int i,.int j=>if -(lim:Int)<=i/\i<=lim/\j<=lim /\ -(lim:Int)<=j/\(j-i)<=lim then .ok ((List.range (j-i).toNat).map fun(k:Nat)=>D.int (i+k),none) μ else .stuck
  |_,_=>.stuck
 |.rng3 a b c,σ,μ=>(evE a σ μ).bind λx μ=>(evE b σ μ).bind λy μ=>(evE c σ μ).bind λz μ=>match x,y,z with
  |.int i,.int j,.int k=>if 0<=i/\i<=lim/\j<=lim/\0<=j/\1<=k/\k<=1000 then .ok ((List.range (if i<j then((j-i-1) / k+1).toNat else 0)).map fun(n:Nat)=>D.int (i+n*k),none) μ else .stuck
  |_,_,_=>.stuck
 |.rngD a b c,σ,μ=>(evE a σ μ).bind λx μ=>(evE b σ μ).bind λy μ=>(evE c σ μ).bind λz μ=>match x,y,z with
  |.int i,.int j,.int k=>if -1<=i/\i<lim/\j = -1/\k = -1 then .ok ((List.range (i+1).toNat).map fun(n:Nat)=>D.int (i-n),none) μ else .stuck
  |_,_,_=>.stuck
 |.zip a b,σ,μ=>(evE a σ μ).bind λx μ=>(evE b σ μ).bind λy μ=>match da μ x,g7 [] y with
  |some w,some ys=>.ok ((w.1.zip ys).map λp=>.tup [p.1,p.2],w.2) μ
  |_,_=>.stuck
 |.enum a,σ,μ=>(evE a σ μ).bind λx μ=>match da μ x with
  |some w=>.ok ((List.range w.1.length |>.zip w.1).map fun(p:Nat×D)=>.tup [.int p.1,p.2],w.2) μ
  |none=>.stuck
 |.rev _,_,_=>.stuck
 |.vals a,σ,μ=>(evE a σ μ).bind λx μ=>match x with
  |.loc n=>match μ[n]? with
   |some (.d kvs)=>.ok (kvs.map (·.2),none) (μ.set n .dead)
   |_=>.stuck
  |_=>.stuck
 |.keys a,σ,μ=>(evE a σ μ).bind λx μ=>match x with
  |.loc n=>match μ[n]? with
   |some (.d kvs)=>.ok (kvs.map (·.1),none) (μ.set n (.fd kvs))
   |_=>.stuck
  |_=>.stuck
end
noncomputable def whN(c:Sl->Sto->Res Bool)(b:Sl->Sto->Res Fl):Nat->Sl->Sto->Res Fl
 |0,_,_=>.stuck
 |n+1,σ,μ=>(c σ μ).bind λk μ1=>if k=true then(b σ μ1).bind λfl μ2=>match fl with
  |.nx σ1=>whN c b n σ1 μ2
  |.ct σ1=>whN c b n σ1 μ2
  |.bk σ1=>.ok (.nx σ1) μ2
  |.rt v=>.ok (.rt v) μ2 else .ok (.nx σ) μ1
open Classical in
noncomputable def whR(c:Sl->Sto->Res Bool)(b:Sl->Sto->Res Fl)(σ:Sl)(μ:Sto):Res Fl :=
 if h:∃n,whN c b n σ μ≠.stuck then whN c b h.choose σ μ else .stuck
mutual
noncomputable def evS:Sm->Sl->Sto->Res Fl
 |.set i e,σ,μ=>(evE φ e σ μ).bind λd μ=>.ok (.nx (σ.set i (some d))) μ
 |.unp is e,σ,μ=>(evE φ e σ μ).bind λd μ=>match iz (.many is) d σ with
  |some σ'=>.ok (.nx σ') μ
  |none=>.stuck
 |.setx o i v,σ,μ=>(evE φ v σ μ).bind λd μ=>(evE φ o σ μ).bind λx μ=>(evE φ i σ μ).bind λy μ=>(Cg x y d μ).bind λ_ μ=>.ok (.nx σ) μ
 |.augx op o i v,σ,μ=>(evE φ o σ μ).bind λx μ=>(evE φ i σ μ).bind λy μ=>(ixL x y μ).bind λold μ=>(evE φ v σ μ).bind λd μ=>(ada op old d μ).bind λz μ=>(Cg x y z μ).bind λ_ μ=>.ok (.nx σ) μ
 |.setxT o i v,σ,μ=>(evE φ v σ μ).bind λd μ=>(evE φ o σ μ).bind λx μ=>(gn φ i σ μ).bind λy μ=>(ou x y d μ).bind λ_ μ=>.ok (.nx σ) μ
 |.ex e,σ,μ=>(evE φ e σ μ).bind λ_ μ=>.ok (.nx σ) μ
 |.ite c a b,σ,μ=>(evE φ c σ μ).bind λx μ=>match x with
  |.bl k=>if k=true then rg a σ μ else rg b σ μ
  |_=>.stuck
 |.loop tg it b,σ,μ=>(evI φ it σ μ).bind λds μ=>k7 ds.2 (λd σ μ=>ot (iz tg d σ) λσ'=>rg b σ' μ) ds.1 σ μ
 |.ret e,σ,μ=>(evE φ e σ μ).bind λd μ=>.ok (.rt d) μ
 |.raise c es,σ,μ=>(gn φ es σ μ).bind λ_ μ=>.ok (.rt (.tup [.bl false,.str c])) μ
 |.pl s,σ,μ=>(evS s σ μ).bind kPl
 |.callx f es,σ,μ=>(gn φ es σ μ).bind λds μ=>(Wr μ.length (φ f ds μ)).bind (kTh σ)
 |.mapx i cap nl tg it f es,σ,μ=>(evI φ it σ μ).bind λds μ =>
   (ade ds.2 (λd μ=>ot (iz tg d (cap.map (λi=>(σ[i]?).getD none)++List.replicate nl none)) λσ'=>(gn φ es σ' μ).bind λas μ=>aa4 μ.length (φ f as μ)) ds.1 μ).bind (kMx σ i [])
 |.tryi i j e,σ,μ=>(evE φ e σ μ).bind (kTi σ i j)
 |.tryc f es ei h,σ,μ=>(gn φ es σ μ).bind λds μ=>(Wr μ.length (φ f ds μ)).bind (ae7 σ ei λσ μ=>rg h σ μ)
 |.seta o f e,σ,μ=>(evE φ e σ μ).bind λd μ=>(evE φ o σ μ).bind λx μ=>(Sx f x d μ).bind λ_ μ=>.ok (.nx σ) μ
 |.whl c b,σ,μ=>whR (λσ μ=>(evE φ c σ μ).bind λd μ=>Zu d μ) (λσ μ=>rg b σ μ) σ μ
 |.pass,σ,μ=>.ok (.nx σ) μ
 |.brk,σ,μ=>.ok (.bk σ) μ
 |.cont,σ,μ=>.ok (.ct σ) μ
 |.never,_,_=>.stuck
noncomputable def rg:Sms->Sl->Sto->Res Fl
 |.nil,σ,μ=>.ok (.nx σ) μ
 |.cons s r,σ,μ=>(evS s σ μ).bind λfl μ=>match fl with
  |.nx σ'=>rg r σ' μ
  |fl=>.ok fl μ
end
end
structure Df where
 np:Nat
 nn:Nat
 body:Sms
noncomputable def U9(φ:Phi)(f:Df)(ds:List D)(μ:Sto):Res D :=
 if ds.length=f.np then(rg φ f.body (ds.map some++List.replicate (f.nn-f.np) none) μ).bind λfl μ=>match fl with
  |.nx _=>.ok .non μ
  |.rt d=>.ok d μ
  |_=>.stuck
 else .stuck
noncomputable def ai(T:List Df):Nat->Phi
 |0=>λ_ _ _=>.stuck
 |n+1=>λf ds μ=>match T[f]? with
  |some d=>U9 (ai T n) d ds μ
  |none=>.stuck
open PySem PySem.Spec PyProof.Rows L2
noncomputable abbrev St:=L2.St
theorem _root_.L2.FzL.sq{K:PySem.W.Frag}{H:Hp}{a:Addr}{xs:List V}(h:FzL K H a xs):SqL K H a xs:=by
 rcases h with⟨o,h⟩ | ⟨its,n,h,hz,hv⟩
 ·exact .inl (.inr ⟨o,h⟩)
 ·exact .inr ⟨_,its.toArray,n,h,rfl,rfl,rfl,by rw[AJ,<-hv.length];exact hz,by simpa using hv⟩
noncomputable def LsL(K:PySem.W.Frag)(H:Hp)(a:Addr)(xs:List V):Prop:=H a=some (.lst xs)\/FzL K H a xs
theorem LsL.sq{K:PySem.W.Frag}{H:Hp}{a:Addr}{xs:List V}(h:LsL K H a xs):SqL K H a xs:=by
 rcases h with h | h
 ·exact .of h
 ·exact h.sq
theorem _root_.L2.Inv.ls{X:Cx}{pins:List (Addr×Obj)}{σ:St}{H:Hp}{s:Shared}{a:Addr}{xs:List V}(I:Inv X pins σ H s)(h:LsL X.K H a xs) :
  xs.length<=sizeLine/\∃(its:List Value) (n:Nat),c9 xs its/\xs.length=its.length/\s.heap.get? a=some {cls:=.type "list",data:=.seq its.toArray n}:=by
 rcases h with h | ⟨o,h⟩ | ⟨its,n,h,hz,hv⟩
 ·obtain⟨z,its,n,hv,e⟩:=I.hok a _ h
  exact⟨z,its,n,hv,hv.length,e⟩
 ·obtain⟨_,z,its,n,hv,e⟩:=I.hok a _ h
  exact⟨z,its,n,hv,hv.length,e⟩
 ·exact⟨hz,its,n,hv,hv.length,I.kIn a _ h⟩
structure Ext (H H':Hp):Prop where
 tups:∀b xs,H b=some (.tup xs)->H' b=some (.tup xs)
 frzs:∀b o u,H b=some (.frz o u)->H' b=some (.frz o u)
theorem Ext.refl(H:Hp):Ext H H:=⟨λ_ _ h=>h,λ_ _ _ h=>h⟩
theorem Ext.trans{H H1 H2:Hp}(a:Ext H H1)(b:Ext H1 H2):Ext H H2:=⟨λc xs h=>b.tups c xs (a.tups c xs h),λc o u h=>b.frzs c o u (a.frzs c o u h)⟩
theorem Ext.new{H:Hp}{p:Addr}{o:HO}(h:H p=none):Ext H (upd H p o) :=
 ⟨λb xs e=>by rw[a9 (cx e h)];exact e,λb o u e=>by rw[a9 (cx e h)];exact e⟩
theorem Ext.lst{H:Hp}{p:Addr}{xs:List V}{o:HO}(h:H p=some (.lst xs)):Ext H (upd H p o) :=
 ⟨λb ys e=>by rw[a9 (ug e h (by intro z;cases z))];exact e,λb o u e=>by rw[a9 (ug e h (by intro z;cases z))];exact e⟩
theorem Ext.dK{H:Hp}{p:Addr}{xs:List (Key×V)}{o:HO}(h:H p=some (.dK xs)):Ext H (upd H p o) :=
 ⟨λb ys e=>by rw[a9 (ug e h (by intro z;cases z))];exact e,λb o u e=>by rw[a9 (ug e h (by intro z;cases z))];exact e⟩
theorem Ext.dT{H:Hp}{p:Addr}{xs:List (List Key×V)}{o:HO}(h:H p=some (.dT xs)):Ext H (upd H p o) :=
 ⟨λb ys e=>by rw[a9 (ug e h (by intro z;cases z))];exact e,λb o u e=>by rw[a9 (ug e h (by intro z;cases z))];exact e⟩
theorem _root_.L2.SqT.ext{K:PySem.W.Frag}{H H':Hp}{a:Addr}{xs:List V}(h:SqT K H a xs)(e:Ext H H'):SqT K H' a xs:=by
 rcases h with(h | ⟨o,h⟩) | h
 ·exact .inl (.inl (e.tups _ _ h))
 ·exact .inl (.inr ⟨o,e.frzs _ _ _ h⟩)
 ·exact .inr h
theorem _root_.L2.FzL.ext{K:PySem.W.Frag}{H H':Hp}{a:Addr}{xs:List V}(h:FzL K H a xs)(e:Ext H H'):FzL K H' a xs:=by
 rcases h with⟨o,h⟩ | h
 ·exact .inl ⟨o,e.frzs _ _ _ h⟩
 ·exact .inr h
section
variable(K:PySem.W.Frag)(ι:List Addr)(H:Hp)
mutual
noncomputable def IsD:D->V->Prop
 |.non,v=>v=.non
 |.bl b,v=>v=.bl b
 |.int i,v=>v=.int i
 |.str x,v=>v=.str x
 |.tup ds,v=>∃a xs,v=.ref a/\SqT K H a xs/\ak ds xs
 |.lst ds,v=>∃a xs,v=.ref a/\FzL K H a xs/\ak ds xs
 |.loc n,v=>∃a,v=.ref a/\ι[n]? = some a
noncomputable def ak:List D->List V->Prop
 | [],xs=>xs=[]
 |d::ds,xs=>∃v r,xs=v::r/\IsD d v/\ak ds r
end
end
section
variable{K:PySem.W.Frag}{ι ι' : List Addr}{H H' : Hp}
mutual
theorem IsD.mono(hp:ι <+: ι')(he:Ext H H'):∀(d:D) (v:V),IsD K ι H d v->IsD K ι' H' d v
 |.non,_,h=>by simpa[IsD]using h
 |.bl b,_,h=>by simpa[IsD]using h
 |.int i,_,h=>by simpa[IsD]using h
 |.str x,_,h=>by simpa[IsD]using h
 |.tup ds,v,h=>by
  simp![IsD]at h ⊢
  obtain⟨a,xs,e,q,r⟩:=h
  exact⟨a,xs,e,q.ext he,ak.mono hp he ds xs r⟩
 |.lst ds,v,h=>by
  simp![IsD]at h ⊢
  obtain⟨a,xs,e,q,r⟩:=h
  exact⟨a,xs,e,q.ext he,ak.mono hp he ds xs r⟩
 |.loc n,v,h=>by
  simp![IsD]at h ⊢
  obtain⟨a,e,q⟩:=h
  obtain⟨t,rfl⟩:=hp
  exact⟨a,e,by rw[AN (AB.mp q).1];exact q⟩
theorem ak.mono(hp:ι <+: ι')(he:Ext H H'):∀(ds:List D) (xs:List V),ak K ι H ds xs->ak K ι' H' ds xs
 | [],xs,h=>by simpa[ak]using h
 |d::ds,xs,h=>by
  simp![ak]at h ⊢
  obtain⟨v,r,e,q,t⟩:=h
  exact⟨v,r,e,IsD.mono hp he d v q,ak.mono hp he ds r t⟩
end
theorem ak.length:∀{ds:List D} {xs:List V},ak K ι H ds xs->xs.length=ds.length
 | [],xs,h=>by simp![ak]at h;subst h;rfl
 |d::ds,xs,h=>by
  simp![ak]at h
  obtain⟨v,r,rfl,_,t⟩:=h
  simp[ak.length t]
theorem ak.get:∀{ds:List D} {xs:List V} {i:Nat} {d:D},ak K ι H ds xs->ds[i]? = some d->∃v,xs[i]? = some v/\IsD K ι H d v
 | [],_,_,_,_,e=>by simp at e
 |d::ds,xs,0,_,h,e=>by
  simp![ak]at h
  obtain⟨v,r,rfl,q,_⟩:=h
  simp at e;subst e
  exact⟨v,rfl,q⟩
 |d::ds,xs,i+1,x,h,e=>by
  simp![ak]at h
  obtain⟨v,r,rfl,_,t⟩:=h
  obtain⟨w,h1,h2⟩:=ak.get (i:=i) (d:=x) t (by simpa using e)
  exact⟨w,by simpa using h1,h2⟩
theorem ak.append:∀{ds es:List D} {xs ys:List V},ak K ι H ds xs->ak K ι H es ys->ak K ι H (ds++es) (xs++ys)
 | [],_,_,_,h,g=>by simp![ak]at h;subst h;exact g
 |d::ds,es,xs,ys,h,g=>by
  simp![ak]at h
  obtain⟨v,r,rfl,q,t⟩:=h
  simp![EH,ak]
  exact⟨v,r++ys,rfl,q,ak.append t g⟩
theorem ak.one{d:D}{v:V}(h:IsD K ι H d v):ak K ι H [d] [v]:=by
 simp![ak];exact⟨v,[],rfl,h,rfl⟩
theorem ak.take:∀{ds:List D} {xs:List V} (n:Nat),ak K ι H ds xs->ak K ι H (ds.take n) (xs.take n)
 |_,_,0,_=>by simp[ak]
 | [],_,n+1,h=>by simp![ak]at h;subst h;simp[ak]
 |d::ds,xs,n+1,h=>by
  simp![ak]at h
  obtain⟨v,r,rfl,q,t⟩:=h
  simp![List.take_succ_cons,ak]
  exact⟨v,_,rfl,q,ak.take n t⟩
theorem ak.drop:∀{ds:List D} {xs:List V} (n:Nat),ak K ι H ds xs->ak K ι H (ds.drop n) (xs.drop n)
 |_,_,0,h=>by simpa using h
 | [],_,n+1,h=>by simp![ak]at h;subst h;simp[ak]
 |d::ds,xs,n+1,h=>by
  simp![ak]at h
  obtain⟨v,r,rfl,q,t⟩:=h
  simpa using ak.drop n t
theorem ak.set{d:D}{v:V}(hd:IsD K ι H d v):∀{ds:List D} {xs:List V} (n:Nat),ak K ι H ds xs->ak K ι H (ds.set n d) (xs.set n v)
 | [],_,n,h=>by simp![ak]at h;subst h;simp[ak]
 |e::ds,xs,0,h=>by
  simp![ak]at h
  obtain⟨w,r,rfl,q,t⟩:=h
  simp![DI,ak]
  exact⟨v,r,rfl,hd,t⟩
 |e::ds,xs,n+1,h=>by
  simp![ak]at h
  obtain⟨w,r,rfl,q,t⟩:=h
  simp![EK,ak]
  exact⟨w,_,rfl,q,ak.set hd n t⟩
theorem ak.rep{ds:List D}{xs:List V}(h:ak K ι H ds xs):∀k:Nat,ak K ι H (List.replicate k ds).flatten (List.replicate k xs).flatten
 |0=>by simp[ak]
 |k+1=>by
  simp![CQ,DD]
  exact h.append (ak.rep h k)
theorem ak.ints:∀(ns:List Int),ak K ι H (ns.map D.int) (ns.map V.int)
 | []=>by simp[ak]
 |n::r=>by
  simp![AF,ak]
  exact⟨_,_,rfl,by simp[IsD],ak.ints r⟩
theorem IsD.puren:∀(k:Nat) (d:D) (v:V),D.pureN k d=true->IsD K ι H d v->IsD K ι' H d v:=by
 have list:∀(k:Nat),(∀(d:D) (v:V),D.pureN k d=true->IsD K ι H d v->IsD K ι' H d v) ->
   ∀(ds:List D) (xs:List V),ds.all (D.pureN k)=true->ak K ι H ds xs->ak K ι' H ds xs:=by
  intro k ih ds
  induction ds with
  |nil=>intro xs _ h;simpa[ak]using h
  |cons d ds ihd =>
   intro xs hp h
   simp![ak]at h ⊢
   simp![BF,AW]at hp
   obtain⟨v,r,e,q,t⟩:=h
   exact⟨v,r,e,ih d v hp.1 q,ihd r hp.2 t⟩
 intro k
 induction k with
 |zero =>
  intro d v hp h
  cases d<;>simp_all[D.pureN,IsD]
 |succ k ih =>
  intro d v hp h
  cases d with
  |tup ds =>
   simp![D.pureN]at hp
   simp![IsD]at h ⊢
   obtain⟨a,xs,e,q,r⟩:=h
   exact⟨a,xs,e,q,list k ih ds xs hp r⟩
  |lst ds =>
   simp![D.pureN]at hp
   simp![IsD]at h ⊢
   obtain⟨a,xs,e,q,r⟩:=h
   exact⟨a,xs,e,q,list k ih ds xs hp r⟩
  |loc n=>simp[D.pureN]at hp
  |_=>simpa[IsD]using h
theorem IsD.pur{d:D}{v:V}(hp:d.pure=true)(h:IsD K ι H d v):IsD K ι' H d v:=IsD.puren 8 d v hp h
theorem ak.pur{ds:List D}{xs:List V}(hp:ds.all (D.pureN 8)=true)(h:ak K ι H ds xs):ak K ι' H ds xs:=by
 induction ds generalizing xs with
 |nil=>simpa[ak]using h
 |cons d ds ih =>
  simp![ak]at h ⊢
  simp![BF,AW]at hp
  obtain⟨v,r,e,q,t⟩:=h
  exact⟨v,r,e,IsD.pur hp.1 q,ih hp.2 t⟩
end
section
variable(K:PySem.W.Frag)(ι:List Addr)(H:Hp)
noncomputable def Py(kvs:List (D×D))(xs:List (List Key×V)):Prop :=
 Paired (fun(p:D×D) (q:List Key×V)=>(∃ds,p.1=.tup ds/\ak K [] H ds (q.1.map kV))/\IsD K [] H p.2 q.2) kvs xs
noncomputable def Cv(kvs:List (D×D))(xs:List (Key×V)):Prop :=
 Paired (fun(p:D×D) (q:Key×V)=>IsD K [] H p.1 (kV q.1)/\IsD K ι H p.2 q.2) kvs xs
noncomputable abbrev adf(kvs:List (D×D))(xs:List (Key×V)):Prop:=Cv K [] H kvs xs
noncomputable def FsD(fs:List (Str×D))(xs:List (Str×V)):Prop:=Paired (fun(p:Str×D) (q:Str×V)=>p.1=q.1/\IsD K ι H p.2 q.2) fs xs
noncomputable def OIs(a:Addr):O->Prop
 |.l ds=>∃xs,H a=some (.lst xs)/\ak K [] H ds xs
 |.r ds=>∃xs,H a=some (.lst xs)/\ak K ι H ds xs
 |.d kvs=>∃xs,H a=some (.dK xs)/\adf K H kvs xs
 |.dt kvs=>∃xs,H a=some (.dT xs)/\Py K H kvs xs
 |.x c=>∃cls,PySem.W.nsIn K mainGlobals c=some (some cls)/\H a=some (aey a cls)
 |.o c fs=>∃C dx xs,PySem.W.nsIn K mainGlobals c=some (some (.ref C))/\H a=some (.ins C dx xs)/\FsD K ι H fs xs
 |.dr kvs=>∃xs,H a=some (.dK xs)/\Cv K ι H kvs xs
 |.fd kvs=>∃o xs,H a=some (.frz o (.dK xs))/\adf K H kvs xs
 |.dead=>∃u,H a=some u
structure Sim (μ:Sto):Prop where
 len:ι.length=μ.length
 nd:ι.Nodup
 obj:∀(n:Nat) a o,ι[n]? = some a->μ[n]? = some o->OIs K ι H a o
noncomputable def se(σ:Sl)(σv:St):Prop:=∀(i:Nat) d,σ[i]? = some (some d)->∃v,σv[i]? = some (some v)/\IsD K ι H d v
end
section
variable{K:PySem.W.Frag}{ι ι' : List Addr}{H H' : Hp}{μ:Sto}{σ:Sl}{σv:St}
theorem se.mono(h:se K ι H σ σv)(hp:ι <+: ι')(he:Ext H H'):se K ι' H' σ σv:=λi d e=>by
 obtain⟨v,q,r⟩:=h i d e
 exact⟨v,q,IsD.mono hp he d v r⟩
theorem se.set(h:se K ι H σ σv)(hl:σ.length=σv.length){i:Nat}{d:D}{v:V}(hd:IsD K ι H d v):se K ι H (σ.set i (some d)) (σv.set i (some v)):=λj e q=>by
 by_cases hj:i=j
 ·subst hj
  by_cases hi:i<σ.length
  ·rw[DP hi]at q
   cases q
   exact⟨v,by rw[DP (by lia)],hd⟩
  ·rw[EN (by simp;lia)]at q;cases q
 ·rw[CV hj]at q
  obtain⟨w,q1,q2⟩:=h j e q
  exact⟨w,by rw[CV hj];exact q1,q2⟩
theorem OIs.ne(h:OIs K ι H a o):∃u,H a=some u:=by
 cases o with
 |l ds=>obtain⟨xs,e,_⟩:=h;exact⟨_,e⟩
 |r ds=>obtain⟨xs,e,_⟩:=h;exact⟨_,e⟩
 |d kvs=>obtain⟨xs,e,_⟩:=h;exact⟨_,e⟩
 |dt kvs=>obtain⟨xs,e,_⟩:=h;exact⟨_,e⟩
 |x c=>obtain⟨_,_,e⟩:=h;exact⟨_,e⟩
 |o c fs=>obtain⟨_,_,_,_,e,_⟩:=h;exact⟨_,e⟩
 |dr kvs=>obtain⟨xs,e,_⟩:=h;exact⟨_,e⟩
 |fd kvs=>obtain⟨_,xs,e,_⟩:=h;exact⟨_,e⟩
 |dead=>exact h
theorem OIs.mono{a:Addr}{o:O}(h:OIs K ι H a o)(hp:ι <+: ι')(he:Ext H H')(ha:H' a=H a):OIs K ι' H' a o:=by
 cases o with
 |l ds=>obtain⟨xs,e,q⟩:=h;exact⟨xs,ha.trans e,ak.mono (AE _) he ds xs q⟩
 |r ds=>obtain⟨xs,e,q⟩:=h;exact⟨xs,ha.trans e,ak.mono hp he ds xs q⟩
 |d kvs =>
  obtain⟨xs,e,q⟩:=h
  exact⟨xs,ha.trans e,Paired.mapP q λp r z=>⟨IsD.mono (AE _) he _ _ z.1,IsD.mono (AE _) he _ _ z.2⟩⟩
 |dt kvs =>
  obtain⟨xs,e,q⟩:=h
  exact⟨xs,ha.trans e,Paired.mapP q λp r z=>⟨let ⟨ds,e,t⟩:=z.1;⟨ds,e,ak.mono (AE _) he _ _ t⟩,IsD.mono (AE _) he _ _ z.2⟩⟩
 |x c=>obtain⟨k,q,e⟩:=h;exact⟨k,q,ha.trans e⟩
 |o c fs=>obtain⟨C,dx,xs,n,e,q⟩:=h;exact⟨C,dx,xs,n,ha.trans e,Paired.mapP q λp r z=>⟨z.1,IsD.mono hp he _ _ z.2⟩⟩
 |dr kvs =>
  obtain⟨xs,e,q⟩:=h
  exact⟨xs,ha.trans e,Paired.mapP q λp r z=>⟨IsD.mono (AE _) he _ _ z.1,IsD.mono hp he _ _ z.2⟩⟩
 |fd kvs =>
  obtain⟨o,xs,e,q⟩:=h
  exact⟨o,xs,ha.trans e,Paired.mapP q λp r z=>⟨IsD.mono (AE _) he _ _ z.1,IsD.mono (AE _) he _ _ z.2⟩⟩
 |dead=>obtain⟨u,e⟩:=h;exact⟨u,ha.trans e⟩
theorem Sim.at(h:Sim K ι H μ){n:Nat}{o:O}(e:μ[n]? = some o):∃a,ι[n]? = some a/\OIs K ι H a o:=by
 have hn:n<ι.length:=by rw[h.len];exact(AB.mp e).1
 exact⟨ι[n],AA hn,h.obj n _ o (AA hn) e⟩
theorem Sim.used(h:Sim K ι H μ){n:Nat}{a:Addr}(e:ι[n]? = some a):∃u,H a=some u:=by
 have hn:n<μ.length:=by rw[<-h.len];exact(AB.mp e).1
 exact(h.obj n a _ e (AA hn)).ne
theorem Sim.new(h:Sim K ι H μ){p:Addr}{o:HO}(hp:H p=none):Sim K ι (upd H p o) μ :=
 ⟨h.len,h.nd,λn a ob e1 e2=>by
  obtain⟨u,hu⟩:=h.used e1
  exact(h.obj n a ob e1 e2).mono (AE _) (.new hp) (a9 (cx hu hp))⟩
theorem Sim.push(h:Sim K ι H μ){p:Addr}{u:HO}{o:O}(hp:H p=none)(ho:OIs K (ι++[p]) (upd H p u) p o):Sim K (ι++[p]) (upd H p u) (μ++[o]):=by
 have hne:∀a∈ι,a≠p:=λa ha z=>by
  obtain⟨n,hn,e⟩:=DA.mp ha
  obtain⟨u,hu⟩:=h.used (n:=n) (by rw[AA hn,e])
  rw[z,hp]at hu;cases hu
 refine⟨by simp[h.len],?_,λn a ob e1 e2=>?_⟩
 ·refine List.nodup_append.mpr ⟨h.nd,by simp,?_⟩
  intro a ha b hb
  have:b=p:=by simpa using hb
  subst this
  exact hne a ha
 ·by_cases hn:n<ι.length
  ·rw[AN hn]at e1
   rw[AN (by rw[<-h.len];exact hn)]at e2
   exact(h.obj n a ob e1 e2).mono ⟨[p],rfl⟩ (.new hp) (a9 (hne a (BK e1)))
  ·have hm:n=ι.length:=by
    have:=(AB.mp e1).1
    simp at this;lia
   subst hm
   simp at e1
   rw[h.len]at e2
   simp at e2
   subst e1;subst e2
   exact ho
theorem Sim.put(h:Sim K ι H μ){n:Nat}{p:Addr}{u:HO}{o:O}(hn:ι[n]? = some p)(he:Ext H (upd H p u))(ho:OIs K ι (upd H p u) p o):Sim K ι (upd H p u) (μ.set n o):=by
 refine⟨by simp[h.len],h.nd,λk a ob e1 e2=>?_⟩
 by_cases hk:n=k
 ·subst hk
  rw[hn]at e1;cases e1
  have:n<μ.length:=by rw[<-h.len];exact(AB.mp hn).1
  rw[DP this]at e2;cases e2
  exact ho
 ·rw[CV hk]at e2
  refine(h.obj k a ob e1 e2).mono (AE _) he (a9 λz=>hk ?_)
  subst z
  obtain⟨h1,e1'⟩:=AB.mp e1
  obtain⟨h2,e2'⟩:=AB.mp hn
  exact(List.getElem_inj h.nd).mp (e2'.trans e1'.symm)
end
noncomputable def ij{α β:Type}(K:PySem.W.Frag)(R:List Addr->Hp->α->β->Prop)(ι:List Addr)(H:Hp)(r:Res α)(Q:β->Hp->Prop):Prop:=match r with
 |.ok d μ'=>∀ι' v H',ι <+: ι'->Ext H H'->Sim K ι' H' μ'->R ι' H' d v->Q v H'
 |.exc _ _ _=>False
 |.stuck=>False
noncomputable abbrev RD(K:PySem.W.Frag):List Addr->Hp->D->V->Prop:=λι H d v=>IsD K ι H d v
noncomputable abbrev RDs(K:PySem.W.Frag):List Addr->Hp->List D->List V->Prop:=λι H d v=>ak K ι H d v
noncomputable abbrev RB:List Addr->Hp->Bool->Bool->Prop:=λ_ _ d v=>d=v
noncomputable abbrev RO:List Addr->Hp->Option Int->Option Int->Prop:=λ_ _ d v=>d=v
section
variable{α β γ δ:Type}{K:PySem.W.Frag}{R:List Addr -> Hp -> α -> β -> Prop}{S:List Addr -> Hp -> γ -> δ -> Prop}{ι ι' : List Addr}{H H' : Hp}
theorem ij.mono{r:Res α}{Q:β->Hp->Prop}(h:ij K R ι H r Q)(hp:ι <+: ι')(he:Ext H H'):ij K R ι' H' r Q:=by
 cases r with
 |ok d μ=>exact λι2 v H2 p e s q=>h ι2 v H2 (hp.trans p) (he.trans e) s q
 |exc _ _ _=>exact h
 |stuck=>exact h
theorem ij.imp{r:Res α}{Q Q':β->Hp->Prop}(h:ij K R ι H r Q)(hq:∀v H',Q v H'->Q' v H'):ij K R ι H r Q':=by
 cases r with
 |ok d μ=>exact λι2 v H2 p e s q=>hq _ _ (h ι2 v H2 p e s q)
 |exc _ _ _=>exact h
 |stuck=>exact h
theorem ij.ok{d:α}{μ:Sto}{v:β}{Q:β->Hp->Prop}(h:ij K R ι H (.ok d μ) Q)(hs:Sim K ι H μ)(hr:R ι H d v):Q v H:=h ι v H (AE _) (.refl _) hs hr
theorem ij.bind{x:Res α}{f:α->Sto->Res γ}{Q:δ->Hp->Prop}(h:ij K S ι H (x.bind f) Q) :
  ∃d μ1,x=.ok d μ1/\ij K S ι H (f d μ1) Q:=by
 cases x with
 |ok d μ=>exact⟨d,μ,rfl,h⟩
 |exc _ _ _=>exact h.elim
 |stuck=>exact h.elim
end
noncomputable def tE(K:PySem.W.Frag)(φ:Phi)(x:Ex):TE:=λσv H Q=>∃ι σ μ,Sim K ι H μ/\se K ι H σ σv/\ij K (RD K) ι H (evE φ x σ μ) Q
noncomputable def tEs(K:PySem.W.Frag)(φ:Phi)(x:Exs):TA:=λσv H Q=>∃ι σ μ,Sim K ι H μ/\se K ι H σ σv/\ij K (RDs K) ι H (gn φ x σ μ) Q
noncomputable def tEo(K:PySem.W.Frag)(φ:Phi)(x:ExO):TO:=λσv H Q=>∃ι σ μ,Sim K ι H μ/\se K ι H σ σv/\ij K RO ι H (evO φ x σ μ) Q
noncomputable def tT(K:PySem.W.Frag)(φ:Phi)(x:Ex):TT:=λσv H Q=>∃ι σ μ,Sim K ι H μ/\se K ι H σ σv/\ij K RB ι H ((evE φ x σ μ).bind λd μ=>Zu d μ) Q
theorem PE.imp{X:Cx}{e:Expr}{t t':TE}(h:PE X e t)(i:∀σ H Q,t' σ H Q->t σ H Q):PE X e t':=λpins s σ H Q I q=>h pins s σ H Q I (i σ H Q q)
theorem PA.imp{X:Cx}{e:List Expr}{t t':TA}(h:PA X e t)(i:∀σ H Q,t' σ H Q->t σ H Q):PA X e t':=λpos pins s σ H Q I q=>h pos pins s σ H Q I (i σ H Q q)
theorem PT.imp{X:Cx}{e:Expr}{t t':TT}(h:PT X e t)(i:∀σ H Q,t' σ H Q->t σ H Q):PT X e t':=λpins s σ H Q I q=>h pins s σ H Q I (i σ H Q q)
theorem PW.imp{X:Cx}{e:Expr}{t t':TT}(h:PW X e t)(i:∀σ H Q,t' σ H Q->t σ H Q):PW X e t':=λwh pins s σ H Q I q=>h wh pins s σ H Q I (i σ H Q q)
section
variable{X:Cx}{φ:Phi}{a b c:Expr}{xa xb xc:Ex}{pos:Pos}
theorem aa5{i:Nat}{x:Str}(hN:X.N[i]? = some x)(hv:Vis X.env.scope x)(hd:(x==("__debug__":Str))=false)(hcd:(x==("__classdict__":Str))=false):PE X (.Name x pos) (tE X.K φ (.var i)) :=
 PE.imp (Ia hN hv hd hcd) λσv H Q ⟨ι,σ,μ,hS,hL,h⟩=>by
  simp![evE]at h
  split at h
  ·rename_i d e
   obtain⟨v,e1,e2⟩:=hL i d e
   exact⟨v,e1,h.ok hS e2⟩
  ·exact h.elim
theorem aa6{i:Int}{j:Nat}:PE X (.Constant (.int i) j pos) (tE X.K φ (.cst (.int i))) :=
 PE.imp Vg λσv H Q ⟨ι,σ,μ,hS,hL,h⟩=>by simp![evE]at h;exact h.ok hS (by simp[IsD])
theorem ae8{i:Bool}{j:Nat}:PE X (.Constant (.bool i) j pos) (tE X.K φ (.cst (.bl i))) :=
 PE.imp Z5 λσv H Q ⟨ι,σ,μ,hS,hL,h⟩=>by simp![evE]at h;exact h.ok hS (by simp[IsD])
theorem aa7{i:Str}{j:Nat}:PE X (.Constant (.str i) j pos) (tE X.K φ (.cst (.str i))) :=
 PE.imp Vh λσv H Q ⟨ι,σ,μ,hS,hL,h⟩=>by simp![evE]at h;exact h.ok hS (by simp[IsD])
theorem two {σv:St} {H:Hp} {ι:List Addr} {σ:Sl} {μ:Sto} {f:D->D->Sto->Res D} {Q:VK} {R:V->V->Hp->Prop} (hS:Sim X.K ι H μ) (hL:se X.K ι H σ σv)
  (h:ij X.K (RD X.K) ι H ((evE φ xa σ μ).bind λx μ=>(evE φ xb σ μ).bind λy μ=>f x y μ) Q)
  (k:∀ι' H' d e x y μ',Sim X.K ι' H' μ'->IsD X.K ι' H' d x->IsD X.K ι' H' e y->ij X.K (RD X.K) ι' H' (f d e μ') Q->R x y H') :
  tE X.K φ xa σv H λx H1=>tE X.K φ xb σv H1 λy H2=>R x y H2:=by
 obtain⟨d,μ1,e1,h⟩:=h.bind
 refine⟨ι,σ,μ,hS,hL,?_⟩
 rw[e1]
 intro ι1 x H1 p1 x1 s1 d1
 obtain⟨e,μ2,e2,h⟩:=h.bind
 refine⟨ι1,σ,μ1,s1,hL.mono p1 x1,?_⟩
 rw[e2]
 intro ι2 y H2 p2 x2 s2 d2
 exact k ι2 H2 d e x y μ2 s2 (IsD.mono p2 x2 d x d1) d2 (h.mono (p1.trans p2) (x1.trans x2))
noncomputable def rOp(K:PySem.W.Frag)(f:D->D->Sto->Res D):R2:=λx y H Q=>∃ι d e μ,Sim K ι H μ/\IsD K ι H d x/\IsD K ι H e y/\ij K (RD K) ι H (f d e μ) Q
theorem aa8{op:Operator}{m:Mk}(ho:OpR X (binaryOp op) (rOp X.K (opD op m)))(ha:PE X a (tE X.K φ xa))(hb:PE X b (tE X.K φ xb)):PE X (.BinOp a op b pos) (tE X.K φ (.bin op m xa xb)) :=
 PE.imp (aae ho ha hb) λσv H Q ⟨ι,σ,μ,hS,hL,h⟩=>by
  simp![evE]at h
  exact two hS hL h λι' H' d e x y μ' s d1 d2 p=>⟨ι',d,e,μ',s,d1,d2,p⟩
theorem ae9(ho:IxR X (rOp X.K ixD))(ha:PE X a (tE X.K φ xa))(hb:PE X b (tE X.K φ xb))(hs:Co b):PE X (.Subscript a b pos) (tE X.K φ (.ix xa xb)) :=
 PE.imp (aaq ho ha hb hs) λσv H Q ⟨ι,σ,μ,hS,hL,h⟩=>by
  simp![evE]at h
  exact two hS hL h λι' H' d e x y μ' s d1 d2 p=>⟨ι',d,e,μ',s,d1,d2,p⟩
theorem Jc:PA X [] (tEs X.K φ .nil) :=
 PA.imp Po λσv H Q ⟨ι,σ,μ,hS,hL,h⟩=>by simp![gn]at h;exact h.ok hS (by simp[ak])
theorem ub{es:List Expr}{xs:Exs}(ha:PE X a (tE X.K φ xa))(hb:PA X es (tEs X.K φ xs))(hs:starEach (a::es) X.env=(false,eval a X.env)::starEach es X.env):PA X (a::es) (tEs X.K φ (.cons xa xs)) :=
 PA.imp (Ck ha hb hs) λσv H Q ⟨ι,σ,μ,hS,hL,h⟩=>by
  simp![gn]at h
  obtain⟨d,μ1,e1,h⟩:=h.bind
  refine⟨ι,σ,μ,hS,hL,?_⟩
  rw[e1]
  intro ι1 x H1 p1 x1 s1 d1
  obtain⟨e,μ2,e2,h⟩:=h.bind
  refine⟨ι1,σ,μ1,s1,hL.mono p1 x1,?_⟩
  rw[e2]
  intro ι2 y H2 p2 x2 s2 d2
  refine h ι2 (x::y) H2 (p1.trans p2) (x1.trans x2) s2 ?_
  show ak _ _ _ _ _
  simp![ak]
  exact⟨x,y,rfl,IsD.mono p2 x2 d x d1,d2⟩
theorem aa9{es:List Expr}{xs:Exs}{k:Nat}(h:PA X es (tEs X.K φ xs))(hl:∀σ μ ds μ',gn φ xs σ μ=.ok ds μ'->ds.length<=sizeLine):PE X (.Tuple es k pos) (tE X.K φ (.tup xs)) :=
 PE.imp (Ed h) λσv H Q ⟨ι,σ,μ,hS,hL,h⟩=>by
  simp![evE]at h
  obtain⟨ds,μ1,e1,h⟩:=h.bind
  refine⟨ι,σ,μ,hS,hL,?_⟩
  rw[e1]
  intro ι1 vs H1 p1 x1 s1 d1
  have hd:ak X.K ι1 H1 ds vs:=d1
  refine⟨by rw[hd.length];exact hl σ μ ds μ1 e1,λp hp=>?_⟩
  refine h ι1 (.ref p) (upd H1 p (.tup vs)) p1 (x1.trans (.new hp)) (s1.new hp) ?_
  show IsD _ _ _ _ _
  simp![IsD]
  exact⟨p,vs,rfl,.of bg,ak.mono (AE _) (.new hp) ds vs d1⟩
theorem aba{x:Ex}{σv:St}{H:Hp}{Q:Bool->Hp->Prop}(h:tT X.K φ x σv H Q):tE X.K φ x σv H λv H'=>∃k,v=.bl k/\Q k H':=by
 obtain⟨ι,σ,μ,hS,hL,h⟩:=h
 obtain⟨d,μ1,e1,h⟩:=h.bind
 refine⟨ι,σ,μ,hS,hL,?_⟩
 rw[e1]
 intro ι1 x H1 p1 x1 s1 d1
 cases d with
 |bl k=>exact⟨k,by simpa[IsD]using d1,h ι1 k H1 p1 x1 s1 rfl⟩
 |_=>exact h.elim
theorem Sz{x:Ex}(ha:PE X a (tE X.K φ x))(he:∀whole,isTrue a X.env whole=(do let v <-whole;standAt a.pos;holding [v] (truthy v))):PT X a (tT X.K φ x) :=
 PT.imp (Nj ha he) λσv H Q h=>by
  have q:=aba h
  obtain⟨ι,σ,μ,hS,hL,q⟩:=q
  exact⟨ι,σ,μ,hS,hL,q.imp λv H' ⟨k,e,z⟩=>⟨k,by subst e;exact rfl,z⟩⟩
theorem Ws(ha:PT X a (tT X.K φ xa)):PT X (.UnaryOp .Not a pos) (tT X.K φ (.not xa)) :=
 PT.imp (Vk ha) λσv H Q ⟨ι,σ,μ,hS,hL,h⟩=>by
  simp![evE]at h
  rw[Res.bind_assoc]at h
  obtain⟨d,μ1,e1,h⟩:=h.bind
  refine⟨ι,σ,μ,hS,hL,?_⟩
  rw[e1]
  cases d with
  |bl k=>exact λι1 x H1 p1 x1 s1 d1=>h ι1 (!x) H1 p1 x1 s1 (by cases d1;rfl)
  |_=>exact h.elim
theorem Wt(ha:PE X a (tE X.K φ xa)):PE X (.UnaryOp .Not a pos) (tE X.K φ (.not xa)) :=
 PE.imp (Vn ha) λσv H Q ⟨ι,σ,μ,hS,hL,h⟩=>by
  simp![evE]at h
  obtain⟨d,μ1,e1,h⟩:=h.bind
  refine⟨ι,σ,μ,hS,hL,?_⟩
  rw[e1]
  intro ι1 x H1 p1 x1 s1 d1
  cases d with
  |bl k=>exact⟨k,by simpa[IsD]using d1,h ι1 (.bl !k) H1 p1 x1 s1 (by simp[IsD])⟩
  |_=>exact h.elim
theorem abb(ha:PE X a (tE X.K φ xa)):PE X (.UnaryOp .USub a pos) (tE X.K φ (.neg xa)) :=
 PE.imp (aaf Vv ha) λσv H Q ⟨ι,σ,μ,hS,hL,h⟩=>by
  simp![evE]at h
  obtain⟨d,μ1,e1,h⟩:=h.bind
  refine⟨ι,σ,μ,hS,hL,?_⟩
  rw[e1]
  intro ι1 x H1 p1 x1 s1 d1
  cases d with
  |int k=>exact⟨k,by simpa[IsD]using d1,h ι1 (.int (-k)) H1 p1 x1 s1 (by simp[IsD])⟩
  |_=>exact h.elim
theorem Wu{rest:List Expr}(ha:PE X a (tE X.K φ xa))(hb:PE X (.BoolOp .And (b::rest) pos) (tE X.K φ xb)):PE X (.BoolOp .And (a::b::rest) pos) (tE X.K φ (.and xa xb)) :=
 PE.imp (Vm ha hb) λσv H Q ⟨ι,σ,μ,hS,hL,h⟩=>by
  simp![evE]at h
  obtain⟨d,μ1,e1,h⟩:=h.bind
  refine⟨ι,σ,μ,hS,hL,?_⟩
  rw[e1]
  intro ι1 x H1 p1 x1 s1 d1
  cases d with
  |bl k =>
   refine⟨k,by simpa[IsD]using d1,?_⟩
   cases k with
   |true=>exact⟨ι1,σ,μ1,s1,hL.mono p1 x1,(show ij _ _ _ _ (evE φ xb σ μ1) _ from h).mono p1 x1⟩
   |false=>exact h ι1 (.bl false) H1 p1 x1 s1 (by simp[IsD])
  |_=>exact h.elim
theorem Wv{rest:List Expr}(ha:PT X a (tT X.K φ xa))(hb:PW X (.BoolOp .And (b::rest) pos) (tT X.K φ xb)):PW X (.BoolOp .And (a::b::rest) pos) (tT X.K φ (.and xa xb)) :=
 PW.imp (Vj ha hb) λσv H Q ⟨ι,σ,μ,hS,hL,h⟩=>by
  simp![evE]at h
  rw[Res.bind_assoc]at h
  obtain⟨d,μ1,e1,h⟩:=h.bind
  refine⟨ι,σ,μ,hS,hL,?_⟩
  rw[e1]
  cases d with
  |bl k =>
   intro ι1 x H1 p1 x1 s1 d1
   cases d1
   cases k with
   |true=>exact⟨ι1,σ,μ1,s1,hL.mono p1 x1,(show ij _ _ _ _ ((evE φ xb σ μ1).bind _) _ from h).mono p1 x1⟩
   |false=>exact h ι1 false H1 p1 x1 s1 rfl
  |_=>exact h.elim
theorem abc{rest:List Expr}(ha:PT X a (tT X.K φ xa))(hb:PW X (.BoolOp .Or (b::rest) pos) (tT X.K φ xb)):PW X (.BoolOp .Or (a::b::rest) pos) (tT X.K φ (.or xa xb)) :=
 PW.imp (Z6 ha hb) λσv H Q ⟨ι,σ,μ,hS,hL,h⟩=>by
  simp![evE]at h
  rw[Res.bind_assoc]at h
  obtain⟨d,μ1,e1,h⟩:=h.bind
  refine⟨ι,σ,μ,hS,hL,?_⟩
  rw[e1]
  cases d with
  |bl k =>
   intro ι1 x H1 p1 x1 s1 d1
   cases d1
   cases k with
   |true=>exact h ι1 true H1 p1 x1 s1 rfl
   |false=>exact⟨ι1,σ,μ1,s1,hL.mono p1 x1,(show ij _ _ _ _ ((evE φ xb σ μ1).bind _) _ from h).mono p1 x1⟩
  |_=>exact h.elim
theorem abd(hc:PT X c (tT X.K φ xc))(ha:PE X a (tE X.K φ xa))(hb:PE X b (tE X.K φ xb)):PE X (.IfExp c a b pos) (tE X.K φ (.ite xc xa xb)) :=
 PE.imp (Nf hc ha hb) λσv H Q ⟨ι,σ,μ,hS,hL,h⟩=>by
  simp![evE]at h
  obtain⟨d,μ1,e1,h⟩:=h.bind
  refine⟨ι,σ,μ,hS,hL,?_⟩
  rw[e1]
  cases d with
  |bl k =>
   intro ι1 x H1 p1 x1 s1 d1
   cases d1
   cases k with
   |true=>exact⟨ι1,σ,μ1,s1,hL.mono p1 x1,(show ij _ _ _ _ (evE φ xa σ μ1) _ from h).mono p1 x1⟩
   |false=>exact⟨ι1,σ,μ1,s1,hL.mono p1 x1,(show ij _ _ _ _ (evE φ xb σ μ1) _ from h).mono p1 x1⟩
  |_=>exact h.elim
end
noncomputable def oo(K:PySem.W.Frag)(ι:List Addr)(H:Hp)(r:Res Fl)(E:Ends):Prop:=match r with
 |.ok (.nx σ') μ'=>∀ι' σv H',ι <+: ι'->Ext H H'->Sim K ι' H' μ'->se K ι' H' σ' σv->σ'.length=σv.length->E.nx σv H'
 |.ok (.bk σ') μ'=>∀ι' σv H',ι <+: ι'->Ext H H'->Sim K ι' H' μ'->se K ι' H' σ' σv->σ'.length=σv.length->E.bk σv H'
 |.ok (.ct σ') μ'=>∀ι' σv H',ι <+: ι'->Ext H H'->Sim K ι' H' μ'->se K ι' H' σ' σv->σ'.length=σv.length->E.ct σv H'
 |.ok (.rt d) μ'=>∀ι' v H',ι <+: ι'->Ext H H'->Sim K ι' H' μ'->IsD K ι' H' d v->E.rt v H'
 |.exc _ _ _=>False
 |.stuck=>False
theorem oo.mono{K:PySem.W.Frag}{ι ι':List Addr}{H H':Hp}{r:Res Fl}{E:Ends}(h:oo K ι H r E)(hp:ι <+: ι')(he:Ext H H'):oo K ι' H' r E:=by
 cases r with
 |ok f μ=>cases f<;>exact λι2 v H2 p e=>h ι2 v H2 (hp.trans p) (he.trans e)
 |exc _ _ _=>exact h
 |stuck=>exact h
theorem oo.bind{α:Type}{K:PySem.W.Frag}{ι:List Addr}{H:Hp}{E:Ends}{x:Res α}{f:α->Sto->Res Fl}(h:oo K ι H (x.bind f) E):∃d μ1,x=.ok d μ1/\oo K ι H (f d μ1) E:=by
 cases x with
 |ok d μ=>exact⟨d,μ,rfl,h⟩
 |exc _ _ _=>exact h.elim
 |stuck=>exact h.elim
noncomputable def tS(K:PySem.W.Frag)(φ:Phi)(x:Sm):TS:=λE σv H=>∃ι σ μ,Sim K ι H μ/\se K ι H σ σv/\σ.length=σv.length/\oo K ι H (evS φ x σ μ) E
noncomputable def tSs(K:PySem.W.Frag)(φ:Phi)(x:Sms):TS:=λE σv H=>∃ι σ μ,Sim K ι H μ/\se K ι H σ σv/\σ.length=σv.length/\oo K ι H (rg φ x σ μ) E
theorem PS.imp{X:Cx}{e:Stmt}{t t':TS}(h:PS X e t)(i:∀E σ H,t' E σ H->t E σ H):PS X e t':=λpins s σ H E I q=>h pins s σ H E I (i E σ H q)
theorem PSs.imp{X:Cx}{e:List Stmt}{t t':TS}(h:PSs X e t)(i:∀E σ H,t' E σ H->t E σ H):PSs X e t':=λpins s σ H E I q=>h pins s σ H E I (i E σ H q)
section
variable{X:Cx}{φ:Phi}{e:Expr}{x:Ex}{pos:Pos}{s:Stmt}{ss:List Stmt}{xs:Sm}{xss:Sms}
theorem abe:PSs X [] (tSs X.K φ .nil) :=
 PSs.imp R0 λE σv H ⟨ι,σ,μ,hS,hL,hl,h⟩=>by
  simp![rg]at h
  exact h ι σv H (AE _) (.refl _) hS hL hl
theorem Ww(h1:PS X s (tS X.K φ xs))(h2:PSs X ss (tSs X.K φ xss)):PSs X (s::ss) (tSs X.K φ (.cons xs xss)) :=
 PSs.imp (Ng h1 h2) λE σv H ⟨ι,σ,μ,hS,hL,hl,h⟩=>by
  simp![rg]at h
  refine⟨ι,σ,μ,hS,hL,hl,?_⟩
  obtain⟨f,μ1,e1,h⟩:=h.bind
  rw[e1]
  cases f with
  |nx σ'=>exact λι1 σ1 H1 p1 x1 s1 l1 z1=>⟨ι1,σ',μ1,s1,l1,z1,(show oo _ _ _ (rg φ xss σ' μ1) _ from h).mono p1 x1⟩
  |rt d=>exact h
  |bk σ'=>exact h
  |ct σ'=>exact h
theorem Wx(he:PE X e (tE X.K φ x))(hs:swapsWith e none pos.line X.env=pure false):PS X (.Expr e pos) (tS X.K φ (.ex x)) :=
 PS.imp (R1 he hs) λE σv H ⟨ι,σ,μ,hS,hL,hl,h⟩=>by
  simp![evS]at h
  obtain⟨d,μ1,e1,h⟩:=h.bind
  refine⟨ι,σ,μ,hS,hL,?_⟩
  rw[e1]
  exact λι1 v H1 p1 x1 s1 d1=>h ι1 σv H1 p1 x1 s1 (hL.mono p1 x1) hl
theorem abf(he:PE X e (tE X.K φ x)):PS X (.Return (some e) pos) (tS X.K φ (.ret x)) :=
 PS.imp (Vo he) λE σv H ⟨ι,σ,μ,hS,hL,hl,h⟩=>by
  simp![evS]at h
  obtain⟨d,μ1,e1,h⟩:=h.bind
  refine⟨ι,σ,μ,hS,hL,?_⟩
  rw[e1]
  exact h
theorem afa{c:Expr}{xc:Ex}{a b:List Stmt}{xa xb:Sms}(hc:PT X c (tT X.K φ xc))(ha:PSs X a (tSs X.K φ xa))(hb:PSs X b (tSs X.K φ xb)):PS X (.If c a b pos) (tS X.K φ (.ite xc xa xb)) :=
 PS.imp (aaa hc ha hb) λE σv H ⟨ι,σ,μ,hS,hL,hl,h⟩=>by
  simp![evS]at h
  obtain⟨d,μ1,e1,h⟩:=h.bind
  refine⟨ι,σ,μ,hS,hL,?_⟩
  rw[e1]
  cases d with
  |bl k =>
   intro ι1 x H1 p1 x1 s1 d1
   cases d1
   cases k with
   |true=>exact⟨ι1,σ,μ1,s1,hL.mono p1 x1,hl,(show oo _ _ _ (rg φ xa σ μ1) _ from h).mono p1 x1⟩
   |false=>exact⟨ι1,σ,μ1,s1,hL.mono p1 x1,hl,(show oo _ _ _ (rg φ xb σ μ1) _ from h).mono p1 x1⟩
  |_=>exact h.elim
noncomputable def slots:Tg->List Nat
 |.one i=>[i]
 |.many is=>is
noncomputable def tG(K:PySem.W.Frag)(tg:Tg):TG:=λv σv H Q=>∃ι σ d σ',se K ι H σ σv/\σ.length=σv.length/\IsD K ι H d v/\iz tg d σ=some σ' /\
 ∀σv',se K ι H σ' σv'->σ'.length=σv'.length->σv'.length=σv.length->(∀j,j∉slots tg->σv'[j]? = σv[j]?)->Q σv' H
theorem PG.imp{e:Expr}{t t':TG}(h:PG X e t)(i:∀v σ H Q,t' v σ H Q->t v σ H Q):PG X e t':=by
 intro pins s σ H x u Q I r q
 exact h pins s σ H x u Q I r (i _ _ _ _ q)
theorem Wy{i:Nat}{y:Str}(hN:X.N.Nodup)(hi:X.N[i]? = some y)(hx:Loc X.env.scope y)(hf:X.fn y=true\/X.env.scope.names.lookup y=some .local):PG X (.Name y pos) (tG X.K (.one i)) :=
 PG.imp (Ic hN hi hx hf) λv σv H Q ⟨ι,σ,d,σ',hL,hl,hd,hb,q⟩=>by
  simp![iz,BX]at hb
  subst hb
  exact q _ (hL.set hl hd) (by simp[hl]) (by simp) λj hj=>CV (λz=>hj (by simp[slots,z]))
noncomputable def tGs(K:PySem.W.Frag)(is:List Nat):TGs:=λvs σv H Q=>∃ι σ ds,se K ι H σ σv/\σ.length=σv.length/\ak K ι H ds vs/\ds.length=is.length /\
 ∀σv',se K ι H ((is.zip ds).foldl (λs p=>s.set p.1 (some p.2)) σ) σv'->((is.zip ds).foldl (λs p=>s.set p.1 (some p.2)) σ).length=σv'.length->σv'.length=σv.length->(∀j,j∉is->σv'[j]? = σv[j]?)->Q σv' H
theorem PGs.imp{es:List Expr}{t t':TGs}(h:PGs X es t)(i:∀v σ H Q,t' v σ H Q->t v σ H Q):PGs X es t':=by
 intro pins s σ H vs us Q I r q
 exact h pins s σ H vs us Q I r (i _ _ _ _ q)
theorem Wz:PGs X [] (tGs X.K []) :=
 PGs.imp R4 λvs σv H Q ⟨ι,σ,ds,hL,hl,hd,hn,q⟩=>by
  have e:ds=[]:=List.length_eq_zero_iff.mp hn
  subst e
  exact⟨by simpa[ak]using hd,q σv (by simpa using hL) (by simpa using hl) rfl λ_ _=>rfl⟩
theorem S0{i:Nat}{is:List Nat}{es:List Expr}(h1:PG X e (R3 i))(h2:PGs X es (tGs X.K is))(hs:(assignEach (e::es) X.env).map (·.2)=assign e X.env::(assignEach es X.env).map (·.2)):PGs X (e::es) (tGs X.K (i::is)) :=
 PGs.imp (Nh h1 h2 hs) λvs σv H Q ⟨ι,σ,ds,hL,hl,hd,hn,q⟩=>by
  cases ds with
  |nil=>simp at hn
  |cons d ds =>
   simp![ak]at hd
   obtain⟨v,r,e,hd1,hd2⟩:=hd
   refine⟨v,r,e,ι,σ.set i (some d),ds,hL.set hl hd1,by simp[hl],hd2,by simpa using hn,λσv' l z z2 ks=>q σv' (by simpa using l) (by simpa using z) (by simpa using z2) λj hj=>?_⟩
   have hj':j≠i/\j∉is:=by simpa using hj
   rw[ks j hj'.2,CV (Ne.symm hj'.1)]
theorem abg{is:List Nat}{es:List Expr}{k:Nat}(hc:X.calm=true)(h:PGs X es (tGs X.K is))(hn:(assignEach es X.env).length=is.length)(hst:(assignEach es X.env).findIdx? (·.1)=none) :
  PG X (.Tuple es k pos) (tG X.K (.many is)) :=
 PG.imp (Vp hc h hn hst) λv σv H Q ⟨ι,σ,d,σ',hL,hl,hd,hb,q⟩=>by
  cases d with
  |tup ds =>
   simp![iz]at hb
   split at hb
   ·rename_i hlen
    cases hb
    simp![IsD]at hd
    obtain⟨a,xs,e,hq,hds⟩:=hd
    exact⟨a,xs,e,hq,hds.length.trans hlen,ι,σ,ds,hL,hl,hds,hlen,q⟩
   ·cases hb
  |_=>simp[iz]at hb
theorem abh{i:Nat}{y:Str}{pos':Pos}(hN:X.N.Nodup)(hi:X.N[i]? = some y)(hx:Loc X.env.scope y)(hf:X.fn y=true\/X.env.scope.names.lookup y=some .local)(he:PE X e (tE X.K φ x))(hs:swapsWith e (some (.Name y pos')) pos.line X.env=pure false) :
  PS X (.Assign [.Name y pos'] e pos) (tS X.K φ (.set i x)) :=
 PS.imp (Vr hN hi hx he hs hf) λE σv H ⟨ι,σ,μ,hS,hL,hl,h⟩=>by
  simp![evS]at h
  obtain⟨d,μ1,e1,h⟩:=h.bind
  refine⟨ι,σ,μ,hS,hL,?_⟩
  rw[e1]
  exact λι1 v H1 p1 x1 s1 d1=>h ι1 _ H1 p1 x1 s1 ((hL.mono p1 x1).set hl d1) (by simp[hl])
theorem abi {is:List Nat} {tg:Expr} (hg:PG X tg (tG X.K (.many is))) (he:PE X e (tE X.K φ x)) (hs:swapsWithSole [tg] e pos.line X.env=pure false) (hw:swappedStores [tg] e X.env=pure none)
  (h1:(assignEach [tg] X.env).map (·.2)=[assign tg X.env]):PS X (.Assign [tg] e pos) (tS X.K φ (.unp is x)) :=
 PS.imp (Pm he hg hs hw h1) λE σv H ⟨ι,σ,μ,hS,hL,hl,h⟩=>by
  simp![evS]at h
  obtain⟨d,μ1,e1,h⟩:=h.bind
  refine⟨ι,σ,μ,hS,hL,?_⟩
  rw[e1]
  intro ι1 v H1 p1 x1 s1 d1
  split at h
  ·rename_i σ' eb
   exact⟨ι1,σ,d,σ',hL.mono p1 x1,hl,d1,eb,λσv' l z _ _=>h ι1 σv' H1 p1 x1 s1 l z⟩
  ·exact h.elim
noncomputable def adg(K:PySem.W.Frag):TSet:=λo i v H Q=>∃ι a b d μ,Sim K ι H μ/\IsD K ι H a o/\IsD K ι H b i/\IsD K ι H d v/\ij K (λ_ _ _ (_:Unit)=>True) ι H (Cg a b d μ) λ_ H'=>Q H'
theorem W0 {o i:Expr} {xo xi:Ex} {tp:Pos} (hset:Zp X (adg X.K)) (ho:PE X o (tE X.K φ xo)) (hi:PE X i (tE X.K φ xi)) (he:PE X e (tE X.K φ x))
  (ha:∀v,assign (.Subscript o i tp) X.env v=(do
   let ov <-holding [v] (eval o X.env)
   let iv <-holding [v,ov] (eval i X.env)
   standAt tp
   holding [v,ov,iv] (setItem ov iv v)
   release [v,ov,iv] [])) (hs:swapsWithSole [.Subscript o i tp] e pos.line X.env=pure false) (hw:swappedStores [.Subscript o i tp] e X.env=pure none)
  (h1:(assignEach [.Subscript o i tp] X.env).map (·.2)=[assign (.Subscript o i tp) X.env]):PS X (.Assign [.Subscript o i tp] e pos) (tS X.K φ (.setx xo xi x)) :=
 PS.imp (Pm he (Vq ho hi hset ha) hs hw h1) λE σv H ⟨ι,σ,μ,hS,hL,hl,h⟩=>by
  simp![evS]at h
  obtain⟨d,μ1,e1,h⟩:=h.bind
  refine⟨ι,σ,μ,hS,hL,?_⟩
  rw[e1]
  intro ι1 v H1 p1 x1 s1 d1
  obtain⟨a,μ2,e2,h⟩:=h.bind
  refine⟨ι1,σ,μ1,s1,hL.mono p1 x1,?_⟩
  rw[e2]
  intro ι2 va H2 p2 x2 s2 d2
  obtain⟨b,μ3,e3,h⟩:=h.bind
  refine⟨ι2,σ,μ2,s2,(hL.mono p1 x1).mono p2 x2,?_⟩
  rw[e3]
  intro ι3 vb H3 p3 x3 s3 d3
  obtain⟨_,μ4,e4,h⟩:=h.bind
  refine⟨ι3,a,b,d,μ3,s3,IsD.mono p3 x3 _ _ d2,d3,IsD.mono p3 x3 _ _ (IsD.mono p2 x2 _ _ d1),?_⟩
  rw[e4]
  exact λι4 _ H4 p4 x4 s4 _=>h ι4 σv H4 (((p1.trans p2).trans p3).trans p4) (((x1.trans x2).trans x3).trans x4) s4 ((((hL.mono p1 x1).mono p2 x2).mono p3 x3).mono p4 x4) hl
structure Walk (K:PySem.W.Frag) (ι0:List Addr) (H0:Hp) (J:L2.It) (ds:List D) (g:Gd):Prop where
 len:ds.length<=sizeLine
 go:∀(i:Nat) ι H μ,ι0 <+: ι->Ext H0 H->Sim K ι H μ->gd g μ->i<ds.length->J.go i H
 yld:∀(i:Nat) ι H μ x H',ι0 <+: ι->Ext H0 H->Sim K ι H μ->gd g μ->i<ds.length->J.yld i H x H'->Ext H H'/\Sim K ι H' μ/\∃d,ds[i]? = some d/\IsD K ι H' d x
 stop:∀ι H μ,ι0 <+: ι->Ext H0 H->Sim K ι H μ->gd g μ->J.stop ds.length H
noncomputable def tI(K:PySem.W.Frag)(φ:Phi)(it:It):TI:=λσv H R=>∃ι σ μ,Sim K ι H μ/\se K ι H σ σv /\
 match evI φ it σ μ with
 |.ok (ds,g) μ'=>∀ι' H' J,ι <+: ι'->Ext H H'->Sim K ι' H' μ'->Walk K ι' H' J ds g->R J H'
 |_=>False
theorem PI.imp{tg it:Expr}{t t':TI}(h:PI X tg it t)(i:∀σ H R,t' σ H R->t σ H R):PI X tg it t':=λpins s σ H R I q=>h pins s σ H R I (i _ _ _ q)
theorem abj {tg it:Expr} {body:List Stmt} {xt:Tg} {xi:It} {xb:Sms} (hp:PassesOwn (model X.prog X.w) X.A X.env X.xe) (hc:X.calm=true) (hi:PI X tg it (tI X.K φ xi)) (hg:PG X tg (tG X.K xt)) (hb:PSs X body (tSs X.K φ xb))
  (hs:∀x,foldedSetIterable it X.env x=pure x):PS X (.For tg it body [] pos) (tS X.K φ (.loop xt xi xb)) :=
 PS.imp (Vs hp hc hi hg hb hs) λE σv H ⟨ι,σ,μ,hS,hL,hl,h⟩=>by
  simp![evS]at h
  obtain⟨⟨ds,g⟩,μ1,e1,h⟩:=h.bind
  refine⟨ι,σ,μ,hS,hL,?_⟩
  rw[e1]
  intro ι1 H1 J p1 x1 s1 wk
  refine⟨λi m σv' H'=>m=ds.length-i/\i<=ds.length/\∃ι' σ' μ',ι1 <+: ι'/\Ext H1 H'/\Sim X.K ι' H' μ'/\se X.K ι' H' σ' σv'/\σ'.length=σv'.length /\
   oo X.K ι' H' (k7 g (λd σ μ=>ot (iz xt d σ) λσ'=>rg φ xb σ' μ) (ds.drop i) σ' μ') E,⟨ds.length,by simp,EF _,ι1,σ,μ1,AE _,.refl _,s1,hL.mono p1 x1,hl,?_⟩,?_⟩
  ·simpa using(show oo _ _ _ (k7 g _ ds σ μ1) _ from h).mono p1 x1
  ·rintro i m σv' H' ⟨rfl,hi,ι',σ',μ',p',x',s',l',z',h'⟩
   by_cases hlt:i<ds.length
   ·obtain⟨d,ed⟩:∃d,ds[i]? = some d:=⟨ds[i],AA hlt⟩
    have edrop:ds.drop i=d::ds.drop (i+1):=by
     rw[DW hlt]
     rw[AA hlt]at ed
     cases ed;rfl
    rw[edrop]at h'
    simp![k7]at h'
    split at h'
    ·rename_i hgd
     right
     refine⟨wk.go i ι' H' μ' p' x' s' hgd hlt,?_⟩
     obtain⟨fl,μ2,e2,h2⟩:=h'.bind
     refine⟨λσ2 H2=>ds.length-(i+1)<ds.length-i/\∃ι2 σs,ι1 <+: ι2/\Ext H1 H2/\Sim X.K ι2 H2 μ2/\se X.K ι2 H2 σs σ2/\σs.length=σ2.length /\
      oo X.K ι2 H2 (k7 g (λd σ μ=>ot (iz xt d σ) λσ'=>rg φ xb σ' μ) (ds.drop (i+1)) σs μ2) E,?_,?_⟩
     ·rintro σ2 H2 ⟨_,ι2,σs,q1,q2,q3,q4,q5,q6⟩
      exact⟨ds.length-(i+1),by lia,rfl,hlt,ι2,σs,μ2,q1,q2,q3,q4,q5,q6⟩
     ·intro v H2 hy
      obtain⟨x2,s2,d',ed',hd'⟩:=wk.yld i ι' H' μ' v H2 p' x' s' hgd hlt hy
      rw[ed]at ed';cases ed'
      cases eb:iz xt d σ' with
      |none=>rw[eb]at e2;cases e2
      |some σb =>
       rw[eb]at e2
       refine⟨ι',σ',d,σb,l'.mono (AE _) x2,z',hd',eb,λσv2 l2 z2 _ _=>⟨ι',σb,μ',s2,l2,z2,?_⟩⟩
       have e2':rg φ xb σb μ'=.ok fl μ2:=e2
       rw[e2']
       cases fl with
       |nx σ3=>exact λι3 σv3 H3 p3 x3 s3 l3 z3=>⟨by lia,ι3,σ3,p'.trans p3,(x'.trans x2).trans x3,s3,l3,z3,(show oo _ _ _ (k7 g _ (ds.drop (i+1)) σ3 μ2) _ from h2).mono p3 (x2.trans x3)⟩
       |ct σ3=>exact λι3 σv3 H3 p3 x3 s3 l3 z3=>⟨by lia,ι3,σ3,p'.trans p3,(x'.trans x2).trans x3,s3,l3,z3,(show oo _ _ _ (k7 g _ (ds.drop (i+1)) σ3 μ2) _ from h2).mono p3 (x2.trans x3)⟩
       |bk σ3=>exact(show oo _ _ _ (.ok (.nx σ3) μ2) _ from h2).mono (AE _) x2
       |rt w=>exact(show oo _ _ _ (.ok (.rt w) μ2) _ from h2).mono (AE _) x2
    ·exact h'.elim
   ·have ei:i=ds.length:=by lia
    subst ei
    simp![GO,k7]at h'
    split at h'
    ·rename_i hgd
     exact .inl ⟨wk.stop ι' H' μ' p' x' s' hgd,h' ι' σv' H' (AE _) (.refl _) s' l' z'⟩
    ·exact h'.elim
end
theorem g8:lim=sizeLine:=by rw[Pr];rfl
section
variable{X:Cx}{pins:List (Addr × Obj)}{σ:St}{H:Hp}{s:Shared}{φ:Phi}
theorem _root_.L2.Inv.freeze{p:Addr}{xs:List V}(I:Inv X pins σ H s)(h:H p=some (.lst xs)):∃o,Inv X pins σ (upd H p (.frz o (.lst xs))) s:=by
 have hp:=I.hok p _ h
 obtain⟨hz,its,n,hv,hget⟩:=id hp
 refine⟨{cls:=.type "list",data:=.seq its.toArray n},I.ok,I.os,I.bare,⟨I.base.keep,I.base.slot,λb o e hn hx=>?_,I.base.there,λb ys e=>?_,λb o u e=>?_,λb ps e=>?_⟩,I.loc,I.cell,?_,λx c e=>?_,λq hq=>?_,λb u e=>?_,I.len⟩
 ·have q:=I.base.free b o e hn hx
  rw[a9 (λz=>by subst z;rw[h]at q;cases q)]
  exact q
 ·have q:=I.base.tups b ys e
  rw[a9 (ug q h (by intro z;cases z))];exact q
 ·have q:=I.base.frzs b o u e
  rw[a9 (ug q h (by intro z;cases z))];exact q
 ·obtain⟨more,q⟩:=I.base.tbls b ps e
  exact⟨more,by rw[a9 (ug q h (by intro z;cases z))];exact q⟩
 ·rw[a9 (λz=>by rw[<-z,I.free]at h;cases h)];exact I.free
 ·rw[a9 (λz=>by rw[<-z,I.freeC x c e]at h;cases h)];exact I.freeC x c e
 ·obtain⟨e1,e2,e3⟩:=I.pin q hq
  refine⟨e1,?_,e3⟩
  rw[a9 (λz=>by rw[<-z,e2]at h;cases h)];exact e2
 ·by_cases hb:b=p
  ·subst hb
   rw[bg]at e;cases e
   exact⟨hget,hz,its,n,hv,hget⟩
  ·rw[a9 hb]at e
   refine(I.hok b u e).stay (λc v _ q=>q) (λc q=>?_) (λc ys q=>?_)
   ·rw[a9 (ug q h (by intro z;cases z))];exact q
   ·rw[a9 (ug q h (by intro z;cases z))];exact q
noncomputable def FQ(Q:VK):VK:=λv H=>Q v H\/∃p xs,v=.ref p/\H p=some (.lst xs)/\∀o,Q v (upd H p (.frz o (.lst xs)))
theorem Jd{Q:VK}{u:Value}(h:EP X pins σ (FQ Q) u s):EP X pins σ Q u s:=by
 obtain⟨v,H',I,r,q⟩:=h
 rcases q with q | ⟨p,xs,rfl,e,q⟩
 ·exact⟨v,H',I,r,q⟩
 ·obtain⟨o,I'⟩:=L2.Inv.freeze I e
  exact⟨_,_,I',r,q o⟩
theorem Pz{A:Around}{E:Value->Shared->Prop}{M:Model}{t:Sem Value}{Q:VK}(h:wpAny M A t (EP X pins σ (FQ Q)) E s):wpAny M A t (EP X pins σ Q) E s:=thn h λ_ _ z=>Jd z
theorem PE.fq{e:Expr}{t:TE}(h:PE X e t):PE X e (λσ H Q=>t σ H (FQ Q)):=λpins s σ H Q I q=>thn (h pins s σ H _ I q) λ_ _ z=>Jd z
theorem gk.fq{f:Value}{r:List V->Hp->VK->Prop}(h:gk X f r):gk X f (λxs H Q=>r xs H (FQ Q)):=by
 intro pins s σ H xs us Q I rx q
 exact thn (h pins s σ H xs us _ I rx q) λ_ _ z=>Jd z
theorem SlR.fq{r:V->Option Int->Option Int->Hp->VK->Prop}(h:SlR X r):SlR X (λx l u H Q=>r x l u H (FQ Q)):=by
 intro pins s σ H x v vl vu lo hi sl Q I rx h1 h2 h3 q
 obtain⟨T,id,e1,e2,e3⟩:=h pins s σ H x v vl vu lo hi sl _ I rx h1 h2 h3 q
 exact⟨T,id,e1,e2,thn e3 λ_ _ z=>Jd z⟩
theorem qp{K:PySem.W.Frag}{ι:List Addr}{μ:Sto}{ds:List D}{xs:List V}{m:Mk}{Q:VK}{p:Addr}(hS:Sim K ι H μ)(hd:ak K ι H ds xs)(h:ij K (RD K) ι H (mkL m ds μ) Q)(hp:H p=none) :
  FQ Q (.ref p) (upd H p (.lst xs)):=by
 cases m with
 |z =>
  refine .inr ⟨p,xs,rfl,bg,λo=>?_⟩
  rw[Ru]
  refine h ι (.ref p) _ (AE _) (.new hp) (hS.new hp) ?_
  show IsD _ _ _ _ _
  simp![IsD]
  exact⟨p,xs,rfl,.inl ⟨o,bg⟩,ak.mono (AE _) (.new hp) ds xs hd⟩
 |l =>
  simp![mkL]at h
  split at h
  ·rename_i hpure
   refine .inl (h (ι++[p]) (.ref p) _ ⟨[p],rfl⟩ (.new hp) (hS.push hp ⟨xs,bg,ak.pur hpure (ak.mono (AE _) (.new hp) ds xs hd)⟩) ?_)
   show IsD _ _ _ _ _
   simp![IsD]
   exact⟨p,rfl,by rw[<-hS.len];simp⟩
  ·exact h.elim
 |r =>
  simp![mkL]at h
  refine .inl (h (ι++[p]) (.ref p) _ ⟨[p],rfl⟩ (.new hp) (hS.push hp ⟨xs,bg,ak.mono ⟨[p],rfl⟩ (.new hp) ds xs hd⟩) ?_)
  show IsD _ _ _ _ _
  simp![IsD]
  exact⟨p,rfl,by rw[<-hS.len];simp⟩
theorem abk{es:List Expr}{xs:Exs}{m:Mk}{pos:Pos}(h:PA X es (tEs X.K φ xs))(hl:∀σ μ ds μ',gn φ xs σ μ=.ok ds μ'->ds.length<=sizeLine):PE X (.List es pos) (tE X.K φ (.lst m xs)) :=
 PE.imp (PE.fq (Vy h)) λσv H Q ⟨ι,σ,μ,hS,hL,h⟩=>by
  simp![evE]at h
  obtain⟨ds,μ1,e1,h⟩:=h.bind
  refine⟨ι,σ,μ,hS,hL,?_⟩
  rw[e1]
  intro ι1 vs H1 p1 x1 s1 d1
  have hd:ak X.K ι1 H1 ds vs:=d1
  exact⟨by rw[hd.length];exact hl σ μ ds μ1 e1,λp hp=>qp s1 hd (h.mono p1 x1) hp⟩
theorem A7{K:PySem.W.Frag}{ι:List Addr}{μ:Sto}{d:D}{v:V}{ds:List D}(hS:Sim K ι H μ)(hd:IsD K ι H d v)(h:g7 μ d=some ds) :
  ∃a xs,v=.ref a/\(LsL K H a xs\/SqT K H a xs)/\ak K ι H ds xs:=by
 cases d with
 |tup es =>
  cases h
  simp![IsD]at hd
  obtain⟨a,xs,e,q,r⟩:=hd
  exact⟨a,xs,e,.inr q,r⟩
 |lst es =>
  cases h
  simp![IsD]at hd
  obtain⟨a,xs,e,q,r⟩:=hd
  exact⟨a,xs,e,.inl (.inr q),r⟩
 |loc n =>
  simp![IsD]at hd
  obtain⟨a,e,q⟩:=hd
  simp![g7]at h
  split at h
  ·rename_i es em
   cases h
   obtain⟨a',q',ho⟩:=hS.at em
   rw[q]at q';cases q'
   obtain⟨xs,e1,e2⟩:=ho
   exact⟨a,xs,e,.inl (.inl e1),ak.mono (CU) (.refl _) _ _ e2⟩
  ·rename_i es em
   cases h
   obtain⟨a',q',ho⟩:=hS.at em
   rw[q]at q';cases q'
   obtain⟨xs,e1,e2⟩:=ho
   exact⟨a,xs,e,.inl (.inl e1),e2⟩
  ·cases h
 |_=>simp[g7]at h
theorem k8{K:PySem.W.Frag}{ι:List Addr}{μ:Sto}{d:D}{v:V}{ds:List D}(hS:Sim K ι H μ)(hd:IsD K ι H d v)(h:listOf μ d=some ds) :
  ∃a xs,v=.ref a/\LsL K H a xs/\ak K ι H ds xs:=by
 cases d with
 |lst es =>
  cases h
  simp![IsD]at hd
  obtain⟨a,xs,e,q,r⟩:=hd
  exact⟨a,xs,e,.inr q,r⟩
 |loc n =>
  simp![IsD]at hd
  obtain⟨a,e,q⟩:=hd
  simp![listOf]at h
  split at h
  ·rename_i es em
   cases h
   obtain⟨a',q',ho⟩:=hS.at em
   rw[q]at q';cases q'
   obtain⟨xs,e1,e2⟩:=ho
   exact⟨a,xs,e,.inl e1,ak.mono (CU) (.refl _) _ _ e2⟩
  ·rename_i es em
   cases h
   obtain⟨a',q',ho⟩:=hS.at em
   rw[q]at q';cases q'
   obtain⟨xs,e1,e2⟩:=ho
   exact⟨a,xs,e,.inl e1,e2⟩
  ·cases h
 |_=>simp[listOf]at h
theorem abl{i:Nat}{x:Str}{pos:Pos}(hN:X.N[i]? = some x)(hv:Vis X.env.scope x)(hd:(x==("__debug__":Str))=false)(hcd:(x==("__classdict__":Str))=false):PE X (.Name x pos) (tE X.K φ (.frz i)) :=
 PE.imp (PE.fq (Ia hN hv hd hcd)) λσv H Q ⟨ι,σ,μ,hS,hL,h⟩=>by
  simp![evE]at h
  split at h
  ·rename_i n e
   obtain⟨v,e1,e2⟩:=hL i _ e
   refine⟨v,e1,?_⟩
   simp![IsD]at e2
   obtain⟨a,rfl,ha⟩:=e2
   split at h
   ·rename_i ds em
    obtain⟨a',q',ho⟩:=hS.at em
    rw[ha]at q';cases q'
    obtain⟨xs,f1,f2⟩:=ho
    refine .inr ⟨a,xs,rfl,f1,λo=>?_⟩
    refine h ι (.ref a) _ (AE _) (.lst f1) (hS.put ha (.lst f1) ⟨_,bg⟩) ?_
    show IsD _ _ _ _ _
    simp![IsD]
    exact⟨a,xs,rfl,.inl ⟨o,bg⟩,ak.mono (CU) (.lst f1) ds xs f2⟩
   ·rename_i ds em
    obtain⟨a',q',ho⟩:=hS.at em
    rw[ha]at q';cases q'
    obtain⟨xs,f1,f2⟩:=ho
    refine .inr ⟨a,xs,rfl,f1,λo=>?_⟩
    refine h ι (.ref a) _ (AE _) (.lst f1) (hS.put ha (.lst f1) ⟨_,bg⟩) ?_
    show IsD _ _ _ _ _
    simp![IsD]
    exact⟨a,xs,rfl,.inl ⟨o,bg⟩,ak.mono (AE _) (.lst f1) ds xs f2⟩
   ·exact h.elim
  ·exact h.elim
theorem OpR.imp{f:Value->Value->Sem Value}{r r':R2}(h:OpR X f r)(i:∀x y H Q,r' x y H Q->r x y H Q):OpR X f r':=λpins s σ H x y v u Q I rx ry q=>h pins s σ H x y v u Q I rx ry (i _ _ _ _ q)
theorem IxR.imp{r r':R2}(h:IxR X r)(i:∀x y H Q,r' x y H Q->r x y H Q):IxR X r':=λe1 e2 pins s σ H x y v u Q I rx ry q=>h e1 e2 pins s σ H x y v u Q I rx ry (i _ _ _ _ q)
theorem gk.imp{f:Value}{r r':List V->Hp->VK->Prop}(h:gk X f r)(i:∀xs H Q,r' xs H Q->r xs H Q):gk X f r':=λpins s σ H xs us Q I rx q=>h pins s σ H xs us Q I rx (i _ _ _ q)
theorem MtR.imp{id:String}{r r':V->List V->Hp->VK->Prop}(h:MtR X id r)(i:∀x xs H Q,r' x xs H Q->r x xs H Q):MtR X id r':=λpins s σ H x xs v us Q I rx rr q=>h pins s σ H x xs v us Q I rx rr (i _ _ _ _ q)
theorem W1{K:PySem.W.Frag}{ι:List Addr}{ds:List D}{xs:List V}{i:Int}{j:Nat}{d:D}(h:ak K ι H ds xs)(hi:Lp.ixN ds.length i=some j)(hj:ds[j]? = some d):∃v,atI xs i=some v/\IsD K ι H d v:=by
 obtain⟨v,e,q⟩:=h.get hj
 refine⟨v,?_,q⟩
 unfold atI
 rw[h.length,show L2.ixN ds.length i=some j from hi]
 exact e
theorem abm:IxR X (rOp X.K ixD):=IxR.imp V5 λx y H Q ⟨ι,d,e,μ,hS,hd,he,h⟩=>by
 unfold ixD at h
 split at h
 ·rename_i i
  have hy:y=.int i:=by simpa[IsD]using he
  subst hy
  split at h
  ·rename_i ds es
   obtain⟨a,xs,rfl,hq,hds⟩:=A7 hS hd es
   split at h
   ·rename_i j ej
    split at h
    ·rename_i d' ed
     obtain⟨v,ev,hv⟩:=W1 hds ej ed
     have qv:=h.ok hS hv
     rcases hq with hq | hq
     ·exact .inl ⟨a,xs,i,v,rfl,rfl,hq.sq,ev,qv⟩
     ·exact .inr (.inl ⟨a,xs,i,v,rfl,rfl,hq,ev,qv⟩)
    ·exact h.elim
   ·exact h.elim
  ·exact h.elim
 ·exact h.elim
theorem P0{K:PySem.W.Frag}{ι:List Addr}{ds:List D}{xs:List V}(h:ak K ι H ds xs)(lo hi:Option Int):ak K ι H (cut ds lo hi) (Pp xs lo hi):=by
 have e1:∀n d o,Lp.sIx n d o=HT.sIx n d o:=λn d o=>by cases o<;>rfl
 unfold cut Pp
 rw[h.length,e1,e1]
 exact(h.drop _).take _
end
noncomputable def Ei(env:Env):List (Str×NameKind)->List (Str×Addr)->List (Str×Addr)
 | [],acc=>acc
 |(n,k)::r,acc=>Ei env r (if k==.free then(n,(env.cells.lookup n).getD 0)::acc else acc)
noncomputable def uc(env:Env)(x:Str×NameKind)(cs:List (Str×Addr)):Sem (ForInStep (List (Str×Addr))):=match x with
 |(name,kind)=>if kind==.free then(do let a <-cellOf env name;pure (ForInStep.yield ((name,a)::cs)))else pure (ForInStep.yield cs)
theorem si{env:Env}:∀(names:List (Str×NameKind)) (acc:List (Str×Addr)),(∀n,(n,NameKind.free)∈names->∃c,env.cells.lookup n=some c) ->
  forIn names acc (uc env)=pure (Ei env names acc)
 | [],acc,_=>rfl
 |(n,k)::r,acc,h=>by
  rw[II]
  by_cases hk:k=.free
  ·subst hk
   obtain⟨c,hc⟩:=h n BI
   have e:uc env (n,.free) acc=pure (ForInStep.yield ((n,c)::acc)):=by
    simp![uc,cellOf,hc,beq_self_eq_true,if_true]
    rfl
   rw[e]
   refine Eq.trans (b:=forIn r ((n,c)::acc) (uc env)) rfl ?_
   rw[si r ((n,c)::acc) λm hm=>h m (AU _ hm)]
   simp[Ei,hc]
  ·have hb:(k==NameKind.free)=false:=by simpa using hk
   have e:uc env (n,k) acc=pure (ForInStep.yield acc):=by
    unfold uc
    simp![hb,BA,if_false]
   rw[e]
   refine Eq.trans (b:=forIn r acc (uc env)) rfl ?_
   rw[si r acc λm hm=>h m (AU _ hm)]
   simp[Ei,hb]
theorem yf{env:Env}{scope:Scope}(h:∀n,(n,NameKind.free)∈scope.names->∃c,env.cells.lookup n=some c):closureFor scope env=pure (Ei env scope.names []):=by
 have e:=si (env:=env) scope.names [] h
 have e2:closureFor scope env=(forIn scope.names [] (uc env)>>=λcs=>pure cs):=rfl
 rw[e2,e]
 rfl
theorem Ej{env:Env}:∀(names:List (Str×NameKind)) (acc:List (Str×Addr)) (x:Str) (c:Addr),(∀n,(n,NameKind.free)∈names->∃c,env.cells.lookup n=some c)->(Ei env names acc).lookup x=some c->acc.lookup x=some c\/env.cells.lookup x=some c
 | [],acc,x,c,_,h=>.inl h
 |(n,k)::r,acc,x,c,hh,h=>by
  rcases Ej r _ x c (λm hm=>hh m (AU _ hm)) h with q | q
  ·by_cases hk:k=.free
   ·subst hk
    obtain⟨c',hc⟩:=hh n BI
    simp![beq_self_eq_true,if_true,EZ]at q
    by_cases hx:x=n
    ·subst hx
     simp![beq_self_eq_true,hc,Go,BX]at q
     subst q
     exact .inr hc
    ·have hb:(x==n)=false:=beq_eq_false_iff_ne.mpr hx
     rw[hb]at q
     exact .inl q
   ·have hb:(k==NameKind.free)=false:=by simpa using hk
    simp![hb,BA,if_false]at q
    exact .inl q
  ·exact .inr q
theorem A8{env:Env}:∀(names:List (Str×NameKind)) (acc:List (Str×Addr)) (x:Str),(∃c,acc.lookup x=some c)->∃c,(Ei env names acc).lookup x=some c
 | [],acc,x,h=>h
 |(n,k)::r,acc,x,h=>by
  refine A8 r _ x ?_
  by_cases hk:(k==NameKind.free)=true
  ·rw[if_pos hk,EZ]
   cases hx:x==n with
   |true=>exact⟨_,rfl⟩
   |false=>exact h
  ·rw[if_neg hk];exact h
theorem Ek{env:Env}:∀(names:List (Str×NameKind)) (acc:List (Str×Addr)) (x:Str),(x,NameKind.free)∈names->∃c,(Ei env names acc).lookup x=some c
 | [],acc,x,h=>by cases h
 |(n,k)::r,acc,x,h=>by
  rcases AS.mp h with e | e
  ·cases e
   refine A8 r _ n ?_
   exact⟨(env.cells.lookup n).getD 0,by simp⟩
  ·exact Ek r _ x e
noncomputable abbrev Je(env:Env)(scope:Scope)(C:Addr):List (Str×Addr):=cellsFrom (C+1) scope.names []++Ei env scope.names []
theorem g9:∀(names:List (Str×NameKind)) (n:Nat) (acc:List (Str×Addr)),cellsFrom n names acc=cellsFrom n names []++acc
 | [],_,_=>rfl
 |(a,k)::r,n,acc=>by
  unfold cellsFrom
  split
  ·rw[g9 r (n+1) ((a,n)::acc),g9 r (n+1) [(a,n)],AD];rfl
  ·exact g9 r n acc
theorem k9:∀(names:List (Str×NameKind)) (n:Nat) (x:Str) (c:Addr),(x,c)∈cellsFrom n names []->(x,NameKind.cell)∈names
 | [],_,_,_,h=>nomatch h
 |(a,k)::r,n,x,c,h=>by
  unfold cellsFrom at h
  split at h
  ·rename_i hk
   rw[g9]at h
   rcases BD.mp h with h | h
   ·exact AU _ (k9 r _ x c h)
   ·cases EL.mp h
    have:k=.cell:=by simpa using hk
    subst this
    exact BI
  ·exact AU _ (k9 r _ x c h)
theorem Cw{env:Env}{scope:Scope}{C:Addr}{x:Str}{c:Addr}(hc:∀n,(n,NameKind.free)∈scope.names->∃c,env.cells.lookup n=some c)(e:(Je env scope C).lookup x=some c) :
  (x,c)∈cellsFrom (C+1) scope.names []\/env.cells.lookup x=some c:=by
 rcases BD.mp (DC e)with h | h
 ·exact .inl h
 ·cases q:(cellsFrom (C+1) scope.names []).lookup x with
  |some d =>
   have e2:(cellsFrom (C+1) scope.names []++Ei env scope.names []).lookup x=some c:=e
   rw[GF,q]at e2
   cases e2
   exact .inl (DC q)
  |none =>
   have e2:(cellsFrom (C+1) scope.names []++Ei env scope.names []).lookup x=some c:=e
   rw[GF,q]at e2
   rcases Ej scope.names [] x c hc (by simpa using e2)with z | z
   ·cases z
   ·exact .inr z
theorem Jf {M:Model} {A:Around} {E:Value->Shared->Prop} {s:Shared} {scope:Scope} {cl:List (Str×Addr)} {globals builtins:Addr} {qual:Str} {func:Option Addr} {code:Value} {env:Env} {Q:Env->Shared->Prop}
  (hQ:∀h',h'.Ns s.heap.objs.size (λ_=>none)->(∀b o,s.heap.get? b=some o->h'.get? b=some o)->CellsOk h' (s.heap.objs.size+1) (cellsFrom (s.heap.objs.size+1) scope.names []) ->
   Q (newEnv scope s.heap.objs.size globals (cellsFrom (s.heap.objs.size+1) scope.names []++cl) qual func code (some env) builtins) {s with heap:=h'}) :
  wpAny M A (newFunctionEnv scope globals cl [] qual func code (some env) builtins) Q E s:=by
 simp![newFunctionEnv,Option.isSome_some,if_true]
 refine AC (wpAny_alloc ?_)
 refine AC (wpAny_layCells _ (λname kind cells=>by cases hkc:kind==NameKind.cell<;>simp[hkc]) _ _ _ _ ?_)
 have ok:=cellsFrom_ok scope.names (s.heap.push {cls:=.type "dict",data:=.dict #[]}) (s.heap.objs.size+1) [] ⟨λ_ _ hm=>(nomatch hm),List.Pairwise.nil⟩ (by rw[FA];exact AK _)
 rw[FA]at ok
 rw[show({s with heap:=s.heap.push {cls:=.type "dict",data:=.dict #[]}}:Shared).heap.objs.size=s.heap.objs.size+1 from FA ..]
 rw[List.forIn_nil,g9]
 exact AC (AO (AO (hQ _ ((Heap.Ns.new s.heap (.type "dict")).keeps (pushCells_keeps _ _)) (λb o e=>pushCells_keeps _ _ b o (AH _ e)) ok)))
noncomputable def qq(X:Cx)(scope:Scope)(Nb:List Str)(C:Addr)(s:Shared)(H:Hp)(fp:List Addr):Cx :=
 {X with N:=Nb,s₀:=s,H₀:=H,env:=compEnvC scope (Je X.env scope C) C X.env,outer:=X.stack,stack:=X.stack,ex:=fp,fn:=λx=>scope.names.lookup x==some .cell,pn:=[],xe:=λ_ _=>False}
structure CompScope (sc scope:Scope) (N Nb:List Str) (cap:List Nat) (nl:Nat):Prop where
 kind:scope.kind=.function
 uniq:∀y∈scope.names,scope.names.lookup y.1=some y.2
 free:∀n,(n,NameKind.free)∈scope.names->sc.names.lookup n=some .cell\/sc.names.lookup n=some .free
 fnames:∀n,(relabel scope {scope:=sc,locals:=0,globals:=0,cells:=[]}).names.lookup n=some .cell\/(relabel scope {scope:=sc,locals:=0,globals:=0,cells:=[]}).names.lookup n=some .free->(n,NameKind.free)∈scope.names\/(n,NameKind.cell)∈scope.names
 nd:Nb.Nodup
 len:Nb.length=cap.length+nl
 capt:∀(j:Nat) i,cap[j]? = some i->∃x,Nb[j]? = some x/\N[i]? = some x/\(x,NameKind.free)∈scope.names
theorem Gx(scope:Scope)(env env':Env)(h:env.scope=env'.scope):relabel scope env=relabel scope env':=by
 unfold relabel Env.kindOf
 rw[h]
section
variable{X:Cx}{pins:List (Addr × Obj)}{σ:St}{H:Hp}{s:Shared}{scope:Scope}{Nb:List Str}{cap:List Nat}{nl:Nat}
noncomputable def l9(cap:List Nat)(nl:Nat)(σ:St):St:=cap.map (λi=>(σ[i]?).getD none)++List.replicate nl none
theorem Jg {fp:List Addr} {h':Heap} {tk:Nat} {C:Addr} {m:Str->Option Value} {D:Addr} {n0:Nat} (I:Inv X pins σ H s) (S:CompScope X.env.scope scope X.N Nb cap nl)
  (hf:∀b∈fp,Hv X pins H b) (hfp:∀b∈fp,∃o,s.heap.get? b=some o) (hk:∀b o,s.heap.get? b=some o->h'.get? b=some o) (hC:s.heap.objs.size<=C) (hD:s.heap.objs.size<=D) (hDC:D≠C)
  (hns:h'.Ns C m) (hDo:h'.get? D=some {cls:=.type "list",data:=.seq #[] n0}) (ok:CellsOk h' (C+1) (cellsFrom (C+1) scope.names [])) :
  Inv (qq X scope Nb C s H fp) [(D,{cls:=.type "list",data:=.seq #[] n0})] (l9 cap nl σ) H {s with heap:=h',toks:=tk}:=by
 have hcells:∀n,(n,NameKind.free)∈scope.names->∃c,X.env.cells.lookup n=some c:=λn hn=>by
  rcases S.free n hn with e | e
  ·exact I.ok.has n (.inl e)
  ·exact I.ok.has n (.inr e)
 have sub:∀x c,(Je X.env scope C).lookup x=some c->(x,c)∈cellsFrom (C+1) scope.names []\/X.env.cells.lookup x=some c:=λx c e=>Cw hcells e
 have up:∀x c,(x,c)∈cellsFrom (C+1) scope.names []->s.heap.objs.size<=c:=λx c e=>BC hC (Nat.le_of_succ_le (ok.empty x c e).2)
 have hasB:∀x,(x,NameKind.free)∈scope.names\/(x,NameKind.cell)∈scope.names->∃c,(Je X.env scope C).lookup x=some c:=λx hx=>by
  show ∃c,(cellsFrom (C+1) scope.names []++Ei X.env scope.names []).lookup x=some c
  rw[GF]
  cases q:(cellsFrom (C+1) scope.names []).lookup x with
  |some d=>exact⟨d,rfl⟩
  |none =>
   rcases hx with hx | hx
   ·obtain⟨c,e⟩:=Ek (env:=X.env) scope.names [] x hx
    exact⟨c,by rw[e];rfl⟩
   ·obtain⟨c,e⟩:=uj (n:=C+1) (S.uniq _ hx)
    rw[q]at e;cases e
 have hlt:∀b∈fp,b<s.heap.objs.size:=λb hb=>let ⟨o,e⟩:=hfp b hb;AR e
 have hrel:relabel scope X.env=relabel scope {scope:=X.env.scope,locals:=0,globals:=0,cells:=[]}:=Gx _ _ _ rfl
 have hcm:∀x c,X.env.cells.lookup x=some c->c<s.heap.objs.size:=λx c e=>let ⟨v,q⟩:=I.cell x c e;q.lt
 refine⟨⟨I.ok.mod,by show(relabel scope X.env).kind=_;unfold relabel;exact S.kind,I.ok.glob,I.ok.blt,hC,λx y c e1 e2=>?_,λx hx=>?_,λx c hfn e=>?_,I.ok.hd,I.ok.frames,.inl rfl,
  λb hb=>⟨BJ (AT (hlt b hb) hC),λx c e=>(sub x c e).elim (λq=>ER (AT (hlt b hb) (up x c q))) λq=>(hf b hb).2.2.2.2.1 x c q⟩,I.bs,BC I.ok.bsz I.sz,λb o e hb=>?_,λb hb hb2=>?_,I.stack,I.stkFree⟩,
  rfl,I.bare,Un.kept hk,⟨m,hns,λi x v e1 e2 e3=>?_⟩,λx c e=>?_,I.hok.fresh hC,λx c e=>(sub x c e).elim (λq=>I.hok.fresh (up x c q)) λq=>I.freeC x c q,λp hp=>?_,I.hok.kept hk,?_⟩
 ·rcases sub x c e1 with q1 | q1<;>rcases sub y c e2 with q2 | q2
  ·exact name_of_addr ok.apart q1 q2
  ·exact absurd (hcm y c q2) (JB.mpr (up x c q1))
  ·exact absurd (hcm x c q1) (JB.mpr (up y c q2))
  ·exact I.ok.inj x y c q1 q2
 ·have hx':(relabel scope {scope:=X.env.scope,locals:=0,globals:=0,cells:=[]}).names.lookup x=some .cell\/(relabel scope {scope:=X.env.scope,locals:=0,globals:=0,cells:=[]}).names.lookup x=some .free:=by
   rw[<-hrel];exact hx
  exact hasB x (S.fnames x hx')
 ·obtain⟨d,q⟩:=uj (n:=C+1) (show scope.names.lookup x=some .cell from beq_iff_eq.mp hfn)
  have e2:(cellsFrom (C+1) scope.names []++Ei X.env scope.names []).lookup x=some c:=e
  rw[GF,q]at e2
  cases e2
  exact up x _ (DC q)
 ·rcases(hf b hb).2.2.2.1 with z | z
  ·exact I.ok.noex b o e z
  ·have:=AR e
   exact absurd (AT this (BC I.ok.bsz z)) (DO _)
 ·rcases AS.mp (I.stkSub b hb2)with z | z
  ·exact(hf b hb).2.1 z
  ·exact(hf b hb).2.2.1 z
 ·-- a captured name
  have hi:i<cap.length:=by
   by_cases hi:i<cap.length
   ·exact hi
   ·unfold l9 at e2
    rw[BO (by simpa using hi),Ev]at e2
    split at e2<;>cases e2
  unfold l9 at e2
  rw[AN (by simpa using hi),AV,AA hi]at e2
  simp![DV,BX]at e2
  obtain⟨y,q1,q2,q3⟩:=S.capt i _ (AA hi)
  have ey:y=x:=CB (q1.symm.trans e1)
  subst ey
  have e4:σ[cap[i]]? = some (some v):=by
   cases e5:σ[cap[i]]? with
   |none=>rw[e5]at e2;cases e2
   |some w=>rw[e5]at e2;simp at e2;rw[e2]
  obtain⟨m0,hn0,hl0⟩:=I.loc
  have hkind:X.env.kindOf y=some .cell\/X.env.kindOf y=some .free:=S.free y q3
  obtain⟨u,r,l⟩:=hl0 _ y v q2 e4 (by rcases hkind with z | z;exact .inr (.inl z);exact .inr (.inr z))
  refine⟨u,r,.inr ?_⟩
  rcases l with⟨z,_⟩ | ⟨_,c,ec,hc⟩
  ·rcases hkind with w | w<;>(rw[w]at z;cases z)
  ·obtain⟨c',ec'⟩:=hasB y (.inl q3)
   have:c'=c:=by
    rcases sub y c' ec' with z | z
    ·have:=S.uniq _ (k9 _ _ _ _ z)
     rw[S.uniq (y,NameKind.free) q3]at this;cases this
    ·rw[ec]at z;cases z;rfl
   subst this
   obtain⟨o,ho,hd⟩:=hc
   refine⟨?_,c',ec',o,hk _ _ ho,hd⟩
   -- a free name is seen as a cell or as free
   have hv:(qq X scope Nb C s H fp).env.kindOf y=some .local\/(qq X scope Nb C s H fp).env.kindOf y=some .cell\/(qq X scope Nb C s H fp).env.kindOf y=some .free:=e3
   rcases hv with z | z | z
   ·exfalso
    have hl:(relabel scope X.env).names.lookup y=some .local:=z
    have mem:∀(l:List (Str×NameKind)) (y:Str),(l.map fun(n,k)=>if(k==NameKind.free&&X.env.scope.kind==.function&&X.env.kindOf n==some .cell)then(n,NameKind.cell)else(n,k)).lookup y=some .local->l.lookup y=some .local:=by
     intro l
     induction l with
     |nil=>intro y h;simp at h
     |cons a r ih =>
      obtain⟨n,k⟩:=a
      intro y h
      simp![AF]at h
      rw[EZ]
      by_cases hc:(k==NameKind.free&&X.env.scope.kind==.function&&X.env.kindOf n==some .cell)=true
      ·rw[if_pos hc,EZ]at h
       cases hy:y==n with
       |true=>rw[hy]at h;cases h
       |false=>rw[hy]at h;exact ih y h
      ·rw[if_neg hc,EZ]at h
       cases hy:y==n with
       |true=>rw[hy]at h;exact h
       |false=>rw[hy]at h;exact ih y h
    have hloc:=mem scope.names y hl
    rw[S.uniq (y,NameKind.free) q3]at hloc
    cases hloc
   ·exact .inl z
   ·exact .inr z
 ·rcases sub x c e with q | q
  ·exact⟨_,(ok.empty x c q).1⟩
  ·obtain⟨v,o,ho,hd⟩:=I.cell x c q
   exact⟨v,o,hk _ _ ho,hd⟩
 ·have e:p=(D,{cls:=.type "list",data:=.seq #[] n0}):=by
   have:p∈([]:List (Addr×Obj))++[(D,{cls:=.type "list",data:=.seq #[] n0})]:=hp
   simpa using this
  subst e
  refine⟨hDo,I.hok.fresh hD,hDC,λz=>?_,λv z=>by cases z⟩
  have z':D∈frs X.stack:=z
  rcases AS.mp (I.stkSub D z')with w | w
  ·exact absurd (AT I.lt hD) (by rw[w];exact DO _)
  ·exact I.nofs hD w
 ·show(l9 cap nl σ).length=Nb.length
  rw[S.len];simp[l9]
end
noncomputable abbrev Cy(ifs:List Expr)(env:Env)(b:Bool):Sem Bool:=forIn ifs b λc r=>if r=true then do let ok <-isTrue c env (eval c env);pure (ForInStep.yield ok)else pure (ForInStep.yield r)
noncomputable def PTs(X:Cx)(ifs:List Expr)(t:TT):Prop :=
 ∀(pins:List (Addr×Obj)) (s:Shared) (σ:St) (H:Hp) (Q:Bool->Hp->Prop),Inv X pins σ H s->t σ H Q->wpAny (model X.prog X.w) X.A (Cy ifs X.env true) (TP X pins σ Q) X.xe s
theorem vh{M:Model}{A:Around}{E:Value->Shared->Prop}{env:Env}{Q:Bool->Shared->Prop}:∀(ifs:List Expr) {s:Shared},Q false s->wpAny M A (Cy ifs env false) Q E s
 | [],s,h=>AO h
 |c::r,s,h=>by
  show wpAny M A (forIn (c::r) false _) Q E s
  rw[II]
  exact AC (AO (vh r h))
noncomputable def tTsNil:TT:=λ_ H Q=>Q true H
noncomputable def S4(t u:TT):TT:=λσ H Q=>t σ H λb H1=>if b=true then u σ H1 Q else Q false H1
theorem S5{X:Cx}:PTs X [] tTsNil:=λpins s σ H Q I h=>AO ⟨H,I,h⟩
theorem N0{X:Cx}{c:Expr}{r:List Expr}{t u:TT}(h1:PT X c t)(h2:PTs X r u):PTs X (c::r) (S4 t u):=λpins s σ H Q I h=>by
 show wpAny _ _ (forIn (c::r) true _) _ _ s
 rw[II]
 refine AC (AC (thn (h1 pins s σ H _ I h) λb s1 ⟨H1,I1,q1⟩=>AO ?_))
 cases b with
 |true=>exact h2 pins s1 σ H1 Q I1 q1
 |false=>exact vh r ⟨H1,I1,q1⟩
noncomputable def Kept(σ σ':St):Prop:=σ.length=σ'.length/\∀(i:Nat) v,σ[i]? = some (some v)->σ'[i]? = some (some v)
noncomputable def S6(wi:TI)(g:TG)(ts:TT)(te:TE)(σb:St->St):TE:=λσ H Q=>wi σ H λJ H1=>∃W:Nat->Nat->Hp->List V->Prop,(∃m,W 0 m H1 [])/\∀i m H acc,W i m H acc ->
 (J.stop i H/\acc.length<=sizeLine/\∀p,H p=none->Q (.ref p) (upd H p (.lst acc))) \/
 (J.go i H/\acc.length<sizeLine/\∀x H',J.yld i H x H'->g x (σb σ) H' λσ2 H2=>Kept (σb σ) σ2/\ts σ2 H2 λb H3=>if b=true then te σ2 H3 λv H4=>∃m',m'<m/\W (i+1) m' H4 (acc++[v])else ∃m',m'<m/\W (i+1) m' H3 acc)
section
variable{X:Cx}{scope:Scope}{Nb:List Str}{cap:List Nat}{nl:Nat}
theorem _root_.L2.HOk.track{P:Program}{w:World}{H:Hp}{h:Heap}{p:Addr}{o:HO}(x:HOk P w H h)(hp:H p=none)(new:jk P w (upd H p o) h p o):HOk P w (upd H p o) h:=λb u e=>by
 by_cases hb:b=p
 ·subst hb;rw[bg]at e;cases e;exact new
 ·rw[a9 hb]at e
  exact(x b u e).stay (λc v _ q=>q) (λc q=>by rw[a9 (cx q hp)];exact q) λc xs q=>by rw[a9 (cx q hp)];exact q
theorem Jh {prog:Program} {w:World} {A:Around} {R:Result->Shared->Prop} {s:Shared} {elt target iter:Expr} {ifs:List Expr} {pos:Pos} {it acc:Value} {env:Env} (I:Nat->Shared->Prop)
  (turn:∀n s,I n s->wpAny (model prog w) A (pyNext it) (λr s₁=>match r with
   |none=>R (.ok .next) s₁
   |some v=>wpAny (model prog w) A (letOwnedTupleGo target it v) (λ_ s₀=>wpAny (model prog w) A (assign target env v) (λ_ s₂ =>
     wpAny (model prog w) A (Cy ifs env true) (λok s₃ =>
      if ok=true then wpAny (model prog w) A (eval elt env) (λx s₄ =>
       wpAny (model prog w) A (call (.builtin "list.append") [acc,x]) (λ_ s₅=>∃m,m<n/\I m s₅) (λ_ _=>False) s₄) (λ_ _=>False) s₃
      else ∃m,m<n/\I m s₃) (λ_ _=>False) s₂) (λ_ _=>False) s₀) (λ_ _=>False) s₁) (λ_ _=>False) s)
  (n:Nat) (h:I n s) :
  codeAny (model prog w) A (.compLoop (.ListComp elt [⟨target,iter,ifs,0⟩] scope pos) 0 it acc env) R s:=by
 refine codeAny_loop rfl I (λn s hI=>?_) n h
 show wpAny _ A ((compTurn (.ListComp elt [⟨target,iter,ifs,0⟩] scope pos) 0 it acc env).onRaise (λx=>do noteFrame x env;theTreesLotGoes x)) _ _ s
 refine wpAny_noted ?_
 rw[compTurn_list]
 have no:∀{α:Type} {t:Sem α} {Q:α->Shared->Prop} {E:Value->Shared->Prop} {s:Shared},wpAny (model prog w) A t Q (λ_ _=>False) s->wpAny (model prog w) A t Q E s:=λh=>DQ h (λ_ _ q=>q) λ_ _ q=>q.elim
 refine AC (wpAny_standAt (AC (DQ (turn n s hI) (λr s₁ h₁=>?_) λ_ _ h'=>h'.elim)))
 cases r with
 |none=>exact AO h₁
 |some v =>
  refine AC (DQ h₁ (λ_ s₀ h₀=>?_) λ_ _ h'=>h'.elim)
  refine AC (DQ h₀ (λ_ s₂ h₂=>AC (DQ h₂ (λok s₃ h₃=>?_) λ_ _ h'=>h'.elim)) λ_ _ h'=>h'.elim)
  cases ok with
  |false=>exact AO ⟨rfl,h₃⟩
  |true =>
   exact AC (AC (DQ h₃ (λx s₄ h₄=>AC (DQ h₄ (λ_ s₅ h₅=>AO (AO ⟨rfl,h₅⟩)) λ_ _ h'=>h'.elim)) λ_ _ h'=>h'.elim))
noncomputable def Cz(X:Cx)(scope:Scope)(Nb:List Str)(target:Expr)(ifs:List Expr)(elt:Expr)(g:TG)(ts:TT)(te:TE):Prop :=
 ∀C s H fp,PG (qq X scope Nb C s H fp) target g/\PTs (qq X scope Nb C s H fp) ifs ts/\PE (qq X scope Nb C s H fp) elt te
theorem yg {elt target iter:Expr} {ifs:List Expr} {pos:Pos} {g:TG} {ts:TT} {te:TE} {pins:List (Addr×Obj)} {σ:St} {H:Hp} {s:Shared} {it:Addr} {fp:List Addr} {tn:Nat->Heap->Prop} {J:L2.It} {Q:VK} {E:Value->Shared->Prop} {use:Option (Value->Sem Unit)} {QQ:Value->Shared->Prop}
  (S:CompScope X.env.scope scope X.N Nb cap nl) (hc:X.calm=true) (B:Cz X scope Nb target ifs elt g ts te) (I:Inv X pins σ H s) (T:Turn X.prog X.w X.K target J fp it tn) (t0:tn 0 s.heap) (hf:∀b∈fp,Hv X pins H b)
  (h:∃W:Nat->Nat->Hp->List V->Prop,(∃m,W 0 m H [])/\∀i m H acc,W i m H acc ->
   (J.stop i H/\acc.length<=sizeLine/\∀p,H p=none->Q (.ref p) (upd H p (.lst acc))) \/
   (J.go i H/\acc.length<sizeLine/\∀x H',J.yld i H x H'->g x (l9 cap nl σ) H' λσ2 H2=>Kept (l9 cap nl σ) σ2/\ts σ2 H2 λb H3=>if b=true then te σ2 H3 λv H4=>∃m',m'<m/\W (i+1) m' H4 (acc++[v])else ∃m',m'<m/\W (i+1) m' H3 acc))
  (hQ:∀(D C:Addr) (s':Shared) m,s.heap.objs.size<=C->(∀h',Heap.SameBut C s'.heap h'->EP X pins σ (λv H=>H C=none/\Q v H) (.ref D) {s' with heap:=h'})->s'.heap.Ns C m->compPost (model X.prog X.w) X.A E use QQ (.ref D) C (.ok .next) s') :
  wpAny (model X.prog X.w) X.A (newList []) (λacc s₃=>wpAny (model X.prog X.w) X.A (newFunctionEnv scope X.env.globals (Ei X.env scope.names []) [] X.env.qual none .none (some X.env)) (λcenv s₄ =>
   codeAny (model X.prog X.w) X.A (.compStart (.ListComp elt [⟨target,iter,ifs,0⟩] scope pos) 0 (.ref it) acc {cenv with scope:=relabel scope X.env}) (compPost (model X.prog X.w) X.A E use QQ acc cenv.locals) s₄) E s₃) E s:=by
 refine EA (Jf λh₁ hns₁ hsb₁ cok=>?_)
 dsimp only at hns₁ hsb₁ cok ⊢
 generalize hH2:s.heap.push {cls:=.type "list",dict:=none,data:=.seq ([]:List Value).toArray}=H2 at hns₁ hsb₁ cok ⊢
 have hC:H2.objs.size=s.heap.objs.size+1:=by rw[<-hH2,FA]
 have hDC:s.heap.objs.size≠H2.objs.size:=by rw[hC];exact BJ (HW _)
 have hCle:s.heap.objs.size<=H2.objs.size:=by rw[hC];exact Nat.le_succ _
 have old:∀b o,s.heap.get? b=some o->h₁.get? b=some o:=λb o e=>hsb₁ b o (hH2 ▸ AH _ e)
 have hDo:h₁.get? s.heap.objs.size=some {cls:=.type "list",data:=.seq #[]}:=hsb₁ _ _ (hH2 ▸ AZ _ rfl)
 have own:∀x c,(x,c)∈cellsFrom (H2.objs.size+1) scope.names []->H2.objs.size<c:=λx c q=>(cok.empty x c q).2
 have hfp:∀b∈fp,∃o,s.heap.get? b=some o:=λb hb=>let ⟨o,e,_⟩:=T.obj 0 _ t0 b hb;⟨o,e⟩
 have hlt:∀b∈fp,b<s.heap.objs.size:=λb hb=>let ⟨o,e⟩:=hfp b hb;AR e
 obtain⟨W,⟨m0,w0⟩,turn⟩:=h
 obtain⟨BG,BT,BE⟩:=B H2.objs.size s H fp
 have I4:=Jg (tk:=s.toks) I S hf hfp old hCle (AK _) hDC hns₁ hDo cok
 have hcells:∀n,(n,NameKind.free)∈scope.names->∃c,X.env.cells.lookup n=some c:=λn hn=>by
  rcases S.free n hn with e | e
  ·exact I.ok.has n (.inl e)
  ·exact I.ok.has n (.inr e)
 -- what the iterator's objects are to the block
 have stat:∀{H':Hp},(∀b∈fp,H' b=none)->∀b∈fp,Hv (qq X scope Nb H2.objs.size s H fp) [] H' b:=λhn b hb=>by
  refine⟨hn b hb,BJ (AT (hlt b hb) hCle),λz=>?_,.inl hb,λx c e=>?_,λp hp=>absurd (show p∈([]:List (Addr×Obj))++[]from hp) (by simp)⟩
  ·rcases AS.mp (I.stkSub b z)with z | z
   ·exact(hf b hb).2.1 z
   ·exact(hf b hb).2.2.1 z
  ·rcases Cw hcells e with q | q
   ·exact ER (Nat.lt_trans (AT (hlt b hb) hCle) (own x c q))
   ·exact(hf b hb).2.2.2.2.1 x c q
 have loop:∀s₃:Shared,s₃={s with heap:=h₁} ->
   codeAny (model X.prog X.w) X.A (.compLoop (.ListComp elt [⟨target,iter,ifs,0⟩] scope pos) 0 (.ref it) (.ref s.heap.objs.size) (compEnvC scope (Je X.env scope H2.objs.size) H2.objs.size X.env))
    (compPost (model X.prog X.w) X.A E use QQ (.ref s.heap.objs.size) H2.objs.size) s₃:=by
  rintro s₃ rfl
  refine Jh (λn s'=>∃i H' acc its n',Inv (qq X scope Nb H2.objs.size s H fp) [] (l9 cap nl σ) H' s'/\tn i s'.heap/\(∀b∈fp,H' b=none)/\H' s.heap.objs.size=none /\
   s'.heap.get? s.heap.objs.size=some {cls:=.type "list",data:=.seq (its:List Value).toArray n'}/\c9 acc its/\W i n H' acc) ?_ m0
   ⟨0,H,[],[],_,I4.pins_of (λp hp=>absurd hp (by simp)),T.keep _ _ _ t0 λb hb o e=>old b o e,λb hb=>(hf b hb).1,I.hok.fresh (AK _),hDo,.nil,w0⟩
  rintro n s5 ⟨i,H5,acc,its,n5,I5,t5,f5,hD5,hget5,hv5,w5⟩
  rcases turn i n H5 acc w5 with⟨stop,hz,q⟩ | ⟨go,hz,q⟩
  ·refine thn (T.done (qq X scope Nb H2.objs.size s H fp) rfl rfl rfl hc i [(s.heap.objs.size,{cls:=.type "list",data:=.seq its.toArray n5})] s5 _ H5 _ (I5.pins_of ?_) ?_ t5 stop) λr s6 ⟨hr,I6⟩=>?_
   ·intro p hp
    have e:p=(s.heap.objs.size,{cls:=.type "list",data:=.seq its.toArray n5}):=by simpa using hp
    subst e
    refine⟨hget5,hD5,hDC,λz=>?_,λv z=>by cases z⟩
    rcases AS.mp (I.stkSub _ (show s.heap.objs.size∈frs X.stack from z))with w | w
    ·exact absurd I.lt (by rw[<-w];exact DO _)
    ·exact I.nofs (AK _) w
   ·intro b hb
    obtain⟨a1,a2,a3,a4,a5,a6⟩:=stat f5 b hb
    refine⟨a1,a2,a3,a4,a5,λp hp=>?_⟩
    have e:p=(s.heap.objs.size,{cls:=.type "list",data:=.seq its.toArray n5}):=by
     have:p∈([]:List (Addr×Obj))++[(s.heap.objs.size,{cls:=.type "list",data:=.seq its.toArray n5})]:=hp
     simpa using this
    subst e
    exact λz=>absurd (hlt b hb) (by rw[<-z];exact DO _)
   ·subst hr
    have hget6:=(I6.pin (s.heap.objs.size,{cls:=.type "list",data:=.seq its.toArray n5}) (by show _∈([]:List (Addr×Obj))++_;simp)).1
    obtain⟨m6,hn6,_⟩:=I6.loc
    refine hQ _ _ s6 m6 hCle (λh' hs'=>?_) hn6
    have hk6:∀b o,b≠H2.objs.size->s6.heap.get? b=some o->h'.get? b=some o:=λb o hb e=>hs'.extBut b o hb e
    have hgetD:=hk6 _ _ hDC hget6
    have Cn:H5 H2.objs.size=none:=I6.free
    have hok':HOk X.prog X.w H5 h':=λb u e=>by
     refine(I6.hok b u e).stay (λc v hcc q=>hk6 c v ?_ q) (λ_ q=>q) λ_ _ q=>q
     rcases hcc with z | z
     ·rintro rfl;rw[<-z]at e;rw[Cn]at e;cases e
     ·rintro rfl;rw[Cn]at z;cases z
    refine⟨.ref s.heap.objs.size,upd H5 s.heap.objs.size (.lst acc),?_,rfl,by rw[a9 (Ne.symm hDC)];exact Cn,q _ hD5⟩
    have hU:Un (frs X.stack) fp H H5 s.heap s6.heap:=I6.base
    have nC:∀b o,s.heap.get? b=some o->b≠H2.objs.size:=λb o e=>BJ (AT (AR e) hCle)
    have nD:∀b o,s.heap.get? b=some o->b≠s.heap.objs.size:=λb o e=>BJ (AR e)
    refine I.call' (s':={s6 with heap:=h'}) (ch:=fp) (by show s6.os=s.os;exact I6.os) ⟨λb o e nn hb hx=>hk6 b o (nC b o e) (hU.keep b o e nn hb hx),λb o e nn hb hx=>?_,λb o e nn hx=>?_,λb o e hx=>?_,λb xs e=>?_,λb o u e=>?_,λb ps e=>?_⟩ ?_ I6.bare ?_
    ·obtain⟨sl,e2⟩:=hU.slot b o e nn hb hx
     exact⟨sl,hk6 b _ (nC b o e) e2⟩
    ·rw[a9 (nD b o e)];exact hU.free b o e nn hx
    ·obtain⟨o',e2⟩:=hU.there b o e hx
     exact⟨o',hk6 b _ (nC b o e) e2⟩
    ·have e2:=hU.tups b xs e
     rw[a9 (cx e2 hD5)];exact e2
    ·have e2:=hU.frzs b o u e
     rw[a9 (cx e2 hD5)];exact e2
    ·obtain⟨more,e2⟩:=hU.tbls b ps e
     exact⟨more,by rw[a9 (cx e2 hD5)];exact e2⟩
    ·exact L2.HOk.track hok' hD5 ⟨hz,its,n5,hv5,hgetD⟩
    ·intro b hb
     obtain⟨a1,a2,a3,a4,a5,a6⟩:=hf b hb
     exact⟨a4,a2,a5,a6⟩
  ·-- one more turn
   have notfs:s.heap.objs.size∉frs X.stack:=λz=>by
    rcases AS.mp (I.stkSub _ z)with w | w
    ·exact absurd I.lt (by rw[<-w];exact DO _)
    ·exact I.nofs (AK _) w
   have I5':Inv (qq X scope Nb H2.objs.size s H fp) [(s.heap.objs.size,{cls:=.type "list",data:=.seq its.toArray n5})] (l9 cap nl σ) H5 s5:=I5.pins_of λp hp=>by
    have e:p=(s.heap.objs.size,{cls:=.type "list",data:=.seq its.toArray n5}):=by simpa using hp
    subst e
    exact⟨hget5,hD5,hDC,notfs,λv z=>by cases z⟩
   have stat':∀{H':Hp},(∀b∈fp,H' b=none)->∀b∈fp,Hv (qq X scope Nb H2.objs.size s H fp) [(s.heap.objs.size,{cls:=.type "list",data:=.seq its.toArray n5})] H' b:=λhn b hb=>by
    obtain⟨a1,a2,a3,a4,a5,a6⟩:=stat hn b hb
    refine⟨a1,a2,a3,a4,a5,λp hp=>?_⟩
    have e:p=(s.heap.objs.size,{cls:=.type "list",data:=.seq its.toArray n5}):=by
     have:p∈([]:List (Addr×Obj))++[(s.heap.objs.size,{cls:=.type "list",data:=.seq its.toArray n5})]:=hp
     simpa using this
    subst e
    exact λz=>absurd (hlt b hb) (by rw[<-z];exact DO _)
   refine thn (T.item (qq X scope Nb H2.objs.size s H fp) rfl rfl rfl hc i _ s5 _ H5 (λ_ _=>False) I5' (stat' f5) t5 go) λr s6 ⟨u,hr,h6⟩=>?_
   subst hr
   refine thn h6 λ_ s7 ⟨x,H7,I7,r7,y7,t7,f7⟩=>?_
   have I7':=I7.pinned (stat' f7) (T.obj _ _ t7)
   have back:∀{σ':St} {H':Hp} {s':Shared},Inv (qq X scope Nb H2.objs.size s H fp) ([(s.heap.objs.size,{cls:=.type "list",data:=.seq its.toArray n5})]++Ap fp s7.heap) σ' H' s' ->
     tn (i+1) s'.heap/\(∀b∈fp,H' b=none)/\H' s.heap.objs.size=none/\s'.heap.get? s.heap.objs.size=some {cls:=.type "list",data:=.seq its.toArray n5}:=λ{σ' H' s'} J'=>by
    have pD:=J'.pin (s.heap.objs.size,{cls:=.type "list",data:=.seq its.toArray n5}) (by show _∈([]:List (Addr×Obj))++_;simp)
    refine⟨T.keep _ _ _ t7 λb hb o e=>(J'.pin (b,o) (CG _ (CG _ (ph hb e)))).1,λb hb=>?_,pD.2.1,pD.1⟩
    obtain⟨o,e,d⟩:=T.obj _ _ t7 b hb
    exact(J'.pin (b,o) (CG _ (CG _ (ph hb e)))).2.1
   refine thn (BG _ s7 _ H7 x u _ I7' r7 (q x H7 y7)) λ_ s8 ⟨σ8,H8,I8,ks,q8⟩=>?_
   refine thn (BT _ s8 σ8 H8 _ I8 q8) λok s9 ⟨H9,I9,q9⟩=>?_
   cases ok with
   |false =>
    obtain⟨m',hm',w9⟩:∃m',m'<n/\W (i+1) m' H9 acc:=q9
    obtain⟨b1,b2,b3,b4⟩:=back I9
    exact⟨m',hm',i+1,H9,acc,its,n5,(I9.weak ks.1 ks.2).pins_of (λp hp=>absurd hp (by simp)),b1,b2,b3,b4,hv5,w9⟩
   |true =>
    refine thn (BE _ s9 σ8 H9 _ I9 q9) λxv s10 ⟨v,H10,I10,r10,m',hm',w10⟩=>?_
    obtain⟨b1,b2,b3,b4⟩:=back I10
    have hl5:=hv5.length
    refine wpAny_list_append_plain (items:=its.toArray) ⟨n5,b4⟩ (λh' hpl hs'=>?_) (by rw[AJ,<-hl5];exact CP hz)
    obtain⟨n6,hg6⟩:=hpl
    have I11:Inv (qq X scope Nb H2.objs.size s H fp) [] (l9 cap nl σ) H10 {s10 with heap:=h'}:=by
     have I10':=(I10.weak ks.1 ks.2).pins_of (pins':=[]) (λp hp=>absurd hp (by simp))
     refine I10'.turned (t':=s10.toks) (it:=s.heap.objs.size) (λb o hb e=>hs'.extBut b o hb e) b3 hDC (.inr (AK _)) (λx c e=>?_) (λp hp=>absurd (show p∈([]:List (Addr×Obj))++[]from hp) (by simp))
     rcases Cw hcells e with q | q
     ·exact ER (Nat.lt_of_le_of_lt hCle (own x c q))
     ·obtain⟨v,hcc⟩:=I.cell x c q
      exact BJ hcc.lt
    refine⟨m',hm',i+1,H10,acc++[v],its++[xv],n6,I11,?_,b2,b3,by rw[hg6];simp,hv5.append (.cons r10 .nil),w10⟩
    exact T.keep _ _ _ b1 λb hb o e=>hs'.extBut b o (BJ (hlt b hb)) e
 exact codeAny_compStart_list (loop _ rfl) (T.self X.A 0 _ _ _ (T.keep _ _ _ t0 λb hb o e=>old b o e) (loop _ rfl))
theorem S7 {elt target iter:Expr} {ifs:List Expr} {pos:Pos} {wi:TI} {g:TG} {ts:TT} {te:TE} (S:CompScope X.env.scope scope X.N Nb cap nl) (hc:X.calm=true) (hi:PI X target iter wi) (B:Cz X scope Nb target ifs elt g ts te)
  (hs:∀x,foldedSetIterable iter X.env x=pure x):PE X (.ListComp elt [⟨target,iter,ifs,0⟩] scope pos) (S6 wi g ts te (l9 cap nl)):=by
 intro pins s σ H Q I h
 rw[eval_ListComp]
 have hcells:∀n,(n,NameKind.free)∈scope.names->∃c,X.env.cells.lookup n=some c:=λn hn=>by
  rcases S.free n hn with e | e
  ·exact I.ok.has n (.inl e)
  ·exact I.ok.has n (.inr e)
 refine wpAny_comprehension_free (use:=none) rfl hs (yf hcells) S.kind (λy hy hl=>by rw[S.uniq y hy,hl]) ?_
 refine thn (hi pins s σ H _ I h) λv s1 h1=>thn h1 λitv s2 ⟨it,fp,tn,J,H2,e,I2,T,t2,f2,hW⟩=>?_
 subst e
 exact yg (Q:=Q) (QQ:=EP X pins σ Q) S hc B I2 T t2 f2 hW λD C s' m _ hq hn=>⟨m,hn,λh' hs'=>let ⟨v,H',I',r,q⟩:=hq h' hs';⟨v,H',I',r,q.2⟩⟩
theorem Gy {elt target iter:Expr} {ifs:List Expr} {pos spos py:Pos} {y:Str} {i:Nat} {wi:TI} {g:TG} {ts:TT} {te:TE} (S:CompScope X.env.scope scope X.N Nb cap nl) (hc:X.calm=true) (hi:PI X target iter wi) (B:Cz X scope Nb target ifs elt g ts te)
  (hs:∀x,foldedSetIterable iter X.env x=pure x) (hsw:swapsWith (.ListComp elt [⟨target,iter,ifs,0⟩] scope pos) (some (.Name y py)) spos.line X.env=pure true)
  (hN:X.N.Nodup) (hiN:X.N[i]? = some y) (hy:X.env.scope.names.lookup y=some .local) :
  PS X (.Assign [.Name y py] (.ListComp elt [⟨target,iter,ifs,0⟩] scope pos) spos) (λE σ H=>S6 wi g ts te (l9 cap nl) σ H (FQ λv H1=>E.nx (σ.set i (some v)) H1)):=by
 intro pins s σ H E I h
 rw[exec_Assign_Name_used _ _ _ _ hsw]
 have hcells:∀n,(n,NameKind.free)∈scope.names->∃c,X.env.cells.lookup n=some c:=λn hn=>by
  rcases S.free n hn with e | e
  ·exact I.ok.has n (.inl e)
  ·exact I.ok.has n (.inr e)
 refine AC (wpAny_standAt (AC ?_))
 show wpAny _ _ (comprehension _ scope X.env _ (newList []) false (eval iter X.env) (some (assign (.Name y py) X.env))>>=λ_=>pure ()) _ _ _
 refine AC (wpAny_comprehension_free (use:=some (assign (.Name y py) X.env)) rfl hs (yf hcells) S.kind (λz hz hl=>by rw[S.uniq z hz,hl]) ?_)
 refine thn (hi pins s σ H _ I h) λv s1 h1=>thn h1 λitv s2 ⟨it,fp,tn,J,H2,e,I2,T,t2,f2,hW⟩=>?_
 subst e
 refine yg (Q:=FQ λv H1=>E.nx (σ.set i (some v)) H1) S hc B I2 T t2 f2 hW λD C s' m hC hq hn=>?_
 obtain⟨v,H',I',r,hCn,q⟩:=hq s'.heap (.refl ..)
 have hep:∃H',Inv X pins σ H' s'/\H' C=none/\E.nx (σ.set i (some v)) H':=by
  rcases q with q | ⟨p,xs,rfl,e,q⟩
  ·exact⟨H',I',hCn,q⟩
  ·obtain⟨o,I''⟩:=L2.Inv.freeze I' e
   exact⟨_,I'',by rw[a9 (λz=>by rw[z,e]at hCn;cases hCn)];exact hCn,q o⟩
 obtain⟨H',I',hCn,q⟩:=hep
 have hCL:C≠X.env.locals:=ER (AT I2.lt hC)
 show wpAny _ _ (assign (.Name y py) X.env (.ref D)) _ _ s'
 refine wpAny_assign_Name (Ao I' hN hiN (.inl hy) r (λs'' I'' ⟨a,hsb,ha⟩=>?_) (.inr hy))
 have haC:C≠a:=by
  rcases ha with z | z
  ·rw[z];exact hCL
  ·obtain⟨w,hc⟩:=I2.cell y a z
   exact ER (AT hc.lt hC)
 refine⟨m,hn.sameBut hsb haC,λh' hs'=>?_⟩
 refine AO (AO ⟨_,H',?_,q⟩)
 refine I''.turned (t':=s''.toks) (it:=C) (λb o hb e=>hs'.extBut b o hb e) hCn hCL (.inr (BC I2.sz hC)) (λx c e=>?_) (λp hp=>?_)
 ·obtain⟨w,hc⟩:=I2.cell x c e
  exact BJ (AT hc.lt hC)
 ·exact BJ (AT (AR (I2.pin p hp).1) hC)
end
noncomputable def tTs(K:PySem.W.Frag)(φ:Phi)(x:Exs):TT:=λσv H Q=>∃ι σ μ,Sim K ι H μ/\se K ι H σ σv/\ij K RB ι H (Gw φ x σ μ) Q
section
variable{X:Cx}{φ:Phi}{scope:Scope}{Nb:List Str}{cap:List Nat}{nl:Nat}
theorem PTs.imp{ifs:List Expr}{t t':TT}(h:PTs X ifs t)(i:∀σ H Q,t' σ H Q->t σ H Q):PTs X ifs t':=λpins s σ H Q I q=>h pins s σ H Q I (i σ H Q q)
theorem W2:PTs X [] (tTs X.K φ .nil):=PTs.imp S5 λσv H Q ⟨ι,σ,μ,hS,hL,h⟩=>by
 simp![Gw]at h
 exact h.ok hS rfl
theorem S8{c:Expr}{r:List Expr}{xc:Ex}{xr:Exs}(h1:PT X c (tT X.K φ xc))(h2:PTs X r (tTs X.K φ xr)):PTs X (c::r) (tTs X.K φ (.cons xc xr)):=PTs.imp (N0 h1 h2) λσv H Q ⟨ι,σ,μ,hS,hL,h⟩=>by
 simp![Gw]at h
 obtain⟨d,μ1,e1,h⟩:=h.bind
 refine⟨ι,σ,μ,hS,hL,?_⟩
 rw[e1]
 cases d with
 |bl k =>
  intro ι1 x H1 p1 x1 s1 d1
  cases d1
  cases k with
  |true=>exact⟨ι1,σ,μ1,s1,hL.mono p1 x1,(show ij _ _ _ _ (Gw φ xr σ μ1) _ from h).mono p1 x1⟩
  |false=>exact h ι1 false H1 p1 x1 s1 rfl
 |_=>exact h.elim
theorem N1{K:PySem.W.Frag}{ι:List Addr}{H:Hp}{σ:Sl}{σv:St}(hL:se K ι H σ σv):se K ι H (cap.map (λi=>(σ[i]?).getD none)++List.replicate nl none) (l9 cap nl σv):=λj d e=>by
 by_cases hj:j<cap.length
 ·rw[AN (by simpa using hj),AV,AA hj]at e
  simp![DV,BX]at e
  have e4:σ[cap[j]]? = some (some d):=by
   cases e5:σ[cap[j]]? with
   |none=>rw[e5]at e;cases e
   |some w=>rw[e5]at e;simp at e;rw[e]
  obtain⟨v,q1,q2⟩:=hL _ _ e4
  refine⟨v,?_,q2⟩
  unfold l9
  rw[AN (by simpa using hj),AV,AA hj]
  simp[q1]
 ·rw[BO (by simpa using hj),Ev]at e
  split at e<;>cases e
theorem N2{σv σv':St}{tg:Tg}(hs:∀j∈slots tg,cap.length<=j)(hl:σv'.length=(l9 cap nl σv).length)(h:∀j,j∉slots tg->σv'[j]? = (l9 cap nl σv)[j]?):Kept (l9 cap nl σv) σv':=by
 refine⟨hl.symm,λi v e=>?_⟩
 have hi:i<cap.length:=by
  by_cases hi:i<cap.length
  ·exact hi
  ·unfold l9 at e
   rw[BO (by simpa using hi),Ev]at e
   split at e<;>cases e
 rw[h i λz=>absurd (hs i z) (by lia)]
 exact e
theorem A9{m:Mk}{tg:Tg}{it:It}{cs:Exs}{elt:Ex}{σv:St}{H:Hp}{Q:VK}(hs:∀j∈slots tg,cap.length<=j)(h:tE X.K φ (.comp m cap nl tg it cs elt) σv H Q) :
  S6 (tI X.K φ it) (tG X.K tg) (tTs X.K φ cs) (tE X.K φ elt) (l9 cap nl) σv H (FQ Q):=by
 obtain⟨ι,σ,μ,hS,hL,h⟩:=h
 simp![evE]at h
 obtain⟨⟨ds,g⟩,μ1,e1,h⟩:=h.bind
 refine⟨ι,σ,μ,hS,hL,?_⟩
 rw[e1]
 intro ι1 H1 J p1 x1 s1 wk
 refine⟨λi k H' acc=>k=ds.length-i/\i<=ds.length/\acc.length<=i/\∃ι' μ' ys,ι1 <+: ι'/\Ext H1 H'/\Sim X.K ι' H' μ'/\ak X.K ι' H' ys acc /\
  ij X.K (RD X.K) ι' H' ((mapR g (λd μ=>ot (iz tg d (cap.map (λi=>(σ[i]?).getD none)++List.replicate nl none)) λσ' =>
    (Gw φ cs σ' μ).bind λb μ=>if b=true then(evE φ elt σ' μ).bind λx μ=>.ok [x] μ else .ok [] μ) (ds.drop i) μ').bind λxs μ=>mkL m (ys++xs) μ) Q,
  ⟨ds.length,by simp,EF _,AK _,ι1,μ1,[],AE _,.refl _,s1,by simp[ak],?_⟩,?_⟩
 ·simpa using h.mono p1 x1
 ·rintro i k H' acc ⟨rfl,hi,hacc,ι',μ',ys,p',x',s',hys,h'⟩
  have wl:=wk.len
  by_cases hlt:i<ds.length
  ·obtain⟨d,ed⟩:∃d,ds[i]? = some d:=⟨ds[i],AA hlt⟩
   have edrop:ds.drop i=d::ds.drop (i+1):=by
    rw[DW hlt]
    rw[AA hlt]at ed
    cases ed;rfl
   rw[edrop]at h'
   simp![mapR]at h'
   split at h'
   ·rename_i hgd
    right
    refine⟨wk.go i ι' H' μ' p' x' s' hgd hlt,by lia,λv H2 hy=>?_⟩
    obtain⟨x2,s2,d',ed',hd'⟩:=wk.yld i ι' H' μ' v H2 p' x' s' hgd hlt hy
    rw[ed]at ed';cases ed'
    rw[Res.bind_assoc]at h'
    cases eb:iz tg d (cap.map (λi=>(σ[i]?).getD none)++List.replicate nl none)with
    |none=>rw[eb]at h';exact h'.elim
    |some σb =>
     rw[eb]at h'
     simp![qo]at h'
     have hLb:=N1 (cap:=cap) (nl:=nl) ((hL.mono (p1.trans p') (x1.trans x')).mono (AE _) x2)
     refine⟨ι',_,d,σb,hLb,?_,hd',eb,λσv2 l2 z2 z3 k2=>⟨N2 hs z3 k2,ι',σb,μ',s2,l2,?_⟩⟩
     ·simp[l9]
     ·rw[Res.bind_assoc]at h'
      obtain⟨b,μ2,e2,h2⟩:=h'.bind
      rw[e2]
      intro ι3 b' H3 p3 x3 s3 d3
      cases d3
      cases b with
      |false =>
       refine⟨ds.length-(i+1),by lia,rfl,hlt,by lia,ι3,μ2,ys,p'.trans p3,(x'.trans x2).trans x3,s3,ak.mono p3 (x2.trans x3) _ _ hys,?_⟩
       have h3:=h2.mono p3 (x2.trans x3)
       simpa[Res.bind_assoc]using h3
      |true =>
       simp![if_true]at h2 ⊢
       rw[Res.bind_assoc]at h2
       obtain⟨y,μ3,e3,h3⟩:=h2.bind
       refine⟨ι3,σb,μ2,s3,l2.mono p3 x3,?_⟩
       rw[e3]
       intro ι4 w H4 p4 x4 s4 d4
       refine⟨ds.length-(i+1),by lia,rfl,hlt,by simp;lia,ι4,μ3,ys++[y],(p'.trans p3).trans p4,((x'.trans x2).trans x3).trans x4,s4,(ak.mono (p3.trans p4) ((x2.trans x3).trans x4) _ _ hys).append (.one d4),?_⟩
       have h4:=h3.mono (p3.trans p4) ((x2.trans x3).trans x4)
       simpa[Res.bind_assoc]using h4
   ·exact h'.elim
  ·have ei:i=ds.length:=by lia
   subst ei
   simp![GO,mapR]at h'
   split at h'
   ·rename_i hgd
    refine .inl ⟨wk.stop ι' H' μ' p' x' s' hgd,by lia,λp hp=>qp s' hys (by simpa using h') hp⟩
   ·exact h'.elim
theorem W3 {e target iter:Expr} {ifs:List Expr} {pos:Pos} {m:Mk} {tg:Tg} {it:It} {cs:Exs} {elt:Ex} (S:CompScope X.env.scope scope X.N Nb cap nl) (hc:X.calm=true) (hi:PI X target iter (tI X.K φ it))
  (B:Cz X scope Nb target ifs e (tG X.K tg) (tTs X.K φ cs) (tE X.K φ elt)) (hf:∀x,foldedSetIterable iter X.env x=pure x) (hs:∀j∈slots tg,cap.length<=j) :
  PE X (.ListComp e [⟨target,iter,ifs,0⟩] scope pos) (tE X.K φ (.comp m cap nl tg it cs elt)) :=
 PE.imp (PE.fq (S7 S hc hi B hf)) λσv H Q h=>A9 hs h
theorem Ji {e target iter:Expr} {ifs:List Expr} {pos spos py:Pos} {y:Str} {i:Nat} {m:Mk} {tg:Tg} {it:It} {cs:Exs} {elt:Ex} (S:CompScope X.env.scope scope X.N Nb cap nl) (hc:X.calm=true) (hi:PI X target iter (tI X.K φ it))
  (B:Cz X scope Nb target ifs e (tG X.K tg) (tTs X.K φ cs) (tE X.K φ elt)) (hf:∀x,foldedSetIterable iter X.env x=pure x) (hs:∀j∈slots tg,cap.length<=j)
  (hsw:swapsWith (.ListComp e [⟨target,iter,ifs,0⟩] scope pos) (some (.Name y py)) spos.line X.env=pure true) (hN:X.N.Nodup) (hiN:X.N[i]? = some y) (hy:X.env.scope.names.lookup y=some .local) :
  PS X (.Assign [.Name y py] (.ListComp e [⟨target,iter,ifs,0⟩] scope pos) spos) (tS X.K φ (.set i (.comp m cap nl tg it cs elt))) :=
 PS.imp (Gy S hc hi B hf hsw hN hiN hy) λE σv H ⟨ι,σ,μ,hS,hL,hl,h⟩=>by
  refine A9 (m:=m) (Q:=λv H1=>E.nx (σv.set i (some v)) H1) hs ?_
  simp![evS]at h
  obtain⟨d,μ1,e1,h⟩:=h.bind
  refine⟨ι,σ,μ,hS,hL,?_⟩
  rw[e1]
  exact λι1 v H1 p1 x1 s1 d1=>h ι1 _ H1 p1 x1 s1 ((hL.mono p1 x1).set hl d1) (by simp[hl])
end
theorem S9(i:Int)(h:0<=i):Builtin.bitXor i 1=if i % 2=0 then i+1 else i-1:=by
 rw[PyProof.Rows.bitXor_and,PyProof.Rows.bitAnd_m1]
 split<;>lia
section
variable{X:Cx}{φ:Phi}
theorem gg{K:PySem.W.Frag}{ι:List Addr}{H:Hp}{ds:List D}{v:V}(h:IsD K ι H (.tup ds) v):∃a xs,v=.ref a/\SqT K H a xs/\ak K ι H ds xs:=by
 simpa[IsD]using h
theorem tup_is{K:PySem.W.Frag}{ι:List Addr}{H:Hp}{ds:List D}{a:Addr}{xs:List V}(h:SqT K H a xs)(h2:ak K ι H ds xs):IsD K ι H (.tup ds) (.ref a):=by
 simp![IsD]
 exact⟨a,xs,rfl,h,h2⟩
theorem di{K:PySem.W.Frag}{ι:List Addr}{H:Hp}{i:Int}{v:V}(h:IsD K ι H (.int i) v):v=.int i:=by simpa[IsD]using h
theorem C0{K:PySem.W.Frag}{ι:List Addr}{H:Hp}{i:Bool}{v:V}(h:IsD K ι H (.bl i) v):v=.bl i:=by simpa[IsD]using h
theorem y6{K:PySem.W.Frag}{ι:List Addr}{H:Hp}{μ:Sto}{ds:List D}{xs:List V}{Q:VK}{p:Addr}(hS:Sim K ι H μ)(hd:ak K ι H ds xs)(h:ij K (RD K) ι H (.ok (.tup ds) μ) Q)(hp:H p=none):Q (.ref p) (upd H p (.tup xs)) :=
 h ι (.ref p) _ (AE _) (.new hp) (hS.new hp) (tup_is (.of bg) (ak.mono (AE _) (.new hp) ds xs hd))
theorem Jj {pins:List (Addr×Obj)} {s:Shared} {σ:St} {H:Hp} {l b:Addr} {xs zs:List V} {Q:VK} (I:Inv X pins σ H s) (hl:LsL X.K H l xs) (hb:LsL X.K H b zs) (hz:xs.length+zs.length<=sizeLine)
  (q:∀p,H p=none->Q (.ref p) (upd H p (.lst (xs++zs)))):wpAny (model X.prog X.w) X.A (binaryOp .Add (.ref l) (.ref b)) (EP X pins σ Q) X.xe s:=by
 obtain⟨z,its,n,r,hl,e⟩:=I.ls hl
 obtain⟨z2,its2,n2,r2,hl2,e2⟩:=I.ls hb
 refine PySem.P.add_list e e2 ?_ (by rw[AJ,AJ];lia)
 have ea:its.toArray++its2.toArray=(its++its2).toArray:=by simp
 rw[ea]
 exact⟨.ref _,_,I.lnew (t':=s.toks) (r.append r2) (by rw[AQ];lia),rfl,q _ I.fresh⟩
theorem N3 {pins:List (Addr×Obj)} {s:Shared} {σ:St} {H:Hp} {l:Addr} {k:Int} {t:Tok} {xs:List V} {Q:VK} (I:Inv X pins σ H s) (hH:LsL X.K H l xs) (h1:-(2 ^ 63)<=k) (h2:k<2 ^ 63) (hz:xs.length*k.toNat<=sizeLine)
  (q:∀p,H p=none->Q (.ref p) (upd H p (.lst (List.replicate k.toNat xs).flatten))):wpAny (model X.prog X.w) X.A (binaryOp .Mult (.ref l) (.int k t)) (EP X pins σ Q) X.xe s:=by
 obtain⟨z,its,n,r,hl,e⟩:=I.ls hH
 have hlen:its.toArray.size*k.toNat<=sizeLine:=by rw[AJ,<-hl];exact hz
 have hcap:¬its.toArray.size*k.toNat > (2 ^ 63-1) / 8:=by
  have:(sizeLine:Nat)<=(2 ^ 63-1) / 8:=by decide
  lia
 have hfit:¬(!Builtin.List.listFitsIndex k)=true:=by
  rw[fitsIndex_both h1 h2]
  exact BP
 have hlong:¬Builtin.List.listTooLong (its.toArray.size*k.toNat)=true:=by
  rw[Ee hlen]
  exact BP
 have hnew:List.foldl (λx1 x2=>x1++x2) #[] (List.replicate (if its.toArray.isEmpty=true then 0 else k.toNat) its.toArray)=(List.replicate k.toNat its).flatten.toArray:=by
  have f0:∀m:Nat,List.foldl (λx1 x2=>x1++x2) #[] (List.replicate m its.toArray)=(List.replicate m its).flatten.toArray:=λm=>by
   have:=foldl_rep its m []
   rw[ED]at this
   exact this
  rw[f0]
  cases its with
  |nil=>simp
  |cons a r'=>rw[if_neg (by simp)]
 refine wpAny_binaryOp_repeat_ref (T:="list") (U:="int") (by decide) ⟨_,e,rfl⟩ (λs'=>typeIs_int s' k t) noFill_list_mul F.fills_int_mul F.slot_int_rmul repeat_list F.slot_int_index.lookup
  (call_meets F.slot_int_rmul (typeIs_int s k t) F.entry_int_rmul (F.args_int_rmul_2 _ _) (int___rmul___int_list k t l its.toArray n)
   ⟨e,rfl,⟨_,e,rfl⟩,call_meets F.slot_list_mul ⟨_,e,rfl⟩ F.entry_list_mul (F.args_list_mul_2 _ _) (AutoListH.list___mul___list_int_3 l its.toArray n k t hfit hcap hlong) ⟨e,?_⟩⟩)
 rw[hnew]
 exact⟨.ref _,_,I.lnew (t':=s.toks) (r.rep k.toNat) (by rw[len_rep,Nat.mul_comm];exact hz),rfl,q _ I.fresh⟩
theorem Ta{pins:List (Addr×Obj)}{s:Shared}{σ:St}{H:Hp}{a b:Addr}{ys:List V}{Q:VK}(I:Inv X pins σ H s)(ha:SqT X.K H a [])(hb:SqT X.K H b ys)(q:Q (.ref b) H) :
  wpAny (model X.prog X.w) X.A (binaryOp .Add (.ref a) (.ref b)) (EP X pins σ Q) X.xe s:=by
 obtain⟨its,r1,p1,_⟩:=I.tuple ha
 obtain⟨its2,r2,p2,_⟩:=I.tuple hb
 have e1:its=[]:=by cases r1;rfl
 subst e1
 obtain⟨⟨cls,dd,data,sl⟩,ho,hc,n,hd⟩:=id p1
 obtain⟨⟨cls2,dd2,data2,sl2⟩,ho2,hc2,n2,hd2⟩:=id p2
 simp only at hc hd hc2 hd2
 subst hc hd hc2 hd2
 exact concat_meets ⟨_,ho,rfl⟩ ⟨_,ho2,rfl⟩ HS seq_tuple_add GJ GH (GB _ _)
   (tuple_addW0 a b ([]:List Value).toArray its2.toArray n n2 dd dd2 sl sl2 (by simp)) ⟨ho,ho2,⟨.ref b,H,I,rfl,q⟩⟩
theorem bin_ok{op:Operator}{m:Mk}:OpR X (binaryOp op) (rOp X.K (opD op m)):=by
 intro pins s σ H x y v u Q I rx ry ⟨ι,d,e,μ,hS,hd,he,h⟩
 unfold opD at h
 split at h
 ·rename_i i j
  cases di hd
  cases di he
  unfold opI at h
  split at h
  ·exact op_add pins s σ H _ _ v u Q I rx ry ⟨i,j,rfl,rfl,h.ok hS (by simp[IsD])⟩
  ·exact op_sub pins s σ H _ _ v u Q I rx ry ⟨i,j,rfl,rfl,h.ok hS (by simp[IsD])⟩
  ·split at h
   ·rename_i hc
    exact op_mul pins s σ H _ _ v u Q I rx ry ⟨i,j,rfl,rfl,hc,h.ok hS (by simp[IsD])⟩
   ·exact h.elim
  ·split at h
   ·rename_i hc
    exact R5 pins s σ H _ _ v u Q I rx ry ⟨i,j,rfl,rfl,hc,h.ok hS (by simp[IsD])⟩
   ·exact h.elim
  ·split at h
   ·rename_i hc
    exact op_mod pins s σ H _ _ v u Q I rx ry ⟨i,j,rfl,rfl,hc,h.ok hS (by simp[IsD])⟩
   ·exact h.elim
  ·split at h
   ·rename_i hc
    exact op_pow pins s σ H _ _ v u Q I rx ry ⟨i,j,rfl,rfl,hc,h.ok hS (by simp[IsD])⟩
   ·exact h.elim
  ·split at h
   ·rename_i hc
    exact op_shr pins s σ H _ _ v u Q I rx ry ⟨i,j,rfl,rfl,hc,h.ok hS (by simp[IsD])⟩
   ·exact h.elim
  ·split at h
   ·rename_i hc
    exact Vt pins s σ H _ _ v u Q I rx ry ⟨i,j,rfl,rfl,hc,h.ok hS (by simp[IsD])⟩
   ·exact h.elim
  ·split at h
   ·rename_i hc
    obtain⟨h0,rfl⟩:=hc
    refine Vu pins s σ H _ _ v u Q I rx ry ⟨i,1,rfl,rfl,?_⟩
    show Q (.int (Builtin.bitXor i 1)) H
    rw[S9 i h0]
    exact h.ok hS (by simp[IsD])
   ·exact h.elim
  ·exact h.elim
 ·rename_i xs ys
  split at h
  ·split at h
   ·rename_i hz
    obtain⟨a,vs,rfl,ha,hvs⟩:=gg hd
    obtain⟨b,ws,rfl,hb,hws⟩:=gg he
    cases rx
    cases ry
    rw[g8]at hz
    by_cases hx:vs=[]
    ·subst hx
     have e1:xs=[]:=by have:=hvs.length;simpa using this.symm
     subst e1
     exact Ta I ha hb (h.ok hS he)
    ·refine Sb pins s σ H (.ref a) (.ref b) _ _ Q I rfl rfl ⟨a,b,vs,ws,rfl,rfl,ha,hb,hx,by rw[hvs.length,hws.length];exact hz,λz=>?_,λz p hp=>y6 hS (hvs.append hws) h hp⟩
     subst z
     have e1:ys=[]:=by have:=hws.length;simpa using this.symm
     subst e1
     exact h.ok hS (by simpa using hd)
   ·exact h.elim
  ·exact h.elim
 ·rename_i j _
  cases di he
  split at h
  ·rename_i es
   split at h
   ·rename_i hz
    obtain⟨a,xs,rfl,ha,hxs⟩:=k8 hS hd es
    cases rx
    obtain⟨t,rfl⟩:=ry
    rw[g8]at hz
    exact Pz (N3 I ha hz.2.1 hz.2.2 (by rw[hxs.length];exact hz.1) λp hp=>qp hS (hxs.rep _) h hp)
   ·exact h.elim
  ·exact h.elim
 ·split at h
  ·rename_i es1 es2
   split at h
   ·rename_i hz
    obtain⟨a,xs,rfl,ha,hxs⟩:=k8 hS hd es1
    obtain⟨b,ys,rfl,hb,hys⟩:=k8 hS he es2
    cases rx
    cases ry
    rw[g8]at hz
    exact Pz (Jj I ha hb (by rw[hxs.length,hys.length];exact hz) λp hp=>qp hS (hxs.append hys) h hp)
   ·exact h.elim
  ·exact h.elim
end
section
variable(K:PySem.W.Frag)(H:Hp)
mutual
noncomputable def IsW:D->V->Prop
 |.non,v=>v=.non
 |.bl b,v=>v=.bl b
 |.int i,v=>v=.int i
 |.str x,v=>v=.str x
 |.tup ds,v=>∃a xs,v=.ref a/\SqT K H a xs/\mz ds xs
 |.lst ds,v=>∃a xs,v=.ref a/\LsL K H a xs/\mz ds xs
 |.loc _,_=>False
noncomputable def mz:List D->List V->Prop
 | [],xs=>xs=[]
 |d::ds,xs=>∃v r,xs=v::r/\IsW d v/\mz ds r
end
end
section
variable{K:PySem.W.Frag}{H:Hp}
theorem mz.length:∀{ds:List D} {xs:List V},mz K H ds xs->xs.length=ds.length
 | [],xs,h=>by simp![mz]at h;subst h;rfl
 |d::ds,xs,h=>by
  simp![mz]at h
  obtain⟨v,r,rfl,_,t⟩:=h
  simp[mz.length t]
theorem mz.get:∀{ds:List D} {xs:List V} {i:Nat} {d:D},mz K H ds xs->ds[i]? = some d->∃v,xs[i]? = some v/\IsW K H d v
 | [],_,_,_,_,e=>by simp at e
 |d::ds,xs,0,_,h,e=>by
  simp![mz]at h
  obtain⟨v,r,rfl,q,_⟩:=h
  simp at e;subst e
  exact⟨v,rfl,q⟩
 |d::ds,xs,i+1,x,h,e=>by
  simp![mz]at h
  obtain⟨v,r,rfl,_,t⟩:=h
  obtain⟨w,h1,h2⟩:=mz.get (i:=i) (d:=x) t (by simpa using e)
  exact⟨w,by simpa using h1,h2⟩
theorem vi{ds:List D}{v:V}(h:IsW K H (.tup ds) v):∃a xs,v=.ref a/\SqT K H a xs/\mz K H ds xs:=by simpa[IsW]using h
theorem Jk{ι:List Addr}{μ:Sto}(S:Sim K ι H μ)(f:D->Option D)(hf:∀d e v,f d=some e->IsD K ι H d v->IsW K H e v):∀{ds es:List D} {xs:List V},fi (ds.map f)=some es->ak K ι H ds xs->mz K H es xs
 | [],es,xs,h,hd=>by
  simp![Db,fi,BX]at h
  subst h
  simpa[ak,mz]using hd
 |d::ds,es,xs,h,hd=>by
  simp![AF]at h
  cases e1:f d with
  |none=>rw[e1]at h;simp[fi]at h
  |some e =>
   rw[e1]at h
   simp![fi]at h
   cases e2:fi (ds.map f)with
   |none=>rw[e2]at h;cases h
   |some r =>
    rw[e2]at h
    cases h
    simp![ak]at hd
    obtain⟨v,t,rfl,q,hd⟩:=hd
    simp![mz]
    exact⟨v,t,rfl,hf d e v e1 q,Jk S f hf e2 hd⟩
theorem Ba{ι:List Addr}{μ:Sto}(S:Sim K ι H μ):∀(k:Nat) (d e:D) (v:V),cc μ k d=some e->IsD K ι H d v->IsW K H e v
 |0,d,e,v,h,hd=>by
  cases d<;>simp_all[cc,flat,IsD,IsW]<;>(subst h;simp[IsW])
 |k+1,d,e,v,h,hd=>by
  have ih:=Ba S k
  have sub:∀{ι':List Addr} {ds es:List D} {xs:List V},ι' <+: ι->fi (ds.map (cc μ k))=some es->ak K ι' H ds xs->mz K H es xs:=λp h hd=>Jk S _ ih h (ak.mono p (.refl _) _ _ hd)
  cases d with
  |tup ds =>
   simp![cc]at h
   cases e1:fi (ds.map (cc μ k))with
   |none=>rw[e1]at h;cases h
   |some es =>
    rw[e1]at h;cases h
    obtain⟨a,xs,rfl,hq,hds⟩:=gg hd
    simp![IsW]
    exact⟨a,xs,rfl,hq,sub (AE _) e1 hds⟩
  |lst ds =>
   simp![cc]at h
   cases e1:fi (ds.map (cc μ k))with
   |none=>rw[e1]at h;cases h
   |some es =>
    rw[e1]at h;cases h
    obtain⟨a,xs,rfl,hq,hds⟩:∃a xs,v=.ref a/\FzL K H a xs/\ak K ι H ds xs:=by simpa[IsD]using hd
    simp![IsW]
    exact⟨a,xs,rfl,.inr hq,sub (AE _) e1 hds⟩
  |loc n =>
   obtain⟨a,rfl,hn⟩:∃a,v=.ref a/\ι[n]? = some a:=by simpa[IsD]using hd
   simp![cc]at h
   cases em:μ[n]? with
   |none=>rw[em]at h;cases h
   |some o =>
    obtain⟨a',q',ho⟩:=S.at em
    rw[hn]at q';cases q'
    rw[em]at h
    cases o with
    |l ds =>
     simp only at h
     obtain⟨xs,f1,f2⟩:=ho
     cases e1:fi (ds.map (cc μ k))with
     |none=>rw[e1]at h;cases h
     |some es =>
      rw[e1]at h;cases h
      simp![IsW]
      exact⟨a,xs,rfl,(.inl f1),sub CU e1 f2⟩
    |r ds =>
     simp only at h
     obtain⟨xs,f1,f2⟩:=ho
     cases e1:fi (ds.map (cc μ k))with
     |none=>rw[e1]at h;cases h
     |some es =>
      rw[e1]at h;cases h
      simp![IsW]
      exact⟨a,xs,rfl,(.inl f1),sub (AE _) e1 f2⟩
    |_=>cases h
  |_=>simp![cc]at h;cases h;simpa[IsD,IsW]using hd
mutual
theorem IsW.ofD:∀{d:D} {v:V},IsD K [] H d v->IsW K H d v
 |.non,v,h=>by simpa[IsD,IsW]using h
 |.bl _,v,h=>by simpa[IsD,IsW]using h
 |.int _,v,h=>by simpa[IsD,IsW]using h
 |.str _,v,h=>by simpa[IsD,IsW]using h
 |.tup ds,v,h=>by
  obtain⟨a,xs,rfl,hq,hds⟩:=gg h
  simp![IsW]
  exact⟨a,xs,rfl,hq,mz.ofD hds⟩
 |.lst ds,v,h=>by
  obtain⟨a,xs,rfl,hq,hds⟩:∃a xs,v=.ref a/\FzL K H a xs/\ak K [] H ds xs:=by simpa[IsD]using h
  simp![IsW]
  exact⟨a,xs,rfl,.inr hq,mz.ofD hds⟩
 |.loc n,v,h=>by simp[IsD]at h
theorem mz.ofD:∀{ds:List D} {xs:List V},ak K [] H ds xs->mz K H ds xs
 | [],xs,h=>by simpa[ak,mz]using h
 |d::ds,xs,h=>by
  simp![ak]at h
  obtain⟨v,r,rfl,q,t⟩:=h
  simp![mz]
  exact⟨v,r,rfl,IsW.ofD q,mz.ofD t⟩
end
theorem vj{μ:Sto}{k:Nat}(ih:∀d e,cc μ k d=some e->D.pureN k e=true):∀{ds es:List D},fi (ds.map (cc μ k))=some es->es.all (D.pureN k)=true
 | [],es,h=>by simp![Db,fi,BX]at h;subst h;rfl
 |d::ds,es,h=>by
  simp![AF]at h
  cases e1:cc μ k d with
  |none=>rw[e1]at h;simp[fi]at h
  |some e =>
   rw[e1]at h
   simp![fi]at h
   cases e2:fi (ds.map (cc μ k))with
   |none=>rw[e2]at h;cases h
   |some r =>
    rw[e2]at h;cases h
    simp![BF,ih d e e1,vj ih e2,Bool.and_self]
theorem ma{μ:Sto}:∀(k:Nat) (d e:D),cc μ k d=some e->D.pureN k e=true
 |0,d,e,h=>by
  cases d<;>simp_all[cc,flat]<;>(subst h;rfl)
 |k+1,d,e,h=>by
  have ih:=ma (μ:=μ) k
  have mp:∀{ds:List D} {c:List D->D},(∀es,es.all (D.pureN k)=true->D.pureN (k+1) (c es)=true)->(fi (ds.map (cc μ k))).map c=some e->D.pureN (k+1) e=true:=λ{ds c} hc h=>by
   cases e1:fi (ds.map (cc μ k))with
   |none=>rw[e1]at h;cases h
   |some es=>rw[e1]at h;cases h;exact hc es (vj ih e1)
  cases d with
  |tup ds=>simp![cc]at h;exact mp (c:=.tup) (λes h=>h) h
  |lst ds=>simp![cc]at h;exact mp (c:=.lst) (λes h=>h) h
  |loc n =>
   simp![cc]at h
   cases em:μ[n]? with
   |none=>rw[em]at h;cases h
   |some o =>
    rw[em]at h
    cases o with
    |l ds=>exact mp (c:=.lst) (λes h=>h) h
    |r ds=>exact mp (c:=.lst) (λes h=>h) h
    |_=>cases h
  |_=>simp![cc]at h;cases h;rfl
end
open PySem.SeqAt (EqAt RcAt RcNeAt)
section
variable{X:Cx}{φ:Phi}{pins:List (Addr × Obj)}{σ:St}{H:Hp}{s:Shared}
theorem in1_units(A:Around):A.in1.units=A.units+1:=by
 first | rfl | simp[Around.in1]
theorem sj:∀(as bs:List D),as.length=bs.length->pj as bs=(List.range as.length).all λj=>deq (as.getD j .non) (bs.getD j .non)
 | [],[],_=>rfl
 |a::as,b::bs,h=>by
  rw[pj,sj as bs (by simpa using h),BH,List.range_succ_eq_map,BF,CW]
  rfl
 | [],_::_,h=>by simp at h
 |_::_,[],h=>by simp at h
theorem y8:∀(as bs:List D),as.length≠bs.length->pj as bs=false
 | [],[],h=>absurd rfl h
 |a::as,b::bs,h=>by rw[pj,y8 as bs (by simpa using h),Bool.and_false]
 | [],_::_,_=>rfl
 |_::_,[],_=>rfl
theorem vk:∀(k:Nat) (a b:D) (v:V),D.pureN k a=true->D.pureN k b=true->IsW X.K H a v->IsW X.K H b v->Inv X pins σ H s->deq a b=true:=by
 intro k
 have list:∀k,(∀(a b:D) (v:V),D.pureN k a=true->D.pureN k b=true->IsW X.K H a v->IsW X.K H b v->Inv X pins σ H s->deq a b=true) ->
   ∀(as bs:List D) (xs:List V),as.all (D.pureN k)=true->bs.all (D.pureN k)=true->mz X.K H as xs->mz X.K H bs xs->Inv X pins σ H s->pj as bs=true:=by
  intro k ih as
  induction as with
  |nil =>
   intro bs xs _ _ ha hb _
   have e:xs=[]:=by simpa[mz]using ha
   subst e
   have:=hb.length
   have e2:bs=[]:=by simpa using this.symm
   subst e2
   rfl
  |cons a as iha =>
   intro bs xs pa pb ha hb I
   cases bs with
   |nil =>
    have e:xs=[]:=by simpa[mz]using hb
    subst e
    have:=ha.length
    simp at this
   |cons b bs =>
    simp![mz]at ha hb
    obtain⟨v,r,e,q,t⟩:=ha
    obtain⟨v',r',e',q',t'⟩:=hb
    rw[e]at e'
    cases e'
    simp![BF,AW]at pa pb
    rw[pj,ih a b v pa.1 pb.1 q q' I,iha bs r pa.2 pb.2 t t' I]
    rfl
 have flat:∀(a b:D) (v:V),(∀ds,a≠.tup ds)->(∀ds,a≠.lst ds)->(∀n,a≠.loc n)->(∀n,b≠.loc n)->IsW X.K H a v->IsW X.K H b v->deq a b=true:=by
  intro a b v h1 h2 h3 h4 ha hb
  cases a with
  |tup ds=>exact absurd rfl (h1 ds)
  |lst ds=>exact absurd rfl (h2 ds)
  |loc n=>exact absurd rfl (h3 n)
  |_=>cases b<;>simp_all[IsW,deq]
 induction k with
 |zero =>
  intro a b v pa pb ha hb I
  refine flat a b v ?_ ?_ ?_ ?_ ha hb
  ·intro z e;subst e;simp[D.pureN]at pa
  ·intro z e;subst e;simp[D.pureN]at pa
  ·intro z e;subst e;simp[D.pureN]at pa
  ·intro z e;subst e;simp[D.pureN]at pb
 |succ k ih =>
  intro a b v pa pb ha hb I
  cases a with
  |loc n=>simp[D.pureN]at pa
  |tup as =>
   simp![IsW]at ha
   obtain⟨p,xs,rfl,hq,hds⟩:=ha
   cases b with
   |tup bs =>
    simp![IsW]at hb
    obtain⟨p',xs',e,hq',hds'⟩:=hb
    cases e
    have:=I.tuple_inj hq hq'
    subst this
    rw[deq]
    exact list k ih as bs xs (by simpa[D.pureN]using pa) (by simpa[D.pureN]using pb) hds hds' I
   |lst bs =>
    simp![IsW]at hb
    obtain⟨p',xs',e,hq',hds'⟩:=hb
    cases e
    exfalso
    obtain⟨its,_,⟨o,e1,c1,_⟩,_⟩:=I.tuple hq
    obtain⟨its',_,⟨o',n',e2,c2,_⟩,_⟩:=I.list hq'.sq
    rw[e1]at e2;cases e2
    rw[c1]at c2
    injection c2 with c3
    exact absurd c3 (by decide)
   |loc n=>simp[D.pureN]at pb
   |_=>simp[IsW]at hb
  |lst as =>
   simp![IsW]at ha
   obtain⟨p,xs,rfl,hq,hds⟩:=ha
   cases b with
   |lst bs =>
    simp![IsW]at hb
    obtain⟨p',xs',e,hq',hds'⟩:=hb
    cases e
    have:=I.list_inj hq.sq hq'.sq
    subst this
    rw[deq]
    exact list k ih as bs xs (by simpa[D.pureN]using pa) (by simpa[D.pureN]using pb) hds hds' I
   |tup bs =>
    simp![IsW]at hb
    obtain⟨p',xs',e,hq',hds'⟩:=hb
    cases e
    exfalso
    obtain⟨its,_,⟨o,e1,c1,_⟩,_⟩:=I.tuple hq'
    obtain⟨its',_,⟨o',n',e2,c2,_⟩,_⟩:=I.list hq.sq
    rw[e1]at e2;cases e2
    rw[c1]at c2
    injection c2 with c3
    exact absurd c3 (by decide)
   |loc n=>simp[D.pureN]at pb
   |_=>simp[IsW]at hb
  |_ =>
   refine flat _ b v (by intro _ z;cases z) (by intro _ z;cases z) (by intro _ z;cases z) ?_ ha hb
   intro z e;subst e;simp[D.pureN]at pb
theorem El(I:Inv X pins σ H s){k:Nat}{A:Around}{a b:D}{x y:V}{u v:Value}(pa:D.pureN k a=true)(pb:D.pureN k b=true)(ha:IsW X.K H a x)(hb:IsW X.K H b y)(ru:RelV x u)(rv:RelV y v)(h:RcAt A s u v (deq a b)):EqAt A s u v (deq a b):=by
 intro prog w E Q q
 have fl:∀b t,u≠.float b t:=λb t z=>by
  subst z
  cases a with
  |non=>cases(show x=.non by simpa[IsW]using ha);exact nomatch (show Value.float b t=.none from ru)
  |bl c=>cases(show x=.bl c by simpa[IsW]using ha);exact nomatch (show Value.float b t=.bool c from ru)
  |int c=>cases(show x=.int c by simpa[IsW]using ha);obtain⟨_,z⟩:=ru;cases z
  |str c=>cases(show x=.str c by simpa[IsW]using ha);obtain⟨_,z⟩:=ru;cases z
  |loc n=>simp[IsW]at ha
  |tup _=>obtain⟨c,_,rfl,_⟩:=vi ha;exact nomatch (show Value.float b t=.ref c from ru)
  |lst ds =>
        obtain⟨c,_,rfl,_⟩:∃a xs,x=.ref a/\LsL X.K H a xs/\mz X.K H ds xs:=by simpa[IsW]using ha
        exact nomatch (show Value.float b t=.ref c from ru)
 unfold eqBool
 refine EV ?_
 by_cases e:(u==v)=true
 ·rw[if_pos e]
  have e':u=v:=by simpa using e
  subst e'
  cases ru.inj rv
  rw[vk k _ _ _ pa pb ha hb I]at q
  exact AC (FG (AO q))
 ·rw[if_neg e]
  have go:wpAny (model prog w) A (do
    let r <-richCompare .Eq u v
    truthOfDropped r) Q E s:=AC (h prog w _ _ (by exact FV q))
  cases u with
  |float b t=>exact absurd rfl (fl b t)
  |_=>exact go
theorem Jl(A:Around)(a b:D)(x y:V)(u v:Value)(pa:D.pureN 0 a=true)(pb:D.pureN 0 b=true)(ha:IsW X.K H a x)(hb:IsW X.K H b y)(ru:RelV x u)(rv:RelV y v):RcAt A s u v (deq a b)/\RcNeAt A s u v (!deq a b):=by
 have b2:∀(a b:Int),decide (a=b)=(a==b):=λa b=>(FT a b).symm
 cases a with
 |tup _=>simp[D.pureN]at pa
 |lst _=>simp[D.pureN]at pa
 |loc _=>simp[D.pureN]at pa
 |non =>
  have ex:x=.non:=by simpa[IsW]using ha
  subst ex
  cases(show u=Value.none from ru)
  cases b with
  |tup _=>simp[D.pureN]at pb
  |lst _=>simp[D.pureN]at pb
  |loc _=>simp[D.pureN]at pb
  |non=>cases(show y=.non by simpa[IsW]using hb);cases(show v=Value.none from rv);exact⟨RcAt.none_none,RcNeAt.none_none⟩
  |bl c=>cases(show y=.bl c by simpa[IsW]using hb);cases(show v=Value.bool c from rv);exact⟨RcAt.none_bool _,RcNeAt.none_bool _⟩
  |int c=>cases(show y=.int c by simpa[IsW]using hb);obtain⟨t,rfl⟩:=rv;exact⟨RcAt.none_int _ _,RcNeAt.none_int _ _⟩
  |str c=>cases(show y=.str c by simpa[IsW]using hb);obtain⟨t,rfl⟩:=rv;exact⟨RcAt.none_str _ _,RcNeAt.none_str _ _⟩
 |bl d =>
  have ex:x=.bl d:=by simpa[IsW]using ha
  subst ex
  cases(show u=Value.bool d from ru)
  cases b with
  |tup _=>simp[D.pureN]at pb
  |lst _=>simp[D.pureN]at pb
  |loc _=>simp[D.pureN]at pb
  |non=>cases(show y=.non by simpa[IsW]using hb);cases(show v=Value.none from rv);exact⟨RcAt.bool_none _,RcNeAt.bool_none _⟩
  |bl c=>cases(show y=.bl c by simpa[IsW]using hb);cases(show v=Value.bool c from rv);exact⟨RcAt.bool_bool _ _,RcNeAt.bool_bool _ _⟩
  |int c=>cases(show y=.int c by simpa[IsW]using hb);obtain⟨t,rfl⟩:=rv;rw[deq,b2];exact⟨RcAt.bool_int _ _ _,RcNeAt.bool_int _ _ _⟩
  |str c=>cases(show y=.str c by simpa[IsW]using hb);obtain⟨t,rfl⟩:=rv;exact⟨RcAt.bool_str _ _ _,RcNeAt.bool_str _ _ _⟩
 |int d =>
  have ex:x=.int d:=by simpa[IsW]using ha
  subst ex
  obtain⟨t',rfl⟩:=ru
  cases b with
  |tup _=>simp[D.pureN]at pb
  |lst _=>simp[D.pureN]at pb
  |loc _=>simp[D.pureN]at pb
  |non=>cases(show y=.non by simpa[IsW]using hb);cases(show v=Value.none from rv);exact⟨RcAt.int_none _ _,RcNeAt.int_none _ _⟩
  |bl c=>cases(show y=.bl c by simpa[IsW]using hb);cases(show v=Value.bool c from rv);rw[deq,b2];exact⟨RcAt.int_bool _ _ _,RcNeAt.int_bool _ _ _⟩
  |int c=>cases(show y=.int c by simpa[IsW]using hb);obtain⟨t,rfl⟩:=rv;rw[deq,b2];exact⟨RcAt.int_int _ _ _ _,RcNeAt.int_int _ _ _ _⟩
  |str c=>cases(show y=.str c by simpa[IsW]using hb);obtain⟨t,rfl⟩:=rv;exact⟨RcAt.int_str _ _ _ _,RcNeAt.int_str _ _ _ _⟩
 |str d =>
  have ex:x=.str d:=by simpa[IsW]using ha
  subst ex
  obtain⟨t',rfl⟩:=ru
  cases b with
  |tup _=>simp[D.pureN]at pb
  |lst _=>simp[D.pureN]at pb
  |loc _=>simp[D.pureN]at pb
  |non=>cases(show y=.non by simpa[IsW]using hb);cases(show v=Value.none from rv);exact⟨RcAt.str_none _ _,RcNeAt.str_none _ _⟩
  |bl c=>cases(show y=.bl c by simpa[IsW]using hb);cases(show v=Value.bool c from rv);exact⟨RcAt.str_bool _ _ _,RcNeAt.str_bool _ _ _⟩
  |int c=>cases(show y=.int c by simpa[IsW]using hb);obtain⟨t,rfl⟩:=rv;exact⟨RcAt.str_int _ _ _ _,RcNeAt.str_int _ _ _ _⟩
  |str c =>
   cases(show y=.str c by simpa[IsW]using hb);obtain⟨t,rfl⟩:=rv
   have e:deq (.str d) (.str c)=(d==c):=by rw[deq];exact(FT d c).symm
   rw[e];exact⟨RcAt.str_str _ _ _ _,RcNeAt.str_str _ _ _ _⟩
theorem W4(I:Inv X pins σ H s):∀(k:Nat) (A:Around) (a b:D) (x y:V) (u v:Value),A.units+k<cLine->D.pureN k a=true->D.pureN k b=true->IsW X.K H a x->IsW X.K H b y->RelV x u->RelV y v->RcAt A s u v (deq a b)/\RcNeAt A s u v (!deq a b):=by
 intro k
 induction k with
 |zero=>exact λA a b x y u v _ pa pb ha hb ru rv=>Jl A a b x y u v pa pb ha hb ru rv
 |succ k ih =>
  intro A a b x y u v hu pa pb ha hb ru rv
  have hu0:A.units<cLine:=by lia
  have each:∀(as bs:List D) (xs ys:List V) (is js:List Value),as.all (D.pureN k)=true->bs.all (D.pureN k)=true->mz X.K H as xs->mz X.K H bs ys->c9 xs is->c9 ys js ->
    ∀j (h1:j<is.toArray.size) (h2:j<js.toArray.size),EqAt A.in1 s is.toArray[j] js.toArray[j] (deq (as.getD j .non) (bs.getD j .non)):=by
   intro as bs xs ys is js pas pbs has hbs hvx hvy j h1 h2
   have l1:as.length=is.length:=by rw[<-has.length,hvx.length]
   have l2:bs.length=js.length:=by rw[<-hbs.length,hvy.length]
   have j1:j<as.length:=by rw[l1];simpa using h1
   have j2:j<bs.length:=by rw[l2];simpa using h2
   obtain⟨p,e1,q1⟩:=has.get (AA j1)
   obtain⟨p',e1',q1'⟩:=hbs.get (AA j2)
   obtain⟨w,e2,q2⟩:=hvx.get e1
   obtain⟨w',e2',q2'⟩:=hvy.get e1'
   have g1:is.toArray[j]=w:=by
    have:is[j]? = some is.toArray[j]:=by simp[AA (show j<is.length by lia)]
    rw[this]at e2;exact CB e2
   have g2:js.toArray[j]=w':=by
    have:js[j]? = some js.toArray[j]:=by simp[AA (show j<js.length by lia)]
    rw[this]at e2';exact CB e2'
   rw[g1,g2,BM,BM,AA j1,AA j2]
   have pa:=AL.mp pas _ (FB j1)
   have pb:=AL.mp pbs _ (FB j2)
   exact El I pa pb q1 q1' q2 q2' (ih A.in1 _ _ p p' w w' (by rw[in1_units];lia) pa pb q1 q1' q2 q2').1
  have flat0:∀d:D,D.pureN (k+1) d=true->(∀ds,d≠.tup ds)->(∀ds,d≠.lst ds)->D.pureN 0 d=true:=λd h h1 h2=>by
   cases d with
   |tup ds=>exact absurd rfl (h1 ds)
   |lst ds=>exact absurd rfl (h2 ds)
   |loc n=>simp[D.pureN]at h
   |_=>rfl
  cases a with
  |loc n=>simp[D.pureN]at pa
  |tup as =>
   have pas:as.all (D.pureN k)=true:=by simpa[D.pureN]using pa
   obtain⟨p,xs,rfl,hq,hds⟩:=vi ha
   cases(show u=Value.ref p from ru)
   obtain⟨its,hv,ht,hz⟩:=I.tuple hq
   have ht':s.heap.IsTuple p its.toArray:=ht
   cases b with
   |loc n=>simp[D.pureN]at pb
   |tup bs =>
    have pbs:bs.all (D.pureN k)=true:=by simpa[D.pureN]using pb
    obtain⟨p',xs',rfl,hq',hds'⟩:=vi hb
    cases(show v=Value.ref p' from rv)
    obtain⟨its',hv',ht2,hz'⟩:=I.tuple hq'
    ·skip
     have ea:=each as bs xs xs' its its' pas pbs hds hds' hv hv'
     have q:=RcAt.tuples (A:=A) ht' (show s.heap.IsTuple p' its'.toArray from ht2) hu0 ea
     have q':=RcNeAt.tuples (A:=A) ht' (show s.heap.IsTuple p' its'.toArray from ht2) hu0 ea
     have l1:as.length=its.length:=by rw[<-hds.length,hv.length]
     have l2:bs.length=its'.length:=by rw[<-hds'.length,hv'.length]
     have e:((List.range (min its.toArray.size its'.toArray.size)).all (λj=>deq (as.getD j .non) (bs.getD j .non))&&its.toArray.size==its'.toArray.size)=deq (.tup as) (.tup bs):=by
      rw[deq]
      simp![AJ,<-l1,<-l2]
      by_cases hl:as.length=bs.length
      ·rw[sj as bs hl,<-hl];simp
      ·rw[y8 as bs hl];simp[hl]
     rw[e]at q q'
     exact⟨q,q'⟩
   |lst bs =>
    obtain⟨p',xs',rfl,hq',hds'⟩:∃a xs,y=.ref a/\LsL X.K H a xs/\mz X.K H bs xs:=by simpa[IsW]using hb
    cases(show v=Value.ref p' from rv)
    obtain⟨z,its',n',hv',_,hg⟩:=I.ls hq'
    exact⟨RcAt.tuple_list ht' ⟨_,hg,rfl,n',rfl⟩ hu0,RcNeAt.tuple_list ht' ⟨_,hg,rfl,n',rfl⟩ hu0⟩
   |non=>cases(show y=.non by simpa[IsW]using hb);cases(show v=Value.none from rv);exact⟨RcAt.tuple_none ht' hu0,RcNeAt.tuple_none ht' hu0⟩
   |bl c=>cases(show y=.bl c by simpa[IsW]using hb);cases(show v=Value.bool c from rv);exact⟨RcAt.tuple_bool _ ht' hu0,RcNeAt.tuple_bool _ ht' hu0⟩
   |int c=>cases(show y=.int c by simpa[IsW]using hb);obtain⟨t,rfl⟩:=rv;exact⟨RcAt.tuple_int _ _ ht' hu0,RcNeAt.tuple_int _ _ ht' hu0⟩
   |str c=>cases(show y=.str c by simpa[IsW]using hb);obtain⟨t,rfl⟩:=rv;exact⟨RcAt.tuple_str _ _ ht' hu0,RcNeAt.tuple_str _ _ ht' hu0⟩
  |lst as =>
   have pas:as.all (D.pureN k)=true:=by simpa[D.pureN]using pa
   obtain⟨p,xs,rfl,hq,hds⟩:∃a xs,x=.ref a/\LsL X.K H a xs/\mz X.K H as xs:=by simpa[IsW]using ha
   cases(show u=Value.ref p from ru)
   obtain⟨z,its,n,hv,_,hg⟩:=I.ls hq
   have hl':s.heap.IsList p its.toArray:=⟨_,hg,rfl,n,rfl⟩
   cases b with
   |loc n=>simp[D.pureN]at pb
   |lst bs =>
    have pbs:bs.all (D.pureN k)=true:=by simpa[D.pureN]using pb
    obtain⟨p',xs',rfl,hq',hds'⟩:∃a xs,y=.ref a/\LsL X.K H a xs/\mz X.K H bs xs:=by simpa[IsW]using hb
    cases(show v=Value.ref p' from rv)
    obtain⟨z',its',n',hv',_,hg'⟩:=I.ls hq'
    have hl2:s.heap.IsList p' its'.toArray:=⟨_,hg',rfl,n',rfl⟩
    ·skip
     have l1:as.length=its.length:=by rw[<-hds.length,hv.length]
     have l2:bs.length=its'.length:=by rw[<-hds'.length,hv'.length]
     by_cases hl:as.length=bs.length
     ·have ea:=each as bs xs xs' its its' pas pbs hds hds' hv hv'
      have ez:its.toArray.size=its'.toArray.size:=by simp![AJ];lia
      have q:=RcAt.lists (A:=A) hl' hl2 ez hu0 ea
      have q':=RcNeAt.lists (A:=A) hl' hl2 ez hu0 ea
      have e:(List.range its.toArray.size).all (λj=>deq (as.getD j .non) (bs.getD j .non))=deq (.lst as) (.lst bs):=by
       rw[deq,sj as bs hl]
       simp![AJ,<-l1]
      rw[e]at q q'
      exact⟨q,q'⟩
     ·rw[deq,y8 as bs hl]
      exact⟨RcAt.lists_lengths hl' hl2 (by simp![AJ];simp;lia) hu0,RcNeAt.lists_lengths hl' hl2 (by simp![AJ];simp;lia) hu0⟩
   |tup bs =>
    obtain⟨p',xs',rfl,hq',hds'⟩:=vi hb
    cases(show v=Value.ref p' from rv)
    obtain⟨its',hv',ht2,hz'⟩:=I.tuple hq'
    exact⟨RcAt.list_tuple hl' (show s.heap.IsTuple p' its'.toArray from ht2) hu0,RcNeAt.list_tuple hl' (show s.heap.IsTuple p' its'.toArray from ht2) hu0⟩
   |non=>cases(show y=.non by simpa[IsW]using hb);cases(show v=Value.none from rv);exact⟨RcAt.list_none hl' hu0,RcNeAt.list_none hl' hu0⟩
   |bl c=>cases(show y=.bl c by simpa[IsW]using hb);cases(show v=Value.bool c from rv);exact⟨RcAt.list_bool _ hl' hu0,RcNeAt.list_bool _ hl' hu0⟩
   |int c=>cases(show y=.int c by simpa[IsW]using hb);obtain⟨t,rfl⟩:=rv;exact⟨RcAt.list_int _ _ hl' hu0,RcNeAt.list_int _ _ hl' hu0⟩
   |str c=>cases(show y=.str c by simpa[IsW]using hb);obtain⟨t,rfl⟩:=rv;exact⟨RcAt.list_str _ _ hl' hu0,RcNeAt.list_str _ _ hl' hu0⟩
  |_ =>
   cases b with
   |loc n=>simp[D.pureN]at pb
   |tup bs =>
    obtain⟨p',xs',rfl,hq',hds'⟩:=vi hb
    cases(show v=Value.ref p' from rv)
    obtain⟨its',hv',ht2,hz'⟩:=I.tuple hq'
    have ht':s.heap.IsTuple p' its'.toArray:=ht2
    first
    |(cases(show x=.non by simpa[IsW]using ha);cases(show u=Value.none from ru);exact⟨RcAt.none_tuple ht' hu0,RcNeAt.none_tuple ht' hu0⟩)
    |(cases(show x=.bl _ by simpa[IsW]using ha);cases(show u=Value.bool _ from ru);exact⟨RcAt.bool_tuple _ ht' hu0,RcNeAt.bool_tuple _ ht' hu0⟩)
    |(cases(show x=.int _ by simpa[IsW]using ha);obtain⟨t,rfl⟩:=ru;exact⟨RcAt.int_tuple _ _ ht' hu0,RcNeAt.int_tuple _ _ ht' hu0⟩)
    |(cases(show x=.str _ by simpa[IsW]using ha);obtain⟨t,rfl⟩:=ru;exact⟨RcAt.str_tuple _ _ ht' hu0,RcNeAt.str_tuple _ _ ht' hu0⟩)
   |lst bs =>
    obtain⟨p',xs',rfl,hq',hds'⟩:∃a xs,y=.ref a/\LsL X.K H a xs/\mz X.K H bs xs:=by simpa[IsW]using hb
    cases(show v=Value.ref p' from rv)
    obtain⟨z',its',n',hv',_,hg'⟩:=I.ls hq'
    have hl':s.heap.IsList p' its'.toArray:=⟨_,hg',rfl,n',rfl⟩
    first
    |(cases(show x=.non by simpa[IsW]using ha);cases(show u=Value.none from ru);exact⟨RcAt.none_list hl' hu0,RcNeAt.none_list hl' hu0⟩)
    |(cases(show x=.bl _ by simpa[IsW]using ha);cases(show u=Value.bool _ from ru);exact⟨RcAt.bool_list _ hl' hu0,RcNeAt.bool_list _ hl' hu0⟩)
    |(cases(show x=.int _ by simpa[IsW]using ha);obtain⟨t,rfl⟩:=ru;exact⟨RcAt.int_list _ _ hl' hu0,RcNeAt.int_list _ _ hl' hu0⟩)
    |(cases(show x=.str _ by simpa[IsW]using ha);obtain⟨t,rfl⟩:=ru;exact⟨RcAt.str_list _ _ hl' hu0,RcNeAt.str_list _ _ hl' hu0⟩)
   |_=>exact Jl A _ _ x y u v rfl rfl ha hb ru rv
theorem Jm(I:Inv X pins σ H s)(k:Nat)(A:Around)(a b:D)(x y:V)(u v:Value)(hu:A.units+k<cLine)(pa:D.pureN k a=true)(pb:D.pureN k b=true)(ha:IsW X.K H a x)(hb:IsW X.K H b y)(ru:RelV x u)(rv:RelV y v):EqAt A s u v (deq a b) :=
 El I pa pb ha hb ru rv (W4 I k A a b x y u v hu pa pb ha hb ru rv).1
end
open PySem.SeqAt (EqAt RcAt)
section
variable{X:Cx}{φ:Phi}{pins:List (Addr × Obj)}{σ:St}{H:Hp}{s:Shared}
theorem W5(hu:X.A.units+8<cLine):OpR X (compareOp .Eq) (rOp X.K (cpD .eq)):=by
 intro pins s σ H x y v u Q I rx ry ⟨ι,a,b,μ,hS,ha,hb,h⟩
 unfold cpD at h
 simp only at h
 split at h
 ·rename_i hp
  exact(W4 I 8 X.A a b x y v u hu hp.1 hp.2 (IsW.ofD (IsD.pur hp.1 ha)) (IsW.ofD (IsD.pur hp.2 hb)) rx ry).1 _ _ _ _ ⟨.bl (deq a b),H,I,rfl,h.ok hS (by simp[IsD])⟩
 ·exact h.elim
end
open PySem.SeqAt (EqAt RcNeAt)
section
variable{X:Cx}{φ:Phi}{pins:List (Addr × Obj)}{σ:St}{H:Hp}{s:Shared}
theorem W6(hu:X.A.units+8<cLine):OpR X (compareOp .NotEq) (rOp X.K (cpD .ne)):=by
 intro pins s σ H x y v u Q I rx ry ⟨ι,a,b,μ,hS,ha,hb,h⟩
 unfold cpD at h
 simp only at h
 split at h
 ·rename_i hp
  exact(W4 I 8 X.A a b x y v u hu hp.1 hp.2 (IsW.ofD (IsD.pur hp.1 ha)) (IsW.ofD (IsD.pur hp.2 hb)) rx ry).2 _ _ _ _ ⟨.bl (!deq a b),H,I,rfl,h.ok hS (by simp[IsD])⟩
 ·exact h.elim
end
end Lp
namespace LT
open PySem PySem.Spec PyProof.Rows HT
open PySem.SeqAt
open PySem.AutoSeq1 (wpAny_loadPart')
open PySem.MeetsSeq PySem.MeetsSeq2 PySem.MeetsSeq3
theorem afb(A:Around)(s:Shared)(a:Int)(t:Tok)(c:Int)(u:Tok)(prog:Program)(w:World)(E:Value->Shared->Prop)(Q:Value->Shared->Prop)(h:Q (.bool (decide (a<=c))) s) :
  wpAny (model prog w) A (richCompare .LtE (.int a t) (.int c u)) Q E s :=
 (PyProof.Rows.le_int h:wpAny (model prog w) A (compareOp .LtE (.int a t) (.int c u)) Q E s)
theorem N4(l b:Addr)(items items2:Array Value)(n n2:Nat)(dd dd2:Option Addr)(sl sl2:Array (Option Value))(ns ms:List Int)(ii:IntsAre items.toList ns)(jj:IntsAre items2.toList ms) :
  Meets (Builtin.«tuple.__le__» ⟨[.ref l,.ref b],[]⟩) (λ_ R s=>s.heap.get? l=some {cls:=.type "tuple",dict:=dd,data:=.seq items n,slots:=sl}/\s.heap.get? b=some {cls:=.type "tuple",dict:=dd2,data:=.seq items2 n2,slots:=sl2}/\R (.ok (.ret (.bool (!lexLt ms ns)))) s) :=
 .of_wp λprog w A R s h=>by
  obtain⟨hh0,g,d,tk0,os0⟩:=s;obtain⟨ql,hb,h⟩:=h
  have sub0:=EW
  have n1:ns.length=items.size:=by rw[<-ii.length,CA]
  have n2e:ms.length=items2.size:=by rw[<-jj.length,CA]
  wp_walk using CY ql,CY hb,GN _ (λrest b s'=>b.1=none/\s'=⟨hh0,g,d,tk0,os0⟩/\∃(us1 us2:List Value) (ms1 ms2:List Int),rest=us1.zip us2 /\
   IntsAre us1 ms1/\IntsAre us2 ms2/\ms1.length+items2.size=ms2.length+items.size/\R (.ok (.ret (.bool (!lexLt ms2 ms1)))) ⟨hh0,g,d,tk0,os0⟩) _
  case turn =>
   rintro⟨y,x⟩ rest b s' ⟨p0,rfl,us1,us2,ms1,ms2,pz,pv,pw,pl,fin0⟩
   cases pv with
   |nil=>rw[GI]at pz;cases pz
   |cons a t pv1 =>
    cases pw with
    |nil=>rw[FE]at pz;cases pz
    |cons c u pw1 =>
     rw[Do]at pz
     injection pz with pyx pr
     injection pyx with py px
     subst py px
     rw[jf]at fin0
     simp![BH]at pl
     obtain⟨same,eq0,eqi⟩:=uk A.in1 ⟨hh0,g,d,tk0,os0⟩ a t c u
     refine AC (eq0 prog w _ _ ?_)
     cases same with
     |true =>
      rw[if_pos (eqi.mp rfl).symm]at fin0
      wp_walk
      exact⟨rfl,rfl,_,_,_,_,pr,pv1,pw1,by lia,fin0⟩
     |false =>
      have hne:¬c=a:=λq=>absurd (eqi.mpr q.symm) BP
      rw[if_neg hne]at fin0
      have ed:(!decide (c<a))=decide (a<=c):=by
       by_cases hc:c<a
       ·rw[decide_eq_true hc,decide_eq_false (by lia)];rfl
       ·rw[decide_eq_false hc,decide_eq_true (by lia)];rfl
      rw[ed]at fin0
      have low:=afb A.in1 ⟨hh0,g,d,tk0,os0⟩ a t c u prog w
      wp_walk using low
      exact⟨_,rfl,by simpa using fin0⟩
  case fin =>
   rintro⟨c1,c2⟩ s' ⟨p0,rfl,us1,us2,ms1,ms2,pz,pv,pw,pl,fin0⟩
   simp only at p0
   subst p0
   have hv:(!lexLt ms2 ms1)=decide (items.size<=items2.size):=by
    cases pv with
    |nil =>
     cases pw with
     |nil =>
      simp![CC]at pl
      rw[ni,decide_eq_true (by lia)];rfl
     |cons c u hw =>
      simp![CC,BH]at pl
      rw[kz,decide_eq_true (by lia)];rfl
    |cons a t hv =>
     cases pw with
     |nil =>
      simp![CC,BH]at pl
      rw[ku,decide_eq_false (by lia)];rfl
     |cons c u hw =>
      rw[Do]at pz
      cases pz
   rw[hv]at fin0
   wp_walk
   exact⟨_,rfl,by simpa[Builtin.Tuple.tupleCompareSizes]using fin0⟩
  case h =>
   exact⟨rfl,rfl,items.toList,items2.toList,ns,ms,rfl,ii,jj,by lia,h⟩
theorem W7 {prog:Program} {w:World} {A:Around} {E:Value->Shared->Prop} {s:Shared} {l b:Addr} {items items2:Array Value} {ns ms:List Int} {Q:Value->Shared->Prop} (hl:IsTup s.heap l items) (hb:IsTup s.heap b items2) (hi:IntsAre items.toList ns) (hj:IntsAre items2.toList ms)
  (hu:A.units<cLine) (h:Q (.bool (!lexLt ms ns)) s):wpAny (model prog w) A (compareOp .LtE (.ref l) (.ref b)) Q E s:=by
 obtain⟨⟨_,dd,_,sl⟩,ho,rfl,n,rfl⟩:=id hl
 obtain⟨⟨_,dd2,_,sl2⟩,ho2,rfl,n2,rfl⟩:=id hb
 exact FF (op:=.LtE) ⟨_,ho,rfl⟩ ⟨_,ho2,rfl⟩ PySem.F.slot_tuple_le PySem.F.entry_tuple_le (PySem.F.args_tuple_le_2 _ _) (N4 l b items items2 n n2 dd dd2 sl sl2 ns ms hi hj)
  ⟨ho,ho2,show Value.bool (!lexLt ms ns)≠Value.notImplemented/\Q (.bool (!lexLt ms ns)) s from⟨(λx=>nomatch x),h⟩⟩ hu
theorem afc(A:Around)(s:Shared)(a:Int)(t:Tok)(c:Int)(u:Tok)(prog:Program)(w:World)(E:Value->Shared->Prop)(Q:Value->Shared->Prop)(h:Q (.bool (decide (c<=a))) s) :
  wpAny (model prog w) A (richCompare .GtE (.int a t) (.int c u)) Q E s :=
 (PyProof.Rows.ge_int h:wpAny (model prog w) A (compareOp .GtE (.int a t) (.int c u)) Q E s)
theorem N5(l b:Addr)(items items2:Array Value)(n n2:Nat)(dd dd2:Option Addr)(sl sl2:Array (Option Value))(ns ms:List Int)(ii:IntsAre items.toList ns)(jj:IntsAre items2.toList ms) :
  Meets (Builtin.«tuple.__ge__» ⟨[.ref l,.ref b],[]⟩) (λ_ R s=>s.heap.get? l=some {cls:=.type "tuple",dict:=dd,data:=.seq items n,slots:=sl}/\s.heap.get? b=some {cls:=.type "tuple",dict:=dd2,data:=.seq items2 n2,slots:=sl2}/\R (.ok (.ret (.bool (!lexLt ns ms)))) s) :=
 .of_wp λprog w A R s h=>by
  obtain⟨hh0,g,d,tk0,os0⟩:=s;obtain⟨ql,hb,h⟩:=h
  have sub0:=EW
  have n1:ns.length=items.size:=by rw[<-ii.length,CA]
  have n2e:ms.length=items2.size:=by rw[<-jj.length,CA]
  wp_walk using CY ql,CY hb,GN _ (λrest b s'=>b.1=none/\s'=⟨hh0,g,d,tk0,os0⟩/\∃(us1 us2:List Value) (ms1 ms2:List Int),rest=us1.zip us2 /\
   IntsAre us1 ms1/\IntsAre us2 ms2/\ms1.length+items2.size=ms2.length+items.size/\R (.ok (.ret (.bool (!lexLt ms1 ms2)))) ⟨hh0,g,d,tk0,os0⟩) _
  case turn =>
   rintro⟨y,x⟩ rest b s' ⟨p0,rfl,us1,us2,ms1,ms2,pz,pv,pw,pl,fin0⟩
   cases pv with
   |nil=>rw[GI]at pz;cases pz
   |cons a t pv1 =>
    cases pw with
    |nil=>rw[FE]at pz;cases pz
    |cons c u pw1 =>
     rw[Do]at pz
     injection pz with pyx pr
     injection pyx with py px
     subst py px
     rw[jf]at fin0
     simp![BH]at pl
     obtain⟨same,eq0,eqi⟩:=uk A.in1 ⟨hh0,g,d,tk0,os0⟩ a t c u
     refine AC (eq0 prog w _ _ ?_)
     cases same with
     |true =>
      rw[if_pos (eqi.mp rfl)]at fin0
      wp_walk
      exact⟨rfl,rfl,_,_,_,_,pr,pv1,pw1,by lia,fin0⟩
     |false =>
      have hne:¬a=c:=λq=>absurd (eqi.mpr q) BP
      rw[if_neg hne]at fin0
      have ed:(!decide (a<c))=decide (c<=a):=by
       by_cases hc:a<c
       ·rw[decide_eq_true hc,decide_eq_false (by lia)];rfl
       ·rw[decide_eq_false hc,decide_eq_true (by lia)];rfl
      rw[ed]at fin0
      have low:=afc A.in1 ⟨hh0,g,d,tk0,os0⟩ a t c u prog w
      wp_walk using low
      exact⟨_,rfl,by simpa using fin0⟩
  case fin =>
   rintro⟨c1,c2⟩ s' ⟨p0,rfl,us1,us2,ms1,ms2,pz,pv,pw,pl,fin0⟩
   simp only at p0
   subst p0
   have hv:(!lexLt ms1 ms2)=decide (items2.size<=items.size):=by
    cases pv with
    |nil =>
     cases pw with
     |nil =>
      simp![CC]at pl
      rw[ni,decide_eq_true (by lia)];rfl
     |cons c u hw =>
      simp![CC,BH]at pl
      rw[ku,decide_eq_false (by lia)];rfl
    |cons a t hv =>
     cases pw with
     |nil =>
      simp![CC,BH]at pl
      rw[kz,decide_eq_true (by lia)];rfl
     |cons c u hw =>
      rw[Do]at pz
      cases pz
   rw[hv]at fin0
   wp_walk
   exact⟨_,rfl,by simpa[Builtin.Tuple.tupleCompareSizes]using fin0⟩
  case h =>
   exact⟨rfl,rfl,items.toList,items2.toList,ns,ms,rfl,ii,jj,by lia,h⟩
theorem W8 {prog:Program} {w:World} {A:Around} {E:Value->Shared->Prop} {s:Shared} {l b:Addr} {items items2:Array Value} {ns ms:List Int} {Q:Value->Shared->Prop} (hl:IsTup s.heap l items) (hb:IsTup s.heap b items2) (hi:IntsAre items.toList ns) (hj:IntsAre items2.toList ms)
  (hu:A.units<cLine) (h:Q (.bool (!lexLt ns ms)) s):wpAny (model prog w) A (compareOp .GtE (.ref l) (.ref b)) Q E s:=by
 obtain⟨⟨_,dd,_,sl⟩,ho,rfl,n,rfl⟩:=id hl
 obtain⟨⟨_,dd2,_,sl2⟩,ho2,rfl,n2,rfl⟩:=id hb
 exact FF (op:=.GtE) ⟨_,ho,rfl⟩ ⟨_,ho2,rfl⟩ PySem.F.slot_tuple_ge PySem.F.entry_tuple_ge (PySem.F.args_tuple_ge_2 _ _) (N5 l b items items2 n n2 dd dd2 sl sl2 ns ms hi hj)
  ⟨ho,ho2,show Value.bool (!lexLt ns ms)≠Value.notImplemented/\Q (.bool (!lexLt ns ms)) s from⟨(λx=>nomatch x),h⟩⟩ hu
end LT
namespace L2
open PySem PySem.Spec PyProof.Rows
variable{X:Cx}
theorem W9(hu:X.A.units<cLine){pins s σ H x y v u Q}(I:Inv X pins σ H s)(rx:RelV x v)(ry:RelV y u)(h:∃a b ns ms,x=.ref a/\y=.ref b/\SqT X.K H a (ns.map V.int)/\SqT X.K H b (ms.map V.int)/\Q (.bl (!HT.lexLt ms ns)) H) :
  wpAny (model X.prog X.w) X.A (compareOp .LtE v u) (EP X pins σ Q) X.xe s:=by
 obtain⟨c,d,ns,ms,rfl,rfl,hc,hd,q⟩:=h
 cases rx
 cases ry
 obtain⟨us,r1,p1,_⟩:=I.tuple hc
 obtain⟨us2,r2,p2,_⟩:=I.tuple hd
 exact LT.W7 p1 p2 (intsAre_of r1) (intsAre_of r2) hu ⟨.bl (!HT.lexLt ms ns),H,I,rfl,q⟩
theorem Xa(hu:X.A.units<cLine){pins s σ H x y v u Q}(I:Inv X pins σ H s)(rx:RelV x v)(ry:RelV y u)(h:∃a b ns ms,x=.ref a/\y=.ref b/\SqT X.K H a (ns.map V.int)/\SqT X.K H b (ms.map V.int)/\Q (.bl (!HT.lexLt ns ms)) H) :
  wpAny (model X.prog X.w) X.A (compareOp .GtE v u) (EP X pins σ Q) X.xe s:=by
 obtain⟨c,d,ns,ms,rfl,rfl,hc,hd,q⟩:=h
 cases rx
 cases ry
 obtain⟨us,r1,p1,_⟩:=I.tuple hc
 obtain⟨us2,r2,p2,_⟩:=I.tuple hd
 exact LT.W8 p1 p2 (intsAre_of r1) (intsAre_of r2) hu ⟨.bl (!HT.lexLt ns ms),H,I,rfl,q⟩
end L2
namespace Lp
open PySem PySem.Spec PyProof.Rows L2
open PySem.SeqAt (EqAt RcAt)
noncomputable def Tb:Cp->CmpOp
 |.eq=>.Eq
 |.ne=>.NotEq
 |.eqM=>.Eq
 |.neM=>.NotEq
 |.lt=>.Lt
 |.le=>.LtE
 |.gt=>.Gt
 |.ge=>.GtE
 |.is=>.Is
 |.isnot=>.IsNot
 |.in_=>.In
 |.notin=>.NotIn
section
variable{X:Cx}{φ:Phi}{pins:List (Addr × Obj)}{σ:St}{H:Hp}{s:Shared}
theorem ints_of{K:PySem.W.Frag}{ι:List Addr}:∀{ds:List D} {xs:List V} {ns:List Int},ak K ι H ds xs->fg ds=some ns->xs=ns.map V.int
 | [],xs,ns,h,e=>by
  simp![fg,BX]at e
  subst e
  simpa[ak]using h
 |d::ds,xs,ns,h,e=>by
  simp![ak]at h
  obtain⟨v,r,rfl,q,t⟩:=h
  cases d with
  |int i =>
   simp![fg,GK]at e
   obtain⟨ms,e1,rfl⟩:=e
   cases di q
   rw[ints_of t e1]
   rfl
  |_=>simp[fg]at e
theorem C1{K:PySem.W.Frag}{ι:List Addr}{d:D}{v:V}(h:IsD K ι H d v)(hf:flat d=true):xq v=true:=by
 cases d with
 |tup _=>simp[flat]at hf
 |lst _=>simp[flat]at hf
 |loc _=>simp[flat]at hf
 |_=>have e:=h;simp![IsD]at e;subst e;rfl
theorem y9{K:PySem.W.Frag}{ι:List Addr}:∀{ds:List D} {xs:List V},ak K ι H ds xs->ds.all flat=true->xs.all xq=true
 | [],xs,h,_=>by
  have e:xs=[]:=by simpa[ak]using h
  subst e
  rfl
 |d::ds,xs,h,hf=>by
  simp![ak]at h
  obtain⟨v,r,rfl,q,t⟩:=h
  simp![BF,AW]at hf ⊢
  exact⟨C1 q hf.1,y9 t hf.2⟩
theorem Xb{K:PySem.W.Frag}{ι:List Addr}{d e:D}{v w:V}(hd:IsD K ι H d v)(he:IsD K ι H e w)(fd:flat d=true)(fe:flat e=true):eqV v w=deq d e:=by
 have b2:∀(a b:Int),decide (a=b)=(a==b):=λa b=>(FT a b).symm
 have b3:∀(a b:Str),decide (a=b)=(a==b):=λa b=>(FT a b).symm
 cases d with
 |tup _=>simp[flat]at fd
 |lst _=>simp[flat]at fd
 |loc _=>simp[flat]at fd
 |_ =>
  cases e with
  |tup _=>simp[flat]at fe
  |lst _=>simp[flat]at fe
  |loc _=>simp[flat]at fe
  |_ =>
   simp![IsD]at hd he
   subst hd he
   simp![eqV,deq,b2,b3]
theorem Jn{K:PySem.W.Frag}{ι:List Addr}{e:D}{w:V}(he:IsD K ι H e w)(fe:flat e=true):∀{ds:List D} {xs:List V},ak K ι H ds xs->ds.all flat=true->inV w xs=ds.any λy=>deq y e
 | [],xs,h,_=>by
  have e:xs=[]:=by simpa[ak]using h
  subst e
  rfl
 |d::ds,xs,h,hf=>by
  simp![ak]at h
  obtain⟨v,r,rfl,q,t⟩:=h
  simp![BF,AW]at hf
  have ih:=Jn he fe t hf.2
  unfold inV at ih ⊢
  rw[CZ,CZ,Xb q he hf.1 fe,ih]
theorem is_bool{u:Bool}{v:Bool}{Q:VK}(I:Inv X pins σ H s)(q:Q (.bl (u==v)) H):wpAny (model X.prog X.w) X.A (compareOp .Is (.bool u) (.bool v)) (EP X pins σ Q) X.xe s:=by
 cases u<;>cases v<;>exact AO ⟨.bl _,H,I,rfl,q⟩
theorem isnot_bool{u:Bool}{v:Bool}{Q:VK}(I:Inv X pins σ H s)(q:Q (.bl (!(u==v))) H):wpAny (model X.prog X.w) X.A (compareOp .IsNot (.bool u) (.bool v)) (EP X pins σ Q) X.xe s:=by
 cases u<;>cases v<;>exact AO ⟨.bl _,H,I,rfl,q⟩
theorem Bb{v:Bool}{Q:VK}(I:Inv X pins σ H s)(q:Q (.bl false) H):wpAny (model X.prog X.w) X.A (compareOp .Is .none (.bool v)) (EP X pins σ Q) X.xe s:=by
 cases v<;>exact AO ⟨.bl _,H,I,rfl,q⟩
theorem vm{v:Bool}{Q:VK}(I:Inv X pins σ H s)(q:Q (.bl true) H):wpAny (model X.prog X.w) X.A (compareOp .IsNot .none (.bool v)) (EP X pins σ Q) X.xe s:=by
 cases v<;>exact AO ⟨.bl _,H,I,rfl,q⟩
noncomputable def kD:Key->D
 |.inl i=>.int i
 |.inr x=>.str x
theorem za{K:PySem.W.Frag}{ι:List Addr}{d:D}{x:V}(hk:A0 d=true)(h:IsD K ι H d x):∃k,d=kD k/\x=kV k:=by
 cases d with
 |int i=>exact⟨.inl i,rfl,by simpa[IsD,kV]using h⟩
 |str i=>exact⟨.inr i,rfl,by simpa[IsD,kV]using h⟩
 |_=>simp[A0]at hk
theorem zb{K:PySem.W.Frag}{ι:List Addr}{d:D}{k:Key}(h:IsD K ι H d (kV k)):d=kD k:=by
 cases k with
 |inl i=>cases d<;>simp_all[IsD,kV,kD]
 |inr i=>cases d<;>simp_all[IsD,kV,kD]
theorem yh(a b:Key):deq (kD a) (kD b)=decide (a=b):=by
 cases a<;>cases b<;>simp[kD,deq]
noncomputable def OR(K:PySem.W.Frag)(ι:List Addr)(H:Hp):Option D->Option V->Prop
 |some d,some v=>IsD K ι H d v
 |none,none=>True
 |_,_=>False
theorem OR.isSome{K:PySem.W.Frag}{ι:List Addr}{o:Option D}{p:Option V}(h:OR K ι H o p):p.isSome=o.isSome:=by
 cases o<;>cases p<;>first | rfl | exact h.elim
theorem OR.getD{K:PySem.W.Frag}{ι:List Addr}{o:Option D}{p:Option V}{d:D}{v:V}(h:OR K ι H o p)(hd:IsD K ι H d v):IsD K ι H (o.getD d) (p.getD v):=by
 cases o with
 |none=>cases p with
  |none=>exact hd
  |some _=>exact h.elim
 |some _=>cases p with
  |none=>exact h.elim
  |some _=>exact h
theorem um{K:PySem.W.Frag}{ι:List Addr}{k:Key}:∀{kvs:List (D×D)} {xs:List (Key×V)},Cv K ι H kvs xs->OR K ι H (xp (kD k) kvs) (yc xs k)
 |_,_,.nil=>True.intro
 |p::kvs,q::xs,.cons h t=>by
  obtain⟨d,e⟩:=p
  have hk:=zb h.1
  dsimp only at hk
  subst hk
  have ih:=um (k:=k) (kvs:=kvs) (xs:=xs) t
  by_cases z:q.1=k
  ·rw[qz z,xp,yh,if_pos (by simpa using z)]
   exact h.2
  ·rw[rf z,xp,yh,if_neg (by simpa using z)]
   exact ih
theorem Jo{K:PySem.W.Frag}{ι:List Addr}{k:Key}:∀{kvs:List (D×D)} {xs:List (Key×V)},Cv K ι H kvs xs->(kvs.any λp=>deq p.1 (kD k))=xs.any λkv=>decide (kv.1=k)
 |_,_,.nil=>rfl
 |p::kvs,q::xs,.cons h t=>by
  obtain⟨d,e⟩:=p
  have hk:=zb h.1
  dsimp only at hk
  subst hk
  rw[CZ,CZ,Jo t,yh]
theorem Em{K:PySem.W.Frag}{ι:List Addr}{k:Key}{d:D}{v:V}(hv:IsD K ι H d v):∀{kvs:List (D×D)} {xs:List (Key×V)},Cv K ι H kvs xs ->
  Cv K ι H (kvs.map λp=>if deq p.1 (kD k)=true then(p.1,d)else p) (xs.map λkv=>if kv.1=k then(kv.1,v)else kv)
 |_,_,.nil=>.nil
 |p::kvs,q::xs,.cons h t=>by
  obtain⟨e,w⟩:=p
  have hk:=zb h.1
  dsimp only at hk
  subst hk
  rw[AF,AF]
  refine .cons ?_ (Em hv t)
  by_cases z:q.1=k
  ·rw[if_pos z,yh,if_pos (by simpa using z)]
   exact⟨h.1,hv⟩
  ·rw[if_neg z,yh,if_neg (by simpa using z)]
   exact h
theorem qr{α β:Type}{F:α->β->Prop}:∀{xs:List α} {ys:List β} {x:α} {y:β},Paired F xs ys->F x y->Paired F (xs++[x]) (ys++[y])
 |_,_,_,_,.nil,h=>.cons h .nil
 |_,_,_,_,.cons a t,h=>.cons a (qr t h)
theorem En{K:PySem.W.Frag}{ι:List Addr}{k:Key}{d:D}{v:V}(hv:IsD K ι H d v){kvs:List (D×D)}{xs:List (Key×V)}(h:Cv K ι H kvs xs):Cv K ι H (dput (kD k) d kvs) (putK xs k v):=by
 unfold dput putK
 rw[Jo h]
 split
 ·exact Em hv h
 ·refine qr h ⟨?_,hv⟩
  cases k<;>simp[kD,kV,IsD]
theorem C2{K:PySem.W.Frag}{ι:List Addr}{μ:Sto}{o k:D}{x y:V}{kvs:List (D×D)}(hS:Sim K ι H μ)(ho:IsD K ι H o x)(hk:IsD K ι H k y)(h:dictAt μ o k=some kvs) :
  ∃p q xs,x=.ref p/\y=kV q/\k=kD q/\Rd H p (.dK xs)/\Cv K ι H kvs xs:=by
 cases o with
 |loc n =>
  obtain⟨p,rfl,hp⟩:∃p,x=.ref p/\ι[n]? = some p:=by simpa[IsD]using ho
  simp![dictAt]at h
  have up:∀{xs:List (Key×V)},Cv K [] H kvs xs->Cv K ι H kvs xs:=λz=>Paired.mapP z λp r z=>⟨z.1,IsD.mono CU (.refl _) _ _ z.2⟩
  have fin:∀{ob:O} {kvs':List (D×D)},μ[n]? = some ob->(if A0 k=true then some kvs' else none)=some kvs->(OIs K ι H p ob->∃xs,Rd H p (.dK xs)/\(kvs'=kvs->Cv K ι H kvs xs)) ->
    ∃p' q xs,V.ref p=.ref p'/\y=kV q/\k=kD q/\Rd H p' (.dK xs)/\Cv K ι H kvs xs:=by
   intro ob kvs' em h f
   split at h
   ·rename_i hkey
    cases h
    obtain⟨a',q',ob⟩:=hS.at em
    rw[hp]at q';cases q'
    obtain⟨xs,e1,e2⟩:=f ob
    obtain⟨q,rfl,rfl⟩:=za hkey hk
    exact⟨p,q,xs,rfl,rfl,rfl,e1,e2 rfl⟩
   ·cases h
  split at h
  ·rename_i kvs' em
   exact fin em h fun⟨xs,e1,e2⟩=>⟨xs,.inl e1,λz=>by subst z;exact up e2⟩
  ·rename_i kvs' em
   exact fin em h fun⟨xs,e1,e2⟩=>⟨xs,.inl e1,λz=>by subst z;exact e2⟩
  ·rename_i kvs' em
   exact fin em h fun⟨o,xs,e1,e2⟩=>⟨xs,.inr ⟨o,e1⟩,λz=>by subst z;exact up e2⟩
  ·cases h
 |_=>simp[dictAt]at h
theorem P4(cp:Cp)(hu:X.A.units+8<cLine):OpR X (compareOp (Tb cp)) (rOp X.K (cpD cp)):=by
 have hu0:X.A.units<cLine:=by lia
 cases cp with
 |eq=>exact W5 hu
 |ne=>exact W6 hu
 |eqM =>
  intro pins s σ H x y v u Q I rx ry ⟨ι,a,b,μ,hS,ha,hb,h⟩
  simp![cpD]at h
  cases e1:cc μ 8 a with
  |none=>simp![e1]at h;exact h.elim
  |some a1 =>
   cases e2:cc μ 8 b with
   |none=>simp![e1,e2]at h;exact h.elim
   |some b1 =>
    simp![e1,e2]at h
    exact(W4 I 8 X.A a1 b1 x y v u hu (ma 8 _ _ e1) (ma 8 _ _ e2) (Ba hS 8 _ _ _ e1 ha) (Ba hS 8 _ _ _ e2 hb) rx ry).1 _ _ _ _ ⟨.bl (deq a1 b1),H,I,rfl,h.ok hS (by simp[IsD])⟩
 |neM =>
  intro pins s σ H x y v u Q I rx ry ⟨ι,a,b,μ,hS,ha,hb,h⟩
  simp![cpD]at h
  cases e1:cc μ 8 a with
  |none=>simp![e1]at h;exact h.elim
  |some a1 =>
   cases e2:cc μ 8 b with
   |none=>simp![e1,e2]at h;exact h.elim
   |some b1 =>
    simp![e1,e2]at h
    exact(W4 I 8 X.A a1 b1 x y v u hu (ma 8 _ _ e1) (ma 8 _ _ e2) (Ba hS 8 _ _ _ e1 ha) (Ba hS 8 _ _ _ e2 hb) rx ry).2 _ _ _ _ ⟨.bl (!deq a1 b1),H,I,rfl,h.ok hS (by simp[IsD])⟩
 |lt =>
  intro pins s σ H x y v u Q I rx ry ⟨ι,a,b,μ,hS,ha,hb,h⟩
  simp![cpD]at h
  split at h
  ·cases di ha;cases di hb
   exact aah pins s σ H _ _ v u Q I rx ry ⟨_,_,rfl,rfl,h.ok hS (by simp[IsD])⟩
  ·obtain⟨p,xs,rfl,hq,hds⟩:=gg ha
   obtain⟨p',xs',rfl,hq',hds'⟩:=gg hb
   split at h
   ·rename_i ns ms e1 e2
    have:=ints_of hds e1
    subst this
    have:=ints_of hds' e2
    subst this
    refine V2 hu0 pins s σ H _ _ v u Q I rx ry ⟨p,p',ns,ms,rfl,rfl,hq,hq',?_⟩
    have el:∀(a b:List Int),HT.lexLt a b=Lp.lexLt a b:=by
     intro a
     induction a with
     |nil=>intro b;cases b<;>rfl
     |cons x r ih=>intro b;cases b with
      |nil=>rfl
      |cons y q=>rw[HT.jf,Lp.lexLt,ih]
    rw[el]
    exact h.ok hS (by simp[IsD])
   ·exact h.elim
  ·exact h.elim
 |le =>
  intro pins s σ H x y v u Q I rx ry ⟨ι,a,b,μ,hS,ha,hb,h⟩
  simp![cpD]at h
  split at h
  ·cases di ha;cases di hb
   exact aai pins s σ H _ _ v u Q I rx ry ⟨_,_,rfl,rfl,h.ok hS (by simp[IsD])⟩
  ·obtain⟨p,xs,rfl,hq,hds⟩:=gg ha
   obtain⟨p',xs',rfl,hq',hds'⟩:=gg hb
   split at h
   ·rename_i ns ms e1 e2
    have:=ints_of hds e1
    subst this
    have:=ints_of hds' e2
    subst this
    refine W9 hu0 I rx ry ⟨p,p',ns,ms,rfl,rfl,hq,hq',?_⟩
    have el:∀(a b:List Int),HT.lexLt a b=Lp.lexLt a b:=by
     intro a
     induction a with
     |nil=>intro b;cases b<;>rfl
     |cons x r ih=>intro b;cases b with
      |nil=>rfl
      |cons y q=>rw[HT.jf,Lp.lexLt,ih]
    rw[el]
    exact h.ok hS (by simp[IsD])
   ·exact h.elim
  ·exact h.elim
 |gt =>
  refine OpR.imp aaj λx y H Q ⟨ι,a,b,μ,hS,ha,hb,h⟩=>?_
  simp![cpD]at h
  split at h
  ·cases di ha;cases di hb
   exact⟨_,_,rfl,rfl,h.ok hS (by simp[IsD])⟩
  ·exact h.elim
 |ge =>
  intro pins s σ H x y v u Q I rx ry ⟨ι,a,b,μ,hS,ha,hb,h⟩
  simp![cpD]at h
  split at h
  ·cases di ha;cases di hb
   exact aak pins s σ H _ _ v u Q I rx ry ⟨_,_,rfl,rfl,h.ok hS (by simp[IsD])⟩
  ·obtain⟨p,xs,rfl,hq,hds⟩:=gg ha
   obtain⟨p',xs',rfl,hq',hds'⟩:=gg hb
   split at h
   ·rename_i ns ms e1 e2
    have:=ints_of hds e1
    subst this
    have:=ints_of hds' e2
    subst this
    refine Xa hu0 I rx ry ⟨p,p',ns,ms,rfl,rfl,hq,hq',?_⟩
    have el:∀(a b:List Int),HT.lexLt a b=Lp.lexLt a b:=by
     intro a
     induction a with
     |nil=>intro b;cases b<;>rfl
     |cons x r ih=>intro b;cases b with
      |nil=>rfl
      |cons y q=>rw[HT.jf,Lp.lexLt,ih]
    rw[el]
    exact h.ok hS (by simp[IsD])
   ·exact h.elim
  ·exact h.elim
 |is =>
  intro pins s σ H x y v u Q I rx ry ⟨ι,a,b,μ,hS,ha,hb,h⟩
  simp![cpD]at h
  split at h
  ·refine Vw pins s σ H x y v u Q I rx ry ⟨by simpa[IsD]using hb,?_⟩
   cases a with
   |tup ds=>obtain⟨p,xs,rfl,_⟩:=gg ha;exact h.ok hS (by simp[IsD])
   |lst ds =>
         obtain⟨p,xs,rfl,_⟩:∃p xs,x=V.ref p/\FzL X.K H p xs/\ak X.K ι H ds xs:=by simpa[IsD]using ha
         exact h.ok hS (by simp[IsD])
   |loc n =>
        obtain⟨p,rfl,_⟩:∃p,x=V.ref p/\ι[n]? = some p:=by simpa[IsD]using ha
        exact h.ok hS (by simp[IsD])
   |_=>have e:=ha;simp![IsD]at e;subst e;exact h.ok hS (by simp[IsD])
  ·cases C0 hb
   cases(show u=Value.bool _ from ry)
   split at h
   ·cases C0 ha
    cases(show v=Value.bool _ from rx)
    exact is_bool I (h.ok hS (by simp[IsD]))
   ·cases(show x=.non by simpa[IsD]using ha)
    cases(show v=Value.none from rx)
    exact Bb I (h.ok hS (by simp[IsD]))
   ·exact h.elim
  ·exact h.elim
 |isnot =>
  intro pins s σ H x y v u Q I rx ry ⟨ι,a,b,μ,hS,ha,hb,h⟩
  simp![cpD]at h
  split at h
  ·refine R6 pins s σ H x y v u Q I rx ry ⟨by simpa[IsD]using hb,?_⟩
   cases a with
   |tup ds=>obtain⟨p,xs,rfl,_⟩:=gg ha;exact h.ok hS (by simp[IsD])
   |lst ds =>
         obtain⟨p,xs,rfl,_⟩:∃p xs,x=V.ref p/\FzL X.K H p xs/\ak X.K ι H ds xs:=by simpa[IsD]using ha
         exact h.ok hS (by simp[IsD])
   |loc n =>
        obtain⟨p,rfl,_⟩:∃p,x=V.ref p/\ι[n]? = some p:=by simpa[IsD]using ha
        exact h.ok hS (by simp[IsD])
   |_=>have e:=ha;simp![IsD]at e;subst e;exact h.ok hS (by simp[IsD])
  ·cases C0 hb
   cases(show u=Value.bool _ from ry)
   split at h
   ·cases C0 ha
    cases(show v=Value.bool _ from rx)
    exact isnot_bool I (h.ok hS (by simp[IsD]))
   ·cases(show x=.non by simpa[IsD]using ha)
    cases(show v=Value.none from rx)
    exact vm I (h.ok hS (by simp[IsD]))
   ·exact h.elim
  ·exact h.elim
 |in_ =>
  intro pins s σ H x y v u Q I rx ry ⟨ι,a,b,μ,hS,ha,hb,h⟩
  simp![cpD]at h
  split at h
  ·rename_i ds e
   obtain⟨p,xs,rfl,hq,hds⟩:=A7 hS hb e
   split at h
   ·rename_i hf
    refine Iu pins s σ H _ _ v u Q I rx ry ⟨p,xs,rfl,hq.imp (·.sq) id,C1 ha hf.1,y9 hds hf.2,?_⟩
    simp![BA,if_false]
    rw[Jn ha hf.1 hds hf.2]
    exact h.ok hS (by simp[IsD])
   ·exact h.elim
  ·split at h
   ·rename_i kvs e
    obtain⟨p,q,xs,rfl,rfl,rfl,hp,hk⟩:=C2 hS hb ha e
    cases(show u=Value.ref p from ry)
    refine aew (by lia) I (.inl ⟨_,_,hp,rfl,rfl⟩) rx λs' I'=>⟨.bl (yc xs q).isSome,H,I',rfl,?_⟩
    rw[(um hk).isSome]
    exact h.ok hS (by simp[IsD])
   ·exact h.elim
 |notin =>
  intro pins s σ H x y v u Q I rx ry ⟨ι,a,b,μ,hS,ha,hb,h⟩
  simp![cpD]at h
  split at h
  ·rename_i ds e
   obtain⟨p,xs,rfl,hq,hds⟩:=A7 hS hb e
   split at h
   ·rename_i hf
    refine Aw pins s σ H _ _ v u Q I rx ry ⟨p,xs,rfl,hq.imp (·.sq) id,C1 ha hf.1,y9 hds hf.2,?_⟩
    simp![if_true]
    rw[Jn ha hf.1 hds hf.2]
    exact h.ok hS (by simp[IsD])
   ·exact h.elim
  ·split at h
   ·rename_i kvs e
    obtain⟨p,q,xs,rfl,rfl,rfl,hp,hk⟩:=C2 hS hb ha e
    cases(show u=Value.ref p from ry)
    refine Sg (by lia) I (.inl ⟨_,_,hp,rfl,rfl⟩) rx λs' I'=>⟨.bl (!(yc xs q).isSome),H,I',rfl,?_⟩
    rw[(um hk).isSome]
    exact h.ok hS (by simp[IsD])
   ·exact h.elim
end
open PySem.SeqAt (EqAt RcAt)
section
variable{X:Cx}{φ:Phi}{pins:List (Addr × Obj)}{σ:St}{H:Hp}{s:Shared}
noncomputable def PCh(X:Cx)(ops:List CmpOp)(es:List Expr)(t:V->TE):Prop :=
 ∀(pos:Pos) (pins:List (Addr×Obj)) (s:Shared) (σ:St) (H:Hp) (Q:VK) (x:V) (v:Value),Inv X pins σ H s->RelV x v->t x σ H Q ->
  wpAny (model X.prog X.w) X.A (compareChain pos v ops (evalEach es X.env)) (EP X pins σ Q) X.xe s
noncomputable def PTh(X:Cx)(ops:List CmpOp)(es:List Expr)(t:V->TT):Prop :=
 ∀(pos:Pos) (pins:List (Addr×Obj)) (s:Shared) (σ:St) (H:Hp) (Q:Bool->Hp->Prop) (x:V) (v:Value),Inv X pins σ H s->RelV x v->t x σ H Q ->
  wpAny (model X.prog X.w) X.A (testChain pos v ops (evalEach es X.env)) (TP X pins σ Q) X.xe s
noncomputable def tCh(K:PySem.W.Frag)(φ:Phi)(r:Cps):V->TE:=λx σv H Q=>∃ι σ μ d,Sim K ι H μ/\se K ι H σ σv/\IsD K ι H d x/\ij K (RD K) ι H (evC φ r d σ μ) Q
noncomputable def tTh(K:PySem.W.Frag)(φ:Phi)(r:Cps):V->TT:=λx σv H Q=>∃ι σ μ d,Sim K ι H μ/\se K ι H σ σv/\IsD K ι H d x/\ij K RB ι H ((evC φ r d σ μ).bind λz μ=>Zu z μ) Q
theorem Jp{op:Cp}{xe:Ex}{d:D}{σ:Sl}{μ:Sto}:evC φ (.cons op xe .nil) d σ μ=(evE φ xe σ μ).bind λy μ=>cpD op d y μ:=by
 simp![evC]
 cases evE φ xe σ μ with
 |ok y μ1 =>
  simp![Res.br]
  cases cpD op d y μ1<;>rfl
 |exc _ _ _=>rfl
 |stuck=>rfl
theorem Tc{op:Cp}{e:Expr}{xe:Ex}(ho:OpR X (compareOp (Tb op)) (rOp X.K (cpD op)))(he:PE X e (tE X.K φ xe)):PCh X [Tb op] [e] (tCh X.K φ (.cons op xe .nil)):=by
 intro pos pins s σv H Q x v I rx ⟨ι,σ,μ,d,hS,hL,hd,h⟩
 rw[Jp]at h
 obtain⟨y,μ1,e1,h⟩:=h.bind
 refine chain_last (thn (he pins s σv H (λw H1=>rOp X.K (cpD op) x w H1 Q) I ⟨ι,σ,μ,hS,hL,?_⟩) λu s1 ⟨w,H1,I1,r1,q1⟩=>ho pins s1 σv H1 x w v u Q I1 rx r1 q1)
 rw[e1]
 exact λι1 w H1 p1 x1 s1 d1=>⟨ι1,d,y,μ1,s1,IsD.mono p1 x1 _ _ hd,d1,h.mono p1 x1⟩
theorem Td{op:Cp}{e:Expr}{xe:Ex}(ho:OpR X (compareOp (Tb op)) (rOp X.K (cpD op)))(he:PE X e (tE X.K φ xe)):PTh X [Tb op] [e] (tTh X.K φ (.cons op xe .nil)):=by
 intro pos pins s σv H Q x v I rx ⟨ι,σ,μ,d,hS,hL,hd,h⟩
 rw[Jp,Res.bind_assoc]at h
 obtain⟨y,μ1,e1,h⟩:=h.bind
 refine test_last (thn (he pins s σv H (λw H1=>rOp X.K (cpD op) x w H1 (λz H2=>∃k,z=.bl k/\Q k H2)) I ⟨ι,σ,μ,hS,hL,?_⟩) λu s1 ⟨w,H1,I1,r1,q1⟩=>thn (ho pins s1 σv H1 x w v u _ I1 rx r1 q1) λc s2 ⟨z,H2,I2,r2,k,ek,q2⟩=>?_)
 ·rw[e1]
  intro ι1 w H1 p1 x1 s1 d1
  obtain⟨z,μ2,e2,h⟩:=h.bind
  refine⟨ι1,d,y,μ1,s1,IsD.mono p1 x1 _ _ hd,d1,?_⟩
  rw[e2]
  intro ι2 z' H2 p2 x2 s2 d2
  cases z with
  |bl k=>exact⟨k,C0 d2,h ι2 k H2 (p1.trans p2) (x1.trans x2) s2 rfl⟩
  |_=>exact h.elim
 ·subst ek
  cases r2
  exact FV ⟨H2,I2,q2⟩
theorem abn{a:Expr}{xa:Ex}{ops:List CmpOp}{es:List Expr}{r:Cps}{pos:Pos}(ha:PE X a (tE X.K φ xa))(hr:PCh X ops es (tCh X.K φ r))(hm:lastMarks ops es=false):PE X (.Compare a ops es pos) (tE X.K φ (.cmp xa r)):=by
 intro pins s σv H Q I ⟨ι,σ,μ,hS,hL,h⟩
 simp![evE]at h
 obtain⟨d,μ1,e1,h⟩:=h.bind
 show wpAny _ _ (do compareChain pos (<-eval a X.env) ops (markedEach ops es (evalEach es X.env))) _ _ _
 rw[markedEach_of_false _ _ _ hm]
 refine AC (thn (ha pins s σv H (λx H1=>tCh X.K φ r x σv H1 Q) I ⟨ι,σ,μ,hS,hL,?_⟩) λv s1 ⟨x,H1,I1,r1,q1⟩=>hr pos pins s1 σv H1 Q x v I1 r1 q1)
 rw[e1]
 exact λι1 x H1 p1 x1 s1 d1=>⟨ι1,σ,μ1,d,s1,hL.mono p1 x1,d1,h.mono p1 x1⟩
theorem Xc{a:Expr}{xa:Ex}{ops:List CmpOp}{es:List Expr}{r:Cps}{pos:Pos}(ha:PE X a (tE X.K φ xa))(hr:PTh X ops es (tTh X.K φ r))(hm:lastMarks ops es=false):PT X (.Compare a ops es pos) (tT X.K φ (.cmp xa r)):=by
 intro pins s σv H Q I ⟨ι,σ,μ,hS,hL,h⟩
 simp![evE]at h
 rw[Res.bind_assoc]at h
 obtain⟨d,μ1,e1,h⟩:=h.bind
 show wpAny _ _ (do testChain pos (<-eval a X.env) ops (markedEach ops es (evalEach es X.env))) _ _ _
 rw[markedEach_of_false _ _ _ hm]
 refine AC (thn (ha pins s σv H (λx H1=>tTh X.K φ r x σv H1 Q) I ⟨ι,σ,μ,hS,hL,?_⟩) λv s1 ⟨x,H1,I1,r1,q1⟩=>hr pos pins s1 σv H1 Q x v I1 r1 q1)
 rw[e1]
 exact λι1 x H1 p1 x1 s1 d1=>⟨ι1,σ,μ1,d,s1,hL.mono p1 x1,d1,h.mono p1 x1⟩
theorem Xd{l:Expr}{xl:Ex}{tg:Expr}(hl:PE X l (tE X.K φ xl)):PI X tg l (tI X.K φ (.seq xl)):=by
 intro pins s σv H R I ⟨ι,σ,μ,hS,hL,h⟩
 simp![evI]at h
 cases e1:evE φ xl σ μ with
 |exc _ _ _=>rw[e1]at h;exact h.elim
 |stuck=>rw[e1]at h;exact h.elim
 |ok d μ1 =>
 rw[e1]at h
 simp![Res.br]at h
 have hq:tE X.K φ xl σv H (λv H1=>∃ι1,ι <+: ι1/\Ext H H1/\Sim X.K ι1 H1 μ1/\IsD X.K ι1 H1 d v):=⟨ι,σ,μ,hS,hL,by rw[e1];exact λι1 v H1 p1 x1 s1 d1=>⟨ι1,p1,x1,s1,d1⟩⟩
 refine thn (hl pins s σv H _ I hq) λu s1 ⟨v,H1,I1,r1,ι1,p1,x1,S1,d1⟩=>?_
 -- a list,at a,whatever its items
 have lst:∀(a:Addr) (xs:List V) (ds:List D) (g:Gd),v=.ref a->LsL X.K H1 a xs->ak X.K ι1 H1 ds xs->(∀ι2 H2 μ2,ι1 <+: ι2->Ext H1 H2->Sim X.K ι2 H2 μ2->gd g μ2->∃ys,LsL X.K H2 a ys/\ak X.K ι2 H2 ds ys) ->
   (∀ι' H' J,ι <+: ι'->Ext H H'->Sim X.K ι' H' μ1->Walk X.K ι' H' J ds g->R J H')->wpAny (model X.prog X.w) X.A (pyIter u) (PIE X pins σv tg R) X.xe s1:=by
  intro a xs ds g ev hls hds stay hR
  subst ev
  cases(show u=Value.ref a from r1)
  obtain⟨its,rv,p,hz⟩:=I1.list hls.sq
  refine wpAny_pyIter_list p.isList ?_
  refine⟨s1.heap.objs.size,[s1.heap.objs.size],_,_,H1,rfl,I1.kept (t':=s1.toks) λb o e=>AH _ e,Ie a _,⟨_,AZ _ rfl,rfl,rfl⟩,λb hb=>?_,hR ι1 H1 _ p1 x1 S1 ?_⟩
  ·have e:b=s1.heap.objs.size:=by simpa using hb
   subst e
   exact I1.fpOk (AK _) (I1.hok.fresh (AK _))
  ·refine⟨by rw[<-hds.length];exact hz,λi ι2 H2 μ2 q1 q2 q3 q4 hi=>?_,λi ι2 H2 μ2 w H3 q1 q2 q3 q4 hi hy=>?_,λι2 H2 μ2 q1 q2 q3 q4=>?_⟩
   ·obtain⟨ys,y1,y2⟩:=stay ι2 H2 μ2 q1 q2 q3 q4
    obtain⟨w,e,_⟩:=y2.get (AA hi)
    exact⟨ys,w,y1.sq,e⟩
   ·obtain⟨ys,y1,y2⟩:=stay ι2 H2 μ2 q1 q2 q3 q4
    obtain⟨e,hy⟩:=hy
    subst e
    obtain⟨w',e',q'⟩:=y2.get (AA hi)
    have:=hy ys y1.sq
    rw[e']at this;cases this
    exact⟨.refl _,q3,_,AA hi,q'⟩
   ·obtain⟨ys,y1,y2⟩:=stay ι2 H2 μ2 q1 q2 q3 q4
    exact⟨ys,y1.sq,by rw[y2.length];exact AK _⟩
 cases d with
 |tup ds =>
  simp![da]at h
  obtain⟨a,xs,rfl,hq,hds⟩:=gg d1
  cases(show u=Value.ref a from r1)
  obtain⟨its,rv,p,hz⟩:=I1.tuple hq
  refine FH (show s1.heap.IsTuple a its.toArray from p) ?_
  refine⟨s1.heap.objs.size,[s1.heap.objs.size],_,_,H1,rfl,I1.kept (t':=s1.toks) λb o e=>AH _ e,Gi a _,⟨_,AZ _ rfl,rfl,rfl⟩,λb hb=>?_,h ι1 H1 _ p1 x1 S1 ?_⟩
  ·have e:b=s1.heap.objs.size:=by simpa using hb
   subst e
   exact I1.fpOk (AK _) (I1.hok.fresh (AK _))
  ·refine⟨by rw[<-hds.length];exact hz,λi ι2 H2 μ2 q1 q2 q3 q4 hi=>?_,λi ι2 H2 μ2 w H3 q1 q2 q3 q4 hi hy=>?_,λι2 H2 μ2 q1 q2 q3 q4=>?_⟩
   ·obtain⟨w,e,_⟩:=hds.get (AA hi)
    exact⟨xs,w,hq.ext q2,e⟩
   ·obtain⟨e,hy⟩:=hy
    subst e
    obtain⟨w',e',q'⟩:=hds.get (AA hi)
    have:=hy xs (hq.ext q2)
    rw[e']at this;cases this
    exact⟨.refl _,q3,_,AA hi,IsD.mono q1 q2 _ _ q'⟩
   ·exact⟨xs,hq.ext q2,by rw[hds.length];exact AK _⟩
 |lst ds =>
  simp![da]at h
  obtain⟨a,xs,rfl,hq,hds⟩:∃a xs,v=.ref a/\FzL X.K H1 a xs/\ak X.K ι1 H1 ds xs:=by simpa[IsD]using d1
  exact lst a xs ds none rfl (.inr hq) hds (λι2 H2 μ2 q1 q2 q3 q4=>⟨xs,.inr (hq.ext q2),ak.mono q1 q2 _ _ hds⟩) h
 |loc n =>
  obtain⟨a,rfl,hn⟩:∃a,v=.ref a/\ι1[n]? = some a:=by simpa[IsD]using d1
  have pre:∀{ι2:List Addr},ι1 <+: ι2->ι2[n]? = some a:=λhp=>by
   obtain⟨t,rfl⟩:=hp
   rw[AN (AB.mp hn).1];exact hn
  cases em:μ1[n]? with
  |none=>simp![da,em]at h
  |some o =>
   simp![da,em]at h
   cases o with
   |l ds =>
    simp only at h
    obtain⟨a',q',ho⟩:=S1.at em
    rw[hn]at q';cases q'
    obtain⟨xs,f1,f2⟩:=ho
    refine lst a xs ds (some (n,.l ds)) rfl (.inl f1) (ak.mono (CU) (.refl _) _ _ f2) (λι2 H2 μ2 q1 q2 q3 q4=>?_) h
    obtain⟨a2,e2,o2⟩:=q3.at (show μ2[n]? = some (.l ds)from q4)
    rw[pre q1]at e2;cases e2
    obtain⟨ys,g1,g2⟩:=o2
    exact⟨ys,.inl g1,ak.mono (CU) (.refl _) _ _ g2⟩
   |r ds =>
    simp only at h
    obtain⟨a',q',ho⟩:=S1.at em
    rw[hn]at q';cases q'
    obtain⟨xs,f1,f2⟩:=ho
    refine lst a xs ds (some (n,.r ds)) rfl (.inl f1) f2 (λι2 H2 μ2 q1 q2 q3 q4=>?_) h
    obtain⟨a2,e2,o2⟩:=q3.at (show μ2[n]? = some (.r ds)from q4)
    rw[pre q1]at e2;cases e2
    obtain⟨ys,g1,g2⟩:=o2
    exact⟨ys,.inl g1,g2⟩
   |d kvs=>simp only at h
   |dt kvs=>simp only at h
   |x _=>simp only at h
   |o _ _=>simp only at h
   |dr _=>simp only at h
   |fd _=>simp only at h
   |dead=>simp only at h
 |_=>simp![da]at h
theorem yi{K:PySem.W.Frag}{ι:List Addr}{H:Hp}(lo:Int)(n:Nat)(hn:n<=sizeLine):Walk K ι H (Itr lo n) ((List.range n).map fun(k:Nat)=>D.int (lo+k)) none:=by
 refine⟨by simpa using hn,λi ι2 H2 μ2 q1 q2 q3 q4 hi=>by simpa[Itr]using hi,λi ι2 H2 μ2 w H3 q1 q2 q3 q4 hi hy=>?_,λι2 H2 μ2 q1 q2 q3 q4=>by simp[Itr]⟩
 obtain⟨e,hy⟩:=hy
 subst e
 have hi':i<n:=by simpa using hi
 exact⟨.refl _,q3,.int (lo+i),by simp[hi'],by simp[IsD,hy]⟩
theorem Xe{a:Expr}{xa:Ex}{tg:Expr}{p pos:Pos}(hg:Gl X "range")(hm:X.mg "range"=none)(ha:PE X a (tE X.K φ xa))(hs:starEach [a] X.env=[(false,eval a X.env)]):PI X tg (.Call (.Name "range" p) [a] [] pos) (tI X.K φ (.rng xa)) :=
 PI.imp (Ig hg hm (ub ha Jc hs) hs) λσv H R ⟨ι,σ,μ,hS,hL,h⟩=>by
  simp![evI]at h
  refine⟨ι,σ,μ,hS,hL,?_⟩
  simp![gn]
  cases e1:evE φ xa σ μ with
  |exc _ _ _=>rw[e1]at h;exact h.elim
  |stuck=>rw[e1]at h;exact h.elim
  |ok d μ1 =>
   rw[e1]at h
   simp![Res.br]at h ⊢
   cases d with
   |int j =>
    simp only at h
    by_cases hj:-(lim:Int)<=j/\j<=lim
    ·rw[if_pos hj]at h
     rw[g8]at hj
     have h24:sizeLine=16777216:=GG
     rw[h24]at hj
     intro ι1 vs H1 p1 x1 s1 d1
     have e:vs=[.int j]:=by
      have q:ak X.K ι1 H1 [.int j] vs:=d1
      simp![ak]at q
      obtain⟨v,r,rfl,q1,rfl⟩:=q
      cases di q1
      rfl
     refine⟨j,e,by lia,by lia,h ι1 H1 _ p1 x1 s1 ?_⟩
     have w:=yi (K:=X.K) (ι:=ι1) (H:=H1) 0 j.toNat (by lia)
     simpa using w
    ·rw[if_neg hj]at h
     exact h.elim
   |_=>exact h.elim
theorem Te {a b:Expr} {xa xb:Ex} {tg:Expr} {p pos:Pos} (hg:Gl X "range") (hm:X.mg "range"=none) (ha:PE X a (tE X.K φ xa)) (hb:PE X b (tE X.K φ xb)) (hs:starEach [a,b] X.env=[(false,eval a X.env),(false,eval b X.env)])
  (hs2:starEach [b] X.env=[(false,eval b X.env)]):PI X tg (.Call (.Name "range" p) [a,b] [] pos) (tI X.K φ (.rng2 xa xb)) :=
 PI.imp (Ih hg hm (ub ha (ub hb Jc hs2) (by rw[hs,hs2])) hs hs2) λσv H R ⟨ι,σ,μ,hS,hL,h⟩=>by
  simp![evI]at h
  refine⟨ι,σ,μ,hS,hL,?_⟩
  simp![gn]
  cases e1:evE φ xa σ μ with
  |exc _ _ _=>rw[e1]at h;exact h.elim
  |stuck=>rw[e1]at h;exact h.elim
  |ok d μ1 =>
   rw[e1]at h
   simp![Res.br]at h ⊢
   cases e2:evE φ xb σ μ1 with
   |exc _ _ _=>rw[e2]at h;exact h.elim
   |stuck=>rw[e2]at h;exact h.elim
   |ok d2 μ2 =>
    rw[e2]at h
    simp![Res.br]at h ⊢
    cases d with
    |int i =>
     cases d2 with
     |int j =>
      simp only at h
      by_cases hj:-(lim:Int)<=i/\i<=lim/\j<=lim /\ -(lim:Int)<=j/\(j-i)<=lim
      ·rw[if_pos hj]at h
       rw[g8]at hj
       have h24:sizeLine=16777216:=GG
       rw[h24]at hj
       intro ι1 vs H1 p1 x1 s1 d1
       have e:vs=[.int i,.int j]:=by
        have q:ak X.K ι1 H1 [.int i,.int j] vs:=d1
        simp![ak]at q
        obtain⟨v,r,rfl,q1,w,r2,rfl,q2,rfl⟩:=q
        cases di q1
        cases di q2
        rfl
       refine⟨i,j,e,⟨by lia,by lia,by lia,by lia⟩,h ι1 H1 _ p1 x1 s1 ?_⟩
       exact yi (K:=X.K) (ι:=ι1) (H:=H1) i (j-i).toNat (by lia)
      ·rw[if_neg hj]at h
       exact h.elim
     |_=>exact h.elim
    |_=>exact h.elim
noncomputable def xu(K:PySem.W.Frag)(f:List D->Sto->Res D):List V->Hp->VK->Prop:=λxs H Q=>∃ι ds μ,Sim K ι H μ/\ak K ι H ds xs/\ij K (RD K) ι H (f ds μ) Q
theorem Xf{K:PySem.W.Frag}{ι:List Addr}{d:D}{xs:List V}(h:ak K ι H [d] xs):∃v,xs=[v]/\IsD K ι H d v:=by
 simp![ak]at h
 obtain⟨v,r,rfl,q,rfl⟩:=h
 exact⟨v,rfl,q⟩
theorem P5{K:PySem.W.Frag}{ι:List Addr}{d e:D}{xs:List V}(h:ak K ι H [d,e] xs):∃v w,xs=[v,w]/\IsD K ι H d v/\IsD K ι H e w:=by
 simp![ak]at h
 obtain⟨v,r,rfl,q,w,r2,rfl,q2,rfl⟩:=h
 exact⟨v,w,rfl,q,q2⟩
theorem nq{K:PySem.W.Frag}{ι:List Addr}{ds:List D}{xs:List V}{μ:Sto}{f:D->Sto->Res D}{Q:VK}(hds:ak K ι H ds xs)(h:ij K (RD K) ι H (qx f ds μ) Q) :
  ∃d v,xs=[v]/\IsD K ι H d v/\ij K (RD K) ι H (f d μ) Q:=by
 unfold qx at h
 split at h
 ·rename_i d
  obtain⟨v,rfl,hv⟩:=Xf hds
  exact⟨d,v,rfl,hv,h⟩
 ·exact h.elim
theorem C3{K:PySem.W.Frag}{ι:List Addr}{d:D}{v:V}{μ:Sto}{f:List D->Sto->Res D}{Q:VK}(hS:Sim K ι H μ)(hd:IsD K ι H d v)(h:ij K (RD K) ι H (seq1 f d μ) Q) :
  ∃a xs ds,v=.ref a/\(LsL K H a xs\/SqT K H a xs)/\ak K ι H ds xs/\ij K (RD K) ι H (f ds μ) Q:=by
 unfold seq1 at h
 split at h
 ·rename_i ds e
  obtain⟨a,xs,rfl,hq,hxs⟩:=A7 hS hd e
  exact⟨a,xs,ds,rfl,hq,hxs,h⟩
 ·exact h.elim
theorem Tf{K:PySem.W.Frag}{ι:List Addr}{d:D}{v:V}{μ:Sto}{f:List Int->Sto->Res D}{Q:VK}(hS:Sim K ι H μ)(hd:IsD K ι H d v)(h:ij K (RD K) ι H (Sn f d μ) Q) :
  ∃a ns,v=.ref a/\(LsL K H a (ns.map V.int)\/SqT K H a (ns.map V.int))/\ij K (RD K) ι H (f ns μ) Q:=by
 unfold Sn at h
 cases e:g7 μ d with
 |none=>rw[e]at h;exact h.elim
 |some ds =>
  rw[e]at h
  simp![Da]at h
  split at h
  ·rename_i ns e2
   obtain⟨a,xs,rfl,hq,hxs⟩:=A7 hS hd e
   rw[ints_of hxs e2]at hq
   exact⟨a,ns,rfl,hq,h⟩
  ·exact h.elim
theorem bt_len{m:Mk}:gk X (.builtin "len") (xu X.K (btD .len m)):=gk.imp Ax λxs H Q ⟨ι,ds,μ,hS,hds,h⟩=>by
 obtain⟨d,v,rfl,hv,h⟩:=nq hds h
 obtain⟨a,xs,es,rfl,hq,hxs,h⟩:=C3 hS hv h
 exact⟨a,xs,rfl,hq.imp (·.sq) id,by rw[hxs.length];exact h.ok hS (by simp[IsD])⟩
theorem bt_tuple{m:Mk}:gk X (.type "tuple") (xu X.K (btD .tuple m)):=gk.imp yz λxs H Q ⟨ι,ds,μ,hS,hds,h⟩=>by
 obtain⟨d,v,rfl,hv,h⟩:=nq hds h
 obtain⟨a,xs,es,rfl,hq,hxs,h⟩:=C3 hS hv h
 refine⟨a,xs,rfl,?_⟩
 rcases hq with hq | hq
 ·exact .inl ⟨hq.sq,λl hl=>y6 hS hxs h hl⟩
 ·exact .inr ⟨hq,h.ok hS (tup_is hq hxs)⟩
theorem bt_list{m:Mk}:gk X (.type "list") (xu X.K (btD .list m)):=gk.imp (gk.fq Ay) λxs H Q ⟨ι,ds,μ,hS,hds,h⟩=>by
 obtain⟨d,v,rfl,hv,h⟩:=nq hds h
 obtain⟨a,xs,es,rfl,hq,hxs,h⟩:=C3 hS hv h
 exact⟨a,xs,rfl,hq.imp (·.sq) id,λl hl=>qp hS hxs h hl⟩
theorem bt_min{m:Mk}(hc:X.calm=true):gk X (.builtin "min") (xu X.K (btD .min m)):=gk.imp (Ik hc) λxs H Q ⟨ι,ds,μ,hS,hds,h⟩=>by
 simp![btD,minD]at h
 split at h
 ·rename_i i j
  obtain⟨v,w,rfl,hv,hw⟩:=P5 hds
  cases di hv
  cases di hw
  exact⟨i,j,rfl,h.ok hS (by simp[IsD])⟩
 ·exact h.elim
theorem bt_max{m:Mk}(hc:X.calm=true):gk X (.builtin "max") (xu X.K (btD .max m)):=gk.imp (Ij hc) λxs H Q ⟨ι,ds,μ,hS,hds,h⟩=>by
 simp![btD,maxD]at h
 split at h
 ·rename_i i j
  obtain⟨v,w,rfl,hv,hw⟩:=P5 hds
  cases di hv
  cases di hw
  exact⟨i,j,rfl,h.ok hS (by simp[IsD])⟩
 ·exact h.elim
theorem Xg{m:Mk}:gk X (.type "int") (xu X.K (btD .int m)):=gk.imp Il λxs H Q ⟨ι,ds,μ,hS,hds,h⟩=>by
 obtain⟨d,v,rfl,hv,h⟩:=nq hds h
 unfold Pu at h
 split at h
 ·rename_i b
  cases C0 hv
  exact .inr ⟨b,rfl,h.ok hS (by simp[IsD])⟩
 ·rename_i i
  cases di hv
  exact .inl ⟨i,rfl,h.ok hS (by simp[IsD])⟩
 ·exact h.elim
theorem N6 {A:Around} {E:Value->Shared->Prop} {a:Addr} {xs:List V} (I:Inv X pins σ H s) (hq:LsL X.K H a xs\/SqT X.K H a xs) (hh:A.handled=none) {Q:Value->Shared->Prop}
  (h:∀(it:Addr) (fp:List Addr) (its:List Value) St s2,c9 xs its->Walks X.prog X.w A it fp [it] its.length (λi v=>its[i]? = some v) St->St 0 s2.heap->(∀b∈fp,b<s2.heap.objs.size) ->
   (∀h' tk,(∀b o,b∉[it]->s2.heap.get? b=some o->h'.get? b=some o)->Inv X pins σ H {s2 with heap:=h',toks:=tk})->Q (.ref it) s2) :
  wpAny (model X.prog X.w) A (pyIter (.ref a)) Q E s:=by
 have fin:∀(ob:Obj) (h':Heap) (tk:Nat),(∀b o,b∉[s.heap.objs.size]->(s.heap.push ob).get? b=some o->h'.get? b=some o)->Inv X pins σ H {s with heap:=h',toks:=tk}:=λob h' tk hk =>
  I.kept λb u e=>hk b u (by simp;exact BJ (AR e)) (AH _ e)
 rcases hq with hq | hq
 ·obtain⟨z,its,n,hv,hl,hg⟩:=I.ls hq
  have hil:s.heap.IsList a its.toArray:=⟨_,hg,rfl,n,rfl⟩
  refine wpAny_pyIter_list hil ?_
  have hne:a≠s.heap.objs.size:=BJ (AR hg)
  have W:=Walks.list (prog:=X.prog) (w:=X.w) (A:=A) hh s.heap.objs.size a hne its.toArray
  simp![AJ,IP]at W
  refine h s.heap.objs.size _ its _ _ hv W ⟨⟨_,AZ _ rfl,rfl,rfl⟩,hil.at λo e=>AH _ e⟩ (λb hb=>?_) (λh' tk hk=>fin _ h' tk hk)
  simp![AS,BY,or_false]at hb
  rw[FA]
  rcases hb with rfl | rfl
  ·exact HW _
  ·exact HL (AR hg)
 ·obtain⟨its,hv,ht,hz⟩:=I.tuple hq
  have hit:s.heap.IsTuple a its.toArray:=ht
  refine FH hit ?_
  obtain⟨o,ho,_⟩:=id hit
  have hne:a≠s.heap.objs.size:=BJ (AR ho)
  have W:=Walks.tuple (prog:=X.prog) (w:=X.w) (A:=A) hh s.heap.objs.size a hne its.toArray
  simp![AJ,IP]at W
  refine h s.heap.objs.size _ its _ _ hv W ⟨⟨_,AZ _ rfl,rfl,rfl⟩,hit.at λo e=>AH _ e⟩ (λb hb=>?_) (λh' tk hk=>fin _ h' tk hk)
  simp![AS,BY,or_false]at hb
  rw[FA]
  rcases hb with rfl | rfl
  ·exact HW _
  ·exact HL (AR ho)
theorem Bc(ns:List Int):∀k,k<=ns.length->preSum (λi=>ns.getD i 0) k=(ns.take k).sum
 |0,_=>by simp[preSum]
 |k+1,h=>by
  rw[preSum,Bc ns k (by lia),List.take_succ,DG,BM,AA (by lia)]
  simp
theorem bt_sum{m:Mk}(hc:X.calm=true):gk X (.builtin "sum") (xu X.K (btD .sum m)):=by
 intro pins s σ H xs us Q I r ⟨ι,ds,μ,hS,hds,h⟩
 obtain⟨d,v,rfl,hv,h⟩:=nq hds h
 obtain⟨a,ns,rfl,hq,h⟩:=Tf hS hv h
 obtain⟨u,rfl,ru⟩:=vals1 r
 cases(show u=Value.ref a from ru)
 refine call_sum_walkG (N6 I hq (show X.A.in1.handled=none from I.ok.hd hc) λit fp its St s2 hvs W st hfp hI=>?_)
 have hl:ns.length=its.length:=by have:=hvs.length;simpa using this
 refine⟨it,fp,[it],its.length,_,St,λi=>ns.getD i 0,rfl,W,st,hfp,λi w e=>?_,λh' tk t' hk=>?_⟩
 ·have hi:i<ns.length:=by rw[hl];exact(AB.mp e).1
  obtain⟨u',e1,⟨t,e2⟩⟩:=hvs.get (i:=i) (x:=.int ns[i]) (by simp[AA hi])
  rw[e]at e1;cases e1
  exact⟨t,by rw[e2];simp[BM,AA hi]⟩
 ·refine⟨.int ns.sum,H,hI h' tk hk,⟨t',?_⟩,h.ok hS (by simp[IsD])⟩
  rw[<-hl,Bc ns ns.length (AK _),BR]
end
theorem C4 {prog:Program} {w:World} {A:Around} {E:Value->Shared->Prop} {s:Shared} {t sl:Addr} {items:Array Value} {vl vu:Value} {lo hi:Option Int} {Q:Value->Shared->Prop} (ht:IsTup s.heap t items) (hs:s.heap.IsSliceOf sl vl vu .none) (pl:IsPart vl lo) (pu:IsPart vu hi)
  (hw:HT.sIx items.size 0 lo=0/\HT.sIx items.size items.size hi=items.size) (h:Q (.ref t) s):wpAny (model prog w) A (getItem (.ref t) (.ref sl)) Q E s:=by
 obtain⟨os,hos,hcs,hds⟩:=id hs
 have hTs:s.TypeIs (.ref sl) "slice":=⟨os,hos,hcs⟩
 unfold getItem
 try with_reducible refine EV ?_
 first | refine AC (AO ?_) | skip
 refine AC (wpAny_sequenceKey ht.typeIs (by decide) ?_)
 refine AC (DK (name:=Str.ofString "__getitem__") ht.typeIs CN
  (EG CN ht.typeIs entry_tuple_getitem ?_ (args_tuple_getitem _ _)))
 show wpAny _ _ (Builtin.Tuple.tupleItemsOf (.ref t)>>=_) _ _ s
 refine AC (tupleItemsOf_ ht ?_)
 refine AC (IC hTs ?_)
 rw[if_pos (by decide)]
 refine AC (HT.og hs pl pu ?_)
 have hyes:(((HT.sIx items.size 0 lo:Nat):Int)==0&&(1:Int)==1&&(HT.sIx items.size items.size hi-HT.sIx items.size 0 lo)==items.size)=true:=by
  rw[hw.1,hw.2];simp
 show wpAny _ _ (if(((HT.sIx items.size 0 lo:Nat):Int)==0&&(1:Int)==1&&(HT.sIx items.size items.size hi-HT.sIx items.size 0 lo)==items.size)=true then _ else _) _ _ s
 rw[if_pos hyes]
 refine AC ?_
 unfold Builtin.Tuple.tupleIsExact
 refine AC (IC ht.typeIs (AO ?_))
 rw[if_pos (by decide)]
 exact AC (FG (AO ⟨_,rfl,AO h⟩))
section
variable{X:Cx}{φ:Phi}{pins:List (Addr × Obj)}{σ:St}{H:Hp}{s:Shared}
theorem abo{m:Mk}:SlR X (λx lo hi H Q=>∃ι d μ,Sim X.K ι H μ/\IsD X.K ι H d x/\ij X.K (RD X.K) ι H (slD m d lo hi μ) Q):=by
 intro pins s σ H x v vl vu lo hi sl Q I rx hs pl pu ⟨ι,d,μ,hS,hd,h⟩
 unfold slD at h
 split at h
 ·rename_i ds
  obtain⟨a,xs,rfl,hq,hxs⟩:=gg hd
  by_cases hw:HT.sIx xs.length 0 lo=0/\HT.sIx xs.length xs.length hi=xs.length
  ·cases(show v=Value.ref a from rx)
   obtain⟨its,r,ht,hz⟩:=I.tuple hq
   have hlen:its.toArray.size=xs.length:=by rw[AJ];exact r.length.symm
   refine⟨"tuple",_,CN.lookup,ht.typeIs,C4 ht hs pl pu (by rw[hlen];exact hw) ⟨.ref a,H,I,rfl,h.ok hS ?_⟩⟩
   have e1:∀n d o,Lp.sIx n d o=HT.sIx n d o:=λn d o=>by cases o<;>rfl
   have ec:cut ds lo hi=ds:=by
    unfold cut
    rw[e1,e1,<-hxs.length,hw.1,hw.2]
    simp[hxs.length]
   rw[ec]
   exact hd
  ·exact V1 pins s σ H _ v vl vu lo hi sl Q I rx hs pl pu ⟨a,xs,rfl,hq,hw,λp hp=>y6 hS (P0 hxs lo hi) h hp⟩
 ·split at h
  ·rename_i es
   obtain⟨a,xs,rfl,ha,hxs⟩:=k8 hS hd es
   exact SlR.fq Se pins s σ H _ v vl vu lo hi sl Q I rx hs pl pu ⟨a,xs,rfl,ha.sq,λp hp=>qp hS (P0 hxs lo hi) h hp⟩
  ·exact h.elim
theorem PO.imp{e:Option Expr}{t t':TO}(h:PO X e t)(i:∀σ H Q,t' σ H Q->t σ H Q):PO X e t':=by
 intro pins s σ H Q I q
 exact h pins s σ H Q I (i _ _ _ q)
theorem afd:PO X none (tEo X.K φ .no):=PO.imp R9 λσv H Q ⟨ι,σ,μ,hS,hL,h⟩=>by
 simp![evO]at h
 exact h.ok hS rfl
theorem afe{e:Expr}{x:Ex}(he:PE X e (tE X.K φ x)):PO X (some e) (tEo X.K φ (.so x)):=PO.imp (Sa he) λσv H Q ⟨ι,σ,μ,hS,hL,h⟩=>by
 simp![evO]at h
 obtain⟨d,μ1,e1,h⟩:=h.bind
 refine⟨ι,σ,μ,hS,hL,?_⟩
 rw[e1]
 intro ι1 v H1 p1 x1 s1 d1
 cases d with
 |int i=>exact⟨i,di d1,h ι1 (some i) H1 p1 x1 s1 rfl⟩
 |_=>exact h.elim
theorem aff{e:Expr}{lo hi:Option Expr}{x:Ex}{xl xh:ExO}{m:Mk}{p2 pos:Pos}(he:PE X e (tE X.K φ x))(hl:PO X lo (tEo X.K φ xl))(hh:PO X hi (tEo X.K φ xh)):PE X (.Subscript e (.Slice lo hi none p2) pos) (tE X.K φ (.sl m x xl xh)) :=
 PE.imp (Np abo he hl hh) λσv H Q ⟨ι,σ,μ,hS,hL,h⟩=>by
  simp![evE]at h
  obtain⟨d,μ1,e1,h⟩:=h.bind
  refine⟨ι,σ,μ,hS,hL,?_⟩
  rw[e1]
  intro ι1 v H1 p1 x1 s1 d1
  obtain⟨l,μ2,e2,h⟩:=h.bind
  refine⟨ι1,σ,μ1,s1,hL.mono p1 x1,?_⟩
  rw[e2]
  intro ι2 l' H2 p2 x2 s2 d2
  cases d2
  obtain⟨u,μ3,e3,h⟩:=h.bind
  refine⟨ι2,σ,μ2,s2,(hL.mono p1 x1).mono p2 x2,?_⟩
  rw[e3]
  intro ι3 u' H3 p3 x3 s3 d3
  cases d3
  exact⟨ι3,d,μ3,s3,IsD.mono p3 x3 _ _ (IsD.mono p2 x2 _ _ d1),h.mono ((p1.trans p2).trans p3) ((x1.trans x2).trans x3)⟩
noncomputable def ud:Cl->String
 |.int=>"int"
 |.bool=>"bool"
 |.tuple=>"tuple"
 |.list=>"list"
 |.str=>"str"
 |.own _=>""
noncomputable def zc:String->Cl->Bool
 | "bool",.int=>true
 | "bool",.bool=>true
 | "int",.int=>true
 | "str",.str=>true
 | "tuple",.tuple=>true
 | "list",.list=>true
 |_,_=>false
theorem vn(K:PySem.W.Frag)(t:String)(c:Cl)(hc:∀n,c≠.own n)(ht:t∈["NoneType","bool","int","str","tuple","list"]):PySem.W.kitOne K (.type t) (.type (ud c))=some (zc t c):=by
 simp![AS,BY,or_false]at ht
 rcases ht with rfl | rfl | rfl | rfl | rfl | rfl<;>cases c<;>first | rfl | exact absurd rfl (hc _)
theorem Xh{c:Cl}(hc:∀n,c≠.own n):gk X (.builtin "isinstance") (λxs H Q=>∃ι d μ v,xs=[v,.ty (ud c)]/\Sim X.K ι H μ/\IsD X.K ι H d v/\ij X.K (RD X.K) ι H (U7 c d μ) Q):=by
 intro pins s σ H xs us Q I r ⟨ι,d,μ,v,e,hS,hd,h⟩
 subst e
 obtain⟨u,w,rfl,ru,rw'⟩:=vals2 r
 cases(show w=Value.type (ud c)from rw')
 have key:∀(t:String),t∈["NoneType","bool","int","str","tuple","list"]->(∀tk,EP X pins σ Q (.bool (zc t c)) {s with toks:=tk})->PySem.W.kitOne X.K (.type t) (.type (ud c))=some (zc t c)/\∀tk,EP X pins σ Q (.bool (zc t c)) {s with toks:=tk}:=λt ht hq=>⟨vn X.K t c hc ht,hq⟩
 have lst:∀a xs,v=.ref a->LsL X.K H a xs->Q (.bl (zc "list" c)) H->wpAny (model X.prog X.w) X.A (call (.builtin "isinstance") [u,.type (ud c)]) (EP X pins σ Q) X.xe s:=λa xs e hq q=>by
  subst e
  cases(show u=Value.ref a from ru)
  obtain⟨z,its,n,hv,_,hg⟩:=I.ls hq
  exact FP PySem.W.kitx_list I.kIn ⟨_,hg,rfl⟩ (vn X.K "list" c hc (by decide)) (λz=>nomatch z) λtk=>⟨.bl (zc "list" c),H,I.tok tk,rfl,q⟩
 cases d with
 |non =>
  cases(show v=.non by simpa[IsD]using hd)
  cases(show u=Value.none from ru)
  refine FP PySem.W.kitx_none I.kIn True.intro (vn X.K "NoneType" c hc (by decide)) (λz=>nomatch z) λtk=>⟨.bl (zc "NoneType" c),H,I.tok tk,rfl,?_⟩
  cases c<;>first | exact absurd rfl (hc _) | exact h.ok hS (by simp[IsD,zc])
 |bl b =>
  cases C0 hd
  cases(show u=Value.bool b from ru)
  refine FP PySem.W.kitx_bool I.kIn True.intro (vn X.K "bool" c hc (by decide)) (λz=>nomatch z) λtk=>⟨.bl (zc "bool" c),H,I.tok tk,rfl,?_⟩
  cases c<;>first | exact absurd rfl (hc _) | exact h.ok hS (by simp[IsD,zc])
 |int i =>
  cases di hd
  obtain⟨t,rfl⟩:=(show ∃t,u=Value.int i t from ru)
  refine FP PySem.W.kitx_int I.kIn True.intro (vn X.K "int" c hc (by decide)) (λz=>nomatch z) λtk=>⟨.bl (zc "int" c),H,I.tok tk,rfl,?_⟩
  cases c<;>first | exact absurd rfl (hc _) | exact h.ok hS (by simp[IsD,zc])
 |str x =>
  cases(show v=.str x by simpa[IsD]using hd)
  obtain⟨t,rfl⟩:=(show ∃t,u=Value.str x t from ru)
  refine FP PySem.W.kitx_str I.kIn True.intro (vn X.K "str" c hc (by decide)) (λz=>nomatch z) λtk=>⟨.bl (zc "str" c),H,I.tok tk,rfl,?_⟩
  cases c<;>first | exact absurd rfl (hc _) | exact h.ok hS (by simp[IsD,zc])
 |tup ds =>
  obtain⟨a,xs,rfl,hq,hxs⟩:=gg hd
  cases(show u=Value.ref a from ru)
  obtain⟨its,hv,⟨o,h1,h2,_⟩,hz⟩:=I.tuple hq
  refine FP PySem.W.kitx_tuple I.kIn ⟨o,h1,h2⟩ (vn X.K "tuple" c hc (by decide)) (λz=>nomatch z) λtk=>⟨.bl (zc "tuple" c),H,I.tok tk,rfl,?_⟩
  cases c<;>first | exact absurd rfl (hc _) | exact h.ok hS (by simp[IsD,zc])
 |lst ds =>
  obtain⟨a,xs,rfl,hq,hxs⟩:∃a xs,v=.ref a/\FzL X.K H a xs/\ak X.K ι H ds xs:=by simpa[IsD]using hd
  refine lst a xs rfl (.inr hq) ?_
  cases c<;>first | exact absurd rfl (hc _) | exact h.ok hS (by simp[IsD,zc])
 |loc n =>
  cases c with
  |list =>
   simp![U7]at h
   split at h
   ·rename_i ds em
    obtain⟨a,xs,rfl,hq,hxs⟩:=k8 (ds:=ds) hS hd (by simp[listOf,em])
    exact lst a xs rfl hq (h.ok hS (by simp[IsD,zc]))
   ·rename_i ds em
    obtain⟨a,xs,rfl,hq,hxs⟩:=k8 (ds:=ds) hS hd (by simp[listOf,em])
    exact lst a xs rfl hq (h.ok hS (by simp[IsD,zc]))
   ·exact h.elim
  |own k=>exact absurd rfl (hc k)
  |_=>exact h.elim
theorem abp {a:Expr} {xa:Ex} {c:Cl} {cn:Str} {p cp pos:Pos} (hc:∀n,c≠.own n) (ha:PE X a (tE X.K φ xa)) (hgi:Gl X "isinstance") (hmi:X.mg "isinstance"=none) (hgc:Gl X cn) (hmc:X.mg cn=none) (hbc:bootBuiltins cn=some (.type (ud c)))
  (hn:cn≠"__name__") (hd:(cn==("__debug__":Str))=false) (hs:starEach [a,.Name cn cp] X.env=(false,eval a X.env)::starEach [.Name cn cp] X.env) :
  PE X (.Call (.Name "isinstance" p) [a,.Name cn cp] [] pos) (tE X.K φ (.isi xa c)):=by
 have hb:PE X (.Name cn cp) (tC (.ty (ud c))):=Ry hgc hmc hbc rfl hn hd
 refine PE.imp (nc (Xh hc) hgi hmi boot_isinstance (Ck ha (Ck hb Po) hs) (by decide) (by decide) hs) λσv H Q ⟨ι,σ,μ,hS,hL,h⟩=>?_
 simp![evE]at h
 obtain⟨d,μ1,e1,h⟩:=h.bind
 refine⟨ι,σ,μ,hS,hL,?_⟩
 rw[e1]
 exact λι1 v H1 p1 x1 s1 d1=>⟨ι1,d,μ1,v,rfl,s1,d1,h.mono p1 x1⟩
theorem P6{K:PySem.W.Frag}{ι:List Addr}{μ:Sto}{n:Nat}{v:V}{ob:O}{xs:List D}(hS:Sim K ι H μ)(hd:IsD K ι H (.loc n) v)(e:μ[n]? = some ob)(hi:ik ob=some xs) :
  ∃a vs,v=.ref a/\ι[n]? = some a/\H a=some (.lst vs)/\ak K ι H xs vs/\(∀ds,ob=.l ds->ak K [] H xs vs):=by
 obtain⟨a,rfl,ha⟩:∃a,v=.ref a/\ι[n]? = some a:=by simpa[IsD]using hd
 obtain⟨a',ea,ho⟩:=hS.at e
 rw[ha]at ea;cases ea
 cases ob with
 |l ds =>
  cases hi
  obtain⟨vs,e1,e2⟩:=ho
  exact⟨a,vs,rfl,ha,e1,ak.mono (CU) (.refl _) _ _ e2,λ_ _=>e2⟩
 |r ds =>
  cases hi
  obtain⟨vs,e1,e2⟩:=ho
  exact⟨a,vs,rfl,ha,e1,e2,λ_ z=>by cases z⟩
 |d _=>cases hi
 |dt _=>cases hi
 |x _=>cases hi
 |o _ _=>cases hi
 |dr _=>cases hi
 |fd _=>cases hi
 |dead=>cases hi
theorem zd {K:PySem.W.Frag} {ι:List Addr} {μ:Sto} {n:Nat} {ob:O} {ys:List D} {vs ws:List V} {d:D} {v:V} {a:Addr} {Q:VK} (hS:Sim K ι H μ) (ha:ι[n]? = some a) (hH:H a=some (.lst vs))
  (hw:ak K ι H ys ws) (hw0:∀ds,ob=.l ds->ak K [] H ys ws) (hd:IsD K ι H d v) (h:ij K (RD K) ι H (putL n ob ys d μ) Q):Q v (upd H a (.lst ws)):=by
 cases ob with
 |l ds =>
  exact h ι v _ (AE _) (.lst hH) (hS.put ha (.lst hH) ⟨ws,bg,ak.mono (AE _) (.lst hH) _ _ (hw0 ds rfl)⟩) (IsD.mono (AE _) (.lst hH) _ _ hd)
 |r ds =>
  exact h ι v _ (AE _) (.lst hH) (hS.put ha (.lst hH) ⟨ws,bg,ak.mono (AE _) (.lst hH) _ _ hw⟩) (IsD.mono (AE _) (.lst hH) _ _ hd)
 |d _=>exact h.elim
 |dt _=>exact h.elim
 |x _=>exact h.elim
 |o _ _=>exact h.elim
 |dr _=>exact h.elim
 |fd _=>exact h.elim
 |dead=>exact h.elim
theorem Bd{K:PySem.W.Frag}{ι:List Addr}{ob:O}{d:D}{v:V}(hf:fits ob d=true)(hd:IsD K ι H d v):∀ds,ob=.l ds->IsD K [] H d v:=λds e=>by
 subst e
 exact IsD.pur hf hd
noncomputable def rMt(K:PySem.W.Frag)(mt:Mt):V->List V->Hp->VK->Prop:=λx vs H Q=>∃ι d ds μ,Sim K ι H μ/\IsD K ι H d x/\ak K ι H ds vs/\ij K (RD K) ι H (mtD mt d ds μ) Q
theorem Xi{mt:Mt}(hne:mt≠.count/\mt≠.countL/\mt≠.get){x:V}{vs:List V}{Q:VK}(h:rMt X.K mt x vs H Q):∃ι n ob xs ds μ a ws,Sim X.K ι H μ/\ak X.K ι H ds vs/\x=.ref a/\ι[n]? = some a/\H a=some (.lst ws)/\ak X.K ι H xs ws /\
  (∀es,ob=.l es->ak X.K [] H xs ws)/\ij X.K (RD X.K) ι H (mtL mt n ob xs ds μ) Q:=by
 obtain⟨ι,d,ds,μ,hS,hd,hds,h⟩:=h
 have e0:mtD mt d ds μ=Ct mt d ds μ:=by
  cases mt<;>first | exact absurd rfl hne.1 | exact absurd rfl hne.2.1 | exact absurd rfl hne.2.2 | rfl
 rw[e0]at h
 cases d with
 |loc n =>
  simp![Ct]at h
  cases em:μ[n]? with
  |none=>rw[em]at h;exact h.elim
  |some ob =>
   rw[em]at h
   simp only at h
   cases ei:ik ob with
   |none=>rw[ei]at h;exact h.elim
   |some xs =>
    rw[ei]at h
    obtain⟨a,ws,ex,ha,hH,h1,h2⟩:=P6 hS hd em ei
    exact⟨ι,n,ob,xs,ds,μ,a,ws,hS,hds,ex,ha,hH,h1,h2,h⟩
 |_=>exact h.elim
theorem N7:MtR X "list.append" (rMt X.K .append):=MtR.imp Iv λx vs H Q h0=>by
 obtain⟨ι,n,ob,xs,ds,μ,a,ws,hS,hds,rfl,ha,hH,h1,h2,h⟩:=Xi (by decide) h0
 clear h0
 simp![mtL]at h
 obtain⟨d,v,rfl,hv,h⟩:=nq hds h
 split at h
 ·rename_i hf
  rw[g8]at hf
  refine⟨a,ws,v,rfl,rfl,hH,by rw[h1.length];exact hf.2,zd hS ha hH (h1.append (.one hv)) (λes e=>(h2 es e).append (.one (Bd hf.1 hv es e))) (by simp[IsD]) h⟩
 ·exact h.elim
theorem N8:MtR X "list.extend" (rMt X.K .extend):=by
 intro pins s σ H x vs v us Q I rx rv h0
 obtain⟨ι,n,ob,xs,ds,μ,a,ws,hS,hds,rfl,ha,hH,h1,h2,h⟩:=Xi (by decide) h0
 clear h0
 simp![mtL]at h
 obtain⟨d,w0,rfl,hv,h⟩:=nq hds h
 split at h
 ·rename_i ys ey
  split at h
  ·rename_i hf
   rw[g8]at hf
   obtain⟨b,zs,rfl,hb,hzs⟩:=k8 hS hv ey
   cases(show v=Value.ref a from rx)
   obtain⟨u,rfl,ru⟩:=rv.one
   cases(show u=Value.ref b from ru)
   obtain⟨z,its,n1,r,hl,e⟩:=I.lstM hH
   obtain⟨z2,its2,n2,r2,hl2,e2⟩:=I.ls hb
   have l1:=h1.length
   have l2:=hzs.length
   have hsz:its.toArray.size+its2.toArray.size<=sizeLine:=by rw[AJ,AJ];lia
   have hlong:¬(!its.toArray.isEmpty&&Builtin.List.listTooLong (its.toArray.size+its2.toArray.size))=true:=by
    rw[Ee hsz,Bool.and_false]
    exact BP
   refine call_meets F.slot_list_extend ⟨_,e,rfl⟩ F.entry_list_extend (F.args_list_extend_2 _ _)
    (AutoSeq1.list_extend_list_list_0 a its.toArray n1 b its2.toArray n2 hlong (by rw[AJ];lia) (by lia)) ⟨e,e2,?_⟩
   refine⟨.non,_,I.lset (its':=its++its2) hH e (by simp) (r.append r2) ?_,rfl,zd hS ha hH (h1.append hzs) (λes ee=>(h2 es ee).append ?_) (by simp[IsD]) h⟩
   ·rw[AQ]
    lia
   ·subst ee
    exact ak.pur (by simpa[fits]using hf.1) hzs
  ·exact h.elim
 ·exact h.elim
end
theorem IsD.belowN{K:PySem.W.Frag}{ι ι':List Addr}{H:Hp}(hp:ι <+: ι'):∀(k:Nat) (d:D) (v:V),D.belowN ι.length k d=true->IsD K ι' H d v->IsD K ι H d v:=by
 have list:∀(k:Nat),(∀(d:D) (v:V),D.belowN ι.length k d=true->IsD K ι' H d v->IsD K ι H d v) ->
   ∀(ds:List D) (xs:List V),ds.all (D.belowN ι.length k)=true->ak K ι' H ds xs->ak K ι H ds xs:=by
  intro k ih ds
  induction ds with
  |nil=>intro xs _ h;simpa[ak]using h
  |cons d ds ihd =>
   intro xs hp h
   simp![ak]at h ⊢
   simp![BF,AW]at hp
   obtain⟨v,r,e,q,t⟩:=h
   exact⟨v,r,e,ih d v hp.1 q,ihd r hp.2 t⟩
 have loc:∀(n:Nat) (v:V),n<ι.length->IsD K ι' H (.loc n) v->IsD K ι H (.loc n) v:=λn v hn h=>by
  simp![IsD]at h ⊢
  obtain⟨a,e,q⟩:=h
  obtain⟨t,rfl⟩:=hp
  rw[AN hn]at q
  exact⟨a,e,q⟩
 intro k
 induction k with
 |zero =>
  intro d v hb h
  cases d with
  |loc n=>exact loc n v (by simpa[D.belowN]using hb) h
  |tup ds=>simp[D.belowN]at hb
  |lst ds=>simp[D.belowN]at hb
  |_=>simpa[IsD]using h
 |succ k ih =>
  intro d v hb h
  cases d with
  |tup ds =>
   simp![D.belowN]at hb
   simp![IsD]at h ⊢
   obtain⟨a,xs,e,q,r⟩:=h
   exact⟨a,xs,e,q,list k ih ds xs hb r⟩
  |lst ds =>
   simp![D.belowN]at hb
   simp![IsD]at h ⊢
   obtain⟨a,xs,e,q,r⟩:=h
   exact⟨a,xs,e,q,list k ih ds xs hb r⟩
  |loc n=>exact loc n v (by simpa[D.belowN]using hb) h
  |_=>simpa[IsD]using h
theorem ak.belowN{K:PySem.W.Frag}{ι ι':List Addr}{H:Hp}(hp:ι <+: ι'){k:Nat}:∀(ds:List D) (xs:List V),ds.all (D.belowN ι.length k)=true->ak K ι' H ds xs->ak K ι H ds xs
 | [],xs,_,h=>by simpa[ak]using h
 |d::ds,xs,hb,h=>by
  simp![ak]at h ⊢
  simp![BF,AW]at hb
  obtain⟨v,r,e,q,t⟩:=h
  exact⟨v,r,e,IsD.belowN hp k d v hb.1 q,ak.belowN hp ds r hb.2 t⟩
theorem Jq{K:PySem.W.Frag}{ι ι':List Addr}{H:Hp}(hp:ι <+: ι'):∀{fs:List (Str×D)} {xs:List (Str×V)},(fs.all λp=>D.belowN ι.length 8 p.2)=true->FsD K ι' H fs xs->FsD K ι H fs xs
 |_,_,_,.nil=>.nil
 |(f,d)::r,(g,v)::q,h,.cons z t=>by
  simp![BF,AW]at h
  exact .cons ⟨z.1,IsD.belowN hp 8 d v h.1 z.2⟩ (Jq hp h.2 t)
theorem Jr{K:PySem.W.Frag}{ι ι':List Addr}{H:Hp}(hp:ι <+: ι'):∀{fs:List (D×D)} {xs:List (Key×V)},(fs.all λp=>D.belowN ι.length 8 p.2)=true->Cv K ι' H fs xs->Cv K ι H fs xs
 |_,_,_,.nil=>.nil
 |(f,d)::r,(g,v)::q,h,.cons z t=>by
  simp![BF,AW]at h
  exact .cons ⟨z.1,IsD.belowN hp 8 d v h.1 z.2⟩ (Jr hp h.2 t)
theorem Sim.cut{K:PySem.W.Frag}{ι ι':List Addr}{H:Hp}{μ:Sto}(h:Sim K ι' H μ)(hp:ι <+: ι')(hc:(μ.take ι.length).all (gm ι.length)=true):Sim K ι H (μ.take ι.length):=by
 have hl:ι.length<=μ.length:=by rw[<-h.len];exact hp.length_le
 refine⟨by rw[BV];lia,hp.sublist.nodup h.nd,λn a o e1 e2=>?_⟩
 have hn:n<ι.length:=(AB.mp e1).1
 have e1':ι'[n]? = some a:=by
  obtain⟨t,rfl⟩:=hp
  rw[AN hn];exact e1
 have e2':μ[n]? = some o:=by
  rw[CL hn]at e2;exact e2
 have q:=h.obj n a o e1' e2'
 have c:gm ι.length o=true:=AL.mp hc o (BK e2)
 cases o with
 |l ds=>exact q
 |r ds =>
  obtain⟨xs,e,r⟩:=q
  exact⟨xs,e,ak.belowN hp ds xs c r⟩
 |d kvs=>exact q
 |dt kvs=>exact q
 |x c=>exact q
 |o c' fs =>
  obtain⟨C,dx,xs,n,e,r⟩:=q
  exact⟨C,dx,xs,n,e,Jq hp c r⟩
 |dr kvs =>
  obtain⟨xs,e,r⟩:=q
  exact⟨xs,e,Jr hp c r⟩
 |fd kvs=>exact q
 |dead=>exact q
theorem Js{K:PySem.W.Frag}{ι:List Addr}{H:Hp}{μ:Sto}{keep:Bool}{r:Res D}{Q:VK}(hS:Sim K ι H μ)(h:ij K (RD K) ι H (sg keep μ.length r) Q):ij K (RD K) ι H r Q:=by
 cases r with
 |exc c ds μ'=>exact h
 |stuck=>exact h
 |ok d μ' =>
  cases keep with
  |true=>simpa[sg]using h
  |false =>
   simp![sg,BA,if_false]at h
   split at h
   ·rename_i hc
    rw[<-hS.len]at hc h
    exact λι' v H' p e s q=>h ι v H' (AE _) e (s.cut p hc.2) (IsD.belowN p 8 d v hc.1 q)
   ·exact h.elim
noncomputable def spD(K:PySem.W.Frag)(φ:Phi)(f:Nat):Sp:=λvs H Q _=>∃ι ds μ,Sim K ι H μ/\ak K ι H ds vs/\ij K (RD K) ι H (φ f ds μ) Q
noncomputable def Callee(P:Program)(w:World)(K:PySem.W.Frag)(mg:Str->Option Value)(base:Heap)(A:Around)(φ:Phi)(f:Nat)(x:Str):Prop :=
 ∃(k:Nat) (fa:Addr) (fd:FuncData) (ps:List Str),FnOk P w K mg base CX0 k fa fd ps (spD K φ f)/\Im k A/\mg x=some (.ref fa)/\PySem.W.keepIn K (.ref fa)=true/\Binds K fd ps []
section
variable{X:Cx}{φ:Phi}{x:Str}{p pos:Pos}{e:Expr}{es:List Expr}{xs:Exs}{f:Nat}{keep:Bool}
theorem s_call (C:Callee X.prog X.w X.K X.mg X.base X.A φ f x) (hg:Gl X x) (ha:PA X (e::es) (tEs X.K φ xs)) (hdb:(x==("__debug__":Str))=false)
  (he:starEach (e::es) X.env=(false,eval e X.env)::starEach es X.env) (hpl:(backTo pos (starEach es X.env)).any (·.1)=false):PE X (.Call (.Name x p) (e::es) [] pos) (tE X.K φ (.call keep f xs)):=by
 obtain⟨k,fa,fd,ps,F,hr,hm,hk,hb⟩:=C
 refine PE.imp (R7 F hr.1 hg hm hk hb .nil aaw ha hdb he hpl) λσv H Q ⟨ι,σ,μ,hS,hL,h⟩=>?_
 simp![evE]at h
 obtain⟨ds,μ1,e1,h⟩:=h.bind
 refine⟨ι,σ,μ,hS,hL,?_⟩
 rw[e1]
 intro ι1 vs H1 p1 x1 s1 d1
 exact⟨ι1,ds,μ1,s1,by rw[DT];exact d1,Js s1 (h.mono p1 x1)⟩
end
theorem Th {P:Program} {w:World} {K:PySem.W.Frag} {mg:Str->Option Value} {base:Heap} {x qual:Str} {st:Stmt} {fa:Addr} {fd:FuncData} {N ps:List Str} {n f:Nat} {T:List Df} {df:Df} (F:Fun K x qual st fa fd) (S:FnScope N ps (cv st))
  (hd:T[f]? = some df) (hnp:df.np=ps.length) (hnn:df.nn=N.length)
  (hb:∀(cdv:Value) (A:Around) (outer:List Env) (s:Shared) (H:Hp) (E:XK),Im n (A.deeper (envOfC qual (cv st) s.heap.objs.size fa cdv)) ->
   PSs (Nk CX0 P w K mg base N qual (cv st) fa cdv A outer s H E).nox (nj st) (tSs K (ai T n) df.body)):FnOk P w K mg base CX0 (n+1) fa fd ps (spD K (ai T (n+1)) f):=by
 have len:∀{vs:List V} {H:Hp} {ds:List D} {ι:List Addr} {μ:Sto} {Q:VK},ak K ι H ds vs->ij K (RD K) ι H (ai T (n+1) f ds μ) Q->ds.length=df.np:=λ{vs H ds ι μ Q} hds h=>by
  simp![ai,hd,U9]at h
  split at h
  ·assumption
  ·exact h.elim
 refine F.ok S (λvs H Q E ⟨ι,ds,μ,hS,hds,h⟩=>?_) λcdv A outer s H vs Q E hr ⟨ι,ds,μ,hS,hds,h⟩=>⟨_,hb cdv A outer s H E hr,?_⟩
 ·rw[hds.length,len hds h,hnp]
 ·have hl:=len hds h
  refine⟨ι,ds.map some++List.replicate (df.nn-df.np) none,μ,hS,λi d e=>?_,?_,?_⟩
  ·by_cases hi:i<ds.length
   ·rw[AN (by simpa using hi),AV]at e
    cases ed:ds[i]? with
    |none=>rw[ed]at e;cases e
    |some d' =>
     rw[ed]at e
     simp![DV,BX]at e
     subst e
     obtain⟨v,ev,hv⟩:=hds.get ed
     refine⟨v,?_,hv⟩
     unfold L2.start
     rw[AN (by rw[AG,hds.length];exact hi),AV,ev]
     rfl
   ·rw[BO (by simpa using hi),Ev]at e
    split at e<;>cases e
  ·unfold L2.start
   simp![AQ,AG,IL,hds.length]
   lia
  ·simp![ai,hd,U9,if_pos hl]at h
   cases er:rg (ai T n) df.body (ds.map some++List.replicate (df.nn-df.np) none) μ with
   |exc c es μ'=>rw[er]at h;exact h.elim
   |stuck=>rw[er]at h;exact h.elim
   |ok fl μ' =>
    rw[er]at h
    simp![Res.br]at h
    cases fl with
    |nx σ'=>exact λι' σv H' p e s' l z=>h ι' .non H' p e s' (by simp[IsD])
    |rt d=>exact λι' v H' p e s' q=>h ι' v H' p e s' q
    |bk σ'=>exact h.elim
    |ct σ'=>exact h.elim
theorem Ti{P:Program}{w:World}{K:PySem.W.Frag}{mg:Str->Option Value}{base:Heap}{fa:Addr}{fd:FuncData}{ps:List Str}{f:Nat}{T:List Df}:FnOk P w K mg base CX0 0 fa fd ps (spD K (ai T 0) f) :=
 ⟨λvs H Q E ⟨ι,ds,μ,hS,hds,h⟩=>h.elim,λA outer s H args us vs Q E hr he hb hv ⟨ι,ds,μ,hS,hds,h⟩=>h.elim⟩
structure Ent where
 id:Nat
 name:Str
 st:Stmt
 N:List Str
 ps:List Str
 df:Df
structure ModOf (K:PySem.W.Frag) (mg:Str->Option Value) (e:Ent):Prop where
 ex:∃(fa:Addr) (fd:FuncData),mg e.name=some (.ref fa)/\Fun K e.name e.name e.st fa fd/\∀us:List Value,us.length=e.ps.length->bindArgs fd ⟨us,[]⟩=pure (e.ps.zip us)
theorem ck {K:PySem.W.Frag} {h:Heap} {mg:Str->Option Value} {e:Ent} {f:Addr} {oc:Value} {od an:Option Addr} {sl:Array (Option Value)} {kV dc pm cd ct:Value} (X:K.In h) (G:h.Ns mainGlobals mg) (a:PySem.W.nsIn K mainGlobals e.name=some (some (.ref f)))
  (l:K.lookup f=some ⟨oc,od,.func (PySem.W.fnOf e.name e.name (vg e.st) (nj e.st) (cv e.st) .none kV dc pm an cd ct),sl⟩) (c:PySem.W.codeIn K cd e.name=true) (k:PySem.W.keepIn K (.ref f)=true)
  (hb:∀(kV doc pm:Value) (an:Option Addr) (cdv ct:Value) (us:List Value),us.length=e.ps.length->bindArgs (PySem.W.fnOf e.name e.name (vg e.st) (nj e.st) (cv e.st) .none kV doc pm an cdv ct) ⟨us,[]⟩=pure (e.ps.zip us)):ModOf K mg e :=
 ⟨f,_,IW X G a,Wg l c k,hb kV dc pm an cd ct⟩
structure Derived (T:List Df) (P:Program) (w:World) (K:PySem.W.Frag) (mg:Str->Option Value) (base:Heap) (es:List Ent) (e:Ent):Prop where
 sc:FnScope e.N e.ps (cv e.st)
 tb:T[e.id]? = some e.df
 np:e.df.np=e.ps.length
 nn:e.df.nn=e.N.length
 dv:∀(n:Nat) (fa:Addr) (cdv:Value) (A:Around) (outer:List Env) (s:Shared) (H:Hp) (E:XK),(A.deeper (envOfC e.name (cv e.st) s.heap.objs.size fa cdv)).units+64<cLine ->
  (∀(j:Nat) e',es[j]? = some e'->Callee P w K mg base (A.deeper (envOfC e.name (cv e.st) s.heap.objs.size fa cdv)) (ai T n) e'.id e'.name) ->
  PSs (Nk CX0 P w K mg base e.N e.name (cv e.st) fa cdv A outer s H E).nox (nj e.st) (tSs K (ai T n) e.df.body)
theorem P7{T:List Df}{P:Program}{w:World}{K:PySem.W.Frag}{mg:Str->Option Value}{base:Heap}{es:List Ent}(M:∀(j:Nat) e,es[j]? = some e->ModOf K mg e)(Dv:∀(j:Nat) e,es[j]? = some e->Derived T P w K mg base es e) :
  ∀(n:Nat) (j:Nat) e,es[j]? = some e->∀(fa:Addr) (fd:FuncData),mg e.name=some (.ref fa)->Fun K e.name e.name e.st fa fd->FnOk P w K mg base CX0 n fa fd e.ps (spD K (ai T n) e.id)
 |0,j,e,_,fa,fd,_,_=>Ti
 |n+1,j,e,he,fa,fd,hm,hF=>by
  have d:=Dv j e he
  refine Th hF d.sc d.tb d.np d.nn λcdv A outer s H E hr=>d.dv n fa cdv A outer s H E hr.1.units λi e' he'=>?_
  obtain⟨fa',fd',hm',hF',hb'⟩:=(M i e' he').ex
  exact⟨n,fa',fd',e'.ps,P7 M Dv n i e' he' fa' fd' hm' hF',hr,hm',hF'.kp,.all hb'⟩
noncomputable def N9(K:PySem.W.Frag):Sp:=λvs H Q _=>∃(a:Addr) (ns:List Int),vs=[.ref a]/\FzL K H a (ns.map V.int)/\ns.length<=63/\∀H',Q (.bl true) H'
theorem Xj {T:List Df} {P:Program} {w:World} {K:PySem.W.Frag} {mg:Str->Option Value} {base:Heap} {es:List Ent} {n j:Nat} {e:Ent} {fa:Addr} {fd:FuncData} (M:∀(j:Nat) e,es[j]? = some e->ModOf K mg e) (Dv:∀(j:Nat) e,es[j]? = some e->Derived T P w K mg base es e)
  (he:es[j]? = some e) (hm:mg e.name=some (.ref fa)) (hF:Fun K e.name e.name e.st fa fd) (hps:e.ps.length=1)
  (hlaw:∀ns:List Int,ns.length<=63->∃μ',ai T n e.id [.lst (ns.map D.int)] []=.ok (.bl true) μ'):FnOk P w K mg base CX0 n fa fd e.ps (N9 K):=by
 refine(P7 M Dv n j e he fa fd hm hF).imp λvs H Q E ⟨a,ns,ev,hS,hl,q⟩=>?_
 subst ev
 obtain⟨μ',el⟩:=hlaw ns hl
 refine⟨[],[.lst (ns.map D.int)],[],⟨rfl,List.nodup_nil,λn a o e1 e2=>by simp at e1⟩,?_,?_⟩
 ·simp![ak,IsD]
  exact⟨.ref a,[],rfl,⟨a,_,rfl,hS,ak.ints ns⟩,rfl⟩
 ·rw[el]
  intro ι' v H' p x s' d
  have ev:v=.bl true:=by simpa[IsD]using d
  subst ev
  exact q H'
theorem Tj {T:List Df} {P:Program} {w:World} {K:PySem.W.Frag} {mg:Str->Option Value} {es:List Ent} {n j:Nat} {e:Ent} {fa:Addr} (M:∀(j:Nat) e,es[j]? = some e->ModOf K mg e) (Dv:∀(base:Heap) (j:Nat) e,es[j]? = some e->Derived T P w K mg base es e)
  (he:es[j]? = some e) (hfa:mg e.name=some (.ref fa)) (hps:e.ps=[("script":Str)])
  (hlaw:∀ns:List Int,ns.length<=63->∃μ',ai T n e.id [.lst (ns.map D.int)] []=.ok (.bl true) μ') :
  ∃fd:FuncData,(∀(s:Shared) (v:Value),BindsTo s fd ⟨[v],[]⟩ [("script",v)])/\∀base:Heap,K.In base->base.Ns mainGlobals mg->FnOk P w K mg base CX0 n fa fd ["script"] (N9 K):=by
 obtain⟨fa',fd,hm,hF,hb⟩:=(M j e he).ex
 have z:=hfa.symm.trans hm
 cases z
 rw[hps]at hb
 refine⟨fd,λs v=>.of_eq (hb [v] rfl),λbase _ _=>?_⟩
 have q:=Xj M (Dv base) he hm hF (by rw[hps];rfl) hlaw
 rw[hps]at q
 exact q
theorem Oa {l:PySem.W.OpenLaw} {n:Nat} {q:Program} {loose:List Str} {XP:(Str->Option Value)->Heap->Prop} {YP:World->Heap->Prop} {d:DefRec} {K:Params->PySem.W.Frag} (hr:Room n callerA) (hn:l.most=some 63) (hdf:d.params.defaults=[])
  (hY:∀(w:World) (h:Heap),YP w h->(K w.params).In h)
  (F:∀(w:World) (mg:Str->Option Value) (fa:Addr) (h:Heap),(K w.params).In h->h.Ns mainGlobals mg->mg d.name=some (.ref fa) ->
   ∃fd:FuncData,(∀(s:Shared) (u:Value),BindsTo s fd ⟨[u],[]⟩ [("script",u)])/\∀base:Heap,(K w.params).In base->base.Ns mainGlobals mg->FnOk l.prog w (K w.params) mg base CX0 n fa fd ["script"] (N9 (K w.params))) :
  PySem.W.WalkO q loose XP YP l.row.toRowW d [] (λf vs=>PySem.call f vs) :=
 L2.Sj (n:=63) (k:=n) (x:="script") (CX:=λ_=>CX0) (sp:=λw=>N9 (K w.params)) hn (by decide) hdf hr hY F (λ_ _ a ns hl _ hS=>⟨a,ns,rfl,hS,hl,λ_=>rfl⟩) λ_ _ _ _ _ z=>z
noncomputable def Exs.len:Exs->Nat
 |.nil=>0
 |.cons _ r=>r.len+1
theorem pk{φ:Phi}:∀{xs:Exs} {σ:Sl} {μ:Sto} {ds:List D} {μ':Sto},gn φ xs σ μ=.ok ds μ'->ds.length=xs.len
 |.nil,σ,μ,ds,μ',h=>by
  simp![gn]at h
  cases h;rfl
 |.cons e r,σ,μ,ds,μ',h=>by
  simp![gn]at h
  cases e1:evE φ e σ μ with
  |exc _ _ _=>rw[e1]at h;cases h
  |stuck=>rw[e1]at h;cases h
  |ok d μ1 =>
   rw[e1]at h
   simp![Res.br]at h
   cases e2:gn φ r σ μ1 with
   |exc _ _ _=>rw[e2]at h;cases h
   |stuck=>rw[e2]at h;cases h
   |ok es μ2 =>
    rw[e2]at h
    cases h
    simp[Exs.len,pk e2]
noncomputable def Eo(sc scope:Scope)(N Nb:List Str)(cap:List Nat)(nl:Nat):Bool :=
 decide (scope.kind=.function)&&scope.names.all (λy=>decide (scope.names.lookup y.1=some y.2)
  && (!decide (y.2=.free) || decide (sc.names.lookup y.1=some .cell) || decide (sc.names.lookup y.1=some .free)))
 && decide Nb.Nodup&&decide (Nb.length=cap.length+nl)
 && (List.range cap.length).all (λj=>match cap[j]?,Nb[j]? with
  |some i,some x=>decide (N[i]? = some x)&&scope.names.any λy=>decide (y.1=x)&&decide (y.2=.free)
  |_,_=>false)
theorem lookup_mem{l:List (Str×NameKind)}{n:Str}{k:NameKind}(h:l.lookup n=some k):(n,k)∈l:=by
 induction l with
 |nil=>cases h
 |cons a r ih =>
  obtain⟨m,j⟩:=a
  rw[EZ]at h
  cases hb:n==m with
  |true =>
   rw[hb]at h
   cases h
   have:n=m:=by simpa using hb
   subst this
   exact BI
  |false =>
   rw[hb]at h
   exact AU _ (ih h)
theorem vo{scope:Scope}{env:Env}{n:Str}{k:NameKind}(h:(n,k)∈(relabel scope env).names):(n,k)∈scope.names\/(k=.cell/\(n,NameKind.free)∈scope.names):=by
 have h2:(n,k)∈scope.names.map (fun(n,k)=>if(k==NameKind.free&&env.scope.kind==.function&&env.kindOf n==some .cell)then(n,NameKind.cell)else(n,k)):=h
 obtain⟨⟨m,j⟩,hm,e⟩:=BW.mp h2
 dsimp only at e
 split at e
 ·rename_i hc
  cases e
  simp![AW,beq_iff_eq]at hc
  obtain⟨⟨rfl,_⟩,_⟩:=hc
  exact .inr ⟨rfl,hm⟩
 ·cases e
  exact .inl hm
theorem yj{sc scope:Scope}{N Nb:List Str}{cap:List Nat}{nl:Nat}(h:Eo sc scope N Nb cap nl=true):CompScope sc scope N Nb cap nl:=by
 simp![Eo,AW,AL,decide_eq_true_eq,Bool.or_eq_true,HM,decide_eq_false_iff_not]at h
 obtain⟨⟨⟨⟨h1,h2⟩,h3⟩,h4⟩,h5⟩:=h
 refine⟨h1,λy hy=>(h2 y hy).1,λn hn=>?_,λn hn=>?_,h3,h4,λj i e=>?_⟩
 ·rcases(h2 (n,.free) hn).2 with(z | z) | z
  ·exact absurd rfl z
  ·exact .inl z
  ·exact .inr z
 ·rcases hn with hn | hn
  ·rcases vo (lookup_mem hn)with z | z
   ·exact .inr z
   ·exact .inl z.2
  ·rcases vo (lookup_mem hn)with z | z
   ·exact .inl z
   ·exact .inl z.2
 ·have hj:j<cap.length:=(AB.mp e).1
  have q:=h5 j (List.mem_range.mpr hj)
  rw[e]at q
  cases ex:Nb[j]? with
  |none=>rw[ex]at q;simp at q
  |some x =>
   rw[ex]at q
   simp![AW,decide_eq_true_eq,List.any_eq_true]at q
   obtain⟨q1,⟨y,k⟩,hy,e1,e2⟩:=q
   dsimp only at e1 e2
   subst e1;subst e2
   exact⟨y,rfl,q1,hy⟩
noncomputable def ndB(l:List Str):Bool:=decide l.Nodup
theorem Ep{l:List Str}(h:ndB l=true):l.Nodup:=of_decide_eq_true h
section
variable{X:Cx}{φ:Phi}{a b c e:Expr}{es:List Expr}{xa xb xc xe:Ex}{xs:Exs}{pos:Pos}
theorem ae (i:Nat) {x:Str} (hN:X.N[i]? = some x:=by rfl) (hv:Vis X.env.scope x:=by first | exact Or.inl rfl | exact Or.inr (Or.inl rfl) | exact Or.inr (Or.inr rfl)) (hd:(x==("__debug__":Str))=false:=by decide)
  (hcd:(x==("__classdict__":Str))=false:=by decide):PE X (.Name x pos) (tE X.K φ (.var i)):=aa5 hN hv hd hcd
theorem To (i:Nat) {x:Str} (hN:X.N[i]? = some x:=by rfl) (hv:Vis X.env.scope x:=by first | exact Or.inl rfl | exact Or.inr (Or.inl rfl) | exact Or.inr (Or.inr rfl)) (hd:(x==("__debug__":Str))=false:=by decide)
  (hcd:(x==("__classdict__":Str))=false:=by decide):PE X (.Name x pos) (tE X.K φ (.frz i)):=abl hN hv hd hcd
theorem af{i:Int}{j:Nat}:PE X (.Constant (.int i) j pos) (tE X.K φ (.cst (.int i))):=aa6
theorem abq{i:Bool}{j:Nat}:PE X (.Constant (.bool i) j pos) (tE X.K φ (.cst (.bl i))):=ae8
theorem lg{i:Str}{j:Nat}:PE X (.Constant (.str i) j pos) (tE X.K φ (.cst (.str i))):=aa7
theorem ag:PA X [] (tEs X.K φ .nil):=Jc
theorem aa(ha:PE X a (tE X.K φ xa))(hb:PA X es (tEs X.K φ xs))(hs:starEach (a::es) X.env=(false,eval a X.env)::starEach es X.env:=by rfl):PA X (a::es) (tEs X.K φ (.cons xa xs)):=ub ha hb hs
theorem ah{op:Operator}{m:Mk}(ha:PE X a (tE X.K φ xa))(hb:PE X b (tE X.K φ xb)):PE X (.BinOp a op b pos) (tE X.K φ (.bin op m xa xb)):=aa8 bin_ok ha hb
theorem Tp(ha:PE X a (tE X.K φ xa)):PE X (.UnaryOp .USub a pos) (tE X.K φ (.neg xa)):=abb ha
theorem abr(ha:PE X a (tE X.K φ xa)):PE X (.UnaryOp .Not a pos) (tE X.K φ (.not xa)):=Wt ha
theorem Tq{rest:List Expr}(ha:PE X a (tE X.K φ xa))(hb:PE X (.BoolOp .And (b::rest) pos) (tE X.K φ xb)):PE X (.BoolOp .And (a::b::rest) pos) (tE X.K φ (.and xa xb)):=Wu ha hb
theorem P9{t:TE}(h:PE X a t):PE X (.BoolOp .And [a] pos) t:=Vl h
theorem abt(hc:PT X c (tT X.K φ xc))(ha:PE X a (tE X.K φ xa))(hb:PE X b (tE X.K φ xb)):PE X (.IfExp c a b pos) (tE X.K φ (.ite xc xa xb)):=abd hc ha hb
theorem cg{k:Nat}(h:PA X es (tEs X.K φ xs))(hl:xs.len<=1000:=by decide):PE X (.Tuple es k pos) (tE X.K φ (.tup xs)):=aa9 h λσ μ ds μ' e=>by
 rw[pk e];exact CP (oq hl)
theorem rh{m:Mk}(h:PA X es (tEs X.K φ xs))(hl:xs.len<=1000:=by decide):PE X (.List es pos) (tE X.K φ (.lst m xs)):=abk h λσ μ ds μ' e=>by
 rw[pk e];exact CP (oq hl)
theorem bf(ha:PE X a (tE X.K φ xa))(hb:PE X b (tE X.K φ xb))(hs:Co b:=by intro _ _;rfl):PE X (.Subscript a b pos) (tE X.K φ (.ix xa xb)):=ae9 abm ha hb hs
theorem abu:PO X none (tEo X.K φ .no):=afd
theorem Tr(he:PE X e (tE X.K φ xe)):PO X (some e) (tEo X.K φ (.so xe)):=afe he
theorem Xk{lo hi:Option Expr}{xl xh:ExO}{m:Mk}{p2:Pos}(he:PE X e (tE X.K φ xe))(hl:PO X lo (tEo X.K φ xl))(hh:PO X hi (tEo X.K φ xh)):PE X (.Subscript e (.Slice lo hi none p2) pos) (tE X.K φ (.sl m xe xl xh)):=aff he hl hh
theorem Gz(hu:X.A.units+64<cLine)(op:Cp)(he:PE X e (tE X.K φ xe)):PCh X [Tb op] [e] (tCh X.K φ (.cons op xe .nil)):=Tc (P4 op (by lia)) he
theorem qt(hu:X.A.units+64<cLine)(op:Cp)(he:PE X e (tE X.K φ xe)):PTh X [Tb op] [e] (tTh X.K φ (.cons op xe .nil)):=Td (P4 op (by lia)) he
theorem G0{ops:List CmpOp}{r:Cps}(ha:PE X a (tE X.K φ xa))(hr:PCh X ops es (tCh X.K φ r))(hm:lastMarks ops es=false:=by rfl):PE X (.Compare a ops es pos) (tE X.K φ (.cmp xa r)):=abn ha hr hm
theorem jm{ops:List CmpOp}{r:Cps}(ha:PE X a (tE X.K φ xa))(hr:PTh X ops es (tTh X.K φ r))(hm:lastMarks ops es=false:=by rfl):PT X (.Compare a ops es pos) (tT X.K φ (.cmp xa r)):=Xc ha hr hm
theorem ze(ha:PE X a (tE X.K φ xa))(he:∀whole,isTrue a X.env whole=(do let v <-whole;standAt a.pos;holding [v] (truthy v)):=by intro _;rfl):PT X a (tT X.K φ xa):=Sz ha he
theorem Jt(ha:PT X a (tT X.K φ xa)):PT X (.UnaryOp .Not a pos) (tT X.K φ (.not xa)):=Ws ha
theorem Ts(ha:PT X a (tT X.K φ xa)):PW X (.BoolOp .And [a] pos) (tT X.K φ xa):=Rz ha
theorem Qa(ha:PT X a (tT X.K φ xa)):PW X (.BoolOp .Or [a] pos) (tT X.K φ xa):=Vi ha
theorem Xl{rest:List Expr}(ha:PT X a (tT X.K φ xa))(hb:PW X (.BoolOp .And (b::rest) pos) (tT X.K φ xb)):PW X (.BoolOp .And (a::b::rest) pos) (tT X.K φ (.and xa xb)):=Wv ha hb
theorem Tt{rest:List Expr}(ha:PT X a (tT X.K φ xa))(hb:PW X (.BoolOp .Or (b::rest) pos) (tT X.K φ xb)):PW X (.BoolOp .Or (a::b::rest) pos) (tT X.K φ (.or xa xb)):=abc ha hb
theorem abv{t:TT}(h:PW X a t):PT X a t:=h.pt
theorem ar {x:Str} {p:Pos} {f:Nat} {keep:Bool} (C:Callee X.prog X.w X.K X.mg X.base X.A φ f x) (ha:PA X (e::es) (tEs X.K φ xs)) (hg:Gl X x:=by rfl) (hdb:(x==("__debug__":Str))=false:=by decide)
  (he:starEach (e::es) X.env=(false,eval e X.env)::starEach es X.env:=by rfl) (hpl:(backTo pos (starEach es X.env)).any (·.1)=false:=by rfl):PE X (.Call (.Name x p) (e::es) [] pos) (tE X.K φ (.call keep f xs)):=s_call C hg ha hdb he hpl
theorem nr{r:List V->Hp->VK->Prop}{b:Bt}{m:Mk}{es:List Expr}(h:PE X e (tCB (xu X.K (btD b m)) (tEs X.K φ xs))):PE X e (tE X.K φ (.blt b m xs)) :=
 PE.imp h λσv H Q ⟨ι,σ,μ,hS,hL,h⟩=>by
  simp![evE]at h
  obtain⟨ds,μ1,e1,h⟩:=h.bind
  refine⟨ι,σ,μ,hS,hL,?_⟩
  rw[e1]
  exact λι1 vs H1 p1 x1 s1 d1=>⟨ι1,ds,μ1,s1,d1,h.mono p1 x1⟩
theorem cj{m:Mk}{p:Pos}(hm:X.mg "len"=none)(ha:PA X (e::es) (tEs X.K φ xs))(hg:Gl X "len":=by rfl)(he:starEach (e::es) X.env=(false,eval e X.env)::starEach es X.env:=by rfl)(hpl:(backTo pos (starEach es X.env)).any (·.1)=false:=by rfl) :
  PE X (.Call (.Name "len" p) (e::es) [] pos) (tE X.K φ (.blt .len m xs)):=nr (r:=λ_ _ _=>True) (es:=es) (nc bt_len hg hm PySem.boot_len ha (by decide) (by decide) he hpl)
theorem dg{m:Mk}{p:Pos}(hm:X.mg "tuple"=none)(ha:PA X (e::es) (tEs X.K φ xs))(hg:Gl X "tuple":=by rfl)(he:starEach (e::es) X.env=(false,eval e X.env)::starEach es X.env:=by rfl)(hpl:(backTo pos (starEach es X.env)).any (·.1)=false:=by rfl) :
  PE X (.Call (.Name "tuple" p) (e::es) [] pos) (tE X.K φ (.blt .tuple m xs)):=nr (r:=λ_ _ _=>True) (es:=es) (u6 bt_tuple hg hm (by first | exact PyProof.Rows.boot_tuple | decide +kernel) ha (by decide) (by decide) he hpl)
theorem Er{m:Mk}{p:Pos}(hm:X.mg "list"=none)(ha:PA X (e::es) (tEs X.K φ xs))(hg:Gl X "list":=by rfl)(he:starEach (e::es) X.env=(false,eval e X.env)::starEach es X.env:=by rfl)(hpl:(backTo pos (starEach es X.env)).any (·.1)=false:=by rfl) :
  PE X (.Call (.Name "list" p) (e::es) [] pos) (tE X.K φ (.blt .list m xs)):=nr (r:=λ_ _ _=>True) (es:=es) (u6 bt_list hg hm (by first | exact PyProof.Rows.boot_list | decide +kernel) ha (by decide) (by decide) he hpl)
theorem Tu{m:Mk}{p:Pos}(hm:X.mg "int"=none)(ha:PA X (e::es) (tEs X.K φ xs))(hg:Gl X "int":=by rfl)(he:starEach (e::es) X.env=(false,eval e X.env)::starEach es X.env:=by rfl)(hpl:(backTo pos (starEach es X.env)).any (·.1)=false:=by rfl) :
  PE X (.Call (.Name "int" p) (e::es) [] pos) (tE X.K φ (.blt .int m xs)):=nr (r:=λ_ _ _=>True) (es:=es) (u6 Xg hg hm (by first | exact PyProof.Rows.boot_int | decide +kernel) ha (by decide) (by decide) he hpl)
theorem zf{m:Mk}{p:Pos}(hm:X.mg "min"=none)(ha:PA X (e::es) (tEs X.K φ xs))(hc:X.calm=true:=by rfl)(hg:Gl X "min":=by rfl)(he:starEach (e::es) X.env=(false,eval e X.env)::starEach es X.env:=by rfl)(hpl:(backTo pos (starEach es X.env)).any (·.1)=false:=by rfl) :
  PE X (.Call (.Name "min" p) (e::es) [] pos) (tE X.K φ (.blt .min m xs)):=nr (r:=λ_ _ _=>True) (es:=es) (nc (bt_min hc) hg hm (by first | exact PyProof.Rows.boot_min | decide +kernel) ha (by decide) (by decide) he hpl)
theorem zg{m:Mk}{p:Pos}(hm:X.mg "max"=none)(ha:PA X (e::es) (tEs X.K φ xs))(hc:X.calm=true:=by rfl)(hg:Gl X "max":=by rfl)(he:starEach (e::es) X.env=(false,eval e X.env)::starEach es X.env:=by rfl)(hpl:(backTo pos (starEach es X.env)).any (·.1)=false:=by rfl) :
  PE X (.Call (.Name "max" p) (e::es) [] pos) (tE X.K φ (.blt .max m xs)):=nr (r:=λ_ _ _=>True) (es:=es) (nc (bt_max hc) hg hm (by first | exact PyProof.Rows.boot_max | decide +kernel) ha (by decide) (by decide) he hpl)
theorem ow{m:Mk}{p:Pos}(hm:X.mg "sum"=none)(ha:PA X (e::es) (tEs X.K φ xs))(hc:X.calm=true:=by rfl)(hg:Gl X "sum":=by rfl)(he:starEach (e::es) X.env=(false,eval e X.env)::starEach es X.env:=by rfl)(hpl:(backTo pos (starEach es X.env)).any (·.1)=false:=by rfl) :
  PE X (.Call (.Name "sum" p) (e::es) [] pos) (tE X.K φ (.blt .sum m xs)):=nr (r:=λ_ _ _=>True) (es:=es) (nc (bt_sum hc) hg hm (by first | exact PyProof.Rows.boot_sum | decide +kernel) ha (by decide) (by decide) he hpl)
theorem Tv {c:Cl} {cn:Str} {p cp:Pos} (ha:PE X a (tE X.K φ xa)) (hmi:X.mg "isinstance"=none) (hmc:X.mg cn=none) (hc:∀n,c≠.own n:=by intro _ h;cases h) (hgi:Gl X "isinstance":=by rfl) (hgc:Gl X cn:=by rfl)
  (hbc:bootBuiltins cn=some (.type (ud c)):=by first | boot_by_name | rfl | kernel_rfl) (hn:cn≠"__name__":=by decide) (hd:(cn==("__debug__":Str))=false:=by decide) (hs:starEach [a,.Name cn cp] X.env=(false,eval a X.env)::starEach [.Name cn cp] X.env:=by rfl) :
  PE X (.Call (.Name "isinstance" p) [a,.Name cn cp] [] pos) (tE X.K φ (.isi xa c)):=abp hc ha hgi hmi hgc hmc hbc hn hd hs
theorem qi{tg:Expr}(hl:PE X e (tE X.K φ xe)):PI X tg e (tI X.K φ (.seq xe)):=Xd hl
theorem fo{tg:Expr}{p:Pos}(hm:X.mg "range"=none)(ha:PE X a (tE X.K φ xa))(hg:Gl X "range":=by rfl)(hs:starEach [a] X.env=[(false,eval a X.env)]:=by rfl):PI X tg (.Call (.Name "range" p) [a] [] pos) (tI X.K φ (.rng xa)):=Xe hg hm ha hs
theorem bh(i:Nat){y:Str}(hi:X.N[i]? = some y:=by rfl)(hN:ndB X.N=true:=by first | rfl | kernel_rfl)(hx:Loc X.env.scope y:=by first | exact Or.inl rfl | exact Or.inr rfl)(hf:X.fn y=true\/X.env.scope.names.lookup y=some .local:=by first | exact Or.inl rfl | exact Or.inr rfl) :
  PG X (.Name y pos) (tG X.K (.one i)):=Wy (Ep hN) hi hx hf
theorem me:PGs X [] (tGs X.K []):=Wz
theorem av (i:Nat) {is:List Nat} {y:Str} (h2:PGs X es (tGs X.K is)) (hi:X.N[i]? = some y:=by rfl) (hN:ndB X.N=true:=by first | rfl | kernel_rfl) (hx:Loc X.env.scope y:=by first | exact Or.inl rfl | exact Or.inr rfl) (hf:X.fn y=true\/X.env.scope.names.lookup y=some .local:=by first | exact Or.inl rfl | exact Or.inr rfl)
  (hs:(assignEach (.Name y pos::es) X.env).map (·.2)=assign (.Name y pos) X.env::(assignEach es X.env).map (·.2):=by rfl):PGs X (.Name y pos::es) (tGs X.K (i::is)):=S0 (Ic (Ep hN) hi hx hf) h2 hs
theorem mf{is:List Nat}{k:Nat}(h:PGs X es (tGs X.K is))(hc:X.calm=true:=by rfl)(hn:(assignEach es X.env).length=is.length:=by rfl)(hst:(assignEach es X.env).findIdx? (·.1)=none:=by rfl):PG X (.Tuple es k pos) (tG X.K (.many is)):=abg hc h hn hst
theorem fw:PTs X [] (tTs X.K φ .nil):=W2
theorem zh{r:List Expr}{xr:Exs}(h1:PT X c (tT X.K φ xc))(h2:PTs X r (tTs X.K φ xr)):PTs X (c::r) (tTs X.K φ (.cons xc xr)):=S8 h1 h2
theorem mh (Nb:List Str) {target iter:Expr} {ifs:List Expr} {scope:Scope} {cap:List Nat} {nl:Nat} {m:Mk} {tg:Tg} {it:It} {cs:Exs} {elt:Ex} (hi:PI X target iter (tI X.K φ it))
  (B:Cz X scope Nb target ifs e (tG X.K tg) (tTs X.K φ cs) (tE X.K φ elt)) (S:Eo X.env.scope scope X.N Nb cap nl=true:=by first | rfl | kernel_rfl) (hc:X.calm=true:=by rfl) (hf:∀x,foldedSetIterable iter X.env x=pure x:=by intro _;rfl) (hs:∀j∈slots tg,cap.length<=j:=by decide) :
  PE X (.ListComp e [⟨target,iter,ifs,0⟩] scope pos) (tE X.K φ (.comp m cap nl tg it cs elt)):=W3 (yj S) hc hi B hf hs
theorem vp (i:Nat) (Nb:List Str) {target iter:Expr} {ifs:List Expr} {scope:Scope} {cap:List Nat} {nl:Nat} {m:Mk} {tg:Tg} {it:It} {cs:Exs} {elt:Ex} {spos py:Pos} {y:Str} (hi:PI X target iter (tI X.K φ it))
  (B:Cz X scope Nb target ifs e (tG X.K tg) (tTs X.K φ cs) (tE X.K φ elt)) (S:Eo X.env.scope scope X.N Nb cap nl=true:=by first | rfl | kernel_rfl) (hc:X.calm=true:=by rfl) (hf:∀x,foldedSetIterable iter X.env x=pure x:=by intro _;rfl) (hs:∀j∈slots tg,cap.length<=j:=by decide)
  (hsw:swapsWith (.ListComp e [⟨target,iter,ifs,0⟩] scope pos) (some (.Name y py)) spos.line X.env=pure true:=by rfl) (hiN:X.N[i]? = some y:=by rfl) (hN:ndB X.N=true:=by first | rfl | kernel_rfl) (hy:X.env.scope.names.lookup y=some .local:=by rfl) :
  PS X (.Assign [.Name y py] (.ListComp e [⟨target,iter,ifs,0⟩] scope pos) spos) (tS X.K φ (.set i (.comp m cap nl tg it cs elt))):=Ji (yj S) hc hi B hf hs hsw (Ep hN) hiN hy
theorem eh:PSs X [] (tSs X.K φ .nil):=abe
theorem ax{s:Stmt}{ss:List Stmt}{x:Sm}{xss:Sms}(h1:PS X s (tS X.K φ x))(h2:PSs X ss (tSs X.K φ xss)):PSs X (s::ss) (tSs X.K φ (.cons x xss)):=Ww h1 h2
theorem vq(he:PE X e (tE X.K φ xe))(hs:swapsWith e none pos.line X.env=pure false:=by rfl):PS X (.Expr e pos) (tS X.K φ (.ex xe)):=Wx he hs
theorem fh(he:PE X e (tE X.K φ xe)):PS X (.Return (some e) pos) (tS X.K φ (.ret xe)):=abf he
theorem Ju{x y:List Stmt}{xx xy:Sms}(hc:PT X c (tT X.K φ xc))(ha:PSs X x (tSs X.K φ xx))(hb:PSs X y (tSs X.K φ xy)):PS X (.If c x y pos) (tS X.K φ (.ite xc xx xy)):=afa hc ha hb
theorem bp (i:Nat) {y:Str} {pos':Pos} (he:PE X e (tE X.K φ xe)) (hi:X.N[i]? = some y:=by rfl) (hN:ndB X.N=true:=by first | rfl | kernel_rfl) (hx:Loc X.env.scope y:=by first | exact Or.inl rfl | exact Or.inr rfl) (hf:X.fn y=true\/X.env.scope.names.lookup y=some .local:=by first | exact Or.inl rfl | exact Or.inr rfl)
  (hs:swapsWith e (some (.Name y pos')) pos.line X.env=pure false:=by rfl):PS X (.Assign [.Name y pos'] e pos) (tS X.K φ (.set i xe)):=abh (Ep hN) hi hx hf he hs
theorem zi {is:List Nat} {tg:Expr} (hg:PG X tg (tG X.K (.many is))) (he:PE X e (tE X.K φ xe)) (hs:swapsWithSole [tg] e pos.line X.env=pure false:=by rfl) (hw:swappedStores [tg] e X.env=pure none:=by rfl)
  (h1:(assignEach [tg] X.env).map (·.2)=[assign tg X.env]:=by rfl):PS X (.Assign [tg] e pos) (tS X.K φ (.unp is xe)):=abi hg he hs hw h1
theorem nt {tg it:Expr} {body:List Stmt} {xt:Tg} {xi:It} {xb:Sms} (hi:PI X tg it (tI X.K φ xi)) (hg:PG X tg (tG X.K xt)) (hb:PSs X body (tSs X.K φ xb)) (hp:PassesOwn (model X.prog X.w) X.A X.env X.xe:=by exact PassesOwn.never) (hc:X.calm=true:=by rfl)
  (hs:∀x,foldedSetIterable it X.env x=pure x:=by intro _;rfl):PS X (.For tg it body [] pos) (tS X.K φ (.loop xt xi xb)):=abj hp hc hi hg hb hs
end
structure Ma (X:Cx) (o:Expr) (nm:Str) (e:Expr) (es:List Expr) (apos cpos:Pos):Prop where
 b:attributeBase o nm X.env (eval o X.env)=eval o X.env
 f:((backTo cpos (starEach (e::es) X.env)).all (λx=>!x.1)&&(backToKw cpos (keywordEach [] X.env)).all (λx=>x.1.isSome)&&decide ((e::es).length+([]:List Keyword).length+(if([]:List Keyword).isEmpty then 0 else 1)<30))=true
 l:(apos.endLine==cpos.line)=true
 s:starEach (e::es) X.env=(false,eval e X.env)::starEach es X.env
 p:(backTo cpos (starEach es X.env)).any (·.1)=false
section
variable{X:Cx}{φ:Phi}{o e:Expr}{es:List Expr}{xo:Ex}{xs:Exs}{apos cpos:Pos}{T id:String}{name:Str}{mt:Mt}
theorem Qb(hT:∀(ι:List Addr) (H:Hp) (μ:Sto) (d:D) (x:V),Sim X.K ι H μ->IsD X.K ι H d x->oh mt d μ=true->tyV X.K T x H)(h:PE X e (tBM X.K T (rMt X.K mt) (tE X.K φ xo) (tEs X.K φ xs))):PE X e (tE X.K φ (.meth mt xo xs)) :=
 PE.imp h λσv H Q ⟨ι,σ,μ,hS,hL,h⟩=>by
  simp![evE]at h
  obtain⟨d,μ1,e1,h⟩:=h.bind
  refine⟨ι,σ,μ,hS,hL,?_⟩
  rw[e1]
  intro ι1 x H1 p1 x1 s1 d1
  split at h
  ·rename_i hm
   refine⟨hT ι1 H1 μ1 d x s1 d1 hm,ι1,σ,μ1,s1,hL.mono p1 x1,?_⟩
   obtain⟨ds,μ2,e2,h⟩:=h.bind
   rw[e2]
   exact λι2 vs H2 p2 x2 s2 d2=>⟨ι2,d,ds,μ2,s2,IsD.mono p2 x2 _ _ d1,d2,h.mono (p1.trans p2) (x1.trans x2)⟩
  ·exact h.elim
theorem yk(hmt:∀d μ,oh mt d μ=(listOf μ d).isSome)(ι:List Addr)(H:Hp)(μ:Sto)(d:D)(x:V)(hS:Sim X.K ι H μ)(hd:IsD X.K ι H d x)(hm:oh mt d μ=true):tyV X.K "list" x H:=by
 rw[hmt]at hm
 obtain⟨ds,e⟩:=DY.mp hm
 obtain⟨a,xs,rfl,hls,_⟩:=k8 hS hd e
 exact .inl ⟨rfl,_,hls.sq⟩
theorem a8(ho:PE X o (tE X.K φ xo))(ha:PA X (e::es) (tEs X.K φ xs))(h5:Ma X o "append" e es apos cpos:=by exact⟨rfl,rfl,rfl,rfl,rfl⟩):PE X (.Call (.Attribute o "append" apos) (e::es) [] cpos) (tE X.K φ (.meth .append xo xs)) :=
 Qb (yk λ_ _=>rfl) (V8 F.plainAttrs_list F.slot_list_append F.type_list_append N7 ho ha h5.b h5.f h5.l h5.s h5.p)
theorem qu(ho:PE X o (tE X.K φ xo))(ha:PA X (e::es) (tEs X.K φ xs))(h5:Ma X o "extend" e es apos cpos:=by exact⟨rfl,rfl,rfl,rfl,rfl⟩):PE X (.Call (.Attribute o "extend" apos) (e::es) [] cpos) (tE X.K φ (.meth .extend xo xs)) :=
 Qb (yk λ_ _=>rfl) (V8 F.plainAttrs_list F.slot_list_extend F.type_list_extend N8 ho ha h5.b h5.f h5.l h5.s h5.p)
end
section
variable{X:Cx}{φ:Phi}{a:Expr}{xa:Ex}{p p2 pos pos2:Pos}{m:Mk}
theorem Xm(hu:X.A.units+64<cLine):Zp X (adg X.K):=by
 intro pins s σ H o i v ov iv u Q I ro ri rv ⟨ι,a,b,d,μ,hS,ha,hb,hd,h⟩
 cases a with
 |loc n =>
  simp![Cg]at h
  cases em:μ[n]? with
  |none=>rw[em]at h;exact h.elim
  |some ob =>
   rw[em]at h
   obtain⟨q,rfl,hq⟩:∃q,o=.ref q/\ι[n]? = some q:=by simpa[IsD]using ha
   obtain⟨q',eq',hob⟩:=hS.at em
   rw[hq]at eq';cases eq'
   have lst:∀(ob:O) (xs:List D),ik ob=some xs->μ[n]? = some ob->OIs X.K ι H q ob->ij X.K (λ_ _ _ (_:Unit)=>True) ι H (match some xs,b with
     |some xs,.int i=>match ixN xs.length i with
      |some j=>if fits ob d=true then(putL n ob (xs.set j d) .non μ).bind λ_ μ=>.ok () μ else .stuck
      |none=>.stuck
     |_,_=>.stuck) (λ_ H'=>Q H')->wpAny (model X.prog X.w) X.A (setItem ov iv u) (λ_ s'=>∃H',Inv X pins σ H' s'/\Q H') X.xe s:=by
    intro ob xs ei em ho h
    cases b with
    |int k =>
     simp only at h
     split at h
     ·rename_i j ej
      split at h
      ·rename_i hf
       obtain⟨a',vs,ea,hι,hH,h1,h2⟩:=P6 hS ha em ei
       cases ea
       cases di hb
       refine set_list pins s σ H _ _ v ov iv u Q I ro ri rv ⟨_,vs,k,j,rfl,rfl,hH,by rw[h1.length];exact ej,?_⟩
       have h':ij X.K (RD X.K) ι H (putL n ob (xs.set j d) .non μ) λ_ H'=>Q H':=by
        cases ob with
        |l _=>exact λι' v' H' p e s' _=>h ι' () H' p e s' trivial
        |r _=>exact λι' v' H' p e s' _=>h ι' () H' p e s' trivial
        |d _=>exact h.elim
        |dt _=>exact h.elim
        |x _=>exact h.elim
        |o _ _=>exact h.elim
        |dr _=>exact h.elim
        |fd _=>exact h.elim
        |dead=>exact h.elim
       exact zd (v:=.non) hS hι hH (h1.set hd j) (λes e=>(h2 es e).set (Bd hf hd es e) j) (by simp[IsD]) h'
      ·exact h.elim
     ·exact h.elim
    |_=>exact h.elim
   cases ob with
   |l xs=>exact lst (.l xs) xs rfl em hob h
   |r xs=>exact lst (.r xs) xs rfl em hob h
   |d kvs =>
    simp only at h
    split at h
    ·rename_i hc
     obtain⟨hk,hv,hl⟩:=hc
     obtain⟨xs,hH,hkv⟩:=hob
     obtain⟨k,rfl,rfl⟩:=za hk hb
     cases(show ov=Value.ref q from ro)
     have hlen:xs.length=kvs.length:=(FR hkv).symm
     refine ve (by lia) I (U5.k (k:=k) (v:=v) hH (by rw[hlen,<-g8];exact hl)) ri rv λs' I'=>⟨_,I',?_⟩
     exact h ι () _ (AE _) (.dK hH) (hS.put hq (.dK hH) ⟨_,bg,Paired.mapP (En (IsD.pur hv hd) hkv) λp r z=>⟨IsD.mono (AE _) (.dK hH) _ _ z.1,IsD.mono (AE _) (.dK hH) _ _ z.2⟩⟩) trivial
    ·exact h.elim
   |dr kvs =>
    simp only at h
    split at h
    ·rename_i hc
     obtain⟨hk,hl⟩:=hc
     obtain⟨xs,hH,hkv⟩:=hob
     obtain⟨k,rfl,rfl⟩:=za hk hb
     cases(show ov=Value.ref q from ro)
     have hlen:xs.length=kvs.length:=(FR hkv).symm
     refine ve (by lia) I (U5.k (k:=k) (v:=v) hH (by rw[hlen,<-g8];exact hl)) ri rv λs' I'=>⟨_,I',?_⟩
     exact h ι () _ (AE _) (.dK hH) (hS.put hq (.dK hH) ⟨_,bg,Paired.mapP (En hd hkv) λp r z=>⟨IsD.mono (AE _) (.dK hH) _ _ z.1,IsD.mono (AE _) (.dK hH) _ _ z.2⟩⟩) trivial
    ·exact h.elim
   |dt kvs=>simp![ik]at h;exact h.elim
   |x _=>simp![ik]at h;exact h.elim
   |o _ _=>simp![ik]at h;exact h.elim
   |fd _=>simp![ik]at h;exact h.elim
   |dead=>simp![ik]at h;exact h.elim
 |_=>exact h.elim
theorem vt (hu:X.A.units+64<cLine) {o i e:Expr} {xo xi x:Ex} {tp:Pos} (ho:PE X o (tE X.K φ xo)) (hi:PE X i (tE X.K φ xi)) (he:PE X e (tE X.K φ x))
  (ha:∀v,assign (.Subscript o i tp) X.env v=(do
   let ov <-holding [v] (eval o X.env)
   let iv <-holding [v,ov] (eval i X.env)
   standAt tp
   holding [v,ov,iv] (setItem ov iv v)
   release [v,ov,iv] []):=by intro _;rfl) (hs:swapsWithSole [.Subscript o i tp] e pos.line X.env=pure false:=by rfl) (hw:swappedStores [.Subscript o i tp] e X.env=pure none:=by rfl)
  (h1:(assignEach [.Subscript o i tp] X.env).map (·.2)=[assign (.Subscript o i tp) X.env]:=by rfl):PS X (.Assign [.Subscript o i tp] e pos) (tS X.K φ (.setx xo xi x)):=W0 (Xm hu) ho hi he ha hs hw h1
theorem Tw{a b tg:Expr}{xa xb:Ex}{p:Pos}(hm:X.mg "range"=none)(ha:PE X a (tE X.K φ xa))(hb:PE X b (tE X.K φ xb))(hg:Gl X "range":=by rfl)(hs:starEach [a,b] X.env=[(false,eval a X.env),(false,eval b X.env)]:=by rfl)(hs2:starEach [b] X.env=[(false,eval b X.env)]:=by rfl) :
  PI X tg (.Call (.Name "range" p) [a,b] [] pos) (tI X.K φ (.rng2 xa xb)):=Te hg hm ha hb hs hs2
end
noncomputable def SI(b:Bool)(h:Heap)(it l:Addr)(i:Nat):Prop:=match b with
 |true=>h.IsListIter it l i
 |false=>h.IsTupleIter it l i
noncomputable def SQ(b:Bool)(h:Heap)(l:Addr)(xs:Array Value):Prop:=match b with
 |true=>h.IsList l xs
 |false=>h.IsTuple l xs
noncomputable def afg:Bool->String
 |true=>"list_iterator"
 |false=>"tuple_iterator"
theorem SI.keep{b:Bool}{h h':Heap}{it l:Addr}{i:Nat}(x:SI b h it l i)(e:∀o,h.get? it=some o->h'.get? it=some o):SI b h' it l i:=by
 cases b
 ·exact Heap.IsTupleIter.at x e
 ·exact Heap.IsListIter.at x e
theorem SI.but{b:Bool}{h h':Heap}{it l c:Addr}{i:Nat}(x:SI b h it l i)(e:Heap.ExtBut c h h')(n:it≠c):SI b h' it l i:=x.keep λo q=>e it o n q
theorem SI.obj{b:Bool}{h:Heap}{it l:Addr}{i:Nat}(x:SI b h it l i):∃o,h.get? it=some o/\o.cls=.type (afg b)/\o.data=.fields #[.ref l,.int i 0]:=by
 cases b<;>exact x
section
variable{prog:Program}{w:World}{A:Around}{E:Value -> Shared -> Prop}{s:Shared}
theorem Tx {b:Bool} {it l:Addr} {i:Nat} {xs:Array Value} {x:Value} {Q:Value->Shared->Prop} (hit:SI b s.heap it l i) (hl:SQ b s.heap l xs) (hx:xs[i]? = some x)
  (hQ:∀h',SI b h' it l (i+1)->Heap.SameBut it s.heap h'->Q x {s with heap:=h'}):wpAny (model prog w) A (Builtin.SmallTypes.nextOf (.ref it)) Q E s:=by
 cases b
 ·obtain⟨o,ho,hc,hd⟩:=hit.obj
  obtain⟨ol,hol,_,nl,hdl⟩:=hl
  have ht:s.TypeIs (.ref it) "tuple_iterator":=⟨o,ho,hc⟩
  unfold Builtin.SmallTypes.nextOf
  refine AC (DK (name:=Str.ofString "__next__") ht EM (EG EM ht HB ?_ (GY _)))
  show wpAny _ _ (field (.ref it) 0>>=_) _ _ s
  refine AC (DU ho hd (x:=.ref l) rfl ?_)
  show wpAny _ _ (if(Value.ref l==Value.none)=true then _ else _) _ _ s
  rw[if_neg (show ¬((Value.ref l==Value.none)=true)from BP)]
  show wpAny _ _ (field (.ref it) 1>>=_) _ _ s
  refine AC (DU ho hd (x:=.int i 0) rfl ?_)
  show wpAny _ _ (seqItems? (.ref l)>>=_) _ _ s
  refine AC (wpAny_seqItems hol hdl ?_)
  simp![DR,hx]
  refine AC (wpAny_setField ho hd (by simp) (AO ⟨x,rfl,AO (hQ _ ?_ (IV ..))⟩))
  exact⟨_,IN _ ho (Obj.isFreed_of_fields (Obj.data_mapFields hd _)),(Obj.cls_mapFields ..).trans hc,by rw[Obj.data_mapFields hd];simp[rawInt]⟩
 ·exact wpAny_nextOf_list_item hit hl hx hQ
theorem Xn {b:Bool} {it l:Addr} {i:Nat} {xs:Array Value} {Q:Value->Shared->Prop} (hh:A.handled=none) (hit:SI b s.heap it l i) (hl:SQ b s.heap l xs) (hx:xs[i]? = none)
  (hE:∀h' e,Heap.ExtBut it s.heap h'->(∃o,h'.get? e=some o/\o.cls=.type "StopIteration")->E (.ref e) {s with heap:=h'}):wpAny (model prog w) A (Builtin.SmallTypes.nextOf (.ref it)) Q E s:=by
 cases b
 ·obtain⟨o,ho,hc,hd⟩:=hit.obj
  obtain⟨ol,hol,_,nl,hdl⟩:=hl
  have ht:s.TypeIs (.ref it) "tuple_iterator":=⟨o,ho,hc⟩
  unfold Builtin.SmallTypes.nextOf
  refine AC (DK (name:=Str.ofString "__next__") ht EM (EG EM ht HB ?_ (GY _)))
  show wpAny _ _ (field (.ref it) 0>>=_) _ _ s
  refine AC (DU ho hd (x:=.ref l) rfl ?_)
  show wpAny _ _ (if(Value.ref l==Value.none)=true then _ else _) _ _ s
  rw[if_neg (show ¬((Value.ref l==Value.none)=true)from BP)]
  show wpAny _ _ (field (.ref it) 1>>=_) _ _ s
  refine AC (DU ho hd (x:=.int i 0) rfl ?_)
  show wpAny _ _ (seqItems? (.ref l)>>=_) _ _ s
  refine AC (wpAny_seqItems hol hdl ?_)
  simp![DR,hx]
  refine AC (FG (AC (wpAny_setField ho hd (by simp) ?_)))
  show wpAny _ _ (newExc (.type "StopIteration") []>>=_) _ _ _
  refine AC ?_
  simp![newExc,newTuple]
  refine AC (EA ?_ (by size_fits))
  refine AC (m:=firstArgMember _ _) (wpAny_of_eq (a:=Value.none) (by first | rfl | (simp![firstArgMember];rfl)) ?_)
  refine EA ?_ (by size_fits)
  simp![raiseNew]
  refine AC (wpAny_handled ?_)
  first | rw[show A.in1.handled=none from hh] | rw[hh]
  refine AC (AO (wpAny_throw ?_))
  exact hE _ _ (((IV ..).extBut.push _).push _) ⟨_,AZ _ rfl,rfl⟩
 ·exact wpAny_nextOf_list_end hh hit hl hx hE
variable{b1 b2:Bool}{z TI TO i1 i2 l1 l2:Addr}{k1 k2:Nat}{xs ys:Array Value}{x y a b:Value}
end
section
variable{X:Cx}{pins:List (Addr × Obj)}{σ:St}{H:Hp}{s:Shared}{φ:Phi}
theorem Jv{h':Heap}{t':Nat}{ch:List Addr}(I:Inv X pins σ H s)(k:∀b o,b∉ch->s.heap.get? b=some o->h'.get? b=some o)(hf:∀b∈ch,Hv X pins H b):Inv X pins σ H {s with heap:=h',toks:=t'}:=by
 have nit:∀b u,H b=some u->b∉ch:=λb u e z=>by rw[(hf b z).1]at e;cases e
 refine I.step (g':=s.gens) (d':=s.drawn) (ch:=ch) (λb hb=>⟨(hf b hb).2.2.2.1,(hf b hb).2.1,(hf b hb).2.2.2.2.1,(hf b hb).2.2.2.2.2⟩) (λb o _ _ hc e _=>k b o hc e) (λb o _ _ hc e _=>⟨o.slots,k b o hc e⟩) (λ_ _ _ _ n=>n)
  (λb o hc e=>⟨o,k b o hc e⟩) (λ_ _ e=>e) (λ_ _ _ e=>e) (λb ps e=>⟨#[],by rw[e];simp⟩) (λm hm=>?_) (λb u e=>?_) I.bare
 ·obtain⟨o,es,ep,ho,r⟩:=hm
  exact⟨o,es,ep,k _ o (λz=>(hf _ z).2.1 rfl) ho,r⟩
 ·refine(I.hok b u e).stay (λc v hc q=>k c v ?_ q) (λ_ q=>q) λ_ _ q=>q
  rcases hc with z | z
  ·rw[z];exact nit b u e
  ·exact nit c _ z
noncomputable def Sq(b:Bool)(K:PySem.W.Frag)(H:Hp)(a:Addr)(xs:List V):Prop:=match b with
 |true=>SqL K H a xs
 |false=>SqT K H a xs
theorem Sq.vals{b:Bool}{a:Addr}{xs:List V}(h:Sq b X.K H a xs)(I:Inv X pins σ H s):∃its:List Value,c9 xs its/\SQ b s.heap a its.toArray/\xs.length<=sizeLine:=by
 cases b
 ·obtain⟨its,rv,p,hz⟩:=I.tuple h
  exact⟨its,rv,p,hz⟩
 ·obtain⟨its,rv,p,hz⟩:=I.list h
  exact⟨its,rv,p.isList,hz⟩
theorem Sq.inj{b:Bool}{a:Addr}{xs ys:List V}(h:Sq b X.K H a xs)(I:Inv X pins σ H s)(h':Sq b X.K H a ys):ys=xs:=by
 cases b
 ·exact I.tuple_inj h' h
 ·exact I.list_inj h' h
theorem Tz{K:PySem.W.Frag}{ι:List Addr}{H:Hp}{μ:Sto}{d:D}{v:V}{ds:List D}{g:Gd}(S:Sim K ι H μ)(hd:IsD K ι H d v)(hw:da μ d=some (ds,g)) :
  ∃b a xs,v=.ref a/\Sq b K H a xs/\ak K ι H ds xs/\∀ι2 H2 μ2,ι <+: ι2->Ext H H2->Sim K ι2 H2 μ2->gd g μ2->∃ys,Sq b K H2 a ys/\ak K ι2 H2 ds ys:=by
 cases d with
 |tup es =>
  simp![da,BX,GC]at hw
  obtain⟨rfl,rfl⟩:=hw
  obtain⟨a,xs,rfl,hq,hds⟩:=gg hd
  exact⟨false,a,xs,rfl,hq,hds,λι2 H2 μ2 q1 q2 q3 q4=>⟨xs,hq.ext q2,ak.mono q1 q2 _ _ hds⟩⟩
 |lst es =>
  simp![da,BX,GC]at hw
  obtain⟨rfl,rfl⟩:=hw
  obtain⟨a,xs,rfl,hq,hds⟩:∃a xs,v=.ref a/\FzL K H a xs/\ak K ι H es xs:=by simpa[IsD]using hd
  exact⟨true,a,xs,rfl,hq.sq,hds,λι2 H2 μ2 q1 q2 q3 q4=>⟨xs,(hq.ext q2).sq,ak.mono q1 q2 _ _ hds⟩⟩
 |loc n =>
  obtain⟨a,rfl,hn⟩:∃a,v=.ref a/\ι[n]? = some a:=by simpa[IsD]using hd
  have pre:∀{ι2:List Addr},ι <+: ι2->ι2[n]? = some a:=λhp=>by
   obtain⟨t,rfl⟩:=hp
   rw[AN (AB.mp hn).1];exact hn
  cases em:μ[n]? with
  |none=>simp[da,em]at hw
  |some o =>
   cases o with
   |l es =>
    simp![da,em,BX,GC]at hw
    obtain⟨rfl,rfl⟩:=hw
    obtain⟨a',q',ho⟩:=S.at em
    rw[hn]at q';cases q'
    obtain⟨xs,f1,f2⟩:=ho
    refine⟨true,a,xs,rfl,(show LsL K H a xs from .inl f1).sq,ak.mono (CU) (.refl _) _ _ f2,λι2 H2 μ2 q1 q2 q3 q4=>?_⟩
    obtain⟨a2,e2,o2⟩:=q3.at (show μ2[n]? = some (.l es)from q4)
    rw[pre q1]at e2;cases e2
    obtain⟨ys,g1,g2⟩:=o2
    exact⟨ys,(show LsL K H2 a ys from .inl g1).sq,ak.mono (CU) (.refl _) _ _ g2⟩
   |r es =>
    simp![da,em,BX,GC]at hw
    obtain⟨rfl,rfl⟩:=hw
    obtain⟨a',q',ho⟩:=S.at em
    rw[hn]at q';cases q'
    obtain⟨xs,f1,f2⟩:=ho
    refine⟨true,a,xs,rfl,(show LsL K H a xs from .inl f1).sq,f2,λι2 H2 μ2 q1 q2 q3 q4=>?_⟩
    obtain⟨a2,e2,o2⟩:=q3.at (show μ2[n]? = some (.r es)from q4)
    rw[pre q1]at e2;cases e2
    obtain⟨ys,g1,g2⟩:=o2
    exact⟨ys,(show LsL K H2 a ys from .inl g1).sq,g2⟩
   |d kvs=>simp[da,em]at hw
   |dt kvs=>simp[da,em]at hw
   |x _=>simp[da,em]at hw
   |o _ _=>simp[da,em]at hw
   |dr _=>simp[da,em]at hw
   |fd _=>simp[da,em]at hw
   |dead=>simp[da,em]at hw
 |_=>simp[da]at hw
end
open AutoSeq1 (wpAny_loadPart')
theorem T1(l:Addr)(items:Array Value)(n:Nat)(dct:Option Addr)(sl:Array (Option Value)) :
  Meets (Builtin.«enumerate.__new__» ⟨[.type "enumerate",.ref l],[]⟩) (λ_ R s=>s.heap.get? l=some {cls:=.type "tuple",dict:=dct,data:=.seq items n,slots:=sl} /\
   R (.ok (.ret (.ref (s.heap.push {cls:=.type "tuple_iterator",data:=.fields #[.ref l,.int 0 0]}).objs.size)))
    {s with heap:=(s.heap.push {cls:=.type "tuple_iterator",data:=.fields #[.ref l,.int 0 0]}).push {cls:=.type "enumerate",data:=.fields #[.none,.bool false,.ref s.heap.objs.size,rawInt 0,.none,.none]}}) :=
 .of_wp λprog w A R s h=>by
  obtain⟨hp,g,d,tk,os⟩:=s;obtain⟨hl,h⟩:=h
  have hsub:=sub_enumerate
  have hL:Heap.IsTuple (Shared.heap ⟨hp,g,d,tk,os⟩) l items:=⟨_,hl,rfl,n,rfl⟩
  wp_walk using CY hl
  refine wpAny_stack_any λst=>AO ?_
  split
  ·rename_i c _ _ _ _ _
   cases(c==Value.type "enumerate")
   ·wp_walk using CY hl,FH hL
    exact⟨_,rfl,h⟩
   ·wp_walk using CY hl,FH hL
    exact⟨_,rfl,h⟩
  ·wp_walk using CY hl,FH hL
   exact⟨_,rfl,h⟩
section
variable{prog:Program}{w:World}{A:Around}{E:Value -> Shared -> Prop}{s:Shared}{b:Bool}
theorem T2 {l:Addr} {items:Array Value} {Q:Value->Shared->Prop} (hL:SQ b s.heap l items)
  (h:∀h',IsEnum h' (s.heap.objs.size+1) s.heap.objs.size 0 .none->SI b h' s.heap.objs.size l 0->(∀b o,s.heap.get? b=some o->h'.get? b=some o)->Q (.ref (s.heap.objs.size+1)) {s with heap:=h'}) :
  wpAny (model prog w) A (call (.type "enumerate") [.ref l]) Q E s:=by
 cases b
 ·obtain⟨⟨c,dct,dt,sl⟩,hl,hc,n,hd⟩:=hL
  replace hc:c=.type "tuple":=hc
  replace hd:dt=.seq items n:=hd
  subst hc hd
  refine callType_new F.called_enumerate (by decide) (F.typeCall_enumerate_1 _) (F.newCall_enumerate_1 _) (λobj=>F.args_object_init_2 obj _) F.entry_enumerate_new (T1 l items n dct sl) ⟨hl,?_⟩
  have hz:(s.heap.push {cls:=.type "tuple_iterator",data:=.fields #[.ref l,.int 0 0]}).objs.size=s.heap.objs.size+1:=FA ..
  show _/\_
  rw[hz]
  have he:IsEnum ((s.heap.push {cls:=.type "tuple_iterator",data:=.fields #[.ref l,.int 0 0]}).push
    {cls:=.type "enumerate",data:=.fields #[.none,.bool false,.ref s.heap.objs.size,rawInt 0,.none,.none]}) (s.heap.objs.size+1) s.heap.objs.size 0 .none:=by
   have:=AZ (s.heap.push {cls:=.type "tuple_iterator",data:=.fields #[.ref l,.int 0 0]})
    (o:={cls:=.type "enumerate",data:=.fields #[.none,.bool false,.ref s.heap.objs.size,rawInt 0,.none,.none]}) rfl
   rw[hz]at this;exact this
  exact⟨⟨_,he,rfl⟩,h _ he ⟨_,AH _ (AZ _ rfl),rfl,rfl⟩ λb o x=>AH _ (AH _ x)⟩
 ·exact call_enumerate_list hL λh' a1 a2 _ a3=>h h' a1 a2 a3
theorem T3 {e it l:Addr} {i:Nat} {items:Array Value} {x old:Value} {Q:Option Value->Shared->Prop}
  (he:IsEnum s.heap e it i old) (hit:SI b s.heap it l i) (hl:SQ b s.heap l items) (hx:items[i]? = some x) (hne:e≠it)
  (hQ:∀h',IsEnumOut h' e it ((i:Int)+1) x s.heap.objs.size->SI b h' it l (i+1)->h'.get? s.heap.objs.size=some {cls:=.type "tuple",data:=.seq #[.int i s.toks,x]} ->
   (∀b o,b≠e->b≠it->s.heap.get? b=some o->h'.get? b=some o)->Q (some (.ref s.heap.objs.size)) {s with heap:=h',toks:=s.toks+1}) :
  wpAny (model prog w) A (pyNext (.ref e)) Q E s:=by
 have hT:s.TypeIs (.ref e) "enumerate":=⟨_,he,rfl⟩
 unfold pyNext
 refine AC (wpAny_attempt (DK (name:=Str.ofString "__next__") hT FU (EG FU hT F.entry_enumerate_next ?_ (F.args_enumerate_next_1 _))))
 obtain⟨hp,g,d,tk,os⟩:=s
 show wpAny _ _ (field (.ref e) 2>>=_) _ _ _
 refine AC (DU he rfl (x:=.ref it) rfl ?_)
 refine AC (Tx hit hl hx λh₁ hit₁ hs₁=>?_)
 replace hs₁:Heap.SameBut it hp h₁:=hs₁
 have he₁:IsEnum h₁ e it i old:=(hs₁.2 e hne).trans he
 show wpAny _ _ (field (.ref e) 3>>=_) _ _ ⟨h₁,g,d,tk,os⟩
 refine AC (DU he₁ rfl (x:=rawInt i) rfl ?_)
 show wpAny _ _ (field (.ref e) 4>>=_) _ _ ⟨h₁,g,d,tk,os⟩
 refine AC (DU he₁ rfl (x:=.none) rfl ?_)
 show wpAny _ _ (mkInt i>>=_) _ _ ⟨h₁,g,d,tk,os⟩
 refine AC (wpAny_mkInt ?_)
 show wpAny _ _ (setField (.ref e) 3 (rawInt ((i:Int)+1))>>=_) _ _ ⟨h₁,g,d,tk+1,os⟩
 refine AC (FI he₁ (by simp) λh₂ he₂ hs₂=>?_)
 replace hs₂:Heap.SameBut e h₁ h₂:=hs₂
 replace he₂:IsEnum h₂ e it ((i:Int)+1) old:=he₂
 show wpAny _ _ (setField (.ref e) 4 .none>>=_) _ _ ⟨h₂,g,d,tk+1,os⟩
 refine AC (FI he₂ (by simp) λh₃ he₃ hs₃=>?_)
 replace hs₃:Heap.SameBut e h₂ h₃:=hs₃
 replace he₃:IsEnum h₃ e it ((i:Int)+1) old:=he₃
 show wpAny _ _ (newTuple [.int i tk,x]>>=_) _ _ ⟨h₃,g,d,tk+1,os⟩
 refine AC (wpAny_newTuple ?_)
 have he₄:IsEnum (h₃.push {cls:=.type "tuple",data:=.seq #[.int i tk,x]}) e it ((i:Int)+1) old:=AH _ he₃
 generalize hh₄:h₃.push {cls:=.type "tuple",data:=.seq #[.int i tk,x]}=h₄ at he₄
 have hsz:h₃.objs.size=hp.objs.size:=by rw[hs₃.1,hs₂.1,hs₁.1]
 have hel:e<hp.objs.size:=AR he
 have ht₄:h₄.get? hp.objs.size=some {cls:=.type "tuple",data:=.seq #[.int i tk,x]}:=by rw[<-hh₄,<-hsz];exact AZ _ rfl
 have hk₄:∀b o,b≠e->b≠it->hp.get? b=some o->h₄.get? b=some o:=λb o hbe hbi hb=>by
  rw[<-hh₄];exact AH _ (hs₃.extBut b o hbe (hs₂.extBut b o hbe (hs₁.extBut b o hbi hb)))
 have hit₄:SI b h₄ it l (i+1):=by
  rw[<-hh₄];exact((hit₁.but hs₂.extBut (Ne.symm hne)).but hs₃.extBut (Ne.symm hne)).keep λo ho=>AH _ ho
 show wpAny _ _ (Builtin.SmallTypes.ownedTupleIsFree (.ref e)>>=_) _ _ ⟨h₄,g,d,tk+1,os⟩
 rw[hsz]
 clear hh₄ he₃ hs₃ he₂ hs₂ he₁ hs₁ hit₁ hsz h₃ h₂ h₁
 refine AC ?_
 unfold Builtin.SmallTypes.ownedTupleIsFree
 refine AC (DU he₄ rfl (x:=.none) rfl (AO ?_))
 simp![if_true]
 refine AC (FG ?_)
 refine AC (DU he₄ rfl (x:=old) rfl ?_)
 refine AC (FI he₄ (by simp) λh₅ he₅ hs₅=>?_)
 replace hs₅:Heap.SameBut e h₄ h₅:=hs₅
 replace he₅:IsEnum h₅ e it ((i:Int)+1) x:=he₅
 show wpAny _ _ (Builtin.SmallTypes.ownedTupleHandOut (.ref e) (.ref hp.objs.size)>>=_) _ _ ⟨h₅,g,d,tk+1,os⟩
 refine AC ?_
 unfold Builtin.SmallTypes.ownedTupleHandOut
 refine AC (FI he₅ (by simp) λh₆ he₆ hs₆=>?_)
 replace hs₆:Heap.SameBut e h₅ h₆:=hs₆
 replace he₆:IsEnumOut h₆ e it ((i:Int)+1) x hp.objs.size:=he₆
 refine FI he₆ (by simp) λh₇ he₇ hs₇=>?_
 replace hs₇:Heap.SameBut e h₆ h₇:=hs₇
 replace he₇:IsEnumOut h₇ e it ((i:Int)+1) x hp.objs.size:=he₇
 refine AC (wpAny_letGo (AO ⟨_,rfl,AO (hQ h₇ he₇ ?_ ?_ ?_)⟩))
 ·exact((hit₄.but hs₅.extBut (Ne.symm hne)).but hs₆.extBut (Ne.symm hne)).but hs₇.extBut (Ne.symm hne)
 ·exact hs₇.extBut _ _ (ER hel) (hs₆.extBut _ _ (ER hel) (hs₅.extBut _ _ (ER hel) ht₄))
 ·exact λb o hbe hbi hb=>hs₇.extBut b o hbe (hs₆.extBut b o hbe (hs₅.extBut b o hbe (hk₄ b o hbe hbi hb)))
theorem Xo {e it l:Addr} {i:Nat} {items:Array Value} {old:Value} {Q:Option Value->Shared->Prop} (hh:A.handled=none)
  (he:IsEnum s.heap e it i old) (hit:SI b s.heap it l i) (hl:SQ b s.heap l items) (hx:items[i]? = none)
  (hQ:∀h',Heap.ExtBut it s.heap h'->Q none {s with heap:=h'}):wpAny (model prog w) A (pyNext (.ref e)) Q E s:=by
 have hT:s.TypeIs (.ref e) "enumerate":=⟨_,he,rfl⟩
 unfold pyNext
 refine AC (wpAny_attempt (DK (name:=Str.ofString "__next__") hT FU (EG FU hT F.entry_enumerate_next ?_ (F.args_enumerate_next_1 _))))
 show wpAny _ _ (field (.ref e) 2>>=_) _ _ _
 refine AC (DU he rfl (x:=.ref it) rfl ?_)
 refine AC (Xn hh hit hl hx λh' x he' hx'=>?_)
 obtain⟨o,ho,hc⟩:=hx'
 refine AC (wpAny_isInstance (T:="StopIteration") (b:=true) ⟨o,ho,hc⟩ isSubtype_stop ?_)
 exact AO (hQ _ he')
end
section
variable{X:Cx}{pins:List (Addr × Obj)}{σ:St}{H:Hp}{s:Shared}{φ:Phi}
noncomputable def Ite(K:PySem.W.Frag)(b:Bool)(a:Addr):L2.It :=
 ⟨λi H=>∃xs x,Sq b K H a xs/\xs[i]? = some x,
 λi H v H'=>∃p x,v=.ref p/\H p=none/\H'=upd H p (.tup [.int i,x])/\∀xs,Sq b K H a xs->xs[i]? = some x,
 λi H=>∃xs,Sq b K H a xs/\xs.length<=i⟩
theorem Jw{P:Program}{w:World}{K:PySem.W.Frag}{elts:List Expr}{k:Nat}{tp:Pos}{b:Bool}{e it a:Addr}(hne:e≠it) :
  Turn P w K (.Tuple elts k tp) (Ite K b a) [e,it] e (λi h=>(∃old,IsEnum h e it i old)/\SI b h it a i) where
 mem:=by simp
 obj:=λi h ⟨⟨old,he⟩,s1⟩ c hc=>by
  simp![AS,BY,or_false]at hc
  rcases hc with rfl | rfl
  ·exact⟨_,he,λv e=>by cases e⟩
  ·obtain⟨o,e,_,d⟩:=s1.obj
   exact⟨o,e,λv q=>by rw[d]at q;cases q⟩
 keep:=λi h h' ⟨⟨old,he⟩,s1⟩ k=>⟨⟨old,k e (by simp) _ he⟩,s1.keep λo q=>k it (by simp) o q⟩
 item:=by
  intro X hP hw hK hc i pins s σ H E I hf ⟨⟨old,he⟩,s1⟩ hg
  subst hP hw hK
  obtain⟨xs,x,q1,ex⟩:=hg
  obtain⟨is1,rv1,p1,_⟩:=q1.vals I
  obtain⟨u1,hu1,ru1⟩:=rv1.get ex
  refine T3 he s1 p1 (x:=u1) (by simpa using hu1) hne λh' c1 c2 c3 kk=>⟨_,rfl,wpAny_letOwnedTupleGo_enum c1 λh'' z'' sb=>?_⟩
  have fr:H s.heap.objs.size=none:=I.hok.fresh (AK _)
  have lt:∀c∈[e,it],c≠s.heap.objs.size:=by
   intro c hc
   simp![AS,BY,or_false]at hc
   rcases hc with rfl | rfl
   ·exact BJ (AR he)
   ·obtain⟨o,q,_⟩:=s1.obj;exact BJ (AR q)
  have I1:Inv X pins σ (upd H s.heap.objs.size (.tup [.int i,x])) {s with heap:=s.heap.push {cls:=.type "tuple",data:=.seq #[.int i s.toks,u1]},toks:=s.toks+1} :=
   I.laid (λb u e=>AH _ e) (AK _) ⟨by show 2<=sizeLine;rw[GG];decide,[.int i s.toks,u1],.cons ⟨s.toks,rfl⟩ (.cons ru1 .nil),⟨_,AZ _ rfl,rfl,rfl,_,rfl⟩⟩
  have hf':∀c∈[e,it],Hv X pins (upd H s.heap.objs.size (.tup [.int i,x])) c:=λc hc=>by
   obtain⟨f0,f⟩:=hf c hc
   exact⟨by rw[a9 (lt c hc)];exact f0,f⟩
  have up:∀c o,c≠e->h'.get? c=some o->h''.get? c=some o:=λc o n q=>sb.extBut _ _ n q
  have I2:=Jv (s:={s with heap:=s.heap.push {cls:=.type "tuple",data:=.seq #[.int i s.toks,u1]},toks:=s.toks+1}) (h':=h'') (t':=s.toks+1) (ch:=[e,it]) I1 (λc o hc q=>by
   simp![AS,BY,or_false,not_or]at hc
   rcases Heap.get?_push_cases q with⟨rfl,rfl⟩ | q
   ·exact up _ _ hc.1 c3
   ·exact up _ _ hc.1 (kk c o hc.1 hc.2 q)) hf'
  refine⟨.ref s.heap.objs.size,_,I2,rfl,⟨_,x,rfl,fr,rfl,λzs hz'=>by rw[q1.inj I hz'];exact ex⟩,⟨⟨u1,?_⟩,c2.keep λo q=>up _ o (Ne.symm hne) q⟩,λc hc=>(hf' c hc).1⟩
  exact z''
 done:=by
  intro X hP hw hK hc i pins s σ H E I hf ⟨⟨old,he⟩,s1⟩ hg
  subst hP hw hK
  obtain⟨xs,q1,en⟩:=hg
  obtain⟨is1,rv1,p1,_⟩:=q1.vals I
  have l1:=rv1.length
  refine Xo (I.ok.hd hc) he s1 p1 (by simp;lia) λh' kk=>⟨rfl,Jv I (h':=h') (t':=s.toks) (ch:=[e,it]) (λc o hc q=>?_) hf⟩
  simp![AS,BY,or_false,not_or]at hc
  exact kk c o hc.2 q
 self:=λ_ _ _ _ _ st h=>wpAny_pyIter_enum st.1.choose_spec h
theorem T4{a:Expr}{xa:Ex}{elts:List Expr}{k:Nat}{tp:Pos}{p pos:Pos}(hg:Gl X "enumerate")(hm:X.mg "enumerate"=none)(ha:PE X a (tE X.K φ xa))(hs:starEach [a] X.env=[(false,eval a X.env)]) :
  PI X (.Tuple elts k tp) (.Call (.Name "enumerate" p) [a] [] pos) (tI X.K φ (.enum xa)):=by
 intro pins s σv H R I ⟨ι,σ,μ,hS,hL,h⟩
 simp![evI]at h
 cases e1:evE φ xa σ μ with
 |exc _ _ _=>rw[e1]at h;exact h.elim
 |stuck=>rw[e1]at h;exact h.elim
 |ok d μ2 =>
 rw[e1]at h
 simp![Res.br]at h
 have hq:tEs X.K φ (.cons xa .nil) σv H (λvs H1=>∃ι1,ι <+: ι1/\Ext H H1/\Sim X.K ι1 H1 μ2/\ak X.K ι1 H1 [d] vs):=⟨ι,σ,μ,hS,hL,by
  simp![gn,e1,Res.br]
  exact λι1 v H1 p1 x1 s1 d1=>⟨ι1,p1,x1,s1,d1⟩⟩
 refine Call_ (u4 I hg hm PyProof.Rows.boot_enumerate (DN (thn (ub ha Jc hs pos pins s σv H _ I hq) λus s1 ⟨vs,H1,I1,r1,ι1,p1,x1,S1,d1⟩=>?_) hs rfl))
 simp![ak]at d1
 obtain⟨v1,_,rfl,q1,rfl⟩:=d1
 cases r1 with
 |cons ra rr =>
 cases rr
 cases ew:da μ2 d with
 |none=>simp![ew]at h
 |some wg =>
 obtain⟨ds,g⟩:=wg
 simp![ew]at h
 obtain⟨b1,a1,xs,rfl,sq1,ds1,st1⟩:=Tz S1 q1 ew
 cases ra
 obtain⟨i1,rv1,p1',z1⟩:=sq1.vals I1
 refine T2 p1' λh' c1 c2 kk=>?_
 refine wpAny_pyIter_enum c1 ?_
 have I2:Inv X pins σv H1 {s1 with heap:=h'}:=I1.kept (t':=s1.toks) kk
 refine⟨_,[s1.heap.objs.size+1,s1.heap.objs.size],_,_,H1,rfl,I2,Jw (b:=b1) (a:=a1) (Nat.succ_ne_self _),⟨⟨_,c1⟩,c2⟩,λc hc=>?_,h ι1 H1 _ p1 x1 S1 ?_⟩
 ·have hc':s1.heap.objs.size<=c:=by
   simp![AS,BY,or_false]at hc
   rcases hc with rfl | rfl<;>first | exact AK _ | exact Nat.le_add_right _ _
  exact I1.fpOk hc' (I1.hok.fresh hc')
 ·have hlen:(((List.range ds.length).zip ds).map fun(p:Nat×D)=>D.tup [.int p.1,p.2]).length=ds.length:=by simp
  have n1:=ds1.length
  refine⟨by rw[hlen];lia,λi ι2 H2 μ3 q1 q2 q3 q4 hi=>?_,λi ι2 H2 μ3 w H3 q1 q2 q3 q4 hi hy=>?_,λι2 H2 μ3 q1 q2 q3 q4=>?_⟩
  ·rw[hlen]at hi
   obtain⟨xs',y1,y2⟩:=st1 ι2 H2 μ3 q1 q2 q3 q4
   obtain⟨v,ev,_⟩:=y2.get (AA hi)
   exact⟨xs',v,y1,ev⟩
  ·rw[hlen]at hi
   obtain⟨xs',y1,y2⟩:=st1 ι2 H2 μ3 q1 q2 q3 q4
   obtain⟨v,ev,hv⟩:=y2.get (AA hi)
   obtain⟨p,x,rfl,hp,rfl,f1⟩:=hy
   have e1':=f1 _ y1
   rw[ev]at e1';cases e1'
   have X1:Ext H2 (upd H2 p (.tup [.int i,v])):=Ext.new hp
   refine⟨X1,q3.new hp,.tup [.int i,ds[i]],by simp[Gt,hi],tup_is (xs:=[.int i,v]) (.inl ?_) ?_⟩
   ·exact .inl bg
   ·simp![ak]
    exact⟨.int i,_,rfl,by simp[IsD],v,_,rfl,IsD.mono (AE _) X1 _ _ hv,rfl⟩
  ·obtain⟨xs',y1,y2⟩:=st1 ι2 H2 μ3 q1 q2 q3 q4
   have m1:=y2.length
   rw[hlen]
   exact⟨xs',y1,by lia⟩
theorem T5{a:Expr}{xa:Ex}{elts:List Expr}{k:Nat}{tp:Pos}{p pos:Pos}(hm:X.mg "enumerate"=none)(ha:PE X a (tE X.K φ xa))(hg:Gl X "enumerate":=by rfl)(hs:starEach [a] X.env=[(false,eval a X.env)]:=by rfl) :
  PI X (.Tuple elts k tp) (.Call (.Name "enumerate" p) [a] [] pos) (tI X.K φ (.enum xa)):=T4 hg hm ha hs
end
section
variable{X:Cx}{φ:Phi}{o e f:Expr}{xo xe xf:Ex}{pos apos cpos:Pos}
theorem Qc(t:Bool):PE X (.Dict [] [] pos) (tE X.K φ (.dic t .nil)):=by
 cases t with
 |false =>
  refine PE.imp Nt λσv H Q ⟨ι,σ,μ,hS,hL,h⟩=>?_
  simp![evE,gn,Res.br,U8,BA,if_false]at h
  intro p hp
  refine h (ι++[p]) _ _ (List.prefix_append _ _) (Ext.new hp) (hS.push hp ⟨[],bg,Paired.nil⟩) ?_
  simp![Lp.IsD]
  exact⟨p,rfl,by rw[<-hS.len];simp⟩
 |true =>
  refine PE.imp Nu λσv H Q ⟨ι,σ,μ,hS,hL,h⟩=>?_
  simp![evE,gn,Res.br,U8,if_true]at h
  intro p hp
  refine h (ι++[p]) _ _ (List.prefix_append _ _) (Ext.new hp) (hS.push hp ⟨[],bg,Paired.nil⟩) ?_
  simp![Lp.IsD]
  exact⟨p,rfl,by rw[<-hS.len];simp⟩
theorem Jx(hu:X.A.units+64<cLine)(ho:PE X o (tE X.K φ xo))(he:PE X e (tE X.K φ xe))(hf:PE X f (tE X.K φ xf))(m:M2 X o "get" apos e f cpos:=by exact⟨rfl,rfl,rfl,rfl⟩) :
  PE X (.Call (.Attribute o "get" apos) [e,f] [] cpos) (tE X.K φ (.meth .get xo (.cons xe (.cons xf .nil)))):=by
 refine PE.imp (Eg (by lia) ho he hf m) λσv H Q ⟨ι,σ,μ,hS,hL,h⟩=>?_
 simp![evE,gn]at h
 obtain⟨d,μ1,e1,h⟩:=h.bind
 refine⟨ι,σ,μ,hS,hL,?_⟩
 rw[e1]
 intro ι1 x H1 p1 x1 s1 d1
 cases d with
 |loc n =>
  obtain⟨a,rfl,hn⟩:∃a,x=.ref a/\ι1[n]? = some a:=by simpa[Lp.IsD]using d1
  cases em:μ1[n]? with
  |none=>simp[oh,em,ij]at h
  |some ob =>
   cases ob with
   |d kvs =>
    simp![oh,em,if_true,Res.bind_assoc,Res.br]at h
    obtain⟨a',q',kx,hk1,hk2⟩:=s1.at em
    rw[hn]at q';cases q'
    obtain⟨y,μ2,e2,h⟩:=h.bind
    refine⟨a,rfl,.inl ⟨_,.inl hk1⟩,ι1,σ,μ1,s1,hL.mono p1 x1,?_⟩
    rw[e2]
    intro ι2 yv H2 p2 x2 s2 d2
    obtain⟨z,μ3,e3,h⟩:=h.bind
    refine⟨ι2,σ,μ2,s2,(hL.mono p1 x1).mono p2 x2,?_⟩
    rw[e3]
    intro ι3 zv H3 p3 x3 s3 d3
    simp![mtD,Sv]at h
    cases ed:dictAt μ3 (.loc n) y with
    |none=>simp![ed]at h;exact h.elim
    |some kvs3 =>
     simp![ed]at h
     obtain⟨p,q,xs,e4,rfl,rfl,hp,hk⟩:=C2 s3 (IsD.mono p3 x3 _ _ (IsD.mono p2 x2 _ _ d1)) (IsD.mono p3 x3 _ _ d2) ed
     cases e4
     exact⟨_,.inl ⟨_,_,hp,rfl,rfl⟩,h ι3 _ H3 ((p1.trans p2).trans p3) ((x1.trans x2).trans x3) s3 ((um hk).getD d3)⟩
   |_=>simp[oh,em,ij]at h
 |_=>simp[oh,ij]at h
noncomputable def kDT(k:List Key):D:=.tup (k.map kD)
theorem uo{K:PySem.W.Frag}{ι:List Addr}{H:Hp}:∀{ds:List D} {k:List Key},ak K ι H ds (k.map kV)->ds=k.map kD
 | [],[],_=>rfl
 | [],_::_,h=>by simp[ak]at h
 |_::_,[],h=>by simp[ak]at h
 |d::ds,a::k,h=>by
  simp![ak,AF]at h
  obtain⟨v,r,e,q,t⟩:=h
  obtain⟨rfl,rfl⟩:kV a=v/\k.map kV=r:=by simpa using e
  rw[AF,zb q,uo t]
theorem C5{K:PySem.W.Frag}{ι:List Addr}{H:Hp}:∀{ds:List D} {xs:List V},ds.all A0=true->ak K ι H ds xs->∃k:List Key,ds=k.map kD/\xs=k.map kV
 | [],xs,_,h=>⟨[],rfl,by simpa[ak]using h⟩
 |d::ds,xs,hk,h=>by
  simp![ak]at h
  obtain⟨v,r,rfl,q,t⟩:=h
  simp![BF,AW]at hk
  obtain⟨a,rfl,rfl⟩:=za hk.1 q
  obtain⟨k,rfl,rfl⟩:=C5 hk.2 t
  exact⟨a::k,rfl,rfl⟩
theorem Jy:∀(a b:List Key),pj (a.map kD) (b.map kD)=decide (a=b)
 | [],[]=>by simp[pj]
 | [],_::_=>by simp[pj]
 |_::_,[]=>by simp[pj]
 |a::r,b::t=>by
  rw[AF,AF,pj,yh,Jy r t]
  by_cases h:a=b<;>by_cases h':r=t<;>simp[h,h']
theorem vv(a b:List Key):deq (kDT a) (kDT b)=decide (a=b):=by
 unfold kDT
 rw[deq,Jy]
theorem Es{K:PySem.W.Frag}{ι:List Addr}{H:Hp}:∀(k:List Key),ak K ι H (k.map kD) (k.map kV)
 | []=>by simp[ak]
 |a::k=>by
  simp![AF,ak]
  exact⟨_,_,rfl,by cases a<;>simp[kD,kV,Lp.IsD],Es k⟩
theorem rj{K:PySem.W.Frag}{H:Hp}{k:List Key}:∀{kvs:List (D×D)} {xs:List (List Key×V)},Py K H kvs xs->OR K [] H (xp (kDT k) kvs) (yc xs k)
 |_,_,.nil=>True.intro
 |p::kvs,q::xs,.cons h t=>by
  obtain⟨d,e⟩:=p
  obtain⟨⟨ds,e1,e2⟩,h2⟩:=h
  have hk:d=kDT q.1:=by rw[show d=.tup ds from e1,uo e2];rfl
  subst hk
  have ih:=rj (k:=k) (kvs:=kvs) (xs:=xs) t
  by_cases z:q.1=k
  ·rw[qz z,xp,vv,if_pos (by simpa using z)]
   exact h2
  ·rw[rf z,xp,vv,if_neg (by simpa using z)]
   exact ih
theorem Et{K:PySem.W.Frag}{H:Hp}{k:List Key}:∀{kvs:List (D×D)} {xs:List (List Key×V)},Py K H kvs xs->(kvs.any λp=>deq p.1 (kDT k))=xs.any λkv=>decide (kv.1=k)
 |_,_,.nil=>rfl
 |p::kvs,q::xs,.cons h t=>by
  obtain⟨d,e⟩:=p
  obtain⟨⟨ds,e1,e2⟩,h2⟩:=h
  have hk:d=kDT q.1:=by rw[show d=.tup ds from e1,uo e2];rfl
  subst hk
  rw[CZ,CZ,Et t,vv]
theorem Be{K:PySem.W.Frag}{H:Hp}{k:List Key}{d:D}{v:V}(hv:Lp.IsD K [] H d v):∀{kvs:List (D×D)} {xs:List (List Key×V)},Py K H kvs xs ->
  Py K H (kvs.map λp=>if deq p.1 (kDT k)=true then(p.1,d)else p) (xs.map λkv=>if kv.1=k then(kv.1,v)else kv)
 |_,_,.nil=>.nil
 |p::kvs,q::xs,.cons h t=>by
  obtain⟨e,w⟩:=p
  obtain⟨⟨ds,e1,e2⟩,h2⟩:=h
  have hk:e=kDT q.1:=by rw[show e=.tup ds from e1,uo e2];rfl
  subst hk
  rw[AF,AF]
  refine .cons ?_ (Be hv t)
  by_cases z:q.1=k
  ·rw[if_pos z,vv,if_pos (by simpa using z)]
   exact⟨⟨_,rfl,Es _⟩,hv⟩
  ·rw[if_neg z,vv,if_neg (by simpa using z)]
   exact⟨⟨_,rfl,Es _⟩,h2⟩
theorem Jz{K:PySem.W.Frag}{H:Hp}{k:List Key}{d:D}{v:V}(hv:Lp.IsD K [] H d v){kvs:List (D×D)}{xs:List (List Key×V)}(h:Py K H kvs xs):Py K H (dput (kDT k) d kvs) (putK xs k v):=by
 unfold dput putK
 rw[Et h]
 split
 ·exact Be hv h
 ·exact qr h ⟨⟨_,rfl,Es k⟩,hv⟩
theorem zj{K:PySem.W.Frag}{ι:List Addr}{H:Hp}{μ:Sto}{o:D}{ks:List D}{x:V}{ys:List V}{kvs:List (D×D)}(hS:Sim K ι H μ)(ho:Lp.IsD K ι H o x)(hk:ak K ι H ks ys)(h:ip μ o ks=some kvs) :
  ∃(n:Nat) (p:Addr) (k:List Key) (xs:List (List Key×V)),o=.loc n/\ι[n]? = some p/\x=.ref p/\ys=k.map kV/\ks=k.map kD/\H p=some (.dT xs)/\Py K H kvs xs:=by
 cases o with
 |loc n =>
  obtain⟨a,rfl,hn⟩:∃a,x=.ref a/\ι[n]? = some a:=by simpa[Lp.IsD]using ho
  cases em:μ[n]? with
  |none=>simp[ip,em]at h
  |some ob =>
   cases ob with
   |dt kvs' =>
    simp![ip,em]at h
    split at h
    ·rename_i hk'
     cases h
     obtain⟨a',q',xs,h1,h2⟩:=hS.at em
     rw[hn]at q';cases q'
     obtain⟨k,rfl,rfl⟩:=C5 hk' hk
     exact⟨n,a,k,xs,rfl,hn,rfl,rfl,rfl,h1,h2⟩
    ·cases h
   |_=>simp[ip,em]at h
 |_=>simp[ip]at h
theorem oy {es:List Expr} {xs:Exs} {x:Ex} {k:Nat} {tp tp':Pos} (hu:X.A.units+64<cLine) (ho:PE X o (tE X.K φ xo)) (hi:PA X es (tEs X.K φ xs)) (he:PE X e (tE X.K φ x)) (hl:xs.len<=1000:=by decide)
  (hs:swapsWith e (some (.Subscript o (.Tuple es k tp) tp')) pos.line X.env=pure false:=by rfl):PS X (.Assign [.Subscript o (.Tuple es k tp) tp'] e pos) (tS X.K φ (.setxT xo xs x)) :=
 PS.imp (Si (by lia) ho (Ed hi) he hs) λE σv H ⟨ι,σ,μ,hS,hL,hlen,h⟩=>by
  simp![evS]at h
  obtain⟨d,μ1,e1,h⟩:=h.bind
  refine⟨ι,σ,μ,hS,hL,?_⟩
  rw[e1]
  intro ι1 v H1 p1 x1 s1 d1
  obtain⟨a,μ2,e2,h⟩:=h.bind
  refine⟨ι1,σ,μ1,s1,hL.mono p1 x1,?_⟩
  rw[e2]
  intro ι2 va H2 p2 x2 s2 d2
  obtain⟨ks,μ3,e3,h⟩:=h.bind
  refine⟨ι2,σ,μ2,s2,(hL.mono p1 x1).mono p2 x2,?_⟩
  rw[e3]
  intro ι3 vs H3 p3 x3 s3 d3
  have d3':ak X.K ι3 H3 ks vs:=d3
  refine⟨by rw[d3'.length,pk e3];exact CP (oq hl),λp hp=>?_⟩
  have s4:=s3.new (o:=.tup vs) hp
  have x4:Ext H3 (upd H3 p (.tup vs)):=Ext.new hp
  have d2':Lp.IsD X.K ι3 (upd H3 p (.tup vs)) a va:=IsD.mono (AE _) x4 _ _ (IsD.mono p3 x3 _ _ d2)
  have d1':Lp.IsD X.K ι3 (upd H3 p (.tup vs)) d v:=IsD.mono (AE _) x4 _ _ (IsD.mono (p2.trans p3) (x2.trans x3) _ _ d1)
  have dk':ak X.K ι3 (upd H3 p (.tup vs)) ks vs:=ak.mono (AE _) x4 _ _ d3'
  cases a with
  |loc n =>
   obtain⟨q,rfl,hn⟩:∃q,va=.ref q/\ι3[n]? = some q:=by simpa[Lp.IsD]using d2'
   cases em:μ3[n]? with
   |none=>simp![ou,em]at h;exact h.elim
   |some ob =>
    cases ob with
    |dt kvs =>
     simp![ou,em]at h
     split at h
     ·rename_i hc
      obtain⟨hk,hv,hlt⟩:=hc
      obtain⟨q',hq',ys,hH,hkv⟩:=s4.at em
      rw[hn]at hq';cases hq'
      obtain⟨kk,rfl,rfl⟩:=C5 hk dk'
      have hlen':ys.length=kvs.length:=(FR hkv).symm
      have x5:Ext (upd H3 p (.tup (kk.map kV))) (upd (upd H3 p (.tup (kk.map kV))) q (.dT (putK ys kk v))):=.dT hH
      refine⟨q,_,rfl,.inr ⟨ys,kk,p,hH,rfl,bg,by rw[hlen',<-g8];exact hlt,rfl⟩,?_⟩
      simp![Res.br]at h
      refine h ι3 σv _ ((p1.trans p2).trans p3) ((((x1.trans x2).trans x3).trans x4).trans x5) (s4.put hn x5 ⟨_,bg,?_⟩) (((((hL.mono p1 x1).mono p2 x2).mono p3 x3).mono (AE _) x4).mono (AE _) x5) hlen
      exact Paired.mapP (Jz (IsD.pur hv d1') hkv) λp r z=>⟨by obtain⟨ds,w1,w2⟩:=z.1;exact⟨ds,w1,ak.mono (AE _) x5 _ _ w2⟩,IsD.mono (AE _) x5 _ _ z.2⟩
     ·exact h.elim
    |_=>simp![ou,em]at h;exact h.elim
  |_=>simp![ou]at h;exact h.elim
end
end Lp
namespace L2
open PySem PySem.Spec PyProof.Rows
section
variable{X:Cx}{tg:Expr}
noncomputable def Va(lo c:Int)(n:Nat):It:=⟨λi _=>i<n,λi H x H'=>H'=H/\x=.int (lo+i*c),λi _=>n<=i⟩
theorem C6{P:Program}{w:World}{K:PySem.W.Frag}{tg:Expr}(it:Addr)(lo c:Int)(n:Nat):Turn P w K tg (Va lo c n) [it] it (λi h=>IsRangeIter h it (lo+(i:Nat)*c) ((n:Int)-(i:Nat)) c) where
 mem:=by simp
 obj:=λi h st b hb=>by
  have e:b=it:=by simpa using hb
  subst e
  exact⟨_,st,λv z=>by
   have z':Data.fields _=Data.cell v:=z
   cases z'⟩
 keep:=λi h h' st k=>k it (by simp) _ st
 item:=by
  intro X hP hw hK hc i pins s σ H E I hf st hg
  subst hP hw hK
  obtain⟨f0,f1,f2,f3,f4,f5⟩:=hf it (by simp)
  have W:=Walks.range (prog:=X.prog) (w:=X.w) (I.ok.hd hc) it lo c n
  refine W.item i s _ _ hg st λv h' tk hv st' kk=>?_
  obtain⟨t,rfl⟩:=hv
  have I1:Inv X pins σ H {s with heap:=h',toks:=tk}:=I.turned (λb o hb e=>kk b o (by simpa using hb) e) f0 f1 f3 f4 f5
  exact⟨_,rfl,Ni (s:={s with heap:=h',toks:=tk}) (n:="range_iterator") st' rfl rfl (by decide) ⟨.int (lo+i*c),H,I1,⟨t,rfl⟩,⟨rfl,rfl⟩,st',λb hb=>(hf b hb).1⟩⟩
 done:=by
  intro X hP hw hK hc i pins s σ H E I hf st hg
  subst hP hw hK
  obtain⟨f0,f1,f2,f3,f4,f5⟩:=hf it (by simp)
  exact wpAny_pyNext_range_end (I.ok.hd hc) st (by have:n<=i:=hg;lia) λh' eb=>⟨rfl,I.turned (t':=s.toks) (λb o hb e=>eb b o hb e) f0 f1 f3 f4 f5⟩
 self:=λ_ _ _ _ _ st h=>wpAny_pyIter_rangeiter st h
end
end L2
namespace Lp
open PySem PySem.Spec PyProof.Rows L2
section
variable{X:Cx}{φ:Phi}
theorem C7{K:PySem.W.Frag}{ι:List Addr}{H:Hp}(lo c:Int)(n:Nat)(hn:n<=sizeLine):Walk K ι H (Va lo c n) ((List.range n).map fun(k:Nat)=>D.int (lo+k*c)) none:=by
 refine⟨by simpa using hn,λi ι2 H2 μ2 q1 q2 q3 q4 hi=>by simpa[Va]using hi,λi ι2 H2 μ2 w H3 q1 q2 q3 q4 hi hy=>?_,λι2 H2 μ2 q1 q2 q3 q4=>by simp[Va]⟩
 obtain⟨e,hy⟩:=hy
 subst e
 have hi':i<n:=by simpa using hi
 exact⟨.refl _,q3,.int (lo+i*c),by simp[hi'],by simp[IsD,hy]⟩
end
end Lp
namespace Lp.Srt
open PySem PySem.W PyProof.Rows
section
variable{r:Nat -> Nat}{n:Nat}
noncomputable def PP(n:Nat)(p:Array Nat):Prop:=p.toList.Perm (List.range n)
noncomputable def Ky(r:Nat->Nat)(p:Array Nat)(x:Nat):Nat:=r (p.getD x 0)
noncomputable def Up(r:Nat->Nat)(p:Array Nat)(k:Nat):Prop:=∀i j,i<=j->j<k->Ky r p i<=Ky r p j
theorem PP.sz{p:Array Nat}(h:PP n p):p.size=n:=by
 have:=h.length_eq
 simpa using this
end
open PySem PySem.W PyProof.Rows PySem.Calls
section
variable{prog:Program}{w:World}{A:Around}{E:Value -> Shared -> Prop}{s:Shared}
theorem qj(vs:List Value):(List.range vs.length).map (λi=>vs.getD i Value.none)=vs:=by
 apply EC
 intro i
 by_cases h:i<vs.length
 ·simp[h]
 ·simp[h]
end
theorem vw:∀a:List Int,lexLt a a=false
 | []=>rfl
 |x::xs=>by simp[lexLt,vw xs]
theorem Eu:∀{a b c:List Int},lexLt a b=true->lexLt b c=true->lexLt a c=true
 |a,b,[],_,h=>by cases b<;>simp[lexLt]at h
 | [],_,_::_,_,_=>rfl
 |x::xs,[],c::cs,h,_=>by simp[lexLt]at h
 |x::xs,y::ys,z::zs,h1,h2=>by
  simp![lexLt]at h1 h2 ⊢
  by_cases e1:x=y
  ·subst e1
   by_cases e2:x=z
   ·subst e2
    simp![if_true]at h1 h2 ⊢
    exact Eu h1 h2
   ·simp![if_true]at h1
    rw[if_neg e2]at h2 ⊢
    exact h2
  ·rw[if_neg e1]at h1
   have h1':=of_decide_eq_true h1
   by_cases e2:y=z
   ·subst e2
    rw[if_neg e1]
    exact h1
   ·rw[if_neg e2]at h2
    have h2':=of_decide_eq_true h2
    rw[if_neg (show ¬x=z by lia)]
    exact decide_eq_true (by lia)
theorem zm:∀{a b:List Int},lexLt a b=false->lexLt b a=false->a=b
 | [],[],_,_=>rfl
 | [],_::_,h,_=>by simp[lexLt]at h
 |_::_,[],_,h=>by simp[lexLt]at h
 |x::xs,y::ys,h1,h2=>by
  simp![lexLt]at h1 h2
  by_cases e:x=y
  ·subst e
   simp![if_true]at h1 h2
   rw[zm h1 h2]
  ·rw[if_neg e]at h1
   rw[if_neg (Ne.symm e)]at h2
   have a1:=of_decide_eq_false h1
   have a2:=of_decide_eq_false h2
   lia
theorem Bf{α:Type}{p q:α->Bool}:∀{l:List α},(∀x∈l,p x=true->q x=true)->(∃x∈l,q x=true/\p x=false)->l.countP p<l.countP q
 | [],_,h=>by obtain⟨x,hx,_⟩:=h;simp at hx
 |y::r,h1,h2=>by
  have le:r.countP p<=r.countP q:=IQ λx hx=>h1 x (AU _ hx)
  obtain⟨x,hx,hq,hp⟩:=h2
  rcases AS.mp hx with rfl | hx
  ·simp[List.countP_cons,hq,hp];lia
  ·have:=Bf (l:=r) (λz hz=>h1 z (AU _ hz)) ⟨x,hx,hq,hp⟩
   have h0:=h1 y BI
   simp![List.countP_cons]
   cases e1:p y with
   |true=>simp[h0 e1];lia
   |false=>simp;lia
theorem range_getD{α:Type}(d:α)(l:List α):(List.range l.length).map (λi=>l.getD i d)=l:=by
 apply EC
 intro i
 by_cases h:i<l.length<;>simp[h]
end Lp.Srt
namespace Lp
open PySem PySem.Spec PyProof.Rows L2 Lp.Srt
section
variable{X:Cx}{φ:Phi}{pos:Pos}
theorem J0{prog:Program}{w:World}{A:Around}{s:Shared}{fin:Bool}{Q:Bool->Shared->Prop}:∀(r1 r2:List Int) (u1 u2:List Value) (i:Nat),c9 (r1.map V.int) u1->c9 (r2.map V.int) u2->fin=decide (r1.length<r2.length)->Q (lexLt r1 r2) s ->
  PySem.W.KatLex prog w A true fin Q (u1.zip u2) i s
 | [],[],u1,u2,i,h1,h2,hf,q=>by
  cases h1;cases h2
  rw[hf];exact q
 | [],_::_,u1,u2,i,h1,h2,hf,q=>by
  cases h1
  rw[hf];simpa[PySem.W.KatLex,lexLt]using q
 |_::_,[],u1,u2,i,h1,h2,hf,q=>by
  cases h2
  rw[hf,FE];simpa[PySem.W.KatLex,lexLt]using q
 |x::r1,y::r2,u1,u2,i,h1,h2,hf,q=>by
  rw[AF]at h1 h2
  cases h1 with
  |cons a1 b1 =>
   cases h2 with
   |cons a2 b2 =>
    obtain⟨t1,rfl⟩:=a1
    obtain⟨t2,rfl⟩:=a2
    rw[Do]
    refine HX (wpAny_eqBool_int (IS (λe=>IJ ?_) λe=>IT ?_))
    ·have e':x=y:=by simpa using e
     refine J0 r1 r2 _ _ (i+1) b1 b2 (by rw[hf];simp) ?_
     simpa[lexLt,e']using q
    ·have e':¬x=y:=by simpa using e
     have q':Q (decide (x<y)) s:=by simpa[lexLt,e']using q
     cases hi:(true&&i==0)with
     |true=>exact oneLt_int q'
     |false=>exact IK _ _ (lt_int (show PySem.W.BoolBack Q (.bool (decide (x<y))) s from q'))
theorem zo(ns:List Int):fg (ns.map D.int)=some ns:=by
 induction ns with
 |nil=>rfl
 |cons n r ih=>simp[fg,ih]
theorem uq:∀{ds:List D} {ns:List Int},fg ds=some ns->ns.map D.int=ds
 | [],ns,h=>by simp[fg]at h;subst h;rfl
 |.int i::r,ns,h=>by
  simp![fg]at h
  cases e:fg r with
  |none=>rw[e]at h;simp at h
  |some q =>
   rw[e]at h
   simp at h
   subst h
   rw[AF,uq e]
 |.non::_,_,h=>by simp[fg]at h
 |.bl _::_,_,h=>by simp[fg]at h
 |.str _::_,_,h=>by simp[fg]at h
 |.tup _::_,_,h=>by simp[fg]at h
 |.lst _::_,_,h=>by simp[fg]at h
 |.loc _::_,_,h=>by simp[fg]at h
theorem Xp{ι:List Addr}{H:Hp}{pins:List (Addr×Obj)}{σ:St}{s:Shared}(I:Inv X pins σ H s){r:List Int}{v:V}{u:Value}(hd:IsD X.K ι H (.tup (r.map D.int)) v)(hu:RelV v u):∃a its,u=.ref a/\IsTup s.heap a (List.toArray its)/\c9 (r.map V.int) its:=by
 simp![IsD]at hd
 obtain⟨a,xs,rfl,hq,hx⟩:=hd
 cases(show u=Value.ref a from hu)
 obtain⟨its,rv,tp,_⟩:=I.tuple hq
 refine⟨a,its,rfl,tp,?_⟩
 have e:xs=r.map V.int:=ints_of hx (zo r)
 rw[<-e];exact rv
theorem Bg:∀{xs:List D} {rs:List (List Int)},rowsOf xs=some rs->xs=rs.map λr=>D.tup (r.map D.int)
 | [],rs,h=>by simp[rowsOf]at h;subst h;rfl
 |.tup ds::r,rs,h=>by
  simp![rowsOf]at h
  cases e1:fg ds with
  |none=>rw[e1]at h;simp at h
  |some ns =>
   rw[e1]at h
   cases e2:rowsOf r with
   |none=>rw[e2]at h;simp at h
   |some q =>
    rw[e2]at h
    simp at h
    subst h
    rw[AF,uq e1,<-Bg e2]
 |.non::_,_,h=>by simp[rowsOf]at h
 |.bl _::_,_,h=>by simp[rowsOf]at h
 |.int _::_,_,h=>by simp[rowsOf]at h
 |.str _::_,_,h=>by simp[rowsOf]at h
 |.lst _::_,_,h=>by simp[rowsOf]at h
 |.loc _::_,_,h=>by simp[rowsOf]at h
noncomputable def Xq(g:Heap)(r:List Int)(u:Value):Prop:=r≠[]/\∃a its,u=Value.ref a/\IsTup g a (List.toArray its)/\c9 (r.map V.int) its
theorem zp{ι:List Addr}{H:Hp}{pins:List (Addr×Obj)}{σ:St}{s:Shared}(I:Inv X pins σ H s):∀{rs:List (List Int)} {xs:List V} {us:List Value},(rs.all λr=>!r.isEmpty)=true->ak X.K ι H (rs.map λr=>D.tup (r.map D.int)) xs->c9 xs us->Paired (Xq s.heap) rs us
 | [],xs,us,_,h1,h2=>by
  have:xs=[]:=by simpa[ak]using h1
  subst this
  cases h2
  exact .nil
 |r::rs,xs,us,hn,h1,h2=>by
  rw[AF]at h1
  simp![ak]at h1
  obtain⟨v,q,rfl,hd,ht⟩:=h1
  rw[BF,AW]at hn
  cases h2 with
  |cons a b=>exact .cons ⟨λz=>by rw[z]at hn;simp at hn,Xp I hd a⟩ (zp I hn.2 ht b)
theorem Bh{g:Heap}:∀{rs:List (List Int)} {us:List Value},Paired (Xq g) rs us->∃fs,PySem.W.KatTups g us fs/\fs.length=us.length/\∀v∈fs,∃i t,v=Value.int i t
 |_,_,.nil=>⟨[],.nil,rfl,by simp⟩
 |r::rs,_,.cons h t=>by
  obtain⟨fs,f1,f2,f3⟩:=Bh t
  obtain⟨h0,a,its,rfl,⟨o,q1,q2,n,q3⟩,v⟩:=h
  cases r with
  |nil=>exact absurd rfl h0
  |cons x r =>
   rw[AF]at v
   cases v with
   |cons a1 b1 =>
    obtain⟨t1,rfl⟩:=a1
    refine⟨.int x t1::fs,.cons q1 q2 q3 (by simp) f1,by simp[f2],λz hz=>?_⟩
    rcases AS.mp hz with rfl | hz
    ·exact⟨_,_,rfl⟩
    ·exact f3 z hz
theorem oz{α β:Type}{R:α->β->Prop}{d:α}{e:β}:∀{xs:List α} {ys:List β},Paired R xs ys->∀i,i<xs.length->R (xs.getD i d) (ys.getD i e)
 |_,_,.nil,i,h=>by simp at h
 |_,_,.cons a _,0,_=>by simpa using a
 |_,_,.cons _ t,i+1,h=>by simpa using oz t i (by simpa using h)
theorem Ew{K:PySem.W.Frag}{ι:List Addr}{H:Hp}{f:Nat->D}{g:Nat->V}:∀{l:List Nat},(∀i∈l,IsD K ι H (f i) (g i))->ak K ι H (l.map f) (l.map g)
 | [],_=>by simp[ak]
 |i::l,h=>by
  rw[AF,AF]
  simp![ak]
  exact⟨_,_,rfl,h i BI,Ew λj hj=>h j (AU _ hj)⟩
theorem Ey{f:Nat->V}{g:Nat->Value}:∀{l:List Nat},(∀i∈l,RelV (f i) (g i))->c9 (l.map f) (l.map g)
 | [],_=>.nil
 |i::l,h=>.cons (h i BI) (Ey λj hj=>h j (AU _ hj))
theorem J1{K:PySem.W.Frag}{ι:List Addr}{H:Hp}{ds:List D}{xs:List V}(h:ak K ι H ds xs){i:Nat}(hi:i<ds.length):IsD K ι H (ds.getD i .non) (xs.getD i .non):=by
 obtain⟨v,e,q⟩:=h.get (show ds[i]? = some (ds.getD i .non)by simp[hi])
 have:xs.getD i .non=v:=by rw[BM,e];rfl
 rw[this];exact q
end
end Lp
namespace Lp.Sets
open PySem PySem.W PyProof.Rows PySem.Calls
noncomputable def intOf:Value->Int
 |.int n _=>n
 |_=>0
theorem ints_of:∀{vs:List Value} {ns:List Int},IntsAre vs ns->ns=vs.map intOf/\∀v∈vs,∃n t,v=.int n t
 |_,_,.nil=>⟨rfl,λv h=>by simp at h⟩
 |_,_,.cons n t r=>by
  obtain⟨e,h⟩:=ints_of r
  refine⟨by rw[AF,<-e];rfl,λv hv=>?_⟩
  rcases AS.mp hv with rfl | hv
  ·exact⟨n,t,rfl⟩
  ·exact h v hv
end Lp.Sets
namespace Lp
open PySem PySem.Spec PyProof.Rows L2
namespace Sets
theorem vals_ints:∀{ns:List Int} {us:List Value},c9 (ns.map V.int) us->IntsAre us ns
 | [],[],_=>.nil
 |n::r,u::us,h=>by
  cases h with
  |cons h1 h2 =>
   obtain⟨t,rfl⟩:=h1
   exact .cons n t (vals_ints h2)
 | [],u::us,h=>by cases h
 |n::r,[],h=>by cases h
end Sets
end Lp
namespace Lp.Sets
open PySem PySem.W PyProof.Rows
noncomputable def Xr(m b:Nat):SetTable.Probe:={j:=b % (m+1),more:=SetTable.runEnd m (b % (m+1))-b % (m+1),i:=b % (m+1),perturb:=b,dummy:=none}
noncomputable def afh(m:Nat)(p:SetTable.Probe):SetTable.Probe :=
 if p.more > 0 then {p with j:=p.j+1,more:=p.more-1}else
 {p with j:=(SetTable.leap m p.i p.perturb).1,more:=SetTable.runEnd m (SetTable.leap m p.i p.perturb).1-(SetTable.leap m p.i p.perturb).1,i:=(SetTable.leap m p.i p.perturb).1,perturb:=(SetTable.leap m p.i p.perturb).2}
noncomputable def Xt(m b:Nat):Nat->SetTable.Probe
 |0=>Xr m b
 |n+1=>afh m (Xt m b n)
noncomputable abbrev pos(m b n:Nat):Nat:=(Xt m b n).j
theorem fm_len:∀(l:List (Option Nat)),(∀x∈l,x≠none)->(l.filterMap id).length=l.length
 | [],_=>rfl
 |none::l,h=>absurd rfl (h none BI)
 |some y::l,h=>by
  rw[List.filterMap_cons_some (show id (some y)=some y from rfl),BH,BH,fm_len l λx hx=>h x (AU _ hx)]
end Lp.Sets
namespace Lp
open PySem PySem.Spec PyProof.Rows L2
theorem Zv{α:Type}{Q:α->Prop}:∀(j:Nat) e,([]:List α)[j]? = some e->Q e:=λj e h=>by simp at h
theorem dj{α:Type}{Q:α->Prop}{a:α}{l:List α}(h:Q a)(t:∀(j:Nat) e,l[j]? = some e->Q e):∀(j:Nat) e,(a::l)[j]? = some e->Q e
 |0,_,z=>by
  have z':some a=some _:=z
  cases z'
  exact h
 |j+1,_,z=>t j _ z
theorem dmk {T:List Df} {P:Program} {w:World} {K:PySem.W.Frag} {mg:Str->Option Value} {base:Heap} {es:List Ent} {e:Ent}
  (dv:∀(n:Nat) (fa:Addr) (cdv:Value) (A:Around) (outer:List Env) (s:Shared) (H:Hp) (E:XK),(A.deeper (envOfC e.name (cv e.st) s.heap.objs.size fa cdv)).units+64<cLine ->
   (∀(j:Nat) e',es[j]? = some e'->Callee P w K mg base (A.deeper (envOfC e.name (cv e.st) s.heap.objs.size fa cdv)) (ai T n) e'.id e'.name) ->
   PSs (Nk CX0 P w K mg base e.N e.name (cv e.st) fa cdv A outer s H E).nox (nj e.st) (tSs K (ai T n) e.df.body))
  (sc:FnScope e.N e.ps (cv e.st):=by exact⟨rfl,rfl,rfl,by decide +kernel,rfl,by decide +kernel,by decide +kernel⟩) (tb:T[e.id]? = some e.df:=by rfl) (np:e.df.np=e.ps.length:=by rfl) (nn:e.df.nn=e.N.length:=by rfl):Derived T P w K mg base es e:=⟨sc,tb,np,nn,dv⟩
noncomputable abbrev XN(K:PySem.W.Frag)(c:Str)(cls:Value):Prop:=PySem.W.nsIn K mainGlobals c=some (some cls)
noncomputable abbrev EXK:=Value->Hp->Prop
end Lp
namespace PySem
open Builtin Builtin.ObjectAttr
section
variable{prog:Program}{w:World}{A:Around}{E:Value -> Shared -> Prop}{h:Heap}{g:Array GenState}{d:Drawn}{t:Nat}{os:OsState}
variable{nms:List Str}{nm q:Str}{C N x:Addr}{bs bm bmB:List Value}{sn:List Str}{sub:List Value}{ab:Bool}{col:Option Bool}{dd:Option Addr}{k0 k1 k2 k3 k5:Option Value}{B newId sa owner:String}
 {mN mA:Str->Option Value} {name:Str} {v:Value}
end
end PySem
namespace L2
open PySem PySem.Spec PyProof.Rows
section
variable{prog:Program}{w:World}{A:Around}{E:Value -> Shared -> Prop}{h:Heap}{g:Array GenState}{d:Drawn}{t:Nat}{os:OsState}
variable{nms:List Str}{nm q:Str}{C N x:Addr}{bs bm bmB:List Value}{sn:List Str}{sub:List Value}{ab:Bool}{col:Option Bool}{dd:Option Addr}{k0 k1 k2 k3 k5:Option Value}{B newId sa owner:String}
 {mN mA:Str->Option Value} {v:Value}
end
end L2
namespace Lp
open PySem PySem.Spec PyProof.Rows L2
structure MEnt where
 cls:Str
 m:Str
 e:Ent
end Lp
namespace Lp.Tim
section
variable{α:Type}{ρ:α -> Nat}
noncomputable def Srt(ρ:α->Nat)(l:List α):Prop:=l.Pairwise λx y=>ρ x<=ρ y
theorem nu{O Z:List α}:Srt ρ (O++Z)↔Srt ρ O/\Srt ρ Z/\∀x∈O,∀z∈Z,ρ x<=ρ z:=List.pairwise_append
theorem Ez{O X Y Z:List α}(h1:Srt ρ (O++(X++Y)))(h2:Srt ρ (O++Z))(h:∀x∈X,∀z∈Z,ρ x<=ρ z):Srt ρ (O++X++Y)/\Srt ρ (O++X++Z):=by
 refine⟨by rw[AD];exact h1,?_⟩
 rw[nu]at h1 h2 ⊢
 have h1':=nu.mp h1.2.1
 refine⟨nu.mpr ⟨h1.1,h1'.1,λx hx z hz=>h1.2.2 x hx z (GS _ hz)⟩,h2.2.1,λx hx z hz=>?_⟩
 rcases BD.mp hx with q | q
 ·exact h2.2.2 x q z hz
 ·exact h x q z hz
theorem E1{X Y Z R:List α}(h1:Srt ρ (X++Y++R))(h2:Srt ρ (Z++R))(h:∀y∈Y,∀z∈Z,ρ z<=ρ y):Srt ρ (X++(Y++R))/\Srt ρ (Z++(Y++R)):=by
 refine⟨by rw[<-AD];exact h1,?_⟩
 rw[AD]at h1
 rw[nu]at h1 h2 ⊢
 refine⟨h2.1,h1.2.1,λz hz x hx=>?_⟩
 rcases BD.mp hx with q | q
 ·exact h x q z hz
 ·exact h2.2.2 z hz x q
theorem rm{l:List α}(h:Srt ρ l){i j:Nat}{x y:α}(hx:l[i]? = some x)(hy:l[j]? = some y)(hij:i<=j):ρ x<=ρ y:=by
 obtain⟨hi,rfl⟩:=AB.mp hx
 obtain⟨hj,rfl⟩:=AB.mp hy
 by_cases e:i=j
 ·subst e;exact AK _
 ·exact GA.mp h i j hi hj (by lia)
theorem nv{l:List α}{i:Nat}{x:α}(h:l[i]? = some x):l.drop i=x::l.drop (i+1):=by
 obtain⟨hi,rfl⟩:=AB.mp h
 exact DW hi
theorem sk(l:List α)(i k:Nat):l.drop i=(l.drop i).take k++l.drop (i+k):=by
 rw[<-List.drop_drop,BZ]
theorem sr(l:List α)(i k:Nat):l.take (i+k)=l.take i++(l.drop i).take k:=by
 rw[List.take_add]
theorem vx{l:List α}{i:Nat}{x:α}(h:x∈l.drop i):∃j,i<=j/\l[j]? = some x:=by
 obtain⟨k,hk,e⟩:=DA.mp h
 rw[List.getElem_drop]at e
 rw[DX]at hk
 exact⟨i+k,by lia,by rw[AA (by lia),e]⟩
theorem ny{l:List α}{i:Nat}{x:α}(h:x∈l.take i):∃j,j<i/\l[j]? = some x:=by
 obtain⟨k,hk,e⟩:=DA.mp h
 rw[List.getElem_take]at e
 rw[BV]at hk
 exact⟨k,by lia,by rw[AA (by lia),e]⟩
theorem yl{l:List α}{i k:Nat}{x:α}(h:x∈(l.drop i).take k):∃j,j<k/\l[i+j]? = some x:=by
 obtain⟨j,hj,e⟩:=ny h
 rw[HG]at e
 exact⟨j,hj,e⟩
structure Lo (ρ:α->Nat) (A B O:List α) (i j:Nat):Prop where
 perm:O.Perm (A.take i++B.take j)
 sa:Srt ρ (O++A.drop i)
 sb:Srt ρ (O++B.drop j)
variable{A B O:List α}{i j k:Nat}
theorem Lo.pushB(h:Lo ρ A B O i j)(hk:∀x∈(B.drop j).take k,∀z∈A.drop i,ρ x<=ρ z):Lo ρ A B (O++(B.drop j).take k) i (j+k):=by
 have q:=h.sb
 rw[sk B j k]at q
 obtain⟨q1,q2⟩:=Ez q h.sa hk
 refine⟨?_,q2,q1⟩
 rw[sr,<-AD]
 exact h.perm.append_right _
theorem Lo.pushA(h:Lo ρ A B O i j)(hk:∀x∈(A.drop i).take k,∀z∈B.drop j,ρ x<=ρ z):Lo ρ A B (O++(A.drop i).take k) (i+k) j:=by
 have q:=h.sa
 rw[sk A i k]at q
 obtain⟨q1,q2⟩:=Ez q h.sb hk
 refine⟨?_,q1,q2⟩
 rw[sr]
 refine(h.perm.append_right _).trans ?_
 rw[AD,AD]
 exact BL _ CO
theorem Lo.b1(h:Lo ρ A B O i j){x:α}(hx:B[j]? = some x)(hk:∀z∈A.drop i,ρ x<=ρ z):Lo ρ A B (O++[x]) i (j+1):=by
 have:=h.pushB (k:=1) (λy hy z hz=>by rw[nv hx]at hy;simp at hy;rw[hy];exact hk z hz)
 rw[nv hx]at this
 simpa using this
theorem Lo.a1(h:Lo ρ A B O i j){x:α}(hx:A[i]? = some x)(hk:∀z∈B.drop j,ρ x<=ρ z):Lo ρ A B (O++[x]) (i+1) j:=by
 have:=h.pushA (k:=1) (λy hy z hz=>by rw[nv hx]at hy;simp at hy;rw[hy];exact hk z hz)
 rw[nv hx]at this
 simpa using this
theorem Lo.len(h:Lo ρ A B O i j)(hi:i<=A.length)(hj:j<=B.length):O.length=i+j:=by
 rw[h.perm.length_eq];simp;lia
noncomputable def Mg(ρ:α->Nat)(A B M:List α):Prop:=M.Perm (A++B)/\Srt ρ M
theorem Lo.doneB(h:Lo ρ A B O i j)(hj:j=B.length):Mg ρ A B (O++A.drop i++B.drop j):=by
 subst hj
 rw[GO,DT]
 refine⟨?_,h.sa⟩
 have p:=h.perm
 rw[BR]at p
 refine(p.append_right _).trans ?_
 rw[AD]
 refine(BL _ CO).trans ?_
 rw[<-AD,BZ]
theorem Lo.doneA(h:Lo ρ A B O i j)(hi:i=A.length):Mg ρ A B (O++A.drop i++B.drop j):=by
 subst hi
 rw[GO,DT]
 refine⟨?_,h.sb⟩
 have p:=h.perm
 rw[BR]at p
 refine(p.append_right _).trans ?_
 rw[AD,BZ]
theorem Lo.lastA(h:Lo ρ A B O i j)(hi:i+1=A.length)(hl:∀x∈B,∀z∈A.drop i,ρ x<=ρ z):Mg ρ A B (O++B.drop j++A.drop i):=by
 have:=h.pushB (k:=(B.drop j).length) (λx hx z hz=>hl x (ES (ET hx)) z hz)
 rw[BR]at this
 refine⟨?_,this.sa⟩
 refine(this.perm.append_right _).trans ?_
 rw[AD]
 refine(BL _ CO).trans ?_
 rw[<-AD,BZ,BQ (by simp;lia)]
structure Hi (ρ:α->Nat) (A B R:List α) (i j:Nat):Prop where
 perm:R.Perm (A.drop i++B.drop j)
 sa:Srt ρ (A.take i++R)
 sb:Srt ρ (B.take j++R)
variable{R:List α}
theorem Bi(l:List α){i i':Nat}(h:i'<=i):l.take i=l.take i'++(l.drop i').take (i-i'):=by
 rw[<-sr];congr 1;lia
theorem Bj(l:List α){i i':Nat}(h:i'<=i):l.drop i'=(l.drop i').take (i-i')++l.drop i:=by
 have:=sk l i' (i-i')
 rwa [show i'+(i-i')=i by lia]at this
theorem Hi.pullB(h:Hi ρ A B R i j){j':Nat}(hj:j'<=j)(hk:∀y∈(B.drop j').take (j-j'),∀z∈A.take i,ρ z<=ρ y):Hi ρ A B ((B.drop j').take (j-j')++R) i j':=by
 have q:=h.sb
 rw[Bi B hj]at q
 obtain⟨q1,q2⟩:=E1 q h.sa hk
 refine⟨?_,q2,q1⟩
 have e:=Bj B hj
 generalize (B.drop j').take (j-j')=m at *
 rw[e,<-AD]
 refine(BL _ h.perm).trans ?_
 rw[<-AD]
 exact FJ _ CO
theorem Hi.pullA(h:Hi ρ A B R i j){i':Nat}(hi:i'<=i)(hk:∀y∈(A.drop i').take (i-i'),∀z∈B.take j,ρ z<=ρ y):Hi ρ A B ((A.drop i').take (i-i')++R) i' j:=by
 have q:=h.sa
 rw[Bi A hi]at q
 obtain⟨q1,q2⟩:=E1 q h.sb hk
 refine⟨?_,q1,q2⟩
 have e:=Bj A hi
 generalize (A.drop i').take (i-i')=m at *
 rw[e,AD]
 exact BL _ h.perm
theorem zq{l:List α}{i:Nat}{x:α}(hi:0<i)(hx:l[i-1]? = some x):(l.drop (i-1)).take (i-(i-1))=[x]:=by
 rw[show i-(i-1)=1 by lia,nv hx];rfl
theorem Hi.b1(h:Hi ρ A B R i j){x:α}(h0:0<j)(hx:B[j-1]? = some x)(hk:∀z∈A.take i,ρ z<=ρ x):Hi ρ A B (x::R) i (j-1):=by
 have:=h.pullB (j':=j-1) (by lia) (λy hy z hz=>by rw[zq h0 hx]at hy;simp at hy;rw[hy];exact hk z hz)
 rwa [zq h0 hx]at this
theorem Hi.a1(h:Hi ρ A B R i j){x:α}(h0:0<i)(hx:A[i-1]? = some x)(hk:∀z∈B.take j,ρ z<=ρ x):Hi ρ A B (x::R) (i-1) j:=by
 have:=h.pullA (i':=i-1) (by lia) (λy hy z hz=>by rw[zq h0 hx]at hy;simp at hy;rw[hy];exact hk z hz)
 rwa [zq h0 hx]at this
theorem Hi.doneA(h:Hi ρ A B R i j)(hi:i=0):Mg ρ A B (A.take i++B.take j++R):=by
 subst hi
 refine⟨?_,by simpa using h.sb⟩
 have p:=h.perm
 simp![List.take_zero,FC,ED]at p ⊢
 refine(BL _ p).trans ?_
 rw[<-AD]
 refine(FJ _ CO).trans ?_
 rw[AD,BZ]
theorem Hi.doneB(h:Hi ρ A B R i j)(hj:j=0):Mg ρ A B (A.take i++B.take j++R):=by
 subst hj
 refine⟨?_,by simpa using h.sa⟩
 have p:=h.perm
 simp![List.take_zero,FC,DT]at p ⊢
 refine(BL _ p).trans ?_
 rw[<-AD,BZ]
theorem Hi.firstB(h:Hi ρ A B R i j)(hl:∀x∈A,∀z∈B.take j,ρ z<=ρ x):Mg ρ A B (B.take j++A.take i++R):=by
 have:=h.pullA (i':=0) (EF _) (λx hx z hz=>hl x (ES (ET hx)) z hz)
 simp![FC,Nat.sub_zero]at this
 refine⟨?_,by rw[AD];exact this.sb⟩
 rw[AD]
 refine(BL _ this.perm).trans ?_
 simp![FC]
 rw[<-AD]
 refine(FJ _ CO).trans ?_
 rw[AD,BZ]
end
open PySem PyProof.Rows
noncomputable def vy:Bool->Keyed->Array Keyed->Nat->Nat->Nat->StateT SortSt Sem (Option Nat):=sortPriv% PySem.Builtin.gallop
noncomputable def E2:Array Keyed->Array Keyed->StateT SortSt Sem (Array Keyed):=sortPriv% PySem.Builtin.mergeLo
noncomputable def E3:Array Keyed->Array Keyed->StateT SortSt Sem (Array Keyed):=sortPriv% PySem.Builtin.mergeHi
section
variable{prog:Program}{w:World}{A:Around}{E:Value -> Shared -> Prop}{s:Shared}{a₀:List Keyed}{ρ:Keyed -> Nat}{κ:SortKind}
noncomputable def Cmp(prog:Program)(w:World)(A:Around)(s:Shared)(a₀:List Keyed)(ρ:Keyed->Nat)(κ:SortKind):Prop :=
 ∀x y,x∈a₀->y∈a₀->∀(C:Bool->Shared->Prop),C (decide (ρ x<ρ y)) s->wpAny (model prog w) A (keyLt' κ x.1 y.1) C (λ_ _=>False) s
theorem J2(hC:Cmp prog w A s a₀ ρ κ){x y:Keyed}(hx:x∈a₀)(hy:y∈a₀){st:SortSt}(hk:kindOf st=κ){Q:Option Bool->SortSt->Prop}(h:Q (some (decide (ρ x<ρ y))) st):wpS (model prog w) A E s (lt' x y) Q st:=by
 rw[lt'_eq]
 refine AI (GR ?_)
 rw[hk]
 refine AI (HY (wpAny_attempt (DQ (hC x y hx hy (λb s'=>b=decide (ρ x<ρ y)/\s'=s) ⟨rfl,rfl⟩) (λb s' hb=>?_) λ_ _ f=>f.elim)))
 obtain⟨rfl,rfl⟩:=hb
 exact⟨rfl,AM h⟩
theorem cy{arr:Array Keyed}{i:Nat}{x:Keyed}(hx:arr[i]? = some x){st:SortSt}{Q:Keyed->SortSt->Prop}(h:Q x st):wpS (model prog w) A E s (elem' arr i) Q st:=by
 rw[elem'_eq,hx]
 exact AM h
noncomputable def bey(left:Bool)(key:Keyed)(arr:Array Keyed)(base i:Nat):StateT SortSt Sem (Option Bool) :=
 elem' arr (base+i)>>=λx=>if left=true then lt' x key else lt' key x>>=λd=>pure (d.map (!·))
noncomputable def adh(left:Bool)(key:Keyed)(arr:Array Keyed)(base n lo hi:Nat):StateT SortSt Sem (Option (Option Nat)×Nat×Nat) :=
 forIn [:n] ((none,lo,hi):Option (Option Nat)×Nat×Nat) λ_ z=>if z.2.1≥z.2.2 then pure (ForInStep.done (none,z.2.1,z.2.2))else
  bey left key arr base (z.2.1+(z.2.2-z.2.1) / 2)>>=λx=>match x with
   |some more=>if more=true then pure (ForInStep.yield (none,z.2.1+(z.2.2-z.2.1) / 2+1,z.2.2))else pure (ForInStep.yield (none,z.2.1,z.2.1+(z.2.2-z.2.1) / 2))
   |_=>pure (ForInStep.done (some none,z.2.1,z.2.2))
section
variable{left:Bool}{key:Keyed}{arr:Array Keyed}{base n hint:Nat}{st:SortSt}{Q:Option Nat -> SortSt -> Prop}{B:Nat -> Bool}
theorem su {lo hi:Nat} {R:Option (Option Nat)×Nat×Nat->SortSt->Prop} (hb:∀i,i<n->∀Q':Option Bool->SortSt->Prop,Q' (some (B i)) st->wpS (model prog w) A E s (bey left key arr base i) Q' st) (anti:∀i j,i<=j->j<n->B j=true->B i=true) (h1:lo<=hi) (h2:hi<=n)
  (h3:∀i,i<lo->B i=true) (h4:∀i,hi<=i->i<n->B i=false) (h:∀m,m<=n->(∀i,i<m->B i=true)->(∀i,m<=i->i<n->B i=false)->∀l,R (none,l,m) st):wpS (model prog w) A E s (adh left key arr base n lo hi) R st:=by
 unfold adh
 refine CT (I:=λk z st'=>st'=st/\∃lo hi,z=(none,lo,hi)/\lo<=hi/\hi<=n/\hi-lo<=n-k/\(∀i,i<lo->B i=true)/\∀i,hi<=i->i<n->B i=false)
  (λk z st' _ hk ⟨e,lo,hi,ez,g1,g2,g3,g4,g5⟩=>?_) (λz st' ⟨e,lo,hi,ez,g1,g2,g3,g4,g5⟩=>?_) ⟨rfl,lo,hi,rfl,h1,h2,by lia,h3,h4⟩
 ·subst e ez
  dsimp only
  by_cases hc:lo≥hi
  ·rw[if_pos hc]
   exact AM (h hi g2 (λi hi'=>g4 i (by lia)) g5 lo)
  ·rw[if_neg hc]
   refine AI (hb _ (by lia) _ ?_)
   dsimp only
   by_cases hB:B (lo+(hi-lo) / 2)=true
   ·rw[if_pos hB]
    exact AM ⟨rfl,_,_,rfl,by lia,g2,by lia,λi hi'=>anti i _ (by lia) (by lia) hB,g5⟩
   ·rw[if_neg hB]
    refine AM ⟨rfl,_,_,rfl,by lia,by lia,by lia,g4,λi hi' hn=>?_⟩
    cases e:B i with
    |false=>rfl
    |true=>exact absurd (anti _ i hi' hn e) hB
 ·subst e ez
  have:lo=hi:=by lia
  subst this
  exact h lo g2 g4 g5 lo
theorem J5 (hb:∀i,i<n->∀Q':Option Bool->SortSt->Prop,Q' (some (B i)) st->wpS (model prog w) A E s (bey left key arr base i) Q' st) (anti:∀i j,i<=j->j<n->B j=true->B i=true) (hh:hint<n)
  (h:∀m,m<=n->(∀i,i<m->B i=true)->(∀i,m<=i->i<n->B i=false)->Q (some m) st):wpS (model prog w) A E s (vy left key arr base n hint) Q st:=by
 unfold vy
 refine AI (hb hint hh _ ?_)
 dsimp only
 have neg:∀i j,i<=j->j<n->B i=false->B j=false:=λi j hij hj e=>by
  cases e2:B j with
  |false=>rfl
  |true=>rw[anti i j hij hj e2]at e;cases e
 by_cases hB:B hint=true
 ·rw[if_pos hB]
  refine AI (CT (I:=λk z st'=>st'=st/\∃la of,z=(none,la,of)/\la<of/\k+1<=of/\hint+la<n/\B (hint+la)=true)
   (λk z st' _ hk ⟨e,la,of,ez,g1,g2,g3,g4⟩=>?_) (λz st' ⟨e,la,of,ez,g1,g2,g3,g4⟩=>?_) ⟨rfl,0,1,rfl,by lia,by lia,by lia,hB⟩)
  ·subst e ez
   dsimp only
   by_cases hc:of≥n-hint
   ·rw[if_pos hc]
    refine AM (AI (su (lo:=hint+la+1) (hi:=hint+min of (n-hint)) hb anti (by lia) (by lia) (λi hi=>anti i _ (by lia) g3 g4) (λi hi hn=>absurd hn (by lia)) λm m1 m2 m3 l=>AM (h m m1 m2 m3)))
   ·rw[if_neg hc]
    refine AI (hb _ (by lia) _ ?_)
    dsimp only
    cases hm:B (hint+of)with
    |false =>
     refine AM (AI (su (lo:=hint+la+1) (hi:=hint+min of (n-hint)) hb anti (by lia) (by lia) (λi hi=>anti i _ (by lia) g3 g4) (λi hi hn=>neg (hint+of) i (by lia) hn hm) λm m1 m2 m3 l=>AM (h m m1 m2 m3)))
    |true =>
     exact AM ⟨rfl,_,_,rfl,by lia,by lia,by lia,hm⟩
  ·subst e ez
   dsimp only
   exact AI (su (lo:=hint+la+1) (hi:=hint+min of (n-hint)) hb anti (by lia) (by lia) (λi hi=>anti i _ (by lia) g3 g4) (λi hi hn=>absurd hn (by lia)) λm m1 m2 m3 l=>AM (h m m1 m2 m3))
 ·rw[if_neg hB]
  have hB':B hint=false:=by simpa using hB
  refine AI (CT (I:=λk z st'=>st'=st/\∃la of,z=(none,la,of)/\la<of/\k+1<=of/\la<=hint/\B (hint-la)=false)
   (λk z st' _ hk ⟨e,la,of,ez,g1,g2,g3,g4⟩=>?_) (λz st' ⟨e,la,of,ez,g1,g2,g3,g4⟩=>?_) ⟨rfl,0,1,rfl,by lia,by lia,by lia,hB'⟩)
  ·subst e ez
   dsimp only
   by_cases hc:of≥hint+1
   ·rw[if_pos hc]
    refine AM (AI (su (lo:=hint+1-min of (hint+1)) (hi:=hint-la) hb anti (by lia) (by lia) (λi hi=>absurd hi (by lia)) (λi hi hn=>neg _ i (by lia) hn g4) λm m1 m2 m3 l=>AM (h m m1 m2 m3)))
   ·rw[if_neg hc]
    refine AI (hb _ (by lia) _ ?_)
    dsimp only
    cases hm:B (hint-of)with
    |true =>
     refine AM (AI (su (lo:=hint+1-min of (hint+1)) (hi:=hint-la) hb anti (by lia) (by lia) (λi hi=>anti i _ (by lia) (by lia) hm) (λi hi hn=>neg _ i (by lia) hn g4) λm m1 m2 m3 l=>AM (h m m1 m2 m3)))
    |false =>
     exact AM ⟨rfl,_,_,rfl,by lia,by lia,by lia,hm⟩
  ·subst e ez
   dsimp only
   exact AI (su (lo:=hint+1-min of (hint+1)) (hi:=hint-la) hb anti (by lia) (by lia) (λi hi=>absurd hi (by lia)) (λi hi hn=>neg _ i (by lia) hn g4) λm m1 m2 m3 l=>AM (h m m1 m2 m3))
theorem Qd (hC:Cmp prog w A s a₀ ρ κ) (hk:kindOf st=κ) (hkey:key∈a₀) (hin:∀i,i<n->∃x,arr[base+i]? = some x/\x∈a₀) (hs:∀i j x y,i<=j->j<n->arr[base+i]? = some x->arr[base+j]? = some y->ρ x<=ρ y) (hh:hint<n)
  (h:∀m,m<=n->(∀i x,i<m->arr[base+i]? = some x->if left=true then ρ x<ρ key else ρ x<=ρ key)->(∀i x,m<=i->i<n->arr[base+i]? = some x->if left=true then ρ key<=ρ x else ρ key<ρ x)->Q (some m) st) :
  wpS (model prog w) A E s (vy left key arr base n hint) Q st:=by
 refine J5 (B:=λi=>match arr[base+i]? with | some x=>if left=true then decide (ρ x<ρ key)else !decide (ρ key<ρ x) | none=>false) (λi hi Q' q=>?_) (λi j hij hj e=>?_) hh λm m1 m2 m3=>h m m1 (λi x hi hx=>?_) λi x hi hn hx=>?_
 ·obtain⟨x,hx,hm⟩:=hin i hi
  simp![hx]at q
  unfold bey
  refine AI (cy hx ?_)
  cases left with
  |true =>
   rw[if_pos rfl]at q ⊢
   exact J2 hC hm hkey hk q
  |false =>
   rw[if_neg BP]at q ⊢
   exact AI (J2 hC hkey hm hk (AM q))
 ·obtain⟨x,hx,hm⟩:=hin i (by lia)
  obtain⟨y,hy,hn⟩:=hin j hj
  have le:=hs i j x y hij hj hx hy
  simp![hx,hy]at e ⊢
  cases left with
  |true=>simp![if_true,decide_eq_true_eq]at e ⊢;lia
  |false=>simp![BA,if_false,HM,decide_eq_false_iff_not]at e ⊢;lia
 ·have e:=m2 i hi
  simp![hx]at e
  cases left with
  |true=>simp![if_true,decide_eq_true_eq]at e ⊢;exact e
  |false=>simp![BA,if_false,HM,decide_eq_false_iff_not]at e ⊢;lia
 ·have e:=m3 i hi hn
  simp![hx]at e
  cases left with
  |true=>simp![if_true,decide_eq_false_iff_not]at e ⊢;lia
  |false=>simp![BA,if_false,Bool.not_eq_false',decide_eq_true_eq]at e ⊢;exact e
end
end
theorem C8(a:Array Keyed)(i k:Nat):(a.extract i (i+k)).toList=(a.toList.drop i).take k:=by
 rw[FX,EO];congr 1;lia
theorem tf(a:Array Keyed)(i:Nat):(a.extract i).toList=a.toList.drop i:=by
 rw[FX,EO,BQ];simp
theorem pq(a:Array Keyed)(i:Nat):(a.extract 0 i).toList=a.toList.take i:=by
 rw[FX,EO];simp
theorem zr(a:Array Keyed)(i j:Nat):(a.extract i j).toList=(a.toList.drop i).take (j-i):=by
 rw[FX,EO]
structure Sm (st st':SortSt):Prop where
 kind:kindOf st'=kindOf st
 arr:arrOf st'=arrOf st
 pend:pendingOf st'=pendingOf st
 fail:failedOf st'=failedOf st
theorem Sm.refl(st:SortSt):Sm st st:=⟨rfl,rfl,rfl,rfl⟩
section
variable{prog:Program}{w:World}{A:Around}{E:Value -> Shared -> Prop}{s:Shared}{a₀:List Keyed}{ρ:Keyed -> Nat}{κ:SortKind}
theorem zt{l:List Keyed}{i:Nat}{x:Keyed}(hs:Srt ρ l)(hx:l[i]? = some x):∀z∈l.drop i,ρ x<=ρ z:=λz hz=>by
 obtain⟨j,hj,e⟩:=vx hz
 exact rm hs hx e hj
theorem zu{l:List Keyed}{i:Nat}{x:Keyed}(hs:Srt ρ l)(hx:l[i-1]? = some x):∀z∈l.take i,ρ z<=ρ x:=λz hz=>by
 obtain⟨j,hj,e⟩:=ny hz
 exact rm hs e hx (by lia)
theorem tj{a:Array Keyed}{i:Nat}(h:i<a.size):∃x,a[i]? = some x/\a.toList[i]? = some x/\x∈a.toList :=
 ⟨a[i],by simp[h],by simp[h],by simp⟩
theorem ur {left:Bool} {key:Keyed} {a:Array Keyed} {base n hint:Nat} {st:SortSt} {Q:Option Nat->SortSt->Prop} (hC:Cmp prog w A s a₀ ρ κ) (hk:kindOf st=κ) (hkey:key∈a₀) (ha:∀x∈a.toList,x∈a₀) (sa:Srt ρ a.toList) (hn:base+n<=a.size) (hh:hint<n)
  (h:∀m,m<=n->(∀x∈(a.toList.drop base).take m,if left=true then ρ x<ρ key else ρ x<=ρ key)->(∀x∈(a.toList.drop (base+m)).take (n-m),if left=true then ρ key<=ρ x else ρ key<ρ x)->Q (some m) st) :
  wpS (model prog w) A E s (vy left key a base n hint) Q st:=by
 refine Qd hC hk hkey (λi hi=>?_) (λi j x y hij _ hx hy=>?_) hh λm m1 m2 m3=>h m m1 (λx hx=>?_) λx hx=>?_
 ·obtain⟨x,e,_,mx⟩:=tj (a:=a) (i:=base+i) (by lia)
  exact⟨x,e,ha x mx⟩
 ·rw[<-BU]at hx hy
  exact rm sa hx hy (by lia)
 ·obtain⟨j,hj,e⟩:=yl hx
  rw[BU]at e
  exact m2 j x hj e
 ·obtain⟨j,hj,e⟩:=yl hx
  rw[BU,HP]at e
  exact m3 (m+j) x (by lia) (by lia) e
theorem G1{σ α:Type}{M:Model}{P:Prop}[Decidable P]{x y:StateT σ Sem α}{Q:α->σ->Prop}{st:σ}(G:Prop)(hy:¬P->G->wpS M A E s y Q st)(hx:P->G->wpS M A E s x Q st)(g:G):wpS M A E s (if P then x else y) Q st:=by
 by_cases h:P
 ·rw[if_pos h];exact hx h g
 ·rw[if_neg h];exact hy h g
theorem abw {a b:Array Keyed} {st:SortSt} {Q:Array Keyed->SortSt->Prop} (hC:Cmp prog w A s a₀ ρ κ) (hk:kindOf st=κ) (ha:∀x∈a.toList,x∈a₀) (hb:∀x∈b.toList,x∈a₀) (sa:Srt ρ a.toList) (sb:Srt ρ b.toList) (la:0<a.size) (lb:0<b.size)
  (hf:∀y,b[0]? = some y->∀z∈a.toList,ρ y<=ρ z) (hl:∀x∈b.toList,∀z∈a.toList.drop (a.size-1),ρ x<=ρ z) (h:∀M st',Mg ρ a.toList b.toList M.toList->Sm st st'->Q M st'):wpS (model prog w) A E s (E2 a b) Q st:=by
 unfold E2
 refine AI (HY (FG ⟨rfl,?_⟩))
 obtain⟨y0,hy0,hy0',_⟩:=tj lb
 refine AI (cy hy0 ?_)
 dsimp only
 have sizeA:a.toList.length=a.size:=by simp
 have sizeB:b.toList.length=b.size:=by simp
 have L0:Lo ρ a.toList b.toList [y0] 0 1:=by
  have:Lo ρ a.toList b.toList [] 0 0:=⟨by simp,by simpa using sa,by simpa using sb⟩
  exact this.b1 hy0' (hf y0 hy0)
 have dB:∀{out:Array Keyed} {i j:Nat},Lo ρ a.toList b.toList out.toList i j->j=b.size->Mg ρ a.toList b.toList (out++a.extract i++b.extract j).toList:=λ{out i j} L e=>by
  rw[BS,BS,tf,tf]
  exact L.doneB (by lia)
 have dA:∀{out:Array Keyed} {i j:Nat},Lo ρ a.toList b.toList out.toList i j->i=a.size->Mg ρ a.toList b.toList (out++a.extract i++b.extract j).toList:=λ{out i j} L e=>by
  rw[BS,BS,tf,tf]
  exact L.doneA (by lia)
 have dL:∀{out:Array Keyed} {i j:Nat},Lo ρ a.toList b.toList out.toList i j->i+1=a.size->Mg ρ a.toList b.toList (out++b.extract j++a.extract i).toList:=λ{out i j} L e=>by
  rw[BS,BS,tf,tf]
  refine L.lastA (by lia) λx hx z hz=>hl x hx z ?_
  rwa [show a.size-1=i by lia]
 by_cases c1:(1==b.size)=true
 ·rw[if_pos c1]
  exact AM (h _ _ (dB (out:=#[y0]) L0 (by simpa using c1)) (.refl _))
 rw[if_neg c1]
 by_cases c2:(0+1==a.size)=true
 ·rw[if_pos c2]
  exact AM (h _ _ (dL (out:=#[y0]) L0 (by simpa using c2)) (.refl _))
 rw[if_neg c2]
 refine AI (GR (AI ?_))
 refine FD (CT (I:=λk z st'=>Sm st st'/\∃out i j mg,z=(none,out,i,j,mg)/\Lo ρ a.toList b.toList out.toList i j/\i+1<a.size/\j<b.size/\k+1<=out.size)
  (Q:=λz st'=>Sm st st'/\∃M y,z=(some M,y)/\Mg ρ a.toList b.toList M.toList)
  ?st0 ?fi0 ⟨.refl _,#[y0],0,1,_,rfl,L0,by simp at c2;lia,by simp at c1;lia,by simp⟩) ?po0
 case st0 =>
  rintro k z st1-hkn ⟨S1,out,i,j,mg,rfl,L,hi,hj,ho⟩
  dsimp only
  refine AI (FD (CT (I:=λk1 z st'=>Sm st st'/\∃out' i j ac bc,z=(none,out',i,j,ac,bc)/\Lo ρ a.toList b.toList out'.toList i j/\i+1<a.size/\j<b.size/\out.size+k1<=out'.size)
   (Q:=λz st'=>Sm st st'/\((∃M y,z=(some M,y)/\Mg ρ a.toList b.toList M.toList)\/∃out' i j ac bc,z=(none,out',i,j,ac,bc)/\Lo ρ a.toList b.toList out'.toList i j/\i+1<a.size/\j<b.size/\out.size+1<=out'.size))
   ?st1 (λz st2 ⟨S2,out1,i1,j1,ac,bc,ez,L1,hi1,hj1,ho1⟩=>⟨S2,.inr ⟨out1,i1,j1,ac,bc,ez,L1,hi1,hj1,by lia⟩⟩) ⟨S1,out,i,j,_,_,rfl,L,hi,hj,by lia⟩) ?po1)
  case st1 =>
   rintro k1 z st2-hkn1 ⟨S2,out1,i1,j1,ac,bc,rfl,L1,hi1,hj1,ho1⟩
   dsimp only
   obtain⟨y,hy,hy',my⟩:=tj hj1
   obtain⟨x,hx,hx',mx⟩:=tj (show i1<a.size by lia)
   refine AI (cy hy (AI (cy hx (AI (J2 hC (hb y my) (ha x mx) (S2.kind.trans hk) ?_)))))
   dsimp only
   by_cases c:ρ y<ρ x
   ·rw[if_pos (decide_eq_true c)]
    refine AI (cy hy ?_)
    have L2:Lo ρ a.toList b.toList (out1.push y).toList i1 (j1+1):=by
     rw[FW]
     exact L1.b1 hy' λz hz=>BC (CP c) (zt sa hx' z hz)
    by_cases e:(j1+1==b.size)=true
    ·rw[if_pos e]
     exact AM ⟨S2,.inl ⟨_,_,rfl,dB L2 (by simpa using e)⟩⟩
    rw[if_neg e]
    have hj2:j1+1<b.size:=by simp at e;lia
    have ho2:out.size+(k1+1)<=(out1.push y).size:=by simp;lia
    by_cases g:bc+1≥mg
    ·rw[if_pos g]
     exact AM ⟨S2,.inr ⟨_,_,_,_,_,rfl,L2,hi1,hj2,by lia⟩⟩
    ·rw[if_neg g]
     exact AM ⟨S2,_,_,_,_,_,rfl,L2,hi1,hj2,ho2⟩
   ·rw[if_neg (by simpa using c)]
    refine AI (cy hx ?_)
    have L2:Lo ρ a.toList b.toList (out1.push x).toList (i1+1) j1:=by
     rw[FW]
     exact L1.a1 hx' λz hz=>BC (HV c) (zt sb hy' z hz)
    by_cases e:(i1+1+1==a.size)=true
    ·rw[if_pos e]
     exact AM ⟨S2,.inl ⟨_,_,rfl,dL L2 (by simpa using e)⟩⟩
    rw[if_neg e]
    have hi2:i1+1+1<a.size:=by simp at e;lia
    have ho2:out.size+(k1+1)<=(out1.push x).size:=by simp;lia
    by_cases g:ac+1≥mg
    ·rw[if_pos g]
     exact AM ⟨S2,.inr ⟨_,_,_,_,_,rfl,L2,hi2,hj1,by lia⟩⟩
    ·rw[if_neg g]
     exact AM ⟨S2,_,_,_,_,_,rfl,L2,hi2,hj1,ho2⟩
  case po1 =>
   rintro z st2 ⟨S2,⟨M,y,rfl,hM⟩ | ⟨out1,i1,j1,ac,bc,rfl,L1,hi1,hj1,ho1⟩⟩
   ·exact AM ⟨S2,_,_,rfl,hM⟩
   dsimp only
   refine AI (HY (FG ⟨rfl,?_⟩))
   refine AI (FD (CT (I:=λk1 z st'=>Sm st st'/\∃out' i j mg ac bc,z=(none,out',i,j,mg,ac,bc)/\Lo ρ a.toList b.toList out'.toList i j/\i+1<a.size/\j<b.size/\out.size+1<=out'.size)
    (Q:=λz st'=>Sm st st'/\((∃M y,z=(some M,y)/\Mg ρ a.toList b.toList M.toList)\/∃out' i j mg ac bc,z=(none,out',i,j,mg,ac,bc)/\Lo ρ a.toList b.toList out'.toList i j/\i+1<a.size/\j<b.size/\out.size+1<=out'.size))
    ?st2 (λz st3 hz=>⟨hz.1,.inr hz.2⟩) ⟨S2,out1,i1,j1,_,_,_,rfl,L1,hi1,hj1,ho1⟩) ?po2)
   case st2 =>
    rintro k2 z st3-hkn2 ⟨S3,out2,i2,j2,mg2,ac2,bc2,rfl,L2,hi2,hj2,ho2⟩
    dsimp only
    obtain⟨y,hy,hy',my⟩:=tj hj2
    apply G1
    case hy=>intro _ g;generalize mg2=m;revert m;exact g
    case hx=>exact λ_ g=>g _
    intro m
    refine AI (EX (AI (cy hy (AI ?_))))
    refine ur hC (S3.kind.trans hk) (hb y my) ha sa (by lia) (by lia) λk hkn low high=>?_
    dsimp only
    simp![BA,if_false]at low high
    have high':∀x∈a.toList.drop (i2+k),ρ y<ρ x:=λx hx=>high x (by rw[BQ (by simp;lia)];exact hx)
    have L3:Lo ρ a.toList b.toList (out2++a.extract i2 (i2+k)).toList (i2+k) j2:=by
     rw[BS,C8]
     exact L2.pushA λx hx z hz=>BC (low x hx) (zt sb hy' z hz)
    apply G1
    case hy =>
     intro k0 g
     have e0:k=0:=by lia
     rw[e0]at high'
     have high2:∀x∈a.toList.drop i2,ρ y<ρ x:=high'
     have q1:=L2
     have q2:=hi2
     have q3:=ho2
     generalize out2=out3 at q1 q3 ⊢
     generalize i2=i3 at q1 q2 high2 ⊢
     revert q1 q2 q3 high2
     revert out3 i3
     exact g
    case hx =>
     intro k0 g
     by_cases e1:(i2+k+1==a.size)=true
     ·rw[if_pos e1]
      exact AM ⟨⟨S3.kind,S3.arr,S3.pend,S3.fail⟩,.inl ⟨_,_,rfl,dL L3 (by simpa using e1)⟩⟩
     rw[if_neg e1]
     by_cases e2:(i2+k==a.size)=true
     ·rw[if_pos e2]
      exact AM ⟨⟨S3.kind,S3.arr,S3.pend,S3.fail⟩,.inl ⟨_,_,rfl,dA L3 (by simpa using e2)⟩⟩
     rw[if_neg e2]
     exact g _ _ (by simp;lia) L3 (by simp at e1 e2;lia) high'
    intro out3 i3 ho3 L3 hi3 high'
    refine AI (cy hy ?_)
    have L4:Lo ρ a.toList b.toList (out3.push y).toList i3 (j2+1):=by
     rw[FW]
     exact L3.b1 hy' λz hz=>CP (high' z hz)
    by_cases e3:(j2+1==b.size)=true
    ·rw[if_pos e3]
     exact AM ⟨⟨S3.kind,S3.arr,S3.pend,S3.fail⟩,.inl ⟨_,_,rfl,dB L4 (by simpa using e3)⟩⟩
    rw[if_neg e3]
    have hj3:j2+1<b.size:=by simp at e3;lia
    obtain⟨x,hx,hx',mx⟩:=tj (show i3<a.size by lia)
    refine AI (cy hx (AI ?_))
    refine ur hC (S3.kind.trans hk) (ha x mx) hb sb (by lia) (by lia) λk1 hkn1 low1 high1=>?_
    dsimp only
    simp![if_true]at low1 high1
    have high1':∀z∈b.toList.drop (j2+1+k1),ρ x<=ρ z:=λz hz=>high1 z (by rw[BQ (by simp;lia)];exact hz)
    have L5:Lo ρ a.toList b.toList (out3.push y++b.extract (j2+1) (j2+1+k1)).toList i3 (j2+1+k1):=by
     rw[BS,C8]
     exact L4.pushB λz hz z' hz'=>BC (CP (low1 z hz)) (zt sa hx' z' hz')
    have ho4:out.size+1<=(out3.push y).size:=by simp;lia
    apply G1
    case hy =>
     intro k10 g
     have e0:k1=0:=by lia
     rw[e0]at high1'
     have high2:∀z∈b.toList.drop (j2+1),ρ x<=ρ z:=high1'
     have q1:=L4
     have q2:=hj3
     have q3:=ho4
     generalize out3.push y=out4 at q1 q3 ⊢
     generalize j2+1=j4 at q1 q2 high2 ⊢
     revert q1 q2 q3 high2
     revert out4 j4
     exact g
    case hx =>
     intro k10 g
     by_cases e4:(j2+1+k1==b.size)=true
     ·rw[if_pos e4]
      exact AM ⟨⟨S3.kind,S3.arr,S3.pend,S3.fail⟩,.inl ⟨_,_,rfl,dB L5 (by simpa using e4)⟩⟩
     rw[if_neg e4]
     exact g _ _ (by simp;lia) L5 (by simp at e4;lia) high1'
    intro out4 j4 ho5 L5 hj4 high1'
    refine AI (cy hx ?_)
    have L6:Lo ρ a.toList b.toList (out4.push x).toList (i3+1) j4:=by
     rw[FW]
     exact L5.a1 hx' high1'
    have ho6:out.size+1<=(out4.push x).size:=by simp;lia
    by_cases e5:(i3+1+1==a.size)=true
    ·rw[if_pos e5]
     exact AM ⟨⟨S3.kind,S3.arr,S3.pend,S3.fail⟩,.inl ⟨_,_,rfl,dL L6 (by simpa using e5)⟩⟩
    rw[if_neg e5]
    have hi6:i3+1+1<a.size:=by simp at e5;lia
    split
    ·exact AM ⟨⟨S3.kind,S3.arr,S3.pend,S3.fail⟩,.inr ⟨_,_,_,_,_,_,rfl,L6,hi6,hj4,ho6⟩⟩
    ·exact AM ⟨⟨S3.kind,S3.arr,S3.pend,S3.fail⟩,_,_,_,_,_,_,rfl,L6,hi6,hj4,ho6⟩
   case po2 =>
    rintro z st3 ⟨S3,⟨M,y,rfl,hM⟩ | ⟨out2,i2,j2,mg2,ac2,bc2,rfl,L2,hi2,hj2,ho2⟩⟩
    ·exact AM ⟨S3,_,_,rfl,hM⟩
    ·dsimp only
     refine AI (EX (AM ⟨⟨S3.kind,S3.arr,S3.pend,S3.fail⟩,_,_,_,_,rfl,L2,hi2,hj2,by lia⟩))
 case fi0 =>
  rintro z st1 ⟨S1,out,i,j,mg,rfl,L,hi,hj,ho⟩
  exfalso
  have:=L.len (by lia) (by lia)
  simp at this
  lia
 case po0 =>
  rintro z st1 ⟨S1,M,y,rfl,hM⟩
  exact AM (h M _ hM S1)
end
theorem uu(o:Array Keyed)(x:Keyed):(o.push x).toList.reverse=x::o.toList.reverse:=by simp
theorem J6(o m:Array Keyed):(o++m.reverse).toList.reverse=m.toList++o.toList.reverse:=by simp
section
variable{prog:Program}{w:World}{A:Around}{E:Value -> Shared -> Prop}{s:Shared}{a₀:List Keyed}{ρ:Keyed -> Nat}{κ:SortKind}
theorem abx {a b:Array Keyed} {st:SortSt} {Q:Array Keyed->SortSt->Prop} (hC:Cmp prog w A s a₀ ρ κ) (hk:kindOf st=κ) (ha:∀x∈a.toList,x∈a₀) (hb:∀x∈b.toList,x∈a₀) (sa:Srt ρ a.toList) (sb:Srt ρ b.toList) (la:0<a.size) (lb:0<b.size)
  (hf:∀y,b[0]? = some y->∀z∈a.toList,ρ y<=ρ z) (hl:∀x∈b.toList,∀z∈a.toList.drop (a.size-1),ρ x<=ρ z) (h:∀M st',Mg ρ a.toList b.toList M.toList->Sm st st'->Q M st'):wpS (model prog w) A E s (E3 a b) Q st:=by
 unfold E3
 refine AI (HY (FG ⟨rfl,?_⟩))
 obtain⟨x0,hx0,hx0',mx0⟩:=tj (a:=a) (i:=a.size-1) (by lia)
 refine AI (cy hx0 ?_)
 dsimp only
 have sizeA:a.toList.length=a.size:=by simp
 have sizeB:b.toList.length=b.size:=by simp
 have L0:Hi ρ a.toList b.toList [x0] (a.size-1) b.size:=by
  have:Hi ρ a.toList b.toList [] a.size b.size:=by
   refine⟨?_,?_,?_⟩
   ·rw[CK (by lia),CK (by lia)];simp
   ·rw[BQ (by lia)];simpa using sa
   ·rw[BQ (by lia)];simpa using sb
  exact this.a1 la hx0' λz hz=>hl z (ET hz) x0 (by rw[nv hx0'];simp)
 have dA:∀{out:Array Keyed} {i j:Nat},Hi ρ a.toList b.toList out.toList.reverse i j->i=0->Mg ρ a.toList b.toList (a.extract 0 i++b.extract 0 j++out.reverse).toList:=λ{out i j} L e=>by
  rw[BS,BS,pq,pq,GU]
  exact L.doneA e
 have dB:∀{out:Array Keyed} {i j:Nat},Hi ρ a.toList b.toList out.toList.reverse i j->j=0->Mg ρ a.toList b.toList (a.extract 0 i++b.extract 0 j++out.reverse).toList:=λ{out i j} L e=>by
  rw[BS,BS,pq,pq,GU]
  exact L.doneB e
 have dF:∀{out:Array Keyed} {i j:Nat},Hi ρ a.toList b.toList out.toList.reverse i j->j=1->Mg ρ a.toList b.toList (b.extract 0 j++a.extract 0 i++out.reverse).toList:=λ{out i j} L e=>by
  rw[BS,BS,pq,pq,GU]
  refine L.firstB λx hx z hz=>?_
  obtain⟨m,hm,q⟩:=ny hz
  rw[BU,show m=0 by lia]at q
  exact hf z q x hx
 by_cases c1:(a.size-1==0)=true
 ·rw[if_pos c1]
  exact AM (h _ _ (dA (out:=#[x0]) L0 (by simpa using c1)) (.refl _))
 rw[if_neg c1]
 by_cases c2:(b.size==1)=true
 ·rw[if_pos c2]
  exact AM (h _ _ (dF (out:=#[x0]) L0 (by simpa using c2)) (.refl _))
 rw[if_neg c2]
 refine AI (GR (AI ?_))
 refine FD (CT (I:=λk z st'=>Sm st st'/\∃i j out mg,z=(none,i,j,out,mg)/\Hi ρ a.toList b.toList out.toList.reverse i j/\0<i/\i<=a.size/\1<j/\j<=b.size/\k+1<=out.size)
  (Q:=λz st'=>Sm st st'/\∃M y,z=(some M,y)/\Mg ρ a.toList b.toList M.toList)
  ?st0 ?fi0 ⟨.refl _,_,_,#[x0],_,rfl,L0,by simp at c1;lia,by lia,by simp at c2;lia,by lia,by simp⟩) ?po0
 case st0 =>
  rintro k z st1-hkn ⟨S1,i,j,out,mg,rfl,L,hi,hi',hj,hj',ho⟩
  dsimp only
  refine AI (FD (CT (I:=λk1 z st'=>Sm st st'/\∃i j out' ac bc,z=(none,i,j,out',ac,bc)/\Hi ρ a.toList b.toList out'.toList.reverse i j/\0<i/\i<=a.size/\1<j/\j<=b.size/\out.size+k1<=out'.size)
   (Q:=λz st'=>Sm st st'/\((∃M y,z=(some M,y)/\Mg ρ a.toList b.toList M.toList)\/∃i j out' ac bc,z=(none,i,j,out',ac,bc)/\Hi ρ a.toList b.toList out'.toList.reverse i j/\0<i/\i<=a.size/\1<j/\j<=b.size/\out.size+1<=out'.size))
   ?st1 (λz st2 ⟨S2,i1,j1,out1,ac,bc,ez,L1,hi1,hi1',hj1,hj1',ho1⟩=>⟨S2,.inr ⟨i1,j1,out1,ac,bc,ez,L1,hi1,hi1',hj1,hj1',by lia⟩⟩) ⟨S1,i,j,out,_,_,rfl,L,hi,hi',hj,hj',by lia⟩) ?po1)
  case st1 =>
   rintro k1 z st2-hkn1 ⟨S2,i1,j1,out1,ac,bc,rfl,L1,hi1,hi1',hj1,hj1',ho1⟩
   dsimp only
   obtain⟨y,hy,hy',my⟩:=tj (a:=b) (i:=j1-1) (by lia)
   obtain⟨x,hx,hx',mx⟩:=tj (a:=a) (i:=i1-1) (by lia)
   refine AI (cy hy (AI (cy hx (AI (J2 hC (hb y my) (ha x mx) (S2.kind.trans hk) ?_)))))
   dsimp only
   by_cases c:ρ y<ρ x
   ·rw[if_pos (decide_eq_true c)]
    refine AI (cy hx ?_)
    have L2:Hi ρ a.toList b.toList (out1.push x).toList.reverse (i1-1) j1:=by
     rw[uu]
     exact L1.a1 hi1 hx' λz hz=>BC (zu sb hy' z hz) (CP c)
    by_cases e:(i1-1==0)=true
    ·rw[if_pos e]
     exact AM ⟨S2,.inl ⟨_,_,rfl,dA L2 (by simpa using e)⟩⟩
    rw[if_neg e]
    have hi2:0<i1-1:=by simp at e;lia
    have ho2:out.size+(k1+1)<=(out1.push x).size:=by simp;lia
    by_cases g:ac+1≥mg
    ·rw[if_pos g]
     exact AM ⟨S2,.inr ⟨_,_,_,_,_,rfl,L2,hi2,by lia,hj1,hj1',by lia⟩⟩
    ·rw[if_neg g]
     exact AM ⟨S2,_,_,_,_,_,rfl,L2,hi2,by lia,hj1,hj1',ho2⟩
   ·rw[if_neg (by simpa using c)]
    refine AI (cy hy ?_)
    have L2:Hi ρ a.toList b.toList (out1.push y).toList.reverse i1 (j1-1):=by
     rw[uu]
     exact L1.b1 (by lia) hy' λz hz=>BC (zu sa hx' z hz) (HV c)
    by_cases e:(j1-1==1)=true
    ·rw[if_pos e]
     exact AM ⟨S2,.inl ⟨_,_,rfl,dF L2 (by simpa using e)⟩⟩
    rw[if_neg e]
    have hj2:1<j1-1:=by simp at e;lia
    have ho2:out.size+(k1+1)<=(out1.push y).size:=by simp;lia
    by_cases g:bc+1≥mg
    ·rw[if_pos g]
     exact AM ⟨S2,.inr ⟨_,_,_,_,_,rfl,L2,hi1,hi1',hj2,by lia,by lia⟩⟩
    ·rw[if_neg g]
     exact AM ⟨S2,_,_,_,_,_,rfl,L2,hi1,hi1',hj2,by lia,ho2⟩
  case po1 =>
   rintro z st2 ⟨S2,⟨M,y,rfl,hM⟩ | ⟨i1,j1,out1,ac,bc,rfl,L1,hi1,hi1',hj1,hj1',ho1⟩⟩
   ·exact AM ⟨S2,_,_,rfl,hM⟩
   dsimp only
   refine AI (HY (FG ⟨rfl,?_⟩))
   refine AI (FD (CT (I:=λk1 z st'=>Sm st st'/\∃i j out' mg ac bc,z=(none,i,j,out',mg,ac,bc)/\Hi ρ a.toList b.toList out'.toList.reverse i j/\0<i/\i<=a.size/\1<j/\j<=b.size/\out.size+1<=out'.size)
    (Q:=λz st'=>Sm st st'/\((∃M y,z=(some M,y)/\Mg ρ a.toList b.toList M.toList)\/∃i j out' mg ac bc,z=(none,i,j,out',mg,ac,bc)/\Hi ρ a.toList b.toList out'.toList.reverse i j/\0<i/\i<=a.size/\1<j/\j<=b.size/\out.size+1<=out'.size))
    ?st2 (λz st3 hz=>⟨hz.1,.inr hz.2⟩) ⟨S2,i1,j1,out1,_,_,_,rfl,L1,hi1,hi1',hj1,hj1',ho1⟩) ?po2)
   case st2 =>
    rintro k2 z st3-hkn2 ⟨S3,i2,j2,out2,mg2,ac2,bc2,rfl,L2,hi2,hi2',hj2,hj2',ho2⟩
    dsimp only
    obtain⟨y,hy,hy',my⟩:=tj (a:=b) (i:=j2-1) (by lia)
    apply G1
    case hy=>intro _ g;generalize mg2=m;revert m;exact g
    case hx=>exact λ_ g=>g _
    intro m
    refine AI (EX (AI (cy hy (AI ?_))))
    refine ur hC (S3.kind.trans hk) (hb y my) ha sa (by lia) (by lia) λi3 hkn low high=>?_
    dsimp only
    simp![BA,if_false,FK,FC]at low high
    have L3:Hi ρ a.toList b.toList (out2++(a.extract i3 i2).reverse).toList.reverse i3 j2:=by
     rw[J6,zr]
     exact L2.pullA hkn λx hx z hz=>BC (zu sb hy' z hz) (CP (high x hx))
    generalize hac:i2-i3=ac
    apply G1
    case hy =>
     intro k0 g
     have e0:i2=i3:=by lia
     have q1:=L2
     have q3:=ho2
     have q2:=hi2
     rw[e0]at q1 q2 ⊢
     generalize out2=out3 at q1 q3 ⊢
     revert q1 q3
     revert q2
     revert out3
     exact g
    case hx =>
     intro k0 g
     by_cases e1:(i3==0)=true
     ·rw[if_pos e1]
      exact AM ⟨⟨S3.kind,S3.arr,S3.pend,S3.fail⟩,.inl ⟨_,_,rfl,dA L3 (by simpa using e1)⟩⟩
     rw[if_neg e1]
     exact g _ (by simp at e1;lia) L3 (by simp;lia)
    intro out3 hi3 L3 ho3
    refine AI (cy hy ?_)
    have L4:Hi ρ a.toList b.toList (out3.push y).toList.reverse i3 (j2-1):=by
     rw[uu]
     exact L3.b1 (by lia) hy' low
    by_cases e3:(j2-1==1)=true
    ·rw[if_pos e3]
     exact AM ⟨⟨S3.kind,S3.arr,S3.pend,S3.fail⟩,.inl ⟨_,_,rfl,dF L4 (by simpa using e3)⟩⟩
    rw[if_neg e3]
    have hj3:1<j2-1:=by simp at e3;lia
    have ho4:out.size+1<=(out3.push y).size:=by simp;lia
    obtain⟨x,hx,hx',mx⟩:=tj (a:=a) (i:=i3-1) (by lia)
    refine AI (cy hx (AI ?_))
    refine ur hC (S3.kind.trans hk) (ha x mx) hb sb (by lia) (by lia) λj4 hkn1 low1 high1=>?_
    dsimp only
    simp![if_true,FK,FC]at low1 high1
    have L5:Hi ρ a.toList b.toList (out3.push y++(b.extract j4 (j2-1)).reverse).toList.reverse i3 j4:=by
     rw[J6,zr]
     exact L4.pullB hkn1 λz hz z' hz'=>BC (zu sa hx' z' hz') (high1 z hz)
    generalize hbc:j2-1-j4=bc
    apply G1
    case hy =>
     intro k10 g
     have e0:j2-1=j4:=by lia
     have q1:=L4
     have q3:=ho4
     have q2:=hj3
     rw[e0]at q1 q2 ⊢
     generalize out3.push y=out4 at q1 q3 ⊢
     revert q1 q3
     revert q2
     revert out4
     exact g
    case hx =>
     intro k10 g
     by_cases e4:(j4==1)=true
     ·rw[if_pos e4]
      exact AM ⟨⟨S3.kind,S3.arr,S3.pend,S3.fail⟩,.inl ⟨_,_,rfl,dF L5 (by simpa using e4)⟩⟩
     rw[if_neg e4]
     by_cases e5:(j4==0)=true
     ·rw[if_pos e5]
      exact AM ⟨⟨S3.kind,S3.arr,S3.pend,S3.fail⟩,.inl ⟨_,_,rfl,dB L5 (by simpa using e5)⟩⟩
     rw[if_neg e5]
     exact g _ (by simp at e4 e5;lia) L5 (by simp;lia)
    intro out4 hj4 L5 ho5
    refine AI (cy hx ?_)
    have L6:Hi ρ a.toList b.toList (out4.push x).toList.reverse (i3-1) j4:=by
     rw[uu]
     exact L5.a1 hi3 hx' λz hz=>CP (low1 z hz)
    have ho6:out.size+1<=(out4.push x).size:=by simp;lia
    by_cases e5:(i3-1==0)=true
    ·rw[if_pos e5]
     exact AM ⟨⟨S3.kind,S3.arr,S3.pend,S3.fail⟩,.inl ⟨_,_,rfl,dA L6 (by simpa using e5)⟩⟩
    rw[if_neg e5]
    have hi6:0<i3-1:=by simp at e5;lia
    split
    ·exact AM ⟨⟨S3.kind,S3.arr,S3.pend,S3.fail⟩,.inr ⟨_,_,_,_,_,_,rfl,L6,hi6,by lia,hj4,by lia,ho6⟩⟩
    ·exact AM ⟨⟨S3.kind,S3.arr,S3.pend,S3.fail⟩,_,_,_,_,_,_,rfl,L6,hi6,by lia,hj4,by lia,ho6⟩
   case po2 =>
    rintro z st3 ⟨S3,⟨M,y,rfl,hM⟩ | ⟨i2,j2,out2,mg2,ac2,bc2,rfl,L2,hi2,hi2',hj2,hj2',ho2⟩⟩
    ·exact AM ⟨S3,_,_,rfl,hM⟩
    ·dsimp only
     refine AI (EX (AM ⟨⟨S3.kind,S3.arr,S3.pend,S3.fail⟩,_,_,_,_,rfl,L2,hi2,hi2',hj2,hj2',by lia⟩))
 case fi0 =>
  rintro z st1 ⟨S1,i,j,out,mg,rfl,L,hi,hi',hj,hj',ho⟩
  exfalso
  have:=L.perm.length_eq
  simp at this
  lia
 case po0 =>
  rintro z st1 ⟨S1,M,y,rfl,hM⟩
  exact AM (h M _ hM S1)
end
theorem C9{α:Type}{P X T:List α}{i:Nat}(h:i<X.length):(P++X++T)[P.length+i]? = X[i]?:=by
 rw[AD,BO (by lia),Nat.add_sub_cancel_left,AN h]
theorem J7{α:Type}:∀(M:List α) (xs:Array α) (p o:Nat),p+o+M.length<=xs.size ->
  ((M.zipIdx o).foldl (λa x=>a.setIfInBounds (p+x.2) x.1) xs).toList=xs.toList.take (p+o)++M++xs.toList.drop (p+o+M.length)
 | [],xs,p,o,h=>by simp
 |x::M,xs,p,o,h=>by
  rw[List.zipIdx_cons,List.foldl_cons,J7 M _ p (o+1) (by simp at h ⊢;lia)]
  simp![BH]at h
  have hp:p+o<xs.toList.length:=by simp;lia
  rw[Array.toList_setIfInBounds]
  apply EC
  intro t
  simp![BH]
  by_cases h1:t<p+o
  ·rw[AD,AD,AN (by simp;lia),AN (by simp;lia),CL (by lia),CL h1,CV (by lia)]
  ·rw[AD,AD,BO (l₁:=xs.toList.take (p+o)) (by simp;lia)]
   by_cases h2:t=p+o
   ·subst h2
    rw[AN (by simp;lia),CL (by lia),DP hp,BV,show p+o-min (p+o) xs.toList.length=0 by lia]
    rfl
   ·rw[BO (by simp;lia)]
    rw[BV,BV,List.length_set,show min (p+(o+1)) xs.toList.length=p+o+1 by lia,show min (p+o) xs.toList.length=p+o by lia]
    obtain⟨u,rfl⟩:∃u,t=p+o+1+u:=⟨t-(p+o+1),by lia⟩
    rw[show p+o+1+u-(p+o+1)=u by lia,show p+o+1+u-(p+o)=u+1 by lia,EH,DL]
    by_cases h3:u<M.length
    ·rw[AN h3,AN h3]
    ·rw[BO (by lia),BO (by lia),HG,HG,CV (by lia)]
     congr 1
     lia
section
variable{prog:Program}{w:World}{A:Around}{E:Value -> Shared -> Prop}{s:Shared}{a₀:List Keyed}{ρ:Keyed -> Nat}{κ:SortKind}
theorem J8 {left:Bool} {key:Keyed} {arr:Array Keyed} {P X T:List Keyed} {base n hint:Nat} {st:SortSt} {Q:Option Nat->SortSt->Prop} (hC:Cmp prog w A s a₀ ρ κ) (hk:kindOf st=κ) (hkey:key∈a₀) (hL:arr.toList=P++X++T) (hb:base=P.length) (hn:n=X.length) (ha:∀x∈X,x∈a₀) (sx:Srt ρ X) (hh:hint<n)
  (h:∀m,m<=n->(∀x∈X.take m,if left=true then ρ x<ρ key else ρ x<=ρ key)->(∀x∈X.drop m,if left=true then ρ key<=ρ x else ρ key<ρ x)->Q (some m) st) :
  wpS (model prog w) A E s (vy left key arr base n hint) Q st:=by
 subst hb hn
 have at_:∀i,i<X.length->arr[P.length+i]? = X[i]?:=λi hi=>by rw[<-BU,hL,C9 hi]
 refine Qd hC hk hkey (λi hi=>?_) (λi j x y hij hj hx hy=>?_) hh λm m1 m2 m3=>h m m1 (λx hx=>?_) λx hx=>?_
 ·exact⟨X[i],by rw[at_ i hi];simp[hi],ha _ (FB hi)⟩
 ·rw[at_ i (by lia)]at hx
  rw[at_ j hj]at hy
  exact rm sx hx hy hij
 ·obtain⟨j,hj,e⟩:=ny hx
  exact m2 j x hj (by rw[at_ j (by lia)];exact e)
 ·obtain⟨j,hj,e⟩:=vx hx
  have hl:=(AB.mp e).1
  exact m3 j x hj hl (by rw[at_ j hl];exact e)
theorem T6{σ:Type}{M:Model}{x st:σ}{Q:PUnit->σ->Prop}(h:Q ⟨⟩ x):wpS M A E s (set x:StateT σ Sem PUnit) Q st:=by
 unfold wpS;rw[StateT.run_set];exact AO ⟨rfl,h⟩
theorem T7{X Y M:List Keyed}{k n:Nat}{x y:Keyed}(sx:Srt ρ X)(sy:Srt ρ Y)(h0:Y[0]? = some y)(hl:X[X.length-1]? = some x)(low:∀z∈X.take k,ρ z<=ρ y)(high:∀z∈Y.drop n,ρ x<=ρ z)(hM:Mg ρ (X.drop k) (Y.take n) M) :
  (X.take k++M++Y.drop n).Perm (X++Y)/\Srt ρ (X.take k++M++Y.drop n):=by
 have ex:X.take k++X.drop k=X:=BZ k X
 have ey:Y.take n++Y.drop n=Y:=BZ n Y
 have sx':=sx
 have sy':=sy
 rw[<-ex]at sx'
 rw[<-ey]at sy'
 rw[nu]at sx' sy'
 have leX:∀z∈X,ρ z<=ρ x:=λz hz=>by
  obtain⟨j,hj,e⟩:=DA.mp hz
  exact rm sx (show X[j]? = some z by rw[AA hj,e]) hl (by lia)
 have leY:∀z∈Y,ρ y<=ρ z:=λz hz=>by
  obtain⟨j,hj,e⟩:=DA.mp hz
  exact rm sy h0 (show Y[j]? = some z by rw[AA hj,e]) (EF _)
 constructor
 ·have:=(BL (X.take k) hM.1).append_right (Y.drop n)
  refine this.trans ?_
  rw[<-AD,ex,AD,ey]
 ·rw[AD,nu]
  refine⟨sx'.1,nu.mpr ⟨hM.2,sy'.2.1,λz hz u hu=>?_⟩,λz hz u hu=>?_⟩
  ·rcases BD.mp (hM.1.mem_iff.mp hz)with q | q
   ·exact BC (leX z (ES q)) (high u hu)
   ·exact sy'.2.2 z q u hu
  ·rcases BD.mp hu with q | q
   ·rcases BD.mp (hM.1.mem_iff.mp q)with q | q
    ·exact sx'.2.2 z hz u q
    ·exact BC (low z hz) (leY u (ET q))
   ·exact BC (low z hz) (leY u (ES q))
theorem Ob {i:Nat} {st:SortSt} {Q:Bool->SortSt->Prop} {P X Y T:List Keyed} {pw pw':Nat} (hC:Cmp prog w A s a₀ ρ κ) (hk:kindOf st=κ) (hfail:failedOf st=none) (hL:(arrOf st).toList=P++X++Y++T) (hin:∀x∈(arrOf st).toList,x∈a₀)
  (p1:(pendingOf st)[i]? = some (P.length,X.length,pw)) (p2:(pendingOf st)[i+1]? = some (P.length+X.length,Y.length,pw')) (hx:0<X.length) (hy:0<Y.length) (sx:Srt ρ X) (sy:Srt ρ Y)
  (h:∀M st',M.Perm (X++Y)->Srt ρ M->(arrOf st').toList=P++M++T->kindOf st'=κ->failedOf st'=none->pendingOf st'=((pendingOf st).setIfInBounds i (P.length,X.length+Y.length,pw)).eraseIdxIfInBounds (i+1)->Q true st') :
  wpS (model prog w) A E s (mergeAt' i) Q st:=by
 unfold mergeAt'
 refine AI (GR ?_)
 rw[p1,p2]
 dsimp only
 refine AI (T6 ?_)
 have hX:∀x∈X,x∈a₀:=λx q=>hin x (by rw[hL];simp[q])
 have hY:∀x∈Y,x∈a₀:=λx q=>hin x (by rw[hL];simp[q])
 have hL2:(arrOf st).toList=(P++X)++Y++T:=hL
 have hL1:(arrOf st).toList=P++X++(Y++T):=by rw[hL,AD]
 obtain⟨y,hy0⟩:∃y,Y[0]? = some y:=⟨Y[0],by simp⟩
 obtain⟨x,hx0⟩:∃x,X[X.length-1]? = some x:=⟨X[X.length-1],by simp⟩
 have my:=BK hy0
 have mx:=BK hx0
 have ey:(arrOf st)[P.length+X.length]? = some y:=by
  have:=C9 (P:=P++X) (X:=Y) (T:=T) hy
  rw[<-hL2,AQ,Nat.add_zero,BU]at this
  rw[this,hy0]
 refine AI (cy ey (AI ?_))
 refine J8 (P:=P) (X:=X) (T:=Y++T) hC hk (hY y my) hL1 rfl rfl hX sx hx λk hk1 low high=>?_
 dsimp only
 simp![BA,if_false]at low high
 by_cases c1:(X.length-k==0)=true
 ·rw[if_pos c1]
  have e:X.take k=X:=BQ (by simp at c1;lia)
  rw[e]at low
  refine AM (h (X++Y) _ (.refl _) (nu.mpr ⟨sx,sy,λz hz u hu=>?_⟩) (by rw[<-AD];exact hL) hk hfail rfl)
  obtain⟨j,hj,e⟩:=DA.mp hu
  exact BC (low z hz) (rm sy hy0 (show Y[j]? = some u by rw[AA hj,e]) (EF _))
 rw[if_neg c1]
 have hk2:k<X.length:=by simp at c1;lia
 have ex:(arrOf st)[P.length+k+(X.length-k)-1]? = some x:=by
  have:=C9 (P:=P) (X:=X) (T:=Y++T) (i:=X.length-1) (by lia)
  rw[<-hL1,BU]at this
  rw[show P.length+k+(X.length-k)-1=P.length+(X.length-1)by lia,this,hx0]
 refine AI (cy ex (AI ?_))
 refine J8 (P:=P++X) (X:=Y) (T:=T) hC hk (hX x mx) hL2 (by simp) rfl hY sy (by lia) λn hn low2 high2=>?_
 dsimp only
 simp![if_true]at low2 high2
 have e1:((arrOf st).extract (P.length+k) (P.length+X.length)).toList=X.drop k:=by
  rw[zr,hL1,AD,HZ,CK (by lia),ED,show P.length+k-P.length=k by lia,GV (by lia),DE (by simp;lia),BQ (by simp;lia)]
 have e2:((arrOf st).extract (P.length+X.length) (P.length+X.length+n)).toList=Y.take n:=by
  rw[C8,hL2,AD,HZ,CK (by simp),ED,show P.length+X.length-(P++X).length=0 by simp,FC,DE hn]
 by_cases c2:(n==0)=true
 ·rw[if_pos c2]
  have e:n=0:=by simpa using c2
  subst e
  refine AM (h (X++Y) _ (.refl _) (nu.mpr ⟨sx,sy,λz hz u hu=>?_⟩) (by rw[<-AD];exact hL) hk hfail rfl)
  obtain⟨j,hj,e⟩:=DA.mp hz
  exact BC (rm sx (show X[j]? = some z by rw[AA hj,e]) hx0 (by lia)) (high2 u (by simpa using hu))
 rw[if_neg c2]
 have hn0:0<n:=by simp at c2;lia
 have fin:∀(M:Array Keyed) (st1:SortSt),Mg ρ (X.drop k) (Y.take n) M.toList->arrOf st1=arrOf st->kindOf st1=κ->failedOf st1=none->pendingOf st1=((pendingOf st).setIfInBounds i (P.length,X.length+Y.length,pw)).eraseIdxIfInBounds (i+1) ->
   Q (failedOf (SortSt.mk' (kindOf st1) (List.foldl (λa x=>a.setIfInBounds (P.length+k+x.2) x.1) (arrOf st1) M.toList.zipIdx) (pendingOf st1) (gallopOf st1) (failedOf st1))).isNone (SortSt.mk' (kindOf st1) (List.foldl (λa x=>a.setIfInBounds (P.length+k+x.2) x.1) (arrOf st1) M.toList.zipIdx) (pendingOf st1) (gallopOf st1) (failedOf st1)):=λM st1 hM h1 h2 h3 h4=>by
  have hb:(failedOf (SortSt.mk' (kindOf st1) (List.foldl (λa x=>a.setIfInBounds (P.length+k+x.2) x.1) (arrOf st1) M.toList.zipIdx) (pendingOf st1) (gallopOf st1) (failedOf st1))).isNone=true:=by
   show(failedOf st1).isNone=true
   rw[h3];rfl
  rw[hb]
  obtain⟨q1,q2⟩:=T7 sx sy hy0 hx0 low high2 hM
  refine h _ _ q1 q2 ?_ h2 h3 h4
  have lM:M.toList.length=X.length-k+n:=by rw[hM.1.length_eq];simp;lia
  have lS:(arrOf st).toList.length=P.length+X.length+Y.length+T.length:=by rw[hL];simp;lia
  have:=J7 M.toList (arrOf st1) (P.length+k) 0 (by rw[h1,lM];simp at lS;lia)
  refine this.trans ?_
  rw[h1,hL,lM]
  have t1:(P++X++Y++T).take (P.length+k+0)=P++X.take k:=by
   rw[AD,AD,List.take_append,BQ (by lia),show P.length+k+0-P.length=k by lia,DE (by lia)]
  have t2:(P++X++Y++T).drop (P.length+k+0+(X.length-k+n))=Y.drop n++T:=by
   rw[AD,HZ,CK (by simp;lia),ED,show P.length+k+0+(X.length-k+n)-(P++X).length=n by simp;lia,GV hn]
  rw[t1,t2]
  simp
 have g1:∀z∈((arrOf st).extract (P.length+k) (P.length+X.length)).toList,z∈a₀:=λz hz=>by rw[e1]at hz;exact hX z (ES hz)
 have g2:∀z∈((arrOf st).extract (P.length+X.length) (P.length+X.length+n)).toList,z∈a₀:=λz hz=>by rw[e2]at hz;exact hY z (ET hz)
 have g3:Srt ρ ((arrOf st).extract (P.length+k) (P.length+X.length)).toList:=by rw[e1];exact sx.sublist (List.drop_sublist _ _)
 have g4:Srt ρ ((arrOf st).extract (P.length+X.length) (P.length+X.length+n)).toList:=by rw[e2];exact sy.sublist (List.take_sublist _ _)
 have z1:((arrOf st).extract (P.length+k) (P.length+X.length)).size=X.length-k:=by rw[<-CA,e1,DX]
 have z2:((arrOf st).extract (P.length+X.length) (P.length+X.length+n)).size=n:=by rw[<-CA,e2,BV];lia
 have g5:∀u,((arrOf st).extract (P.length+X.length) (P.length+X.length+n))[0]? = some u->∀z∈((arrOf st).extract (P.length+k) (P.length+X.length)).toList,ρ u<=ρ z:=λu hu z hz=>by
  rw[<-BU,e2,CL hn0,hy0]at hu
  cases hu
  rw[e1]at hz
  exact CP (high z hz)
 have g6:∀u∈((arrOf st).extract (P.length+X.length) (P.length+X.length+n)).toList,∀z∈((arrOf st).extract (P.length+k) (P.length+X.length)).toList.drop (((arrOf st).extract (P.length+k) (P.length+X.length)).size-1),ρ u<=ρ z:=λu hu z hz=>by
  rw[e2]at hu
  rw[e1,z1,List.drop_drop,show k+(X.length-k-1)=X.length-1 by lia,nv hx0]at hz
  have e:X.drop (X.length-1+1)=[]:=CK (by lia)
  rw[e]at hz
  have:z=x:=by simpa using hz
  rw[this]
  exact CP (low2 u hu)
 by_cases c3:X.length-k<=n
 ·rw[if_pos c3]
  refine AI (abw hC hk g1 g2 g3 g4 (by lia) (by lia) g5 g6 λM st1 hM hS=>?_)
  rw[e1,e2]at hM
  exact AI (EX (AI (GR (AM (fin M st1 hM hS.arr (hS.kind.trans hk) (hS.fail.trans hfail) hS.pend)))))
 ·rw[if_neg c3]
  refine AI (abx hC hk g1 g2 g3 g4 (by lia) (by lia) g5 g6 λM st1 hM hS=>?_)
  rw[e1,e2]at hM
  exact AI (EX (AI (GR (AM (fin M st1 hM hS.arr (hS.kind.trans hk) (hS.fail.trans hfail) hS.pend)))))
end
section
variable{ρ:Keyed -> Nat}
noncomputable def Ka(ρ:Keyed->Nat)(xs:Array Keyed)(i:Nat):Nat:=ρ ((xs[i]?).getD (Value.none,Value.none))
noncomputable def UpA(ρ:Keyed->Nat)(xs:Array Keyed)(lo hi:Nat):Prop:=∀i j,lo<=i->i<=j->j<hi->Ka ρ xs i<=Ka ρ xs j
noncomputable def DnA(ρ:Keyed->Nat)(xs:Array Keyed)(lo hi:Nat):Prop:=∀i j,lo<=i->i<=j->j<hi->Ka ρ xs j<=Ka ρ xs i
noncomputable def EqA(ρ:Keyed->Nat)(xs:Array Keyed)(lo hi:Nat):Prop:=∀i,lo<=i->i<hi->Ka ρ xs i=Ka ρ xs (hi-1)
theorem J9{xs:Array Keyed}{i j:Nat}(hj:j<=xs.size)(t:Nat):Ka ρ (mirror xs i j ((j-i) / 2)) t=if i<=t/\t<j then Ka ρ xs (i+j-1-t)else Ka ρ xs t:=by
 unfold Ka
 rw[getElem?_mirror_all hj]
 split<;>rfl
theorem Dc{xs:Array Keyed}{i j:Nat}(hj:j<=xs.size)(h:EqA ρ xs i j)(t:Nat):Ka ρ (mirror xs i j ((j-i) / 2)) t=Ka ρ xs t:=by
 rw[J9 hj]
 split
 ·rename_i q
  rw[h t q.1 q.2,h _ (by lia) (by lia)]
 ·rfl
theorem UpA.more{xs:Array Keyed}{lo n:Nat}(h:UpA ρ xs lo (lo+n))(h1:1<=n)(hc:¬Ka ρ xs (lo+n)<Ka ρ xs (lo+n-1)):UpA ρ xs lo (lo+(n+1)):=λi j h0 hij hj=>by
 by_cases hj':j<lo+n
 ·exact h i j h0 hij hj'
 ·have ej:j=lo+n:=by lia
  subst ej
  by_cases hi:i=lo+n
  ·rw[hi];exact AK _
  ·have:=h i (lo+n-1) h0 (by lia) (by lia)
   lia
theorem DnA.more{xs:Array Keyed}{lo n:Nat}(h:DnA ρ xs lo (lo+n))(h1:1<=n)(hc:Ka ρ xs (lo+n)<=Ka ρ xs (lo+n-1)):DnA ρ xs lo (lo+(n+1)):=λi j h0 hij hj=>by
 by_cases hj':j<lo+n
 ·exact h i j h0 hij hj'
 ·have ej:j=lo+n:=by lia
  subst ej
  by_cases hi:i=lo+n
  ·rw[hi];exact AK _
  ·have:=h i (lo+n-1) h0 (by lia) (by lia)
   lia
structure Fx (lo:Nat) (st st':SortSt):Prop where
 kind:kindOf st'=kindOf st
 pend:pendingOf st'=pendingOf st
 fail:failedOf st'=failedOf st
 perm:(arrOf st').Perm (arrOf st)
 pre:∀i,i<lo->(arrOf st')[i]? = (arrOf st)[i]?
theorem Fx.refl(lo:Nat)(st:SortSt):Fx lo st st:=⟨rfl,rfl,rfl,.refl _,λ_ _=>rfl⟩
theorem Fx.trans{lo:Nat}{a b c:SortSt}(h:Fx lo a b)(g:Fx lo b c):Fx lo a c:=⟨g.kind.trans h.kind,g.pend.trans h.pend,g.fail.trans h.fail,g.perm.trans h.perm,λi hi=>(g.pre i hi).trans (h.pre i hi)⟩
theorem Fx.size{lo:Nat}{a b:SortSt}(h:Fx lo a b):(arrOf b).size=(arrOf a).size:=h.perm.size_eq
theorem E4{lo i j:Nat}{st:SortSt}(hi:lo<=i)(hj:j<=(arrOf st).size):Fx lo st (setArr st (mirror (arrOf st) i j ((j-i) / 2))) :=
 ⟨rfl,rfl,rfl,mirror_perm _ _ _ _,λt ht=>by
  show(mirror (arrOf st) i j ((j-i) / 2))[t]? = _
  rw[getElem?_mirror_all hj,if_neg (by lia)]⟩
end
section
variable{prog:Program}{w:World}{A:Around}{E:Value -> Shared -> Prop}{s:Shared}{a₀:List Keyed}{ρ:Keyed -> Nat}{κ:SortKind}
theorem tm(hC:Cmp prog w A s a₀ ρ κ){st:SortSt}(hk:kindOf st=κ)(hin:∀x∈(arrOf st).toList,x∈a₀){i j:Nat}(hi:i<(arrOf st).size)(hj:j<(arrOf st).size){Q:Option Bool->SortSt->Prop}(h:Q (some (decide (Ka ρ (arrOf st) i<Ka ρ (arrOf st) j))) st) :
  wpS (model prog w) A E s (ltAt' i j) Q st:=by
 rw[ltAt'_eq]
 refine AI (GR ?_)
 obtain⟨x,hx,_,mx⟩:=tj hi
 obtain⟨y,hy,_,my⟩:=tj hj
 unfold Ka at h
 rw[hx,hy]at h
 exact AI (cy hx (AI (cy hy (J2 hC (hin x mx) (hin y my) hk h))))
theorem E5{i j:Nat}{st:SortSt}{Q:Unit->SortSt->Prop}(h:Q () (setArr st (mirror (arrOf st) i j ((j-i) / 2)))):wpS (model prog w) A E s (reverseSlice' i j) Q st:=by
 rw[reverseSlice'_eq]
 exact EX h
theorem in_of{st st':SortSt}{lo:Nat}(h:Fx lo st st')(hin:∀x∈(arrOf st).toList,x∈a₀):∀x∈(arrOf st').toList,x∈a₀:=λx hx=>hin x ((HH.mp h.perm).mem_iff.mp hx)
theorem Oc {lo nrem:Nat} {st:SortSt} {Q:Option Nat->SortSt->Prop} (hC:Cmp prog w A s a₀ ρ κ) (hk:kindOf st=κ) (hin:∀x∈(arrOf st).toList,x∈a₀) (h1:1<=nrem) (hz:lo+nrem<=(arrOf st).size)
  (h:∀m st',1<=m->m<=nrem->Fx lo st st'->UpA ρ (arrOf st') lo (lo+m)->Q (some m) st'):wpS (model prog w) A E s (countRun' lo nrem) Q st:=by
 unfold countRun'
 refine AI (FD (CT (I:=λx z st'=>st'=st/\z=(none,x)/\UpA ρ (arrOf st) lo (lo+x))
  (Q:=λz st'=>st'=st/\∃n,z=(none,n)/\1<=n/\n<=nrem/\UpA ρ (arrOf st) lo (lo+n)/\(n<nrem->Ka ρ (arrOf st) (lo+n)<Ka ρ (arrOf st) (lo+n-1))) ?st0 ?fi0 ⟨rfl,rfl,λi j a b c=>by rw[show i=j by lia];exact AK _⟩) ?po0)
 case st0 =>
  rintro x z st' hx1 hx2 ⟨rfl,rfl,hu⟩
  dsimp only
  refine AI (tm hC hk hin (by lia) (by lia) ?_)
  dsimp only
  by_cases c:Ka ρ (arrOf st') (lo+x)<Ka ρ (arrOf st') (lo+x-1)
  ·rw[if_pos (decide_eq_true c)]
   exact AM ⟨rfl,x,rfl,hx1,by lia,hu,λ_=>c⟩
  ·rw[if_neg (by simpa using c)]
   exact AM ⟨rfl,rfl,hu.more hx1 c⟩
 case fi0 =>
  rintro z st' ⟨rfl,rfl,hu⟩
  rw[show max 1 nrem=nrem by lia]at hu ⊢
  exact⟨rfl,_,rfl,h1,AK _,hu,λq=>absurd q (by lia)⟩
 case po0 =>
  rintro z st' ⟨rfl,n,rfl,n1,n2,hu,hlt⟩
  dsimp only
  by_cases c1:(n==nrem)=true
  ·rw[if_pos c1]
   exact AM (h n _ n1 n2 (.refl _ _) hu)
  rw[if_neg c1]
  have hn:n<nrem:=by simp at c1;lia
  have hlt:=hlt hn
  by_cases c2:n > 1
  case' pos =>
   rw[if_pos c2]
   refine AI (tm hC hk hin (by lia) (by lia) ?_)
   dsimp only
   by_cases c3:Ka ρ (arrOf st') lo<Ka ρ (arrOf st') (lo+n-1)
   ·rw[if_pos (decide_eq_true c3)]
    exact AM (h n _ n1 n2 (.refl _ _) hu)
   rw[if_neg (by simpa using c3)]
   have all:∀i,lo<=i->i<lo+n->Ka ρ (arrOf st') i=Ka ρ (arrOf st') (lo+n-1):=λi hi hj=>by
    have a:=hu lo i (AK _) hi hj
    have b:=hu i (lo+n-1) hi (by lia) (by lia)
    lia
   refine AI (E5 ?_)
   have F2:Fx lo st' (setArr st' (mirror (arrOf st') lo (lo+n) ((lo+n-lo) / 2))):=E4 (AK _) (by lia)
   have kk:∀t,Ka ρ (arrOf (setArr st' (mirror (arrOf st') lo (lo+n) ((lo+n-lo) / 2)))) t=Ka ρ (arrOf st') t:=Dc (by lia) all
   have hd:DnA ρ (arrOf (setArr st' (mirror (arrOf st') lo (lo+n) ((lo+n-lo) / 2)))) lo (lo+(n+1)):=by
    refine DnA.more (λi j h0 hij hj=>?_) n1 (by rw[kk,kk];lia)
    rw[kk,kk,all i h0 (by lia),all j (by lia) hj]
    exact AK _
   generalize setArr st' (mirror (arrOf st') lo (lo+n) ((lo+n-lo) / 2))=st2 at *
  case' neg =>
   rw[if_neg c2]
   have hd:DnA ρ (arrOf st') lo (lo+(n+1)):=DnA.more (λi j h0 hij hj=>by rw[show i=j by lia];exact AK _) n1 (by lia)
   generalize hg:st'=st2 at hd ⊢
   have F2:Fx lo st' st2:=by rw[<-hg];exact .refl _ _
  all_goals
   refine AI (HY (FG ⟨rfl,?_⟩))
   refine AI (FD (CT (I:=λx z st3=>∃q,z=(none,x,q)/\Fx lo st' st3/\DnA ρ (arrOf st3) lo (lo+x)/\EqA ρ (arrOf st3) (lo+x-(q+1)) (lo+x)/\q+1<=x)
    (Q:=λz st3=>∃m q,z=(none,m,q)/\1<=m/\m<=nrem/\Fx lo st' st3/\DnA ρ (arrOf st3) lo (lo+m)/\EqA ρ (arrOf st3) (lo+m-(q+1)) (lo+m)/\q+1<=m)
    ?st1 ?fi1 ⟨0,rfl,F2,hd,λi a b=>by rw[show i=lo+(n+1)-1 by lia],by lia⟩) ?po1)
   case st1 =>
    rintro x z st3 hx1 hx2 ⟨q,rfl,F3,d3,e3,q3⟩
    have k3:=F3.kind.trans hk
    have i3:=in_of F3 hin
    have z3:=F3.size
    dsimp only
    refine AI (tm hC k3 i3 (by lia) (by lia) ?_)
    dsimp only
    by_cases c:Ka ρ (arrOf st3) (lo+x)<Ka ρ (arrOf st3) (lo+x-1)
    ·rw[if_pos (decide_eq_true c)]
     by_cases q0:q > 0
     ·rw[if_pos q0]
      have kk:∀t,Ka ρ (mirror (arrOf st3) (lo+x-(q+1)) (lo+x) ((lo+x-(lo+x-(q+1))) / 2)) t=Ka ρ (arrOf st3) t:=Dc (by lia) e3
      refine AI (E5 (AM ⟨0,rfl,F3.trans (E4 (by lia) (by lia)),DnA.more (λi j h0 hij hj=>?_) (by lia) ?_,λi a b=>by rw[show i=lo+(x+1)-1 by lia],by lia⟩))
      ·show Ka ρ (mirror (arrOf st3) (lo+x-(q+1)) (lo+x) ((lo+x-(lo+x-(q+1))) / 2)) j<=Ka ρ (mirror (arrOf st3) (lo+x-(q+1)) (lo+x) ((lo+x-(lo+x-(q+1))) / 2)) i
       rw[kk,kk];exact d3 i j h0 hij hj
      ·show Ka ρ (mirror (arrOf st3) (lo+x-(q+1)) (lo+x) ((lo+x-(lo+x-(q+1))) / 2)) _<=Ka ρ (mirror (arrOf st3) (lo+x-(q+1)) (lo+x) ((lo+x-(lo+x-(q+1))) / 2)) _
       rw[kk,kk];lia
     ·rw[if_neg q0]
      exact AM ⟨0,rfl,F3,d3.more (by lia) (by lia),λi a b=>by rw[show i=lo+(x+1)-1 by lia],by lia⟩
    ·rw[if_neg (by simpa using c)]
     refine AI (tm hC k3 i3 (by lia) (by lia) ?_)
     dsimp only
     by_cases c':Ka ρ (arrOf st3) (lo+x-1)<Ka ρ (arrOf st3) (lo+x)
     ·rw[if_pos (decide_eq_true c')]
      exact AM ⟨x,q,rfl,by lia,by lia,F3,d3,e3,q3⟩
     ·rw[if_neg (by simpa using c')]
      refine AM ⟨q+1,rfl,F3,d3.more (by lia) (by lia),λi a b=>?_,by lia⟩
      by_cases hi:i=lo+x
      ·rw[hi];congr 1
      ·have e:=e3 i (by lia) (by lia)
       rw[e,show lo+(x+1)-1=lo+x by lia];lia
   case fi1 =>
    rintro z st3 ⟨q,rfl,F3,d3,e3,q3⟩
    rw[show max (n+1) nrem=nrem by lia]at *
    exact⟨_,q,rfl,h1,AK _,F3,d3,e3,q3⟩
   case po1 =>
    rintro z st3 ⟨m,q,rfl,m1,m2,F3,d3,e3,q3⟩
    dsimp only
    have z3:=F3.size
    by_cases q0:q > 0
    case' pos =>
     rw[if_pos q0]
     have kk:∀t,Ka ρ (arrOf (setArr st3 (mirror (arrOf st3) (lo+m-(q+1)) (lo+m) ((lo+m-(lo+m-(q+1))) / 2)))) t=Ka ρ (arrOf st3) t:=Dc (by lia) e3
     have F4:=F3.trans (E4 (i:=lo+m-(q+1)) (j:=lo+m) (st:=st3) (by lia) (by lia))
     refine AI (E5 ?_)
     have d4:DnA ρ (arrOf (setArr st3 (mirror (arrOf st3) (lo+m-(q+1)) (lo+m) ((lo+m-(lo+m-(q+1))) / 2)))) lo (lo+m):=λi j h0 hij hj=>by rw[kk,kk];exact d3 i j h0 hij hj
     generalize setArr st3 (mirror (arrOf st3) (lo+m-(q+1)) (lo+m) ((lo+m-(lo+m-(q+1))) / 2))=st4 at *
    case' neg =>
     rw[if_neg q0]
     have F4:=F3
     have d4:=d3
     generalize st3=st4 at *
    all_goals
     have z4:=F4.size
     have F5:=F4.trans (E4 (i:=lo) (j:=lo+m) (st:=st4) (by lia) (by lia))
     refine AI (E5 ?_)
     have u5:UpA ρ (arrOf (setArr st4 (mirror (arrOf st4) lo (lo+m) ((lo+m-lo) / 2)))) lo (lo+m):=λi j h0 hij hj=>by
      show Ka ρ (mirror (arrOf st4) lo (lo+m) ((lo+m-lo) / 2)) i<=Ka ρ (mirror (arrOf st4) lo (lo+m) ((lo+m-lo) / 2)) j
      rw[J9 (by lia),J9 (by lia),if_pos (by lia),if_pos (by lia)]
      exact d4 _ _ (by lia) (by lia) (by lia)
     generalize setArr st4 (mirror (arrOf st4) lo (lo+m) ((lo+m-lo) / 2))=st5 at *
     have k5:=F5.kind.trans hk
     have i5:=in_of F5 hin
     have z5:=F5.size
     refine AI (CT (I:=λx z st'=>st'=st5/\z=(none,x)/\UpA ρ (arrOf st5) lo (lo+x)) ?_ ?_ ⟨rfl,rfl,u5⟩)
     ·rintro x z st6 hx1 hx2 ⟨rfl,rfl,hu6⟩
      dsimp only
      refine AI (tm hC k5 i5 (by lia) (by lia) ?_)
      dsimp only
      by_cases c:Ka ρ (arrOf st6) (lo+x)<Ka ρ (arrOf st6) (lo+x-1)
      ·rw[if_pos (decide_eq_true c)]
       exact AM (AM (h x _ (by lia) (by lia) F5 hu6))
      ·rw[if_neg (by simpa using c)]
       exact AM ⟨rfl,rfl,hu6.more (by lia) c⟩
     ·rintro z st6 ⟨rfl,rfl,hu6⟩
      rw[show max m nrem=nrem by lia]at hu6
      dsimp only
      rw[show max m nrem=nrem by lia]
      exact AM (h nrem _ h1 (AK _) F5 hu6)
theorem Qe{xs:Array Keyed}{k d:Nat}(hk:k<xs.size)(hd:d<=k)(x:Nat):Ka ρ (bubble xs k d) x=if x=k-d then Ka ρ xs k else if k-d<x/\x<=k then Ka ρ xs (x-1)else Ka ρ xs x:=by
 unfold Ka
 rw[getElem?_bubble hk d hd x]
 split
 ·rfl
 ·split<;>rfl
theorem bin_ok {lo n ok:Nat} {st:SortSt} {Q:Bool->SortSt->Prop} (hC:Cmp prog w A s a₀ ρ κ) (hk:kindOf st=κ) (hin:∀x∈(arrOf st).toList,x∈a₀) (h0:1<=ok) (h1:ok<=n) (hz:lo+n<=(arrOf st).size) (hu:UpA ρ (arrOf st) lo (lo+ok))
  (h:∀st',Fx lo st st'->UpA ρ (arrOf st') lo (lo+n)->Q true st'):wpS (model prog w) A E s (binarySort' lo n ok) Q st:=by
 unfold binarySort'
 refine AI (FD (CT (I:=λk z st'=>z=(none,())/\Fx lo st st'/\UpA ρ (arrOf st') lo (lo+k)) (Q:=λz st'=>z=(none,())/\Fx lo st st'/\UpA ρ (arrOf st') lo (lo+n)) ?st0 ?fi0 ⟨rfl,.refl _ _,by rw[show max ok 1=ok by lia];exact hu⟩) ?po0)
 case st0 =>
  rintro k z st1 hk1 hk2 ⟨rfl,F1,u1⟩
  have k1:=F1.kind.trans hk
  have i1:=in_of F1 hin
  have z1:=F1.size
  dsimp only
  refine AI (FD (CT (I:=λx z st2=>st2=st1/\∃l r,z=(none,l,r)/\l<=r/\r<=k/\r-l<=k-x/\(∀i,i<l->Ka ρ (arrOf st1) (lo+i)<=Ka ρ (arrOf st1) (lo+k))/\∀i,r<=i->i<k->Ka ρ (arrOf st1) (lo+k)<Ka ρ (arrOf st1) (lo+i))
   (Q:=λz st2=>st2=st1/\∃l r,z=(none,l,r)/\l<=k/\(∀i,i<l->Ka ρ (arrOf st1) (lo+i)<=Ka ρ (arrOf st1) (lo+k))/\∀i,l<=i->i<k->Ka ρ (arrOf st1) (lo+k)<Ka ρ (arrOf st1) (lo+i))
   ?st1 ?fi1 ⟨rfl,0,k,rfl,by lia,by lia,by lia,λi q=>absurd q (by lia),λi q q'=>absurd q (by lia)⟩) ?po1)
  case st1 =>
   rintro x z st2-hx2 ⟨rfl,l,r,rfl,g1,g2,g3,g4,g5⟩
   dsimp only
   by_cases c:l≥r
   ·rw[if_pos c]
    exact AM ⟨rfl,l,r,rfl,by lia,g4,λi q q'=>g5 i (by lia) q'⟩
   rw[if_neg c]
   refine AI (tm hC k1 i1 (by lia) (by lia) ?_)
   dsimp only
   by_cases c':Ka ρ (arrOf st2) (lo+k)<Ka ρ (arrOf st2) (lo+(l+r) / 2)
   ·rw[if_pos (decide_eq_true c')]
    refine AM ⟨rfl,_,_,rfl,by lia,by lia,by lia,g4,λi q q'=>?_⟩
    have:=u1 (lo+(l+r) / 2) (lo+i) (by lia) (by lia) (by lia)
    lia
   ·rw[if_neg (by simpa using c')]
    refine AM ⟨rfl,_,_,rfl,by lia,by lia,by lia,λi q=>?_,g5⟩
    have:=u1 (lo+i) (lo+(l+r) / 2) (by lia) (by lia) (by lia)
    lia
  case fi1 =>
   rintro z st2 ⟨rfl,l,r,rfl,g1,g2,g3,g4,g5⟩
   exact⟨rfl,l,r,rfl,by lia,g4,λi q q'=>g5 i (by lia) q'⟩
  case po1 =>
   rintro z st2 ⟨rfl,l,r,rfl,g1,g2,g3⟩
   dsimp only
   have hs:lo+k<(arrOf st2).size:=by lia
   refine AI (EX (AM ⟨rfl,F1.trans ⟨rfl,rfl,rfl,bubble_perm _ (lo+k) (lo+k-(lo+l)),λt ht=>?_⟩,?_⟩))
   ·show(bubble (arrOf st2) (lo+k) (lo+k-(lo+l)))[t]? = _
    rw[getElem?_bubble hs _ (by lia),if_neg (by lia),if_neg (by lia)]
   ·show UpA ρ (bubble (arrOf st2) (lo+k) (lo+k-(lo+l))) lo (lo+(k+1))
    intro i j hi hij hj
    rw[Qe hs (by lia),Qe hs (by lia),show lo+k-(lo+k-(lo+l))=lo+l by lia]
    by_cases a1:i=lo+l
    ·rw[if_pos a1]
     by_cases b1:j=lo+l
     ·rw[if_pos b1];exact AK _
     ·rw[if_neg b1,if_pos (by lia)]
      have:=g3 (j-1-lo) (by lia) (by lia)
      rw[show lo+(j-1-lo)=j-1 by lia]at this
      lia
    ·rw[if_neg a1]
     by_cases a2:lo+l<i/\i<=lo+k
     ·rw[if_pos a2,if_neg (by lia),if_pos (by lia)]
      exact u1 (i-1) (j-1) (by lia) (by lia) (by lia)
     ·rw[if_neg a2]
      by_cases b1:j=lo+l
      ·rw[if_pos b1]
       have:=g2 (i-lo) (by lia)
       rw[show lo+(i-lo)=i by lia]at this
       exact this
      ·rw[if_neg b1]
       by_cases b2:lo+l<j/\j<=lo+k
       ·rw[if_pos b2]
        exact u1 i (j-1) hi (by lia) (by lia)
       ·rw[if_neg b2]
        exact u1 i j hi hij (by lia)
 case fi0 =>
  rintro z st1 ⟨rfl,F1,u1⟩
  rw[show max (max ok 1) n=n by lia]at u1
  exact⟨rfl,F1,u1⟩
 case po0 =>
  rintro z st1 ⟨rfl,F1,u1⟩
  exact AM (h _ F1 u1)
end
section
variable{ρ:Keyed -> Nat}
noncomputable def Pd(ρ:Keyed->Nat):Nat->List (Nat×Nat)->List (List Keyed)->Prop
 |_,[],[]=>True
 |b,x::p,X::Xs=>x=(b,X.length)/\0<X.length/\Srt ρ X/\Pd ρ (b+X.length) p Xs
 |_,_,_=>False
theorem Pd.len:∀{b:Nat} {p:List (Nat×Nat)} {Xs:List (List Keyed)},Pd ρ b p Xs->p.length=Xs.length
 |_,[],[],_=>rfl
 |_,_::_,_::_,h=>by simp[Pd.len h.2.2.2]
 |_,[],_::_,h=>h.elim
 |_,_::_,[],h=>h.elim
theorem Pd.app:∀{b:Nat} {p q:List (Nat×Nat)} {Xs Ys:List (List Keyed)},Pd ρ b p Xs->Pd ρ (b+Xs.flatten.length) q Ys->Pd ρ b (p++q) (Xs++Ys)
 |_,[],_,[],_,_,g=>by simpa using g
 |b,x::p,q,X::Xs,Ys,h,g=>by
  refine⟨h.1,h.2.1,h.2.2.1,Pd.app h.2.2.2 ?_⟩
  rw[DD,AQ,<-HP]at g
  exact g
 |_,[],_,_::_,_,h,_=>h.elim
 |_,_::_,_,[],_,h,_=>h.elim
theorem Pd.split:∀{b:Nat} {p q:List (Nat×Nat)} {Zs:List (List Keyed)},Pd ρ b (p++q) Zs->∃Xs Ys,Zs=Xs++Ys/\Pd ρ b p Xs/\Pd ρ (b+Xs.flatten.length) q Ys
 |b,[],q,Zs,h=>⟨[],Zs,rfl,trivial,by simpa using h⟩
 |b,x::p,q,[],h=>h.elim
 |b,x::p,q,Z::Zs,h=>by
  obtain⟨Xs,Ys,rfl,h1,h2⟩:=Pd.split (p:=p) h.2.2.2
  refine⟨Z::Xs,Ys,rfl,⟨h.1,h.2.1,h.2.2.1,h1⟩,?_⟩
  rw[DD,AQ,<-HP]
  exact h2
noncomputable abbrev pr(t:Nat×Nat×Nat):Nat×Nat:=(t.1,t.2.1)
theorem E6{α:Type}{l:List α}{i:Nat}{a b:α}(h1:l[i]? = some a)(h2:l[i+1]? = some b):l=l.take i++a::b::l.drop (i+2):=by
 have e1:=nv h1
 have e2:=nv h2
 rw[e2]at e1
 conv=>lhs;rw[<-BZ i l,e1]
theorem Kb{α:Type}{l:List α}{i:Nat}{a b c:α}(h1:l[i]? = some a)(h2:l[i+1]? = some b):(l.set i c).eraseIdx (i+1)=l.take i++c::l.drop (i+2):=by
 have hi:=(AB.mp h1).1
 conv=>lhs;rw[E6 h1 h2]
 have hl:(l.take i).length=i:=by simp;lia
 rw[List.set_append_right _ _ (by lia),hl,Nat.sub_self,DI,List.eraseIdx_append_of_length_le (by lia),hl,show i+1-i=1 by lia]
 rfl
end
section
variable{prog:Program}{w:World}{A:Around}{E:Value -> Shared -> Prop}{s:Shared}{a₀:List Keyed}{ρ:Keyed -> Nat}{κ:SortKind}
structure At (a₀:List Keyed) (ρ:Keyed->Nat) (κ:SortKind) (Xs:List (List Keyed)) (Z:List Keyed) (st:SortSt):Prop where
 kind:kindOf st=κ
 fail:failedOf st=none
 perm:(arrOf st).toList.Perm a₀
 arr:(arrOf st).toList=Xs.flatten++Z
 pd:Pd ρ 0 ((pendingOf st).toList.map pr) Xs
theorem At.mem{Xs:List (List Keyed)}{Z:List Keyed}{st:SortSt}(h:At a₀ ρ κ Xs Z st):∀x∈(arrOf st).toList,x∈a₀:=λx hx=>h.perm.mem_iff.mp hx
theorem At.merge {i:Nat} {Xs:List (List Keyed)} {Z:List Keyed} {st:SortSt} {Q:Bool->SortSt->Prop} (hC:Cmp prog w A s a₀ ρ κ) (H:At a₀ ρ κ Xs Z st) (hi:i+1<(pendingOf st).size)
  (h:∀Xs' st',At a₀ ρ κ Xs' Z st'->(pendingOf st').size+1=(pendingOf st).size->Q true st'):wpS (model prog w) A E s (mergeAt' i) Q st:=by
 have hp:(pendingOf st).toList.length=(pendingOf st).size:=by simp
 obtain⟨u,hu⟩:∃u,(pendingOf st).toList[i]? = some u:=⟨_,AA (by lia)⟩
 obtain⟨v,hv⟩:∃v,(pendingOf st).toList[i+1]? = some v:=⟨_,AA (by lia)⟩
 have pd:=H.pd
 rw[E6 hu hv,AY,AF,AF]at pd
 obtain⟨X1,Y1,rfl,d1,d2⟩:=pd.split
 match Y1,d2 with
 |X::Y::X2,d2 =>
  obtain⟨eu,lx,sx,ev,ly,sy,d3⟩:=d2
  rw[FK]at eu ev d3
  obtain⟨u1,u2,u3⟩:=u
  obtain⟨v1,v2,v3⟩:=v
  simp![pr,GC]at eu ev
  obtain⟨rfl,rfl⟩:=eu
  obtain⟨rfl,rfl⟩:=ev
  have arr:(arrOf st).toList=X1.flatten++X++Y++(X2.flatten++Z):=by
   rw[H.arr];simp
  refine Ob hC H.kind H.fail arr H.mem (by rw[<-BU];exact hu) (by rw[<-BU];exact hv) lx ly sx sy λM st' pM sM aM kM fM gM=>?_
  have e:(pendingOf st').toList=(pendingOf st).toList.take i++(X1.flatten.length,X.length+Y.length,u3)::(pendingOf st).toList.drop (i+2):=by
   rw[gM]
   have e1:(((pendingOf st).setIfInBounds i (X1.flatten.length,X.length+Y.length,u3)).eraseIdxIfInBounds (i+1)).toList=((pendingOf st).toList.set i (X1.flatten.length,X.length+Y.length,u3)).eraseIdx (i+1):=by simp
   rw[e1,Kb hu hv]
  refine h (X1++M::X2) st' ⟨kM,fM,?_,?_,?_⟩ ?_
  ·rw[aM]
   refine List.Perm.trans ?_ H.perm
   rw[arr,AD X1.flatten X Y]
   exact(BL _ pM).append_right _
  ·rw[aM];simp
  ·have lM:M.length=X.length+Y.length:=by rw[pM.length_eq];simp
   rw[e,AY,AF]
   refine d1.app ⟨?_,by lia,sM,?_⟩
   ·rw[FK,lM]
   ·rw[FK,lM,<-HP];exact d3
  ·have:=congrArg List.length e
   simp at this
   lia
 | [],d2=>exact d2.elim
 | [X],d2=>exact d2.2.2.2.elim
theorem At.runs{Xs:List (List Keyed)}{Z:List Keyed}{st:SortSt}(H:At a₀ ρ κ Xs Z st):(pendingOf st).size=Xs.length:=by
 have:=H.pd.len
 simpa using this
theorem T8{α σ:Type}{M:Model}{c:Prop}[Decidable c]{t e:StateT σ Sem α}{Q:α->σ->Prop}{st:σ}(h1:c->wpS M A E s t Q st)(h2:¬c->wpS M A E s e Q st):wpS M A E s (if c then t else e) Q st:=by
 by_cases h:c
 ·rw[if_pos h];exact h1 h
 ·rw[if_neg h];exact h2 h
theorem At.len{Xs:List (List Keyed)}{Z:List Keyed}{st:SortSt}(H:At a₀ ρ κ Xs Z st):Xs.flatten.length+Z.length=a₀.length:=by
 rw[<-H.perm.length_eq,H.arr,AQ]
theorem At.fx{Xs:List (List Keyed)}{Z:List Keyed}{lo:Nat}{st st':SortSt}(H:At a₀ ρ κ Xs Z st)(e:Xs.flatten.length=lo)(F:Fx lo st st'):At a₀ ρ κ Xs ((arrOf st').toList.drop lo) st':=by
 have p:=HH.mp F.perm
 refine⟨F.kind.trans H.kind,F.fail.trans H.fail,p.trans H.perm,?_,by rw[F.pend];exact H.pd⟩
 have:Xs.flatten=(arrOf st').toList.take lo:=by
  have e2:Xs.flatten=(arrOf st).toList.take lo:=by rw[H.arr,<-e,List.take_left]
  rw[e2]
  apply EC
  intro i
  by_cases hi:i<lo
  ·rw[CL hi,CL hi,BU,BU,F.pre i hi]
  ·rw[EN (by simp;lia),EN (by simp;lia)]
 rw[this,BZ]
theorem Kc{xs:Array Keyed}{lo n:Nat}(h:UpA ρ xs lo (lo+n)):Srt ρ ((xs.toList.drop lo).take n):=by
 refine GA.mpr λi j hi hj hij=>?_
 have hi':lo+i<xs.size:=by simp at hi;lia
 have hj':lo+j<xs.size:=by simp at hj;lia
 have:=h (lo+i) (lo+j) (by lia) (by lia) (by simp at hj;lia)
 unfold Ka at this
 simpa[hi',hj']using this
theorem At.push{Xs:List (List Keyed)}{Z:List Keyed}{lo n:Nat}{st:SortSt}(H:At a₀ ρ κ Xs Z st)(e:Xs.flatten.length=lo)(h0:0<n)(hn:n<=Z.length)(hs:Srt ρ (Z.take n)):At a₀ ρ κ (Xs++[Z.take n]) (Z.drop n) (setPending st ((pendingOf st).push (lo,n,0))):=by
 refine⟨H.kind,H.fail,H.perm,?_,?_⟩
 ·show(arrOf st).toList=_
  rw[H.arr,List.flatten_append]
  simp
 ·show Pd ρ 0 ((((pendingOf st).push (lo,n,0)).toList).map pr) _
  rw[FW,AY]
  refine H.pd.app ⟨?_,by rw[BV];lia,hs,trivial⟩
  rw[FK,e,BV]
  simp![pr,GC,true_and]
  lia
theorem G2{l:List (Nat×Nat×Nat)}{f:Nat×Nat×Nat->Nat×Nat×Nat}(hf:∀t,pr (f t)=pr t):∀i,(l.modify i f).map pr=l.map pr:=by
 induction l with
 |nil=>intro i;simp
 |cons a l ih =>
  intro i
  cases i with
  |zero=>simp[hf]
  |succ i=>simp[ih]
theorem At.pow{Xs:List (List Keyed)}{Z:List Keyed}{i:Nat}{f:Nat×Nat×Nat->Nat×Nat×Nat}{st:SortSt}(H:At a₀ ρ κ Xs Z st)(hf:∀t,pr (f t)=pr t):At a₀ ρ κ Xs Z (setPending st ((pendingOf st).modify i f)):=by
 refine⟨H.kind,H.fail,H.perm,H.arr,?_⟩
 show Pd ρ 0 ((((pendingOf st).modify i f).toList).map pr) _
 rw[Array.toList_modify,G2 hf]
 exact H.pd
theorem T9 {st:SortSt} {Q:Unit->SortSt->Prop} (hC:Cmp prog w A s a₀ ρ κ) (hk:kindOf st=κ) (hf:failedOf st=none) (hp:pendingOf st=#[]) (ha:(arrOf st).toList=a₀) (h2:2<=a₀.length)
  (h:∀st',(arrOf st').toList.Perm a₀->Srt ρ (arrOf st').toList->failedOf st'=none->Q () st'):wpS (model prog w) A E s sortRuns' Q st:=by
 have sz:(arrOf st).size=a₀.length:=by rw[<-ha];simp
 have H0:At a₀ ρ κ [] a₀ st:=⟨hk,hf,by rw[ha],by simpa using ha,by rw[hp];trivial⟩
 rw[sortRuns'_eq]
 refine AI (GR ?_)
 dsimp only
 refine AI (FD (CT (I:=λx c st'=>∃lo Xs Z,c=(none,lo)/\At a₀ ρ κ Xs Z st'/\Xs.flatten.length=lo/\Z.length+lo=a₀.length/\(x<=lo\/lo=a₀.length)/\Xs.length<=lo)
  (Q:=λc st'=>∃Xs,c=(none,a₀.length)/\At a₀ ρ κ Xs [] st'/\Xs.length<=a₀.length) ?st0 ?fi0 ⟨0,[],a₀,rfl,H0,rfl,rfl,.inl (AK _),AK _⟩) ?po0)
 case fi0 =>
  rintro c st' ⟨lo,Xs,Z,rfl,H,e1,e2,e3,e4⟩
  have hlo:lo=a₀.length:=by rw[sz]at e3;lia
  subst hlo
  have hZ:Z=[]:=GW (by lia)
  subst hZ
  exact⟨Xs,rfl,H,e4⟩
 case po0 =>
  rintro c st1 ⟨Xs,rfl,H,e4⟩
  dsimp only
  refine AI (FD (CT (I:=λx c st'=>c=(none,())/\∃Xs,At a₀ ρ κ Xs [] st'/\(Xs.length<=1\/Xs.length+x<=a₀.length)) (Q:=λc st'=>c=(none,())/\∃Xs,At a₀ ρ κ Xs [] st'/\Xs.length<=1) ?st1 ?fi1 ⟨rfl,Xs,H,.inr (by lia)⟩) ?po1)
  case st1 =>
   rintro x c st2-hx ⟨rfl,Xs,H,hl⟩
   refine AI (GR ?_)
   have hr:=H.runs
   by_cases c1:(pendingOf st2).size<=1
   ·rw[if_pos c1]
    exact AM ⟨rfl,Xs,H,by lia⟩
   rw[if_neg c1]
   have fin:∀i,i+1<(pendingOf st2).size->wpS (model prog w) A E s (mergeAt' i) (λr st'=>r=true/\∃Xs',At a₀ ρ κ Xs' [] st'/\Xs'.length+1=Xs.length) st2:=λi hi=>H.merge hC hi λXs' st' H' hs=>⟨rfl,Xs',H',by have:=H'.runs;lia⟩
   refine AI (FD (fin _ ?_) λr st3 hr3=>?_)
   ·split<;>lia
   ·obtain⟨rfl,Xs',H',e'⟩:=hr3
    exact AM ⟨rfl,Xs',H',by lia⟩
  case fi1 =>
   rintro c st2 ⟨rfl,Xs,H,hl⟩
   exact⟨rfl,Xs,H,by rw[sz]at hl;lia⟩
  case po1 =>
   rintro c st2 ⟨rfl,Xs,H,hl⟩
   refine AM (h st2 H.perm ?_ H.fail)
   have ea:=H.arr
   rw[DT]at ea
   have pd:=H.pd
   match Xs,hl with
   | [],_ =>
    have:=H.perm.length_eq
    rw[ea]at this
    simp at this
    lia
   | [X],_ =>
    rw[ea]
    cases ep:(pendingOf st2).toList.map pr with
    |nil=>rw[ep]at pd;exact pd.elim
    |cons u p =>
     rw[ep]at pd
     simpa using pd.2.2.1
   |X::Y::Xs,hl=>simp at hl
 case st0 =>
  rintro x c st1-hx ⟨lo,Xs,Z,rfl,H,e1,e2,e3,e4⟩
  dsimp only
  rw[sz]
  by_cases c1:lo≥a₀.length
  ·rw[if_pos c1]
   have hlo:lo=a₀.length:=by lia
   subst hlo
   have hZ:Z=[]:=GW (by lia)
   subst hZ
   exact AM ⟨Xs,rfl,H,e4⟩
  rw[if_neg c1]
  have sz1:(arrOf st1).size=a₀.length:=by rw[<-H.perm.length_eq];simp
  refine AI (Oc hC H.kind H.mem (by lia) (by lia) λm st2 m1 m2 F2 u2=>?_)
  dsimp only
  generalize minRun' a₀.length a₀.length 0=mr
  by_cases c2:m<mr
  case' pos =>
   rw[if_pos c2]
   refine AI (HY (FG ⟨rfl,?_⟩))
   have z2:=F2.size
   refine AI (bin_ok hC (F2.kind.trans H.kind) (in_of F2 H.mem) m1 (by lia) (by lia) u2 λst3 F3 u3=>?_)
   have F4:=F2.trans F3
   rw[if_neg (by simp)]
   have n1:0<min (a₀.length-lo) mr:=by lia
   have n2:min (a₀.length-lo) mr<=a₀.length-lo:=by lia
   generalize min (a₀.length-lo) mr=n at *
  case' neg =>
   rw[if_neg c2]
   have F4:=F2
   have u3:=u2
   have n1:0<m:=m1
   have n2:=m2
   generalize m=n at *
   generalize st2=st3 at *
  all_goals
   have H3:=H.fx e1 F4
   have S3:=Kc u3
   have l3:=H3.len
   generalize (arrOf st3).toList.drop lo=Z3 at *
   refine AI (GR ?_)
   have fin:∀Xs' st',At a₀ ρ κ Xs' Z3 st'->Xs'.length<=Xs.length->At a₀ ρ κ (Xs'++[Z3.take n]) (Z3.drop n) (setPending st' ((pendingOf st').push (lo,n,0)))/\(Xs'++[Z3.take n]).flatten.length=lo+n/\(Z3.drop n).length+(lo+n)=a₀.length/\(x+1<=lo+n\/lo+n=a₀.length)/\(Xs'++[Z3.take n]).length<=lo+n:=λXs' st' H' hl=>by
    have l':=H'.len
    have hP:=H'.push (n:=n) (lo:=lo) (by lia) n1 (by lia) S3
    refine⟨hP,?_,?_,?_,?_⟩
    ·have:=hP.len
     rw[DX]at this
     lia
    ·rw[DX];lia
    ·lia
    ·rw[AQ];simp;lia
   cases hb:(pendingOf st3).back? with
   |none =>
    dsimp only
    obtain⟨g1,g2,g3,g4,g5⟩:=fin Xs st3 H3 (AK _)
    exact AI (EX (AM ⟨lo+n,_,_,rfl,g1,g2,g3,g4,g5⟩))
   |some u =>
    obtain⟨s1,k1,p1⟩:=u
    dsimp only
    generalize power' a₀.length (2*s1+k1) (2*s1+k1+k1+n) a₀.length=pw
    refine AI (FD (CT (I:=λy c st'=>c=(none,())/\∃Xs',At a₀ ρ κ Xs' Z3 st'/\Xs'.length<=Xs.length) (Q:=λc st'=>c=(none,())/\∃Xs',At a₀ ρ κ Xs' Z3 st'/\Xs'.length<=Xs.length) ?st2 (λc st' hh=>hh) ⟨rfl,Xs,H3,AK _⟩) ?po2)
    case st2 =>
     rintro y c st5-hy ⟨rfl,Xs5,H5,l5⟩
     refine AI (GR ?_)
     have hr5:=H5.runs
     by_cases c5:(pendingOf st5).size > 1
     ·rw[if_pos c5]
      obtain⟨t,ht⟩:∃t,(pendingOf st5)[(pendingOf st5).size-2]? = some t:=⟨(pendingOf st5)[(pendingOf st5).size-2]'(by lia),by simp⟩
      rw[ht]
      obtain⟨t1,t2,t3⟩:=t
      dsimp only
      refine T8 (λ_=>AM ⟨rfl,Xs5,H5,l5⟩) λ_=>AI (H5.merge hC (by lia) λXs' st' H' hs=>?_)
      rw[if_neg (by simp)]
      have:=H'.runs
      exact AM ⟨rfl,Xs',H',by lia⟩
     ·rw[if_neg c5]
      exact AM ⟨rfl,Xs5,H5,l5⟩
    case po2 =>
     rintro c st5 ⟨rfl,Xs5,H5,l5⟩
     dsimp only
     obtain⟨g1,g2,g3,g4,g5⟩:=fin Xs5 _ (H5.pow (i:=(pendingOf st5).size-1) (f:=λx=>(x.1,x.2.1,pw)) λ_=>rfl) l5
     exact AI (EX (AI (EX (AM ⟨lo+n,_,_,rfl,g1,g2,g3,g4,g5⟩))))
end
end Lp.Tim
namespace LT
open PySem PySem.Spec PyProof.Rows HT
open PySem.SeqAt
open PySem.AutoSeq1 (wpAny_loadPart')
open PySem.MeetsSeq PySem.MeetsSeq2 PySem.MeetsSeq3
noncomputable def Vb(A:Around)(s:Shared)(u v:Value)(r:Bool):Prop:=∀(prog:Program) (w:World) (E:Value->Shared->Prop) (Q:Value->Shared->Prop),Q (.bool r) s->wpAny (model prog w) A (richCompare .Lt u v) Q E s
noncomputable def Kd(A:Around)(s:Shared):List Value->List Value->Bool->Prop
 | [],[],r=>r=false
 | [],_::_,r=>r=true
 |_::_,[],r=>r=false
 |u::us,v::vs,r=>∃e,EqAt A s u v e/\(e=true->Kd A s us vs r)/\(e=false->Vb A s u v r)
theorem Od{A:Around}{s:Shared}{a c:Int}{t u:Tok}:Vb A s (.int a t) (.int c u) (decide (a<c)):=λprog w E Q h =>
 (IU h:wpAny (model prog w) A (compareOp .Lt (.int a t) (.int c u)) Q E s)
theorem Oe{A:Around}{s:Shared}{a c:Str}{t u:Tok}:Vb A s (.str a t) (.str c u) (decide (a.cps.toList<c.cps.toList)):=λprog w E Q h =>
 (lt_str h:wpAny (model prog w) A (compareOp .Lt (.str a t) (.str c u)) Q E s)
theorem Ke(l b:Addr)(items items2:Array Value)(n n2:Nat)(dd dd2:Option Addr)(sl sl2:Array (Option Value))(r:Bool) :
  Meets (Builtin.«tuple.__lt__» ⟨[.ref l,.ref b],[]⟩) (λA R s=>s.heap.get? l=some {cls:=.type "tuple",dict:=dd,data:=.seq items n,slots:=sl}/\s.heap.get? b=some {cls:=.type "tuple",dict:=dd2,data:=.seq items2 n2,slots:=sl2}/\Kd A.in1 s items.toList items2.toList r/\R (.ok (.ret (.bool r))) s) :=
 .of_wp λprog w A R s h=>by
  obtain⟨hh0,g,d,tk0,os0⟩:=s;obtain⟨ql,hb,hx,h⟩:=h
  have sub0:=EW
  wp_walk using CY ql,CY hb,GN _ (λrest b s'=>b.1=none/\s'=⟨hh0,g,d,tk0,os0⟩/\∃(us1 us2:List Value),rest=us1.zip us2 /\
   Kd A.in1 ⟨hh0,g,d,tk0,os0⟩ us1 us2 r/\us1.length+items2.size=us2.length+items.size) _
  case turn =>
   rintro⟨y,x⟩ rest b s' ⟨p0,rfl,us1,us2,pz,px,pl⟩
   cases us1 with
   |nil=>rw[GI]at pz;cases pz
   |cons u us1 =>
    cases us2 with
    |nil=>rw[FE]at pz;cases pz
    |cons v us2 =>
     rw[Do]at pz
     injection pz with pyx pr
     injection pyx with py px'
     subst py px'
     simp![BH]at pl
     obtain⟨same,eq0,e1,e2⟩:=px
     refine AC (eq0 prog w _ _ ?_)
     cases same with
     |true =>
      wp_walk
      exact⟨rfl,rfl,_,_,pr,e1 rfl,by lia⟩
     |false =>
      have low:=e2 rfl prog w
      wp_walk using low
      exact⟨_,rfl,by simpa using h⟩
  case fin =>
   rintro⟨c1,c2⟩ s' ⟨p0,rfl,us1,us2,pz,px,pl⟩
   simp only at p0
   subst p0
   have hv:r=decide (items.size<items2.size):=by
    cases us1 with
    |nil =>
     cases us2 with
     |nil =>
      simp![CC]at pl
      rw[decide_eq_false (by lia)];exact px
     |cons v us2 =>
      simp![CC,BH]at pl
      rw[decide_eq_true (by lia)];exact px
    |cons u us1 =>
     cases us2 with
     |nil =>
      simp![CC,BH]at pl
      rw[decide_eq_false (by lia)];exact px
     |cons v us2 =>
      rw[Do]at pz
      cases pz
   rw[hv]at h
   wp_walk
   exact⟨_,rfl,by simpa[Builtin.Tuple.tupleCompareSizes]using h⟩
  case h =>
   exact⟨rfl,rfl,items.toList,items2.toList,rfl,hx,by simp;lia⟩
theorem E7{A:Around}{s:Shared}{l b:Addr}{items items2:Array Value}{r:Bool}(hl:IsTup s.heap l items)(hb:IsTup s.heap b items2)(hu:A.units<cLine)(hx:∀A':Around,A'.units<=A.units+4->Kd A' s items.toList items2.toList r):Vb A s (.ref l) (.ref b) r:=λprog w E Q h=>by
 obtain⟨⟨_,dd,_,sl⟩,ho,rfl,n,rfl⟩:=id hl
 obtain⟨⟨_,dd2,_,sl2⟩,ho2,rfl,n2,rfl⟩:=id hb
 exact FF (op:=.Lt) ⟨_,ho,rfl⟩ ⟨_,ho2,rfl⟩ IM IB (HR _ _) (Ke l b items items2 n n2 dd dd2 sl sl2 r)
  ⟨ho,ho2,hx _ (by simp![Around.in1_units];lia),show Value.bool r≠Value.notImplemented/\Q (.bool r) s from⟨(λx=>nomatch x),h⟩⟩ hu
end LT
namespace Lp.Srt
open PySem PySem.W PyProof.Rows PySem.Calls Lp.Tim
theorem Dd{α β:Type}{f:α->β}:∀{l1 l2:List β},l1.Perm l2->∀{l:List α},l2=l.map f->∃q:List α,q.Perm l/\l1=q.map f:=by
 intro l1 l2 h
 induction h with
 |nil =>
     intro l e;have:l=[]:=by simpa using e.symm
     subst this;exact⟨[],.nil,rfl⟩
 |cons x h ih =>
  intro l e
  cases l with
  |nil=>cases e
  |cons a l =>
   injection e with e1 e2
   obtain⟨q,hq,rfl⟩:=ih e2
   exact⟨a::q,hq.cons a,by rw[AF,e1]⟩
 |swap x y r =>
  intro l e
  match l,e with
  |a::b::l,e =>
   injection e with e1 e2
   injection e2 with e2 e3
   exact⟨b::a::l,.swap _ _ _,by rw[AF,AF,e1,e2,e3]⟩
  | [a],e=>cases e
  | [],e=>cases e
 |trans h1 h2 ih1 ih2 =>
  intro l e
  obtain⟨q,hq,rfl⟩:=ih2 e
  obtain⟨p,hp,e2⟩:=ih1 rfl
  exact⟨p,hp.trans hq,e2⟩
open Classical in
noncomputable def Ua(vs:List Value)(rk:Nat->Nat)(x:Keyed):Nat:=if h:∃i,i<vs.length/\vs.getD i Value.none=x.1 then rk h.choose else 0
theorem E8{vs:List Value}{rk:Nat->Nat}(hs:∀i j,i<vs.length->j<vs.length->vs.getD i Value.none=vs.getD j Value.none->rk i=rk j){i:Nat}(hi:i<vs.length):Ua vs rk (vs.getD i Value.none,vs.getD i Value.none)=rk i:=by
 unfold Ua
 have h:∃j,j<vs.length/\vs.getD j Value.none=(vs.getD i Value.none,vs.getD i Value.none).1:=⟨i,hi,rfl⟩
 rw[dif_pos h]
 exact hs _ _ h.choose_spec.1 hi h.choose_spec.2
section
variable{prog:Program}{w:World}{A:Around}{E:Value -> Shared -> Prop}{s:Shared}
theorem zw {a:Addr} {vs:List Value} {c0:Nat} {P:PySem.Fin->Shared->Prop} (q0:s.heap.get? a=some (seqObj "list" vs.toArray c0)) (hsm:vs.length<=sizeLine) (rk:Nat->Nat)
  (hsame:∀i j,i<vs.length->j<vs.length->vs.getD i Value.none=vs.getD j Value.none->rk i=rk j)
  (hk:2<=vs.length->∀g:Heap,(∀b o,b≠a->s.heap.get? b=some o->g.get? b=some o)->∃κ:SortKind,(∀(Q:SortKind->Shared->Prop) (E':Value->Shared->Prop),Q κ {s with heap:=g}->wpAny (model prog w) A (keyKind' vs.toArray) Q E' {s with heap:=g}) /\
   ∀(i j:Nat) (C:Bool->Shared->Prop),i<vs.length->j<vs.length->C (decide (rk i<rk j)) {s with heap:=g}->wpAny (model prog w) A (keyLt' κ (vs.getD i Value.none) (vs.getD j Value.none)) C (λ_ _=>False) {s with heap:=g})
  (fin:∀p:Array Nat,PP vs.length p->Up rk p vs.length->P (.done (.ret .none)) {s with heap:=sortedHeap s.heap a vs (List.toArray (p.toList.map λi=>vs.getD i Value.none))}) :
  wpAny (model prog w) A (Builtin.«list.sort» ⟨[.ref a],[]⟩) P E s:=by
 rw[list_sort_plain]
 have lta:a<s.heap.objs.size:=AR q0
 have small:vs.toArray.size<=sizeLine:=by rw[AJ];exact hsm
 refine AC (listItems_at q0 rfl (AC (listUpdate_at q0 rfl ?_ small (EF _))))
 obtain⟨e1,q1⟩:∃e1,(s.heap.update a (Obj.mapSeq λ_=>(#[]:Array Value))).get? a=some (seqObj "list" #[] e1):=⟨_,get?_update_seq q0 (λ_=>#[])⟩
 refine AC (seqEpoch_at q1 rfl (AC (wpAny_newTuple (AC (wpAny_newList (EV ?_) (EF _))) (by simpa using small))))
 have q6:(((s.heap.update a (Obj.mapSeq λ_=>(#[]:Array Value))).push (seqObj "tuple" vs.toArray 0)).push (seqObj "list" #[] 0)).get? a=some (seqObj "list" #[] e1):=AH _ (AH _ q1)
 have old:∀b o,b≠a->s.heap.get? b=some o->(((s.heap.update a (Obj.mapSeq λ_=>(#[]:Array Value))).push (seqObj "tuple" vs.toArray 0)).push (seqObj "list" #[] 0)).get? b=some o:=λb o hb e =>
  AH _ (AH _ (by rw[Heap.get?_update_ne _ _ _ _ hb];exact e))
 show wpAny (model prog w) A _ P E {s with heap:=((s.heap.update a (Obj.mapSeq λ_=>(#[]:Array Value))).push (seqObj "tuple" vs.toArray 0)).push (seqObj "list" #[] 0)}
 dsimp only
 by_cases hs2:vs.toArray.size<2
 ·have hs2':vs.length<2:=by simpa using hs2
  rw[if_pos hs2,if_pos hs2]
  refine AC (AO ?_)
  rw[StateT.run_pure]
  refine AC (AO ?_)
  dsimp only
  have eo:(arrOf (SortSt.mk' general' (vs.toArray.zip vs.toArray) #[] 7 none)).map (·.2)=List.toArray ((List.toArray (List.range vs.length)).toList.map λi=>vs.getD i Value.none):=by
   show(vs.toArray.zip vs.toArray).map (·.2)=_
   rw[HA,qj]
   apply If.mp
   simp[List.map_snd_zip]
  rw[eo]
  refine AC (seqEpoch_at q6 rfl (AC (listUpdate_at q6 rfl ?_ (EF _) (by rw[HA,qj];exact Nat.le_succ_of_le small))))
  simp![bne_self_eq_false,BA,if_false]
  refine AO (fin (List.toArray (List.range vs.length)) (List.Perm.refl _) λi j hij hj=>?_)
  rw[show i=j by lia]
  exact AK _
 ·have h2:2<=vs.length:=by simp at hs2;lia
  rw[if_neg hs2,if_neg hs2]
  obtain⟨κ,k1,k2⟩:=hk h2 _ old
  refine AC (k1 _ _ ?_)
  have ez:(vs.toArray.zip vs.toArray).toList=(List.range vs.length).map λi=>(vs.getD i Value.none,vs.getD i Value.none):=by
   apply EC
   intro i
   by_cases hi:i<vs.length
   ·simp[hi,Gt]
   ·simp[hi]
  refine AC (DQ (T9 (prog:=prog) (w:=w) (A:=A) (E:=E) (s:={s with heap:=((s.heap.update a (Obj.mapSeq λ_=>(#[]:Array Value))).push (seqObj "tuple" vs.toArray 0)).push (seqObj "list" #[] 0)}) (st:=SortSt.mk' κ (vs.toArray.zip vs.toArray) #[] 7 none)
   (a₀:=(vs.toArray.zip vs.toArray).toList) (ρ:=Ua vs rk) (κ:=κ) (Q:=λ_ st'=>failedOf st'=none/\∃p:Array Nat,PP vs.length p/\Up rk p vs.length/\(arrOf st').map (·.2)=List.toArray (p.toList.map λi=>vs.getD i Value.none))
   (λx y hx hy C hC=>?_) rfl rfl rfl rfl (by rw[ez];simpa using h2) λst' hp hs hf=>⟨hf,?_⟩) ?_ λ_ _ x=>x)
  ·rw[ez]at hx hy
   obtain⟨i,hi,rfl⟩:=BW.mp hx
   obtain⟨j,hj,rfl⟩:=BW.mp hy
   have hi':i<vs.length:=by simpa using hi
   have hj':j<vs.length:=by simpa using hj
   rw[E8 hsame hi',E8 hsame hj']at hC
   exact k2 i j C hi' hj' hC
  ·obtain⟨q,hq,e⟩:=Dd hp ez
   refine⟨q.toArray,by unfold PP;rw[HA];exact hq,λi j hij hj=>?_,?_⟩
   ·have lq:q.length=vs.length:=by rw[hq.length_eq];simp
    rw[e]at hs
    have hqi:q.getD i 0<vs.length:=by
     have:q.getD i 0∈q:=by rw[show q.getD i 0=q[i]'(by lia)by simp[show i<q.length by lia]];exact FB _
     simpa using hq.mem_iff.mp this
    have hqj:q.getD j 0<vs.length:=by
     have:q.getD j 0∈q:=by rw[show q.getD j 0=q[j]'(by lia)by simp[show j<q.length by lia]];exact FB _
     simpa using hq.mem_iff.mp this
    have:=rm hs (i:=i) (j:=j) (x:=(vs.getD (q.getD i 0) Value.none,vs.getD (q.getD i 0) Value.none)) (y:=(vs.getD (q.getD j 0) Value.none,vs.getD (q.getD j 0) Value.none)) (by rw[AV,AA (by lia)];simp[show i<q.length by lia]) (by rw[AV,AA (by lia)];simp[show j<q.length by lia]) hij
    rw[E8 hsame hqi,E8 hsame hqj]at this
    unfold Ky
    simpa using this
   ·apply If.mp
    rw[Array.toList_map,e]
    simp
  ·rintro⟨⟨⟩,st'⟩ s' ⟨rfl,hf,p,hp,hu,ho⟩
   dsimp only
   rw[ho]
   refine AC (seqEpoch_at q6 rfl (AC (listUpdate_at q6 rfl ?_ (EF _) (by rw[AJ,AG,CA,hp.sz];simp at small;lia))))
   rw[hf]
   simp![bne_self_eq_false,BA,if_false]
   exact AO (fin p hp hu)
theorem G3 {l:Addr} {vs:List Value} {Q:Value->Shared->Prop} (hl:s.heap.IsList l vs.toArray) (hsm:vs.length<=sizeLine) (rk:Nat->Nat)
  (hsame:∀i j,i<vs.length->j<vs.length->vs.getD i Value.none=vs.getD j Value.none->rk i=rk j)
  (hk:2<=vs.length->∀(A':Around) (g:Heap),A'.units<=A.units+8->(∀b o,s.heap.get? b=some o->g.get? b=some o)->∃κ:SortKind,(∀(Q:SortKind->Shared->Prop) (E':Value->Shared->Prop),Q κ {s with heap:=g}->wpAny (model prog w) A' (keyKind' vs.toArray) Q E' {s with heap:=g}) /\
   ∀(i j:Nat) (C:Bool->Shared->Prop),i<vs.length->j<vs.length->C (decide (rk i<rk j)) {s with heap:=g}->wpAny (model prog w) A' (keyLt' κ (vs.getD i Value.none) (vs.getD j Value.none)) C (λ_ _=>False) {s with heap:=g})
  (fin:∀p:Array Nat,PP vs.length p->Up rk p vs.length->Q (.ref (s.heap.objs.size+1)) {s with heap:=sortedAll s.heap vs (List.toArray (p.toList.map λi=>vs.getD i Value.none))}) :
  wpAny (model prog w) A (call (.builtin "sorted") [.ref l]) Q E s:=by
 refine Calls.call_function_entry kind_sorted plain_sorted entry_sorted (args_sorted1 _) ?_
 unfold Builtin.«sorted»
 refine AC (m:=checkCount "sorted" 1 1 _) (AO (AC (collect_list hl (AC (wpAny_newList ?_ hsm)) hsm)))
 have szL:((s.heap.push (seqObj "list" #[] 0)).update s.heap.objs.size (Obj.mapSeq (·++vs.toArray))).objs.size=s.heap.objs.size+1:=by rw[Heap.size_update,size_push']
 have qL:(((s.heap.push (seqObj "list" #[] 0)).update s.heap.objs.size (Obj.mapSeq (·++vs.toArray))).push (seqObj "list" vs.toArray 0)).get? (s.heap.objs.size+1)=some (seqObj "list" vs.toArray 0):=szL ▸ AZ _ rfl
 have old:∀b o,s.heap.get? b=some o->(((s.heap.push (seqObj "list" #[] 0)).update s.heap.objs.size (Obj.mapSeq (·++vs.toArray))).push (seqObj "list" vs.toArray 0)).get? b=some o:=λb o e =>
  AH _ (by rw[Heap.get?_update_ne _ _ _ _ (BJ (AR e))];exact AH _ e)
 show wpAny _ _ _ _ _ {s with heap:=(((s.heap.push (seqObj "list" #[] 0)).update s.heap.objs.size (Obj.mapSeq (·++vs.toArray))).push (seqObj "list" vs.toArray 0))}
 rw[szL]
 refine AC (EV (EG slot_list_sort ⟨_,qL,rfl⟩ entry_list_sort ?go (args_list_sort _)))
 case go =>
  refine zw (s:={s with heap:=(((s.heap.push (seqObj "list" #[] 0)).update s.heap.objs.size (Obj.mapSeq (·++vs.toArray))).push (seqObj "list" vs.toArray 0))}) qL hsm rk hsame (λh2 g hg=>hk h2 _ g ?u λb o e=>hg b o (BJ (HL (AR e))) (old b o e)) λp hp hu=>⟨_,rfl,?_⟩
  case u =>
   simp![Around.in1_units]
   lia
  exact AO ⟨_,rfl,fin p hp hu⟩
end
end Lp.Srt
namespace Lp
open PySem PySem.Spec PyProof.Rows L2 Lp.Srt
structure OrdB {R:Type} (lt:R->R->Bool):Prop where
 irr:∀a,lt a a=false
 tr:∀{a b c},lt a b=true->lt b c=true->lt a c=true
 tot:∀{a b},lt a b=false->lt b a=false->a=b
section
variable{R:Type}{lt:R -> R -> Bool}
theorem OrdB.ng(O:OrdB lt){r a b:R}(h1:lt r b=true)(h2:lt a b=false):lt r a=true:=by
 cases e:lt r a with
 |true=>rfl
 |false =>
  cases e2:lt a r with
  |true=>rw[O.tr e2 h1]at h2;cases h2
  |false=>rw[O.tot e e2,h2]at h1;cases h1
theorem OrdB.as(O:OrdB lt){a b:R}(h:lt a b=true):lt b a=false:=by
 cases e:lt b a with
 |false=>rfl
 |true=>have:=O.tr h e;rw[O.irr]at this;cases this
noncomputable def rkG(lt:R->R->Bool)(d:R)(rs:List R)(i:Nat):Nat:=rs.countP λr=>lt r (rs.getD i d)
theorem Qf(O:OrdB lt){d:R}{rs:List R}{i j:Nat}(hi:i<rs.length)(hj:j<rs.length):decide (rkG lt d rs i<rkG lt d rs j)=lt (rs.getD i d) (rs.getD j d):=by
 have mi:rs.getD i d∈rs:=by rw[show rs.getD i d=rs[i]by simp[hi]];exact FB hi
 cases e:lt (rs.getD i d) (rs.getD j d)with
 |true=>exact decide_eq_true (Bf (λx _ h=>O.tr h e) ⟨_,mi,e,O.irr _⟩)
 |false =>
  refine decide_eq_false (JB.mpr ?_)
  exact IQ λx _ h=>O.ng h e
theorem vz(x:R):∀l:List R,(Ss lt x l).Perm (x::l)
 | []=>.refl _
 |y::r=>by
  unfold Ss
  split
  ·exact((vz x r).cons y).trans (.swap x y r)
  ·exact .refl _
theorem jg:∀l:List R,(gb lt l).Perm l
 | []=>.refl _
 |x::r=>(vz x (gb lt r)).trans ((jg r).cons x)
theorem Kf(O:OrdB lt)(x:R):∀l:List R,l.Pairwise (λa b=>lt b a=false)->(Ss lt x l).Pairwise (λa b=>lt b a=false)
 | [],_=>by simp[Ss]
 |y::r,h=>by
  unfold Ss
  have h':=HI.mp h
  split
  ·rename_i hc
   refine HI.mpr ⟨λz hz=>?_,Kf O x r h'.2⟩
   rcases AS.mp ((vz x r).mem_iff.mp hz)with rfl | hz
   ·exact O.as hc
   ·exact h'.1 z hz
  ·rename_i hc
   have hc':lt y x=false:=by simpa using hc
   refine HI.mpr ⟨λz hz=>?_,h⟩
   rcases AS.mp hz with rfl | hz
   ·exact hc'
   ·cases e:lt z x with
    |false=>rfl
    |true=>have:=O.ng e hc';rw[h'.1 z hz]at this;cases this
theorem zx(O:OrdB lt):∀l:List R,(gb lt l).Pairwise (λa b=>lt b a=false)
 | []=>.nil
 |x::r=>Kf O x _ (zx O r)
theorem E9(O:OrdB lt){l r:List R}(hp:l.Perm r)(hu:l.Pairwise (λa b=>lt b a=false)):l=gb lt r :=
 List.Perm.eq_of_pairwise (le:=λa b=>lt b a=false) (λa b _ _ h1 h2=>O.tot h2 h1) hu (zx O r) (hp.trans (jg r).symm)
theorem G4(O:OrdB lt){d:R}{rs:List R}{p:Array Nat}(hp:PP rs.length p)(hu:Up (rkG lt d rs) p rs.length):p.toList.map (λi=>rs.getD i d)=gb lt rs:=by
 refine E9 O ?_ ?_
 ·have:=hp.map λi=>rs.getD i d
  rwa [Lp.Srt.range_getD]at this
 ·rw[GA]
  intro i j hi hj hij
  have hsz:=hp.sz
  simp![AG,CA]at hi hj
  simp![List.getElem_map,Array.getElem_toList]
  have bi:p[i]<rs.length:=by simpa using hp.mem_iff.mp (show p[i]∈p.toList by simp)
  have bj:p[j]<rs.length:=by simpa using hp.mem_iff.mp (show p[j]∈p.toList by simp)
  rw[<-Qf O bj bi]
  refine decide_eq_false (JB.mpr ?_)
  have:=hu i j (by lia) (by lia)
  unfold Ky at this
  simpa[hi,hj]using this
theorem adi:OrdB lexLt:=⟨vw,Eu,zm⟩
theorem Ub{a b:Str}(h:a.cps.toList=b.cps.toList):a=b:=by
 obtain⟨a⟩:=a
 obtain⟨b⟩:=b
 congr 1
 exact If.mp h
theorem aby:OrdB ltN:=by
 refine⟨λa=>by simp[ltN,vw],λ{a b c} h1 h2=>?_,λ{a b} h1 h2=>?_⟩
 ·unfold ltN at h1 h2 ⊢
  by_cases e1:a.1=b.1
  ·rw[if_pos e1]at h1
   by_cases e2:b.1=c.1
   ·rw[if_pos e2]at h2
    rw[if_pos (e1.trans e2)]
    by_cases f1:a.2.1=b.2.1
    ·rw[if_pos f1]at h1
     by_cases f2:b.2.1=c.2.1
     ·rw[if_pos f2]at h2
      rw[if_pos (f1.trans f2)]
      exact Eu h1 h2
     ·rw[if_neg f2]at h2
      rw[if_neg (by rw[f1];exact f2),f1];exact h2
    ·rw[if_neg f1]at h1
     by_cases f2:b.2.1=c.2.1
     ·rw[if_neg (by rw[<-f2];exact f1),<-f2];exact h1
     ·rw[if_neg f2]at h2
      have lt1:=of_decide_eq_true h1
      have lt2:=of_decide_eq_true h2
      have lt3:=List.lt_trans lt1 lt2
      rw[if_neg (λz=>by rw[z]at lt3;exact List.lt_irrefl _ lt3)]
      exact decide_eq_true lt3
   ·rw[if_neg e2]at h2
    rw[if_neg (by rw[e1];exact e2),e1];exact h2
  ·rw[if_neg e1]at h1
   by_cases e2:b.1=c.1
   ·rw[if_neg (by rw[<-e2];exact e1),<-e2];exact h1
   ·rw[if_neg e2]at h2
    have:=Eu h1 h2
    rw[if_neg (λz=>by rw[z,vw]at this;cases this)]
    exact this
 ·unfold ltN at h1 h2
  by_cases e1:a.1=b.1
  ·rw[if_pos e1]at h1
   rw[if_pos e1.symm]at h2
   by_cases f1:a.2.1=b.2.1
   ·rw[if_pos f1]at h1
    rw[if_pos f1.symm]at h2
    exact Prod.ext e1 (Prod.ext f1 (zm h1 h2))
   ·rw[if_neg f1]at h1
    rw[if_neg (Ne.symm f1)]at h2
    have n1:=of_decide_eq_false h1
    have n2:=of_decide_eq_false h2
    exact absurd (Ub (List.le_antisymm n2 n1)) f1
  ·rw[if_neg e1]at h1
   rw[if_neg (Ne.symm e1)]at h2
   exact absurd (zm h1 h2) e1
end
section
variable{X:Cx}{φ:Phi}{pos:Pos}{ι:List Addr}{H:Hp}
theorem uv{K:PySem.W.Frag}:∀(k:Nat) (d:D) (v:V),D.pureN k d=true->IsD K ι H d v->IsW K H d v:=by
 intro k
 induction k with
 |zero=>intro d v hp hd;cases d<;>first | (simpa[IsD,IsW]using hd) | (simp[D.pureN]at hp)
 |succ k ih =>
  have all:∀(ds:List D) (xs:List V),ds.all (D.pureN k)=true->ak K ι H ds xs->mz K H ds xs:=by
   intro ds
   induction ds with
   |nil=>intro xs _ h;simpa[ak,mz]using h
   |cons d ds ih2 =>
    intro xs hp h
    rw[BF,AW]at hp
    simp![ak]at h
    obtain⟨v,r,rfl,q,t⟩:=h
    simp![mz]
    exact⟨v,r,rfl,ih d v hp.1 q,ih2 r hp.2 t⟩
  intro d v hp hd
  cases d with
  |tup ds =>
   obtain⟨a,xs,rfl,hq,hds⟩:=gg hd
   simp![IsW]
   exact⟨a,xs,rfl,hq,all ds xs hp hds⟩
  |lst ds =>
   obtain⟨a,xs,rfl,hq,hds⟩:∃a xs,v=.ref a/\FzL K H a xs/\ak K ι H ds xs:=by simpa[IsD]using hd
   simp![IsW]
   exact⟨a,xs,rfl,.inr hq,all ds xs hp hds⟩
  |loc n=>simp[D.pureN]at hp
  |_=>simpa[IsD,IsW]using hd
theorem Fb {R:Type} {lt:R->R->Bool} {enc:R->D} {dft:R} {m:Mk} {pins:List (Addr×Obj)} {s:Shared} {σ:St} {μ:Sto} {a:Addr} {vV:List V} {its:List Value} {rs:List R} {Q:VK} (O:OrdB lt) (hpu:∀r,D.pureN 4 (enc r)=true) (hin:∀r r',deq (enc r) (enc r')=true->r=r') (I:Inv X pins σ H s) (hS:Sim X.K ι H μ)
  (hz:ak X.K ι H (rs.map enc) vV) (rv:c9 vV its) (pl:s.heap.IsList a its.toArray) (hl:rs.length<=1000)
  (hk:2<=rs.length->∀(A':Around) (g:Heap),A'.units<=X.A.units+8->Inv X pins σ H {s with heap:=g}->∃κ:SortKind,(∀(Q:SortKind->Shared->Prop) (E':Value->Shared->Prop),Q κ {s with heap:=g}->wpAny (model X.prog X.w) A' (keyKind' its.toArray) Q E' {s with heap:=g}) /\
   ∀(i j:Nat) (C:Bool->Shared->Prop),i<rs.length->j<rs.length->C (lt (rs.getD i dft) (rs.getD j dft)) {s with heap:=g}->wpAny (model X.prog X.w) A' (keyLt' κ (its.getD i Value.none) (its.getD j Value.none)) C (λ_ _=>False) {s with heap:=g})
  (h:ij X.K (RD X.K) ι H (mkL m ((gb lt rs).map enc) μ) Q):wpAny (model X.prog X.w) X.A (call (.builtin "sorted") [.ref a]) (EP X pins σ Q) X.xe s:=by
 have l1:vV.length=rs.length:=by rw[hz.length,AG]
 have l2:its.length=rs.length:=by rw[<-rv.length];exact l1
 have e3:∀i,i<rs.length->(rs.map enc).getD i .non=enc (rs.getD i dft):=λi hi=>by simp[hi]
 have hd:∀i,i<rs.length->IsD X.K ι H (enc (rs.getD i dft)) (vV.getD i .non):=λi hi=>by
  have:=J1 hz (i:=i) (by rw[AG];exact hi)
  rwa [e3 i hi]at this
 have hv:∀i,i<rs.length->RelV (vV.getD i .non) (its.getD i Value.none):=λi hi=>oz rv i (by lia)
 have small:(1000:Nat)<=sizeLine:=by rw[GG];decide
 refine G3 pl (by lia) (rkG lt dft rs) (λi j hi hj e=>?_) (λh2 A' g hA hg=>?_) λp hp hu'=>Jd ?_
 ·have ev:vV.getD i .non=vV.getD j .non:=(hv i (by lia)).inj (by rw[e];exact hv j (by lia))
  have w1:=uv 4 _ _ (hpu _) (hd i (by lia))
  have w2:=uv 4 _ _ (hpu _) (hd j (by lia))
  rw[ev]at w1
  have:rs.getD i dft=rs.getD j dft:=hin _ _ (vk 4 _ _ _ (hpu _) (hpu _) w1 w2 I)
  unfold rkG
  rw[this]
 ·have I':Inv X pins σ H {s with heap:=g}:=I.call' (s':={s with heap:=g}) (ch:=[]) rfl (Un.kept hg) (I.hok.kept hg) I.bare (λb z=>absurd z (by simp))
  obtain⟨κ,k1,k2⟩:=hk (by lia) A' g hA I'
  refine⟨κ,k1,λi j C hi hj hC=>k2 i j C (by lia) (by lia) ?_⟩
  rwa [Qf O (by lia) (by lia)]at hC
 ·rw[l2]at hp hu'
  obtain⟨e',he⟩:=sortedAll_at s.heap its (List.toArray (p.toList.map λi=>its.getD i Value.none))
  have mem:∀i∈p.toList,i<rs.length:=λi hi=>by simpa using hp.mem_iff.mp hi
  have hd':ak X.K ι H ((gb lt rs).map enc) (p.toList.map λi=>vV.getD i .non):=by
   rw[<-G4 O hp hu',BB]
   exact Ew λi hi=>hd i (mem i hi)
  have hv2:c9 (p.toList.map λi=>vV.getD i .non) (p.toList.map λi=>its.getD i Value.none):=Ey λi hi=>hv i (mem i hi)
  exact⟨.ref (s.heap.objs.size+1),upd H (s.heap.objs.size+1) (.lst (p.toList.map λi=>vV.getD i .non)),I.laid (t':=s.toks) (λb u e=>sortedAll_old e) (Nat.le_succ _) ⟨by rw[AG,CA,hp.sz];lia,_,e',hv2,he⟩,rfl,qp hS hd' h (I.hok.fresh (Nat.le_succ _))⟩
theorem deqs_ints:∀(x y:List Int),pj (x.map D.int) (y.map D.int)=true->x=y
 | [],[],_=>rfl
 | [],_::_,h=>by simp[pj]at h
 |_::_,[],h=>by simp[pj]at h
 |a::x,b::y,h=>by
  simp![AF,pj,deq,AW,decide_eq_true_eq]at h
  rw[h.1,deqs_ints x y h.2]
theorem deqs_self:∀(x:List Int),pj (x.map D.int) (x.map D.int)=true
 | []=>rfl
 |a::x=>by simp[pj,deq,deqs_self x]
theorem zy(x y:List Int):pj (x.map D.int) (y.map D.int)=decide (x=y):=by
 by_cases h:x=y
 ·subst h;rw[deqs_self];simp
 ·rw[decide_eq_false h]
  cases e:pj (x.map D.int) (y.map D.int)with
  |false=>rfl
  |true=>exact absurd (deqs_ints x y e) h
theorem all_int(k:Nat)(x:List Int):(x.map D.int).all (D.pureN k)=true:=by
 rw[AL]
 intro d hd
 obtain⟨i,_,rfl⟩:=BW.mp hd
 cases k<;>rfl
theorem rn(k:Nat)(x:List Int):D.pureN (k+1) (.tup (x.map D.int))=true:=all_int k x
theorem De(t:Str)(y:List Int):D.pureN 3 (.tup (.str t::y.map D.int))=true:=by
 show(true&&(y.map D.int).all (D.pureN 2))=true
 rw[all_int];rfl
theorem Of(x:NR):D.pureN 4 (gf x)=true:=by
 show(D.pureN 3 (.tup (x.1.map D.int))&&(D.pureN 3 (.tup (.str x.2.1::x.2.2.map D.int))&&true))=true
 rw[rn 2 x.1]
 show(true&&((true&&(x.2.2.map D.int).all (D.pureN 2))&&true))=true
 rw[all_int 2 x.2.2];rfl
theorem Uc(x y:NR)(h:deq (gf x) (gf y)=true):x=y:=by
 obtain⟨x1,x2,x3⟩:=x
 obtain⟨y1,y2,y3⟩:=y
 simp![gf,deq,pj,AW,decide_eq_true_eq,and_true]at h
 obtain⟨h1,h2,h3⟩:=h
 rw[deqs_ints _ _ h1,h2,deqs_ints _ _ h3]
theorem G5{m:Mk}(hu:X.A.units+64<cLine):gk X (.builtin "sorted") (xu X.K (btD .sortedT m)):=by
 intro pins s σ H xs us Q I r ⟨ι,ds,μ,hS,hds,h⟩
 obtain⟨d,v,rfl,hv,h⟩:=nq hds h
 unfold Eh at h
 cases el:Lp.listOf μ d with
 |none=>rw[el]at h;exact h.elim
 |some zs =>
 rw[el]at h
 cases er:rowsOf zs with
 |none=>rw[Da,er]at h;exact h.elim
 |some rs =>
 rw[Da,er]at h
 simp only at h
 split at h
 ·rename_i hc
  obtain⟨a,vV,rfl,hq,hz⟩:=k8 hS hv el
  obtain⟨u,rfl,ru⟩:=vals1 r
  cases(show u=Value.ref a from ru)
  obtain⟨its,rv,pl,hlen⟩:=I.list hq.sq
  have ez:=Bg er
  subst ez
  have l1:vV.length=rs.length:=by rw[hz.length,AG]
  have l2:its.length=rs.length:=by rw[<-rv.length];exact l1
  refine Fb (enc:=λr=>D.tup (r.map D.int)) (dft:=[]) adi (λr=>rn 3 r) (λr r' e=>deqs_ints r r' (by simpa only[deq]using e)) I hS hz rv pl.isList hc.1 (λh2 A' g hA I'=>⟨tuples' true,λQ' E' q=>?_,λi j C hi hj hC=>?_⟩) h
  ·obtain⟨fs,f1,f2,f3⟩:=Bh (zp I' hc.2 hz rv)
   exact PySem.W.kat_kind (s:={s with heap:=g}) (T:=.type "int") f1 (by lia) (λv hv=>by obtain⟨i,t,rfl⟩:=f3 v hv;exact PySem.W.Looks.of_pure rfl) (by decide) q
  ·obtain⟨_,a1,i1,e1,⟨o1,g1,_,n1,d1⟩,v1⟩:=oz (d:=[]) (e:=Value.none) (zp I' hc.2 hz rv) i hi
   obtain⟨_,a2,i2,e2,⟨o2,g2,_,n2,d2⟩,v2⟩:=oz (d:=[]) (e:=Value.none) (zp I' hc.2 hz rv) j hj
   rw[e1,e2]
   refine PySem.W.kat_lt (s:={s with heap:=g}) g1 d1 g2 d2 ?_
   have z1:=v1.length
   have z2:=v2.length
   rw[AG]at z1 z2
   exact J0 _ _ i1 i2 0 v1 v2 (by simp![AJ,z1,z2]) hC
 ·exact h.elim
theorem Fc:∀{xs:List D} {rs:List NR},y4 xs=some rs->xs=rs.map gf
 | [],rs,h=>by simp[y4]at h;subst h;rfl
 |x::r,rs,h=>by
  unfold y4 at h
  split at h
  ·rename_i hx;cases hx
  ·rename_i ds t es r' hx
   injection hx with hx hr
   subst hx hr
   cases e1:fg ds with
   |none=>rw[e1]at h;cases h
   |some x =>
   cases e2:fg es with
   |none=>rw[e1,e2]at h;cases h
   |some y =>
   cases e3:y4 r with
   |none=>rw[e1,e2,e3]at h;cases h
   |some q =>
    rw[e1,e2,e3]at h
    simp![Da,DV,BX]at h
    subst h
    rw[AF,<-Fc e3,<-uq e1,<-uq e2]
  ·cases h
theorem tq{A:Around}{s:Shared}:∀(x y:List Int) (us vs:List Value),c9 (x.map V.int) us->c9 (y.map V.int) vs->LT.Kd A s us vs (lexLt x y)
 | [],[],us,vs,h1,h2=>by cases h1;cases h2;rfl
 | [],_::_,us,vs,h1,h2=>by cases h1;cases h2;rfl
 |_::_,[],us,vs,h1,h2=>by cases h1;cases h2;rfl
 |a::x,c::y,us,vs,h1,h2=>by
  rw[AF]at h1 h2
  cases h1 with
  |cons a1 b1 =>
   cases h2 with
   |cons a2 b2 =>
    obtain⟨t1,rfl⟩:=a1
    obtain⟨t2,rfl⟩:=a2
    obtain⟨same,eq0,eqi⟩:=HT.uk A s a t1 c t2
    refine⟨same,eq0,λe=>?_,λe=>?_⟩
    ·have:=eqi.mp e
     subst this
     have:lexLt (a::x) (a::y)=lexLt x y:=by simp[lexLt]
     rw[this]
     exact tq x y _ _ b1 b2
    ·have hne:¬a=c:=λq=>by rw[eqi.mpr q]at e;cases e
     have:lexLt (a::x) (c::y)=decide (a<c):=by simp[lexLt,hne]
     rw[this]
     exact LT.Od
theorem G6{m:Mk}(hu:X.A.units+64<cLine):gk X (.builtin "sorted") (xu X.K (btD .sortedN m)):=by
 intro pins s σ H xs us Q I r ⟨ι,ds,μ,hS,hds,h⟩
 obtain⟨d,v,rfl,hv,h⟩:=nq hds h
 unfold Jb at h
 cases el:Lp.listOf μ d with
 |none=>rw[el]at h;exact h.elim
 |some zs =>
 rw[el]at h
 cases er:y4 zs with
 |none=>rw[Da,er]at h;exact h.elim
 |some rs =>
 rw[Da,er]at h
 simp only at h
 split at h
 ·rename_i hc
  obtain⟨a,vV,rfl,hq,hz⟩:=k8 hS hv el
  obtain⟨u,rfl,ru⟩:=vals1 r
  cases(show u=Value.ref a from ru)
  obtain⟨its,rv,pl,hlen⟩:=I.list hq.sq
  have ez:=Fc er
  subst ez
  have l1:vV.length=rs.length:=by rw[hz.length,AG]
  have l2:its.length=rs.length:=by rw[<-rv.length];exact l1
  -- a row in the heap
  have row:∀{g:Heap},Inv X pins σ H {s with heap:=g}->∀i,i<rs.length->∃a1 b1 c1 w1 w2 js ks t,its.getD i Value.none=.ref a1/\IsTup g a1 #[.ref b1,.ref c1]/\IsTup g b1 (List.toArray js)/\IsTup g c1 (List.toArray (.str (rs.getD i ([],default,[])).2.1 t::ks))/\c9 ((rs.getD i ([],default,[])).1.map V.int) js/\c9 ((rs.getD i ([],default,[])).2.2.map V.int) ks /\
    IsW X.K H (.tup ((rs.getD i ([],default,[])).1.map D.int)) w1/\RelV w1 (.ref b1)/\IsW X.K H (.tup (.str (rs.getD i ([],default,[])).2.1::(rs.getD i ([],default,[])).2.2.map D.int)) w2/\RelV w2 (.ref c1):=λ{g} I' i hi=>by
   have hd:=J1 hz (i:=i) (by rw[AG];exact hi)
   rw[show(rs.map gf).getD i .non=gf (rs.getD i ([],default,[]))by simp[hi]]at hd
   have hr:RelV (vV.getD i .non) (its.getD i Value.none):=oz rv i (by lia)
   obtain⟨a1,xs,e1,q1,d1⟩:=gg hd
   rw[e1]at hr
   have hr':its.getD i Value.none=.ref a1:=hr
   simp![ak]at d1
   obtain⟨v1,_,rfl,d2,v2,_,rfl,d3,rfl⟩:=d1
   obtain⟨is1,r1,t1,_⟩:=I'.tuple q1
   cases r1 with
   |cons ra rb =>
   cases rb with
   |cons rb rc =>
   cases rc
   obtain⟨b1,ys,e2,q2,d2'⟩:=gg d2
   obtain⟨c1,zs,e3,q3,d3'⟩:=gg d3
   subst e2 e3
   cases(show _=Value.ref b1 from ra)
   cases(show _=Value.ref c1 from rb)
   obtain⟨js,r2,t2,_⟩:=I'.tuple q2
   obtain⟨ks,r3,t3,_⟩:=I'.tuple q3
   have ey:ys=(rs.getD i ([],default,[])).1.map V.int:=ints_of d2' (zo _)
   simp![ak]at d3'
   obtain⟨v3,zs',rfl,d4,d5⟩:=d3'
   have ez:zs'=(rs.getD i ([],default,[])).2.2.map V.int:=ints_of d5 (zo _)
   have e4:v3=.str (rs.getD i ([],default,[])).2.1:=by simpa[IsD]using d4
   subst ey ez e4
   cases r3 with
   |cons rs1 rs2 =>
   obtain⟨t,rfl⟩:=rs1
   exact⟨a1,b1,c1,_,_,js,_,t,hr',t1,t2,t3,r2,rs2,uv 3 _ _ (rn 2 _) d2,rfl,uv 3 _ _ (De _ _) d3,rfl⟩
  refine Fb (enc:=gf) (dft:=([],default,[])) aby Of Uc I hS hz rv pl.isList hc (λh2 A' g hA I'=>⟨tuples' false,λQ' E' q=>?_,λi j C hi hj hC=>?_⟩) h
  ·have ft:∀(us:List Value),(∀u∈us,∃a1 b1 c1,u=Value.ref a1/\IsTup g a1 #[.ref b1,.ref c1]/\∃js,IsTup g b1 js)->∃fs,PySem.W.KatTups g us fs/\fs.length=us.length/\∀v∈fs,∃b1 js,v=.ref b1/\IsTup g b1 js:=by
    intro us
    induction us with
    |nil=>exact λ_=>⟨[],.nil,rfl,by simp⟩
    |cons u us ih =>
     intro hh
     obtain⟨fs,f1,f2,f3⟩:=ih λu hu=>hh u (AU _ hu)
     obtain⟨a1,b1,c1,rfl,⟨o,o1,o2,n,o3⟩,js,hj⟩:=hh u BI
     refine⟨.ref b1::fs,.cons o1 o2 o3 rfl f1,by simp[f2],λv hv=>?_⟩
     rcases AS.mp hv with rfl | hv
     ·exact⟨b1,js,rfl,hj⟩
     ·exact f3 v hv
   obtain⟨fs,f1,f2,f3⟩:=ft its λu hu=>by
    obtain⟨i,hi,rfl⟩:=DA.mp hu
    obtain⟨a1,b1,c1,_,_,js,ks,t,e,t1,t2,_⟩:=row I' i (by lia)
    refine⟨a1,b1,c1,?_,t1,_,t2⟩
    rw[<-e];simp[hi]
   exact PySem.W.kat_kind (s:={s with heap:=g}) (T:=.type "tuple") f1 (by lia) (λv hv=>by
    obtain⟨b1,js,rfl,o,o1,o2,_⟩:=f3 v hv
    exact λA Q E s k q=>IC ⟨o,k _ _ o1,o2⟩ q) (by decide) q
  ·obtain⟨a1,b1,c1,w1,w2,js,ks,t,e1,⟨o1,g1,_,n1,d1⟩,t2,t3,r2,r3,m1,m2,m3,m4⟩:=row I' i hi
   obtain⟨a1',b1',c1',w1',w2',js',ks',t',e1',⟨o1',g1',_,n1',d1'⟩,t2',t3',r2',r3',m1',m2',m3',m4'⟩:=row I' j hj
   rw[e1,e1']
   generalize rs.getD i ([],default,[])=p at *
   generalize rs.getD j ([],default,[])=p' at *
   obtain⟨p1,p2,p3⟩:=p
   obtain⟨p1',p2',p3'⟩:=p'
   dsimp only at *
   refine PySem.W.kat_lt (s:={s with heap:=g}) g1 d1 g1' d1' ?_
   have q1:=Jm I' 3 A' _ _ _ _ _ _ (by lia) (rn 2 _) (rn 2 _) m1 m1' m2 m2'
   have q2:=Jm I' 3 A' _ _ _ _ _ _ (by lia) (De _ _) (De _ _) m3 m3' m4 m4'
   simp![deq,zy]at q1
   refine HX (q1 _ _ _ _ (IS (λe=>IJ ?_) λe=>IT ?_))
   ·have e':p1=p1':=by simpa using e
    subst e'
    refine HX (q2 _ _ _ _ (IS (λf=>IJ ?_) λf=>IT ?_))
    ·have f':p2=p2'/\p3=p3':=by
      simp![deq,pj,zy,AW,decide_eq_true_eq]at f
      exact f
     rw[f'.1,f'.2,aby.irr]at hC
     exact PySem.W.kat_nil hC
    ·have f':¬(p2=p2'/\p3=p3'):=by
      simp![deq,pj,zy,Bool.and_eq_false_iff,decide_eq_false_iff_not]at f
      exact λz=>f.elim (λy=>y z.1) λy=>y z.2
     have hlt:LT.Vb A' {s with heap:=g} (.ref c1) (.ref c1') (ltN (p1,p2,p3) (p1,p2',p3')):=LT.E7 t3 t3' (by lia) λA2 hA2=>by
      have q3:=Jm I' 0 A2 (.str p2) (.str p2') (.str p2) (.str p2') (.str p2 t) (.str p2' t') (by lia) rfl rfl (by simp[IsW]) (by simp[IsW]) ⟨t,rfl⟩ ⟨t',rfl⟩
      refine⟨_,q3,λz=>?_,λz=>?_⟩
      ·have z':p2=p2':=by simpa[deq]using z
       have:ltN (p1,p2,p3) (p1,p2',p3')=lexLt p3 p3':=by simp[ltN,z']
       rw[this]
       exact tq _ _ _ _ r3 r3'
      ·have z':¬p2=p2':=by simpa[deq]using z
       have:ltN (p1,p2,p3) (p1,p2',p3')=decide (p2.cps.toList<p2'.cps.toList):=by simp[ltN,z']
       rw[this]
       exact LT.Oe
     refine IK _ _ (hlt _ _ _ _ ?_)
     exact hC
   ·have e':¬p1=p1':=by simpa using e
    have hlt:LT.Vb A' {s with heap:=g} (.ref b1) (.ref b1') (lexLt p1 p1'):=LT.E7 t2 t2' (by lia) λA2 hA2=>tq _ _ _ _ r2 r2'
    have:ltN (p1,p2,p3) (p1',p2',p3')=lexLt p1 p1':=by simp[ltN,e']
    rw[this]at hC
    exact IK _ _ (hlt _ _ _ _ hC)
 ·exact h.elim
theorem Bk{m:Mk}{p:Pos}{e:Expr}{es:List Expr}{xs:Exs}(hu:X.A.units+64<cLine)(hm:X.mg "sorted"=none)(ha:PA X (e::es) (tEs X.K φ xs))(hg:Gl X "sorted":=by rfl)(he:starEach (e::es) X.env=(false,eval e X.env)::starEach es X.env:=by rfl)(hpl:(backTo pos (starEach es X.env)).any (·.1)=false:=by rfl) :
  PE X (.Call (.Name "sorted" p) (e::es) [] pos) (tE X.K φ (.blt .sortedT m xs)):=nr (r:=λ_ _ _=>True) (es:=es) (nc (G5 hu) hg hm (by first | exact HQ | decide +kernel) ha (by decide) (by decide) he hpl)
theorem Kg{m:Mk}{p:Pos}{e:Expr}{es:List Expr}{xs:Exs}(hu:X.A.units+64<cLine)(hm:X.mg "sorted"=none)(ha:PA X (e::es) (tEs X.K φ xs))(hg:Gl X "sorted":=by rfl)(he:starEach (e::es) X.env=(false,eval e X.env)::starEach es X.env:=by rfl)(hpl:(backTo pos (starEach es X.env)).any (·.1)=false:=by rfl) :
  PE X (.Call (.Name "sorted" p) (e::es) [] pos) (tE X.K φ (.blt .sortedN m xs)):=nr (r:=λ_ _ _=>True) (es:=es) (nc (G6 hu) hg hm (by first | exact HQ | decide +kernel) ha (by decide) (by decide) he hpl)
end
noncomputable def p9(l:List (Str×Int))(mg:Str->Option Value):Prop:=∀(j:Nat) x,l[j]? = some x->∃t,mg x.1=some (.int x.2 t)
theorem Bl{X:Cx}{φ:Phi}{x:Str}{i:Int}{pos:Pos}(hc:∃t,X.mg x=some (.int i t))(hg:Gl X x:=by rfl)(hd:(x==("__debug__":Str))=false:=by decide):PE X (.Name x pos) (tE X.K φ (.cst (.int i))):=by
 obtain⟨t,hm⟩:=hc
 exact PE.imp (Rx (v:=.int i) hg hm ⟨t,rfl⟩ hd) λσv H Q ⟨ι,σ,μ,hS,hL,h⟩=>by simp![evE]at h;exact h.ok hS (by simp[IsD])
section
variable{X:Cx}{φ:Phi}{o e f:Expr}{xo xf:Ex}{pos apos cpos:Pos}
theorem abz{es:List Expr}{xs:Exs}{k:Nat}{tp:Pos}(hu:X.A.units+64<cLine)(ho:PE X o (tE X.K φ xo))(hi:PA X es (tEs X.K φ xs))(hl:xs.len<=1000:=by decide)(hs:Wb (.Tuple es k tp):=by intro _ _;rfl) :
  PE X (.Subscript o (.Tuple es k tp) pos) (tE X.K φ (.ixT xo xs)) :=
 PE.imp (Sh (by lia) ho (Ed hi) hs) λσv H Q ⟨ι,σ,μ,hS,hL,h⟩=>by
  simp![evE]at h
  obtain⟨d,μ1,e1,h⟩:=h.bind
  refine⟨ι,σ,μ,hS,hL,?_⟩
  rw[e1]
  intro ι1 x H1 p1 x1 s1 d1
  obtain⟨ks,μ2,e2,h⟩:=h.bind
  refine⟨ι1,σ,μ1,s1,hL.mono p1 x1,?_⟩
  rw[e2]
  intro ι2 vs H2 p2 x2 s2 d2
  have d2':ak X.K ι2 H2 ks vs:=d2
  refine⟨by rw[d2'.length,pk e2];exact CP (oq hl),λp hp=>?_⟩
  simp![Ny]at h
  cases ed:ip μ2 d ks with
  |none=>simp![ed]at h;exact h.elim
  |some kvs =>
   simp![ed]at h
   have x3:Ext H2 (upd H2 p (.tup vs)):=Ext.new hp
   have s3:=s2.new (o:=.tup vs) hp
   obtain⟨n,q,kk,xs',rfl,hn,rfl,rfl,rfl,hq,hk⟩:=zj s3 (IsD.mono (AE _) x3 _ _ (IsD.mono p2 x2 _ _ d1)) (ak.mono (AE _) x3 _ _ d2') ed
   have hv:=rj (k:=kk) hk
   rw[show kDT kk=.tup (kk.map kD)from rfl]at hv
   cases eg:xp (.tup (kk.map kD)) kvs with
   |none=>simp![eg]at h;exact h.elim
   |some v =>
    simp![eg]at h
    rw[eg]at hv
    cases ev:yc xs' kk with
    |none=>rw[ev]at hv;exact hv.elim
    |some w =>
     rw[ev]at hv
     exact⟨q,w,rfl,.inr ⟨xs',kk,p,.inl hq,rfl,bg,ev.symm⟩,h ι2 w _ (p1.trans p2) ((x1.trans x2).trans x3) s3 (IsD.mono CU (.refl _) _ _ hv)⟩
theorem Qg{es:List Expr}{xs:Exs}{k:Nat}{tp:Pos}(hu:X.A.units+64<cLine)(ho:PE X o (tE X.K φ xo))(hi:PA X es (tEs X.K φ xs))(hf:PE X f (tE X.K φ xf))(hl:xs.len<=1000:=by decide)(m:M2 X o "get" apos (.Tuple es k tp) f cpos:=by exact⟨rfl,rfl,rfl,rfl⟩) :
  PE X (.Call (.Attribute o "get" apos) [.Tuple es k tp,f] [] cpos) (tE X.K φ (.getT xo xs xf)):=by
 refine PE.imp (Eg (by lia) ho (Ed hi) hf m) λσv H Q ⟨ι,σ,μ,hS,hL,h⟩=>?_
 simp![evE]at h
 obtain⟨d,μ1,e1,h⟩:=h.bind
 refine⟨ι,σ,μ,hS,hL,?_⟩
 rw[e1]
 intro ι1 x H1 p1 x1 s1 d1
 cases d with
 |loc n =>
  obtain⟨a,rfl,hn⟩:∃a,x=.ref a/\ι1[n]? = some a:=by simpa[Lp.IsD]using d1
  cases em:μ1[n]? with
  |none=>simp[Nz,em,ij]at h
  |some ob =>
   cases ob with
   |dt kvs =>
    simp![Nz,em,if_true]at h
    obtain⟨a',q',kx,hk1,hk2⟩:=s1.at em
    rw[hn]at q';cases q'
    obtain⟨ks,μ2,e2,h⟩:=h.bind
    refine⟨a,rfl,.inr ⟨_,.inl hk1⟩,ι1,σ,μ1,s1,hL.mono p1 x1,?_⟩
    rw[e2]
    intro ι2 vs H2 p2 x2 s2 d2
    have d2':ak X.K ι2 H2 ks vs:=d2
    refine⟨by rw[d2'.length,pk e2];exact CP (oq hl),λp hp=>?_⟩
    have x3:Ext H2 (upd H2 p (.tup vs)):=Ext.new hp
    have s3:=s2.new (o:=.tup vs) hp
    obtain⟨z,μ3,e3,h⟩:=h.bind
    refine⟨ι2,σ,μ2,s3,((hL.mono p1 x1).mono p2 x2).mono (AE _) x3,?_⟩
    rw[e3]
    intro ι4 zv H4 p4 x4 s4 d4
    simp![A6]at h
    cases ed:ip μ3 (.loc n) ks with
    |none=>simp![ed]at h;exact h.elim
    |some kvs3 =>
     simp![ed]at h
     obtain⟨n',q,kk,xs',en,hn',eq,rfl,rfl,hq,hk⟩:=zj s4 (IsD.mono p4 x4 _ _ (IsD.mono (AE _) x3 _ _ (IsD.mono p2 x2 _ _ d1))) (ak.mono p4 x4 _ _ (ak.mono (AE _) x3 _ _ d2')) ed
     cases eq
     have hv:=rj (k:=kk) hk
     rw[show kDT kk=.tup (kk.map kD)from rfl]at hv
     have hr:IsD X.K ι4 H4 ((xp (.tup (kk.map kD)) kvs3).getD z) ((yc xs' kk).getD zv):=by
      cases eg:xp (.tup (kk.map kD)) kvs3 with
      |none =>
       rw[eg]at hv
       cases ev:yc xs' kk with
       |none=>exact d4
       |some w=>rw[ev]at hv;exact hv.elim
      |some v =>
       rw[eg]at hv
       cases ev:yc xs' kk with
       |none=>rw[ev]at hv;exact hv.elim
       |some w=>rw[ev]at hv;exact IsD.mono CU (.refl _) _ _ hv
     exact⟨_,.inr ⟨xs',kk,p,.inl hq,rfl,x4.tups _ _ bg,rfl⟩,h ι4 _ H4 ((p1.trans p2).trans p4) (((x1.trans x2).trans x3).trans x4) s4 hr⟩
   |_=>simp[Nz,em,ij]at h
 |_=>simp[Nz,ij]at h
noncomputable def Xu(K:PySem.W.Frag)(td ty:TE):TE:=λσ H Q=>td σ H λx H1=>ty σ H1 λy H2=>∃a b kvs k v,x=.ref a/\y=.ref b/\H2 a=some (.dT kvs)/\SqT K H2 b (k.map kV)/\yc kvs k=some v/\Q v H2
theorem Og{i:Expr}{td ty:TE}(hu:X.A.units+1<cLine)(ho:PE X o td)(hi:PE X i ty)(hs:Wb i):PE X (.Subscript o i pos) (Xu X.K td ty):=by
 intro pins s σ H Q I h
 refine Iz HJ.lookup hs (thn (ho pins s σ H _ I h) λu s1 ⟨x,H1,I1,rx,q1⟩=>thn (hi pins s1 σ H1 _ I1 q1) λiv s2 ⟨y,H2,I2,ry,a,b,kvs,k,v,ex,ey,e,hb,l,q2⟩=>?_)
 subst ex ey
 obtain rfl:u=Value.ref a:=rx
 obtain rfl:iv=Value.ref b:=ry
 obtain⟨z,hd,xs,rel,dd⟩:=Az I2.hok (.inl e)
 refine⟨dd.typeIs,?_⟩
 obtain⟨w',hw,rw'⟩:=Gh.some_of (v:=v) (o:=(atKey xs k).map (·.2)) (by rw[<-l];exact rel.val k)
 obtain⟨p,hp,hp2⟩:=GK.mp hw
 obtain⟨its,rv,⟨o',g1,g2,n,g3⟩,_⟩:=I2.tuple hb
 refine wpAny_getItem_heap (EJ hu) ⟨o',its.toArray,n,g1,g2,g3,by simpa using vd rv⟩ dd hp ?_
 rw[hp2]
 exact⟨v,H2,I2.tok _,rw',q2⟩
theorem ab0{i:Expr}{xi:Ex}(hu:X.A.units+64<cLine)(ho:PE X o (tE X.K φ xo))(hi:PE X i (tE X.K φ xi))(hs:Wb i:=by intro _ _;rfl) :
  PE X (.Subscript o i pos) (tE X.K φ (.ixV xo xi)) :=
 PE.imp (Og (by lia) ho hi hs) λσv H Q ⟨ι,σ,μ,hS,hL,h⟩=>by
  simp![evE]at h
  obtain⟨d,μ1,e1,h⟩:=h.bind
  refine⟨ι,σ,μ,hS,hL,?_⟩
  rw[e1]
  intro ι1 x H1 p1 x1 s1 d1
  obtain⟨ky,μ2,e2,h⟩:=h.bind
  refine⟨ι1,σ,μ1,s1,hL.mono p1 x1,?_⟩
  rw[e2]
  intro ι2 y H2 p2 x2 s2 d2
  cases ky with
  |tup ks =>
   obtain⟨b,ys,rfl,hb,hys⟩:=gg d2
   simp![Sw,Ny]at h
   cases ed:ip μ2 d ks with
   |none=>simp![ed]at h;exact h.elim
   |some kvs =>
    simp![ed]at h
    obtain⟨n,q,kk,xs',rfl,hn,rfl,rfl,rfl,hq,hk⟩:=zj s2 (IsD.mono p2 x2 _ _ d1) hys ed
    have hv:=rj (k:=kk) hk
    rw[show kDT kk=.tup (kk.map kD)from rfl]at hv
    cases eg:xp (.tup (kk.map kD)) kvs with
    |none=>simp![eg]at h;exact h.elim
    |some v =>
     simp![eg]at h
     rw[eg]at hv
     cases ev:yc xs' kk with
     |none=>rw[ev]at hv;exact hv.elim
     |some w =>
      rw[ev]at hv
      exact⟨q,b,xs',kk,w,rfl,rfl,hq,hb,ev,h ι2 w _ (p1.trans p2) (x1.trans x2) s2 (IsD.mono CU (.refl _) _ _ hv)⟩
  |_=>simp[Sw,ij]at h
end
end Lp
namespace L2
open PySem PySem.Spec PyProof.Rows
section
variable{X:Cx}{tg:Expr}
theorem wa{lo:Int}(h:-1<=lo):Builtin.Range.rangeSize lo (-1) (-1)=(((lo+1).toNat:Nat):Int):=by
 unfold Builtin.Range.rangeSize
 rw[if_neg (by lia)]
 split
 ·rw[show -(-1:Int)=1 from rfl,Int.ediv_one];lia
 ·lia
theorem Ud{lo:Int}(h1:-1<=lo)(h2:lo<2 ^ 32):Builtin.Range.small lo (-1) (-1)=true:=by
 unfold Builtin.Range.small
 have e:=wa h1
 simp![Builtin.Range.rangeFitsLong,AW,Bool.or_eq_true,decide_eq_true_eq,beq_iff_eq,e]
 simp
 lia
noncomputable def ab1(ta:TA):TI:=λσ H R=>ta σ H λvs H1=>∃i j c:Int,vs=[.int i,.int j,.int c]/\(-1<=i/\i<2 ^ 32/\j = -1/\c = -1)/\R (Va i c (i+1).toNat) H1
theorem Kh {pins:List (Addr×Obj)} {σ:St} {H:Hp} {s:Shared} {R:It->Hp->Prop} {E:Value->Shared->Prop} {lo hi c:Int} {t u v:Tok} {tk:Nat} (I:Inv X pins σ H s) (hh:-1<=lo/\lo<2 ^ 32/\hi = -1/\c = -1)
  (q:R (Va lo c ((lo+1).toNat)) H):wpAny (model X.prog X.w) X.A (pyIter (.ref s.heap.objs.size)) (PIE X pins σ tg R) E {s with heap:=s.heap.push {cls:=.type "range",data:=.fields #[.int lo t,.int hi u,.int c v]},toks:=tk}:=by
 obtain⟨h1,h2,rfl,rfl⟩:=hh
 refine wpAny_pyIter_range (IsRange.new ..) (Ud h1 h2) ?_
 have I1:Inv X pins σ H {s with heap:=s.heap.push {cls:=.type "range",data:=.fields #[.int lo t,.int (-1) u,.int (-1) v]},toks:=tk}:=I.kept λb o e=>AH _ e
 refine⟨(s.heap.push {cls:=.type "range",data:=.fields #[.int lo t,.int (-1) u,.int (-1) v]}).objs.size,[(s.heap.push {cls:=.type "range",data:=.fields #[.int lo t,.int (-1) u,.int (-1) v]}).objs.size],_,_,H,rfl,
  I1.kept (t':=tk) λb o e=>AH _ e,C6 _ lo (-1) ((lo+1).toNat),?_,λb hb=>?_,q⟩
 ·have e1:lo+((0:Nat):Int)*(-1)=lo:=by simp
  have e2:(((lo+1).toNat:Nat):Int)-((0:Nat):Int)=Builtin.Range.rangeSize lo (-1) (-1):=by rw[wa h1];simp
  show IsRangeIter _ _ (lo+((0:Nat):Int)*(-1)) ((((lo+1).toNat:Nat):Int)-((0:Nat):Int)) (-1)
  rw[e1,e2]
  exact AZ _ rfl
 ·have e:b=(s.heap.push {cls:=.type "range",data:=.fields #[.int lo t,.int (-1) u,.int (-1) v]}).objs.size:=by simpa using hb
  subst e
  exact I1.fpOk (AK _) (I1.hok.fresh (AK _))
theorem Ki {a b c:Expr} {ta:TA} {p pos:Pos} (hg:Gl X "range") (hm:X.mg "range"=none) (ha:PA X [a,b,c] ta) (hs:starEach [a,b,c] X.env=[(false,eval a X.env),(false,eval b X.env),(false,eval c X.env)]:=by rfl)
  (hs2:starEach [b,c] X.env=[(false,eval b X.env),(false,eval c X.env)]:=by rfl) :
  PI X tg (.Call (.Name "range" p) [a,b,c] [] pos) (ab1 ta):=by
 intro pins s σ H R I h
 refine Call_ (u4 I hg hm boot_range (DN (thn (ha pos pins s σ H _ I h) λus s1 ⟨vs,H1,I1,r1,q1⟩=>?_) (by rw[hs,hs2]) (by rw[hs2];rfl)))
 obtain⟨i,j,k,e,hh,q⟩:=q1
 subst e
 cases r1 with
 |cons r rr =>
  cases rr with
  |cons r' rr =>
   cases rr with
   |cons r'' rr =>
    cases rr
    obtain⟨t,rfl⟩:=r
    obtain⟨t',rfl⟩:=r'
    obtain⟨t'',rfl⟩:=r''
    exact call_range_3 (by lia) (Kh I1 hh q) (Or.inl (Ix (by lia)))
end
end L2
namespace Lp
open PySem PySem.Spec PyProof.Rows L2
section
variable{X:Cx}{φ:Phi}
theorem Ue {a b c tg:Expr} {xa xb xc:Ex} {p pos:Pos} (hm:X.mg "range"=none) (ha:PE X a (tE X.K φ xa)) (hb:PE X b (tE X.K φ xb)) (hc:PE X c (tE X.K φ xc)) (hg:Gl X "range":=by rfl) (hs:starEach [a,b,c] X.env=[(false,eval a X.env),(false,eval b X.env),(false,eval c X.env)]:=by rfl)
  (hs2:starEach [b,c] X.env=[(false,eval b X.env),(false,eval c X.env)]:=by rfl) (hs3:starEach [c] X.env=[(false,eval c X.env)]:=by rfl):PI X tg (.Call (.Name "range" p) [a,b,c] [] pos) (tI X.K φ (.rngD xa xb xc)) :=
 PI.imp (Ki hg hm (ub ha (ub hb (ub hc Jc hs3) (by rw[hs2,hs3])) (by rw[hs,hs2])) hs hs2) λσv H R ⟨ι,σ,μ,hS,hL,h⟩=>by
  simp![evI]at h
  refine⟨ι,σ,μ,hS,hL,?_⟩
  simp![gn]
  cases e1:evE φ xa σ μ with
  |exc _ _ _=>rw[e1]at h;exact h.elim
  |stuck=>rw[e1]at h;exact h.elim
  |ok d μ1 =>
   rw[e1]at h
   simp![Res.br]at h ⊢
   cases e2:evE φ xb σ μ1 with
   |exc _ _ _=>rw[e2]at h;exact h.elim
   |stuck=>rw[e2]at h;exact h.elim
   |ok d2 μ2 =>
    rw[e2]at h
    simp![Res.br]at h ⊢
    cases e3:evE φ xc σ μ2 with
    |exc _ _ _=>rw[e3]at h;exact h.elim
    |stuck=>rw[e3]at h;exact h.elim
    |ok d3 μ3 =>
    rw[e3]at h
    simp![Res.br]at h ⊢
    cases d with
    |int i =>
     cases d2 with
     |int j =>
      cases d3 with
      |int k =>
       simp only at h
       by_cases hj:-1<=i/\i<lim/\j = -1/\k = -1
       ·rw[if_pos hj]at h
        rw[g8]at hj
        have h24:sizeLine=16777216:=GG
        rw[h24]at hj
        intro ι1 vs H1 p1 x1 s1 d1
        have e:vs=[.int i,.int j,.int k]:=by
         have q:ak X.K ι1 H1 [.int i,.int j,.int k] vs:=d1
         simp![ak]at q
         obtain⟨v,r,rfl,q1,w,r2,rfl,q2,w3,r3,rfl,q3,rfl⟩:=q
         cases di q1
         cases di q2
         cases di q3
         rfl
        obtain⟨g1,g2,rfl,rfl⟩:=hj
        refine⟨i,-1,-1,e,⟨by lia,by lia,rfl,rfl⟩,h ι1 H1 _ p1 x1 s1 ?_⟩
        have hw:=C7 (K:=X.K) (ι:=ι1) (H:=H1) i (-1) (i+1).toNat (by lia)
        have e2:((List.range (i+1).toNat).map fun(n:Nat)=>D.int (i-n))=(List.range (i+1).toNat).map fun(k:Nat)=>D.int (i+k*(-1)):=CH λn _=>by congr 1;lia
        rw[e2]
        exact hw
       ·rw[if_neg hj]at h
        exact h.elim
      |_=>exact h.elim
     |_=>exact h.elim
    |_=>exact h.elim
end
end Lp
namespace Lr
open Lp
open PySem
theorem Fd{f:D->Sl->Sto->Res Fl}(I:Nat->Sl->Sto->Prop):∀{ds:List D} {σ:Sl} {μ:Sto} (k:Nat),I k σ μ ->
  (∀(j:Nat) d σ μ,ds[j]? = some d->I (k+j) σ μ->∃σ' μ',f d σ μ=.ok (.nx σ') μ'/\I (k+j+1) σ' μ') ->
  ∃σ' μ',k7 none f ds σ μ=.ok (.nx σ') μ'/\I (k+ds.length) σ' μ'
 | [],σ,μ,k,h,_=>⟨σ,μ,by simp[k7],h⟩
 |d::ds,σ,μ,k,h,st=>by
  obtain⟨σ1,μ1,e1,h1⟩:=st 0 d σ μ rfl h
  obtain⟨σ2,μ2,e2,h2⟩:=Fd I (ds:=ds) (σ:=σ1) (μ:=μ1) (k+1) h1 λj d σ μ e i=>by
   obtain⟨σ',μ',a,b⟩:=st (j+1) d σ μ (by simpa using e) (by rw[show k+(j+1)=k+1+j by omega];exact i)
   exact⟨σ',μ',a,by rw[show k+1+j+1=k+(j+1)+1 by omega];exact b⟩
  refine⟨σ2,μ2,?_,by rw[show k+(d::ds).length=k+1+ds.length by simp;omega];exact h2⟩
  simp![k7,Cu,if_true,e1,Res.br,e2]
theorem Bm{g:Gd}{f:D->Sl->Sto->Res Fl}(I:Nat->Sl->Sto->Prop)(R:Fl->Sto->Prop):∀{ds:List D} {σ:Sl} {μ:Sto} (k:Nat),(∀j σ μ,I j σ μ->gd g μ)->I k σ μ ->
  (∀(j:Nat) d σ μ,ds[j]? = some d->I (k+j) σ μ->∃fl μ',f d σ μ=.ok fl μ'/\match fl with
   |.nx σ'=>I (k+j+1) σ' μ'
   |.ct σ'=>I (k+j+1) σ' μ'
   |.bk σ'=>R (.nx σ') μ'
   |.rt v=>R (.rt v) μ')->(∀σ μ,I (k+ds.length) σ μ->R (.nx σ) μ) ->
  ∃fl μ',k7 g f ds σ μ=.ok fl μ'/\R fl μ'
 | [],σ,μ,k,hg,h,_,fin=>⟨.nx σ,μ,by simp[k7,hg k σ μ h],fin σ μ h⟩
 |d::ds,σ,μ,k,hg,h,st,fin=>by
  obtain⟨fl,μ1,e1,h1⟩:=st 0 d σ μ rfl h
  have rest:∀σ1,I (k+1) σ1 μ1->∃fl μ',k7 g f ds σ1 μ1=.ok fl μ'/\R fl μ':=λσ1 i=>Bm I R (ds:=ds) (k+1) hg i (λj d σ μ e i=>by
   obtain⟨fl,μ',a,b⟩:=st (j+1) d σ μ (by simpa using e) (by rw[show k+(j+1)=k+1+j by omega];exact i)
   refine⟨fl,μ',a,?_⟩
   rw[show k+(j+1)+1=k+1+j+1 by omega]at b
   exact b) λσ μ i=>fin σ μ (by rw[show k+(d::ds).length=k+1+ds.length by simp;omega];exact i)
  cases fl with
  |nx σ1 =>
   obtain⟨fl,μ',a,b⟩:=rest σ1 h1
   exact⟨fl,μ',by simp![k7,hg k σ μ h,if_true,e1,Res.br,a],b⟩
  |ct σ1 =>
   obtain⟨fl,μ',a,b⟩:=rest σ1 h1
   exact⟨fl,μ',by simp![k7,hg k σ μ h,if_true,e1,Res.br,a],b⟩
  |bk σ1=>exact⟨.nx σ1,μ1,by simp![k7,hg k σ μ h,if_true,e1,Res.br],h1⟩
  |rt v=>exact⟨.rt v,μ1,by simp![k7,hg k σ μ h,if_true,e1,Res.br],h1⟩
theorem aj{T:List Df}{n i:Nat}{d:Df}{ds:List D}{μ:Sto}(h:T[i]? = some d):ai T (n+1) i ds μ=U9 (ai T n) d ds μ:=by
 simp![ai,h]
noncomputable def finD(fl:Fl)(μ:Sto):Res D:=match fl with
 |.nx _=>.ok .non μ
 |.rt d=>.ok d μ
 |_=>.stuck
@[simp] theorem Kj (d:D) (μ:Sto):finD (.rt d) μ=.ok d μ:=rfl
@[simp] theorem Kk (σ:Sl) (μ:Sto):finD (.nx σ) μ=.ok .non μ:=rfl
theorem run_eq{φ:Phi}{f:Df}{ds:List D}{μ:Sto}(h:ds.length=f.np):U9 φ f ds μ=(rg φ f.body (ds.map some++List.replicate (f.nn-f.np) none) μ).bind finD:=by
 rw[U9,if_pos h];rfl
theorem qa(b:Nat):∀(k:Nat) (d:D),D.pureN k d=true->D.belowN b k d=true
 |0,d,h=>by cases d<;>simp_all[D.pureN,D.belowN]
 |k+1,d,h=>by
  cases d with
  |tup ds =>
   simp![D.pureN,D.belowN,AL]at h ⊢
   exact λx hx=>qa b k x (h x hx)
  |lst ds =>
   simp![D.pureN,D.belowN,AL]at h ⊢
   exact λx hx=>qa b k x (h x hx)
  |loc n=>simp[D.pureN]at h
  |_=>rfl
theorem c7{k:Nat}{ds:List D}:D.pureN (k+1) (.tup ds)=ds.all (D.pureN k):=rfl
theorem cq{k:Nat}{i:Int}:D.pureN k (.int i)=true:=by cases k<;>rfl
noncomputable abbrev i6(μ:Sto):Prop:=μ.all (gm μ.length)=true
theorem G7{d:D}{μ:Sto}{b:Nat}(hd:d.pure=true)(hb:μ.length=b)(hr:i6 μ):sg false b (.ok d μ)=.ok d μ:=by
 have e:μ.take b=μ:=BQ (by omega)
 have hr':μ.all (gm b)=true:=by rw[<-hb];exact hr
 simp![sg,BA,if_false,e,qa b 8 d hd,hr',and_self,if_true]
@[simp] theorem tu {d:D} {μ:Sto} {b:Nat}:sg true b (.ok d μ)=.ok d μ:=by simp[sg]
theorem op_mul{i j:Int}{μ:Sto}(h:CMul i j):opI .Mult i j μ=.ok (.int (i*j)) μ:=by simp[opI,h]
theorem ym{i j:Int}{μ:Sto}(h:0<j)(h2:j<1073741824):opI .FloorDiv i j μ=.ok (.int (i / j)) μ:=by simp[opI,h,h2]
theorem op_mod{i j:Int}{μ:Sto}(h:0<j):opI .Mod i j μ=.ok (.int (i % j)) μ:=by simp[opI,h]
theorem op_add{i j:Int}{μ:Sto}:opI .Add i j μ=.ok (.int (i+j)) μ:=rfl
theorem op_sub{i j:Int}{μ:Sto}:opI .Sub i j μ=.ok (.int (i-j)) μ:=rfl
theorem op_pow{i:Int}{j:Int}{μ:Sto}(h:0<=j/\j<=1000000/\i.natAbs<2 ^ 64):opI .Pow i j μ=.ok (.int (i ^ j.toNat)) μ:=by simp[opI,h]
theorem op_shr{i j:Int}{μ:Sto}(h:0<=j):opI .RShift i j μ=.ok (.int (i / 2 ^ j.toNat)) μ:=by simp[opI,h]
theorem Dg{op:Operator}{m:Mk}{i j:Int}{μ:Sto}:opD op m (.int i) (.int j) μ=opI op i j μ:=rfl
theorem _root_.Lp.CMul.left{i j:Int}(h:-(2 ^ 64)<i)(h2:i<2 ^ 64):CMul i j:=.inl ⟨h,h2⟩
theorem _root_.Lp.CMul.right{i j:Int}(h:-(2 ^ 64)<j)(h2:j<2 ^ 64):CMul i j:=.inr ⟨h,h2⟩
theorem h7(ns:List Int):fg (ns.map D.int)=some ns:=by
 induction ns with
 |nil=>rfl
 |cons n r ih=>simp[fg,ih]
theorem rp(i:Int):(D.int i).pure=true:=rfl
open PySem
section
variable(φ:Phi)
noncomputable def adj(o:Option (Option D))(μ:Sto):Res D:=match o with
 |some (some d)=>.ok d μ
 |_=>.stuck
noncomputable def kB(op:Operator)(m:Mk)(b:Ex)(σ:Sl)(x:D)(μ:Sto):Res D:=(evE φ b σ μ).bind (opD op m x)
noncomputable def kNeg(x:D)(μ:Sto):Res D:=match x with
 |.int i=>.ok (.int (-i)) μ
 |_=>.stuck
noncomputable def kNot(x:D)(μ:Sto):Res D:=match x with
 |.bl b=>.ok (.bl (!b)) μ
 |_=>.stuck
noncomputable def ab2(b:Ex)(σ:Sl)(x:D)(μ:Sto):Res D:=match x with
 |.bl c=>if c=true then evE φ b σ μ else .ok (.bl false) μ
 |_=>.stuck
noncomputable def kOr(b:Ex)(σ:Sl)(x:D)(μ:Sto):Res D:=match x with
 |.bl c=>if c=true then .ok (.bl true) μ else evE φ b σ μ
 |_=>.stuck
noncomputable def ab3(a b:Ex)(σ:Sl)(x:D)(μ:Sto):Res D:=match x with
 |.bl c=>if c=true then evE φ a σ μ else evE φ b σ μ
 |_=>.stuck
noncomputable def adk(r:Cps)(σ:Sl)(x:D)(μ:Sto):Res D:=evC φ r x σ μ
noncomputable def Zw(r:Cps)(y:D)(σ:Sl)(z:D)(μ:Sto):Res D:=match z with
 |.bl b=>if b=true then evC φ r y σ μ else .ok (.bl false) μ
 |_=>.stuck
noncomputable def kCh(op:Cp)(x:D)(r:Cps)(σ:Sl)(y:D)(μ:Sto):Res D:=(cpD op x y μ).bind (Zw φ r y σ)
noncomputable def iq(keep:Bool)(f:Nat)(ds:List D)(μ:Sto):Res D:=sg keep μ.length (φ f ds μ)
noncomputable def kM(mt:Mt)(es:Exs)(σ:Sl)(x:D)(μ:Sto):Res D:=if oh mt x μ=true then(gn φ es σ μ).bind (mtD mt x)else .stuck
noncomputable def kIx(b:Ex)(σ:Sl)(x:D)(μ:Sto):Res D:=(evE φ b σ μ).bind (ixD x)
noncomputable def ab4(m:Mk)(hi:ExO)(σ:Sl)(x:D)(l:Option Int)(μ:Sto):Res D:=(evO φ hi σ μ).bind (slD m x l)
noncomputable def kSl(m:Mk)(lo hi:ExO)(σ:Sl)(x:D)(μ:Sto):Res D:=(evO φ lo σ μ).bind (ab4 φ m hi σ x)
noncomputable def kTup(ds:List D)(μ:Sto):Res D:=.ok (.tup ds) μ
noncomputable def ab5(d:D)(ds:List D)(μ:Sto):Res (List D):=.ok (d::ds) μ
noncomputable def kEs(es:Exs)(σ:Sl)(d:D)(μ:Sto):Res (List D):=(gn φ es σ μ).bind (ab5 d)
noncomputable def kInt(x:D)(μ:Sto):Res (Option Int):=match x with
 |.int i=>.ok (some i) μ
 |_=>.stuck
noncomputable def kOne(x:D)(μ:Sto):Res (List D):=.ok [x] μ
noncomputable def Zx(elt:Ex)(σ:Sl)(b:Bool)(μ:Sto):Res (List D):=if b=true then(evE φ elt σ μ).bind kOne else .ok [] μ
noncomputable def adl(cs:Exs)(elt:Ex)(μ:Sto)(σ:Sl):Res (List D):=(Gw φ cs σ μ).bind (Zx φ elt σ)
noncomputable def uw(tg:Tg)(cs:Exs)(elt:Ex)(σ0:Sl)(d:D)(μ:Sto):Res (List D):=ot (iz tg d σ0) (adl φ cs elt μ)
noncomputable def mj(m:Mk)(tg:Tg)(cs:Exs)(elt:Ex)(σ0:Sl)(w:List D×Gd)(μ:Sto):Res D:=(mapR w.2 (uw φ tg cs elt σ0) w.1 μ).bind (mkL m)
noncomputable def kCs(es:Exs)(σ:Sl)(x:D)(μ:Sto):Res Bool:=match x with
 |.bl b=>if b=true then Gw φ es σ μ else .ok false μ
 |_=>.stuck
noncomputable def kSeq(x:D)(μ:Sto):Res (List D×Gd):=match da μ x with
 |some w=>.ok w μ
 |none=>.stuck
noncomputable def kRng(x:D)(μ:Sto):Res (List D×Gd):=match x with
 |.int j=>if -(lim:Int)<=j/\j<=lim then .ok ((List.range j.toNat).map fun(i:Nat)=>D.int i,none) μ else .stuck
 |_=>.stuck
noncomputable def Fe(x y:D)(μ:Sto):Res (List D×Gd):=match x,y with
 |.int i,.int j=>if -(lim:Int)<=i/\i<=lim/\j<=lim /\ -(lim:Int)<=j/\(j-i)<=lim then .ok ((List.range (j-i).toNat).map fun(k:Nat)=>D.int (i+k),none) μ else .stuck
 |_,_=>.stuck
noncomputable def Xv(b:Ex)(σ:Sl)(x:D)(μ:Sto):Res (List D×Gd):=(evE φ b σ μ).bind (Fe x)
noncomputable def Xw(x y:D)(μ:Sto):Res (List D×Gd):=match da μ x,g7 [] y with
 |some w,some ys=>.ok ((w.1.zip ys).map λp=>.tup [p.1,p.2],w.2) μ
 |_,_=>.stuck
noncomputable def adm(b:Ex)(σ:Sl)(x:D)(μ:Sto):Res (List D×Gd):=(evE φ b σ μ).bind (Xw x)
noncomputable def kEnum(x:D)(μ:Sto):Res (List D×Gd):=match da μ x with
 |some w=>.ok ((List.range w.1.length |>.zip w.1).map fun(p:Nat×D)=>.tup [.int p.1,p.2],w.2) μ
 |none=>.stuck
noncomputable def kVals(x:D)(μ:Sto):Res (List D×Gd):=match x with
 |.loc n=>match μ[n]? with
  |some (.d kvs)=>.ok (kvs.map (·.2),none) (μ.set n .dead)
  |_=>.stuck
 |_=>.stuck
noncomputable def adn(i:Nat)(σ:Sl)(d:D)(μ:Sto):Res Fl:=.ok (.nx (σ.set i (some d))) μ
noncomputable def ab6(o:Option Sl)(μ:Sto):Res Fl:=match o with
 |some σ'=>.ok (.nx σ') μ
 |none=>.stuck
noncomputable def ado(is:List Nat)(σ:Sl)(d:D)(μ:Sto):Res Fl:=ab6 (iz (.many is) d σ) μ
noncomputable def kNx{α:Type}(σ:Sl)(_:α)(μ:Sto):Res Fl:=.ok (.nx σ) μ
noncomputable def ab7(σ:Sl)(d x:D)(y:D)(μ:Sto):Res Fl:=(Cg x y d μ).bind (kNx σ)
noncomputable def ab8(i:Ex)(σ:Sl)(d:D)(x:D)(μ:Sto):Res Fl:=(evE φ i σ μ).bind (ab7 σ d x)
noncomputable def kSx(o i:Ex)(σ:Sl)(d:D)(μ:Sto):Res Fl:=(evE φ o σ μ).bind (ab8 φ i σ d)
noncomputable def kIf(a b:Sms)(σ:Sl)(x:D)(μ:Sto):Res Fl:=match x with
 |.bl k=>if k=true then rg φ a σ μ else rg φ b σ μ
 |_=>.stuck
noncomputable def kLp(b:Sms)(μ:Sto)(σ:Sl):Res Fl:=rg φ b σ μ
noncomputable def fLp(tg:Tg)(b:Sms)(d:D)(σ:Sl)(μ:Sto):Res Fl:=ot (iz tg d σ) (kLp φ b μ)
noncomputable def Dh(tg:Tg)(b:Sms)(σ:Sl)(w:List D×Gd)(μ:Sto):Res Fl:=k7 w.2 (fLp φ tg b) w.1 σ μ
noncomputable def kRet(d:D)(μ:Sto):Res Fl:=.ok (.rt d) μ
noncomputable def kSs(r:Sms)(fl:Fl)(μ:Sto):Res Fl:=match fl with
 |.nx σ'=>rg φ r σ' μ
 |fl=>.ok fl μ
end
section
variable{φ:Phi}{σ:Sl}{μ:Sto}{a b c e o i:Ex}{es:Exs}{m:Mk}{op:Operator}{r:Cps}{s:Sm}{rs:Sms}
theorem Xx{i:Nat}:evE φ (.var i) σ μ=adj σ[i]? μ:=rfl
theorem Xy{d:D}:evE φ (.cst d) σ μ=.ok d μ:=rfl
theorem Xz:evE φ (.bin op m a b) σ μ=(evE φ a σ μ).bind (kB φ op m b σ):=rfl
theorem X0:evE φ (.neg a) σ μ=(evE φ a σ μ).bind kNeg:=rfl
theorem X3:evE φ (.not a) σ μ=(evE φ a σ μ).bind kNot:=rfl
theorem X4:evE φ (.and a b) σ μ=(evE φ a σ μ).bind (ab2 φ b σ):=rfl
theorem adp:evE φ (.or a b) σ μ=(evE φ a σ μ).bind (kOr φ b σ):=rfl
theorem X5:evE φ (.ite c a b) σ μ=(evE φ c σ μ).bind (ab3 φ a b σ):=rfl
theorem X6:evE φ (.cmp a r) σ μ=(evE φ a σ μ).bind (adk φ r σ):=rfl
theorem Oh{α:Type}(x:Res α):(x.bind λa μ=>.ok a μ)=x:=by cases x<;>rfl
theorem X7{op:Cp}{x:D}:evC φ (.cons op e .nil) x σ μ=(evE φ e σ μ).bind (cpD op x):=by
 simp![evC,Oh]
theorem Qh{op op':Cp}{x:D}{e':Ex}:evC φ (.cons op e (.cons op' e' r)) x σ μ=(evE φ e σ μ).bind (kCh φ op x (.cons op' e' r) σ):=by
 rw[evC]
 all_goals rfl
theorem Qi{keep:Bool}{f:Nat}:evE φ (.call keep f es) σ μ=(gn φ es σ μ).bind (iq φ keep f):=rfl
theorem X8{b:Bt}:evE φ (.blt b m es) σ μ=(gn φ es σ μ).bind (btD b m):=rfl
theorem X9{c:Cl}:evE φ (.isi a c) σ μ=(evE φ a σ μ).bind (U7 c):=rfl
theorem Qj{mt:Mt}:evE φ (.meth mt o es) σ μ=(evE φ o σ μ).bind (kM φ mt es σ):=rfl
theorem adq:evE φ (.ix a b) σ μ=(evE φ a σ μ).bind (kIx φ b σ):=rfl
theorem ads{lo hi:ExO}:evE φ (.sl m a lo hi) σ μ=(evE φ a σ μ).bind (kSl φ m lo hi σ):=rfl
theorem Ya:evE φ (.tup es) σ μ=(gn φ es σ μ).bind kTup:=rfl
theorem Yb:evE φ (.lst m es) σ μ=(gn φ es σ μ).bind (mkL m):=rfl
theorem Yc{t:Bool}:evE φ (.dic t es) σ μ=(gn φ es σ μ).bind (U8 t):=rfl
theorem Qk{cap:List Nat}{nl:Nat}{tg:Tg}{it:It}{cs:Exs}{elt:Ex}:evE φ (.comp m cap nl tg it cs elt) σ μ=(evI φ it σ μ).bind (mj φ m tg cs elt (cap.map (λi=>(σ[i]?).getD none)++List.replicate nl none)):=rfl
theorem Ql:gn φ .nil σ μ=.ok [] μ:=rfl
theorem Kl:gn φ (.cons e es) σ μ=(evE φ e σ μ).bind (kEs φ es σ):=rfl
theorem adt:evO φ .no σ μ=.ok none μ:=rfl
theorem adu:evO φ (.so e) σ μ=(evE φ e σ μ).bind kInt:=rfl
theorem Qm:Gw φ .nil σ μ=.ok true μ:=rfl
theorem Km:Gw φ (.cons e es) σ μ=(evE φ e σ μ).bind (kCs φ es σ):=rfl
theorem Yd:evI φ (.seq e) σ μ=(evE φ e σ μ).bind kSeq:=rfl
theorem Ye:evI φ (.rng e) σ μ=(evE φ e σ μ).bind kRng:=rfl
theorem Qn:evI φ (.rng2 a b) σ μ=(evE φ a σ μ).bind (Xv φ b σ):=rfl
theorem Yf:evI φ (.zip a b) σ μ=(evE φ a σ μ).bind (adm φ b σ):=rfl
theorem Qo:evI φ (.enum a) σ μ=(evE φ a σ μ).bind kEnum:=rfl
theorem Qp:evI φ (.vals a) σ μ=(evE φ a σ μ).bind kVals:=rfl
theorem Yg{i:Nat}:evS φ (.set i e) σ μ=(evE φ e σ μ).bind (adn i σ):=rfl
theorem Yh{is:List Nat}:evS φ (.unp is e) σ μ=(evE φ e σ μ).bind (ado is σ):=rfl
theorem Qq:evS φ (.setx o i e) σ μ=(evE φ e σ μ).bind (kSx φ o i σ):=rfl
theorem adv:evS φ (.ex e) σ μ=(evE φ e σ μ).bind (kNx σ):=rfl
theorem Yi{x y:Sms}:evS φ (.ite c x y) σ μ=(evE φ c σ μ).bind (kIf φ x y σ):=rfl
theorem Qr{tg:Tg}{it:It}{b:Sms}:evS φ (.loop tg it b) σ μ=(evI φ it σ μ).bind (Dh φ tg b σ):=rfl
theorem Yj:evS φ (.ret e) σ μ=(evE φ e σ μ).bind kRet:=rfl
theorem Qs:evS φ .pass σ μ=.ok (.nx σ) μ:=rfl
theorem Yk:evS φ .brk σ μ=.ok (.bk σ) μ:=rfl
theorem Qt:evS φ .cont σ μ=.ok (.ct σ) μ:=rfl
theorem Qu:rg φ .nil σ μ=.ok (.nx σ) μ:=rfl
theorem Kn:rg φ (.cons s rs) σ μ=(evS φ s σ μ).bind (kSs φ rs):=rfl
theorem bt{f:Nat}{ds:List D}{d:D}{μ':Sto}(h:φ f ds μ=.ok d μ')(hd:d.pure=true)(hl:μ'.length=μ.length)(hr:i6 μ'):iq φ false f ds μ=.ok d μ':=by
 rw[iq,h,G7 hd hl hr]
theorem G8{f:Nat}{ds:List D}{d:D}{μ':Sto}(h:φ f ds μ=.ok d μ'):iq φ true f ds μ=.ok d μ':=by
 rw[iq,h];simp
theorem Ko{mt:Mt}{x:D}(h:oh mt x μ=true):kM φ mt es σ x μ=(gn φ es σ μ).bind (mtD mt x):=by rw[kM,if_pos h]
theorem Bn{d:D}:adj (some (some d)) μ=.ok d μ:=rfl
theorem Ff{i:Int}:kNeg (.int i) μ=.ok (.int (-i)) μ:=rfl
theorem Kp{b:Bool}:kNot (.bl b) μ=.ok (.bl (!b)) μ:=rfl
theorem Qv{b:Ex}:ab2 φ b σ (.bl true) μ=evE φ b σ μ:=rfl
theorem Qw{b:Ex}:ab2 φ b σ (.bl false) μ=.ok (.bl false) μ:=rfl
theorem Yl{b:Ex}:kOr φ b σ (.bl true) μ=.ok (.bl true) μ:=rfl
theorem Ym{b:Ex}:kOr φ b σ (.bl false) μ=evE φ b σ μ:=rfl
theorem Qx:ab3 φ a b σ (.bl true) μ=evE φ a σ μ:=rfl
theorem Qy:ab3 φ a b σ (.bl false) μ=evE φ b σ μ:=rfl
theorem Qz{y:D}:Zw φ r y σ (.bl true) μ=evC φ r y σ μ:=rfl
theorem Q0{y:D}:Zw φ r y σ (.bl false) μ=.ok (.bl false) μ:=rfl
theorem Yn:kCs φ es σ (.bl true) μ=Gw φ es σ μ:=rfl
theorem Yo:kCs φ es σ (.bl false) μ=.ok false μ:=rfl
theorem Q1{elt:Ex}:Zx φ elt σ true μ=(evE φ elt σ μ).bind kOne:=rfl
theorem Q2{elt:Ex}:Zx φ elt σ false μ=.ok [] μ:=rfl
theorem Fg{i:Int}:kInt (.int i) μ=.ok (some i) μ:=rfl
theorem Yp{x y:Sms}:kIf φ x y σ (.bl true) μ=rg φ x σ μ:=rfl
theorem Yq{x y:Sms}:kIf φ x y σ (.bl false) μ=rg φ y σ μ:=rfl
theorem Q3{σ':Sl}:kSs φ rs (.nx σ') μ=rg φ rs σ' μ:=rfl
theorem Q5{d:D}:kSs φ rs (.rt d) μ=.ok (.rt d) μ:=rfl
theorem Q6{σ':Sl}:kSs φ rs (.bk σ') μ=.ok (.bk σ') μ:=rfl
theorem Q7{σ':Sl}:kSs φ rs (.ct σ') μ=.ok (.ct σ') μ:=rfl
theorem Bo{σ':Sl}:ab6 (some σ') μ=.ok (.nx σ') μ:=rfl
theorem Fh{ds:List D}:kSeq (.tup ds) μ=.ok (ds,none) μ:=rfl
theorem Fi{ds:List D}:kSeq (.lst ds) μ=.ok (ds,none) μ:=rfl
theorem Ug{j:Int}(h:-1000000<=j/\j<=1000000):kRng (.int j) μ=.ok ((List.range j.toNat).map fun(i:Nat)=>D.int i,none) μ:=by
 have:=jl
 simp![kRng]
 rw[if_pos ⟨by lia,by lia⟩]
theorem bz{n:Nat}(h:n<=1000000):kRng (.int n) μ=.ok ((List.range n).map fun(i:Nat)=>D.int i,none) μ:=by
 rw[Ug ⟨by lia,by lia⟩,DR]
theorem Bp{i:Nat}{d:D}:iz (.one i) d σ=some (σ.set i (some d)):=rfl
theorem Yr{i j:Int}:cpD .lt (.int i) (.int j) μ=.ok (.bl (decide (i<j))) μ:=rfl
theorem Yt{i j:Int}:cpD .le (.int i) (.int j) μ=.ok (.bl (decide (i<=j))) μ:=rfl
theorem Yu{i j:Int}:cpD .gt (.int i) (.int j) μ=.ok (.bl (decide (j<i))) μ:=rfl
theorem Yv{i j:Int}:cpD .ge (.int i) (.int j) μ=.ok (.bl (decide (j<=i))) μ:=rfl
theorem Q8{i j:Int}:cpD .eq (.int i) (.int j) μ=.ok (.bl (decide (i=j))) μ:=rfl
theorem Yw{x y:D}(hx:x.pure=true)(hy:y.pure=true):cpD .ne x y μ=.ok (.bl (!deq x y)) μ:=by simp[cpD,hx,hy]
theorem Q9{i j:Int}:cpD .ne (.int i) (.int j) μ=.ok (.bl (!decide (i=j))) μ:=Yw rfl rfl
theorem Ra{i j:Bool}:cpD .ne (.bl i) (.bl j) μ=.ok (.bl (!(i==j))) μ:=Yw rfl rfl
theorem ab9{x y:D}(hx:x.pure=true)(hy:y.pure=true):cpD .eq x y μ=.ok (.bl (deq x y)) μ:=by simp[cpD,hx,hy]
theorem bt_len{x:D}{xs:List D}(h:g7 μ x=some xs):btD .len m [x] μ=.ok (.int xs.length) μ:=by simp[btD,seq1,h]
theorem bt_tuple{x:D}{xs:List D}(h:g7 μ x=some xs):btD .tuple m [x] μ=.ok (.tup xs) μ:=by simp[btD,seq1,h]
theorem bt_list{x:D}{xs:List D}(h:g7 μ x=some xs):btD .list m [x] μ=mkL m xs μ:=by simp[btD,seq1,h]
theorem bt_sum{x:D}{xs:List D}{ns:List Int}(h:g7 μ x=some xs)(h2:fg xs=some ns):btD .sum m [x] μ=.ok (.int ns.sum) μ:=by simp[btD,Sn,h,h2]
theorem bt_min{i j:Int}:btD .min m [.int i,.int j] μ=.ok (.int (min i j)) μ:=by
 simp![btD,minD]
 congr 2
 split<;>lia
theorem bt_max{i j:Int}:btD .max m [.int i,.int j] μ=.ok (.int (max i j)) μ:=by
 simp![btD,maxD]
 congr 2
 split<;>lia
theorem aw{ds:List D}:g7 μ (.tup ds)=some ds:=rfl
theorem au{ds:List D}:g7 μ (.lst ds)=some ds:=rfl
theorem g0{ds:List D}:mkL .z ds μ=.ok (.lst ds) μ:=rfl
theorem Bq{x:D}{xs:List D}{k:Nat}{d:D}(h:g7 μ x=some xs)(hd:xs[k]? = some d):ixD x (.int k) μ=.ok d μ:=by
 have hk:k<xs.length:=(AB.mp hd).1
 have e:ixN xs.length (k:Int)=some k:=by simp[ixN,hk]
 simp![ixD,h,e,hd]
theorem ue{x:D}{xs:List D}{i:Int}{d:D}(h:g7 μ x=some xs)(hi:0<=i)(hd:xs[i.toNat]? = some d):ixD x (.int i) μ=.ok d μ:=by
 have hk:i.toNat<xs.length:=(AB.mp hd).1
 have e:ixN xs.length i=some i.toNat:=by simp[ixN,hi,show i<xs.length by lia]
 simp![ixD,h,e,hd]
theorem zz{i j:Nat}{a b:D}:iz (.many [i,j]) (.tup [a,b]) σ=some ((σ.set i (some a)).set j (some b)):=rfl
theorem Kq{i j k:Nat}{a b c:D}:iz (.many [i,j,k]) (.tup [a,b,c]) σ=some (((σ.set i (some a)).set j (some b)).set k (some c)):=rfl
theorem Kr{i j k l:Nat}{a b c d:D}:iz (.many [i,j,k,l]) (.tup [a,b,c,d]) σ=some ((((σ.set i (some a)).set j (some b)).set k (some c)).set l (some d)):=rfl
theorem Ks{i j k l m:Nat}{a b c d e:D}:iz (.many [i,j,k,l,m]) (.tup [a,b,c,d,e]) σ=some (((((σ.set i (some a)).set j (some b)).set k (some c)).set l (some d)).set m (some e)):=rfl
theorem gu{α:Type}{xs:List α}{en:α->D}{k:Nat}{a:α}(h:xs[k]? = some a):ixD (.tup (xs.map en)) (.int k) μ=.ok (en a) μ:=Bq aw (by rw[AV,h];rfl)
theorem Uh{α:Type}{xs:List α}{en:α->D}{k:Nat}{a:α}(h:xs[k]? = some a):ixD (.lst (xs.map en)) (.int k) μ=.ok (en a) μ:=Bq au (by rw[AV,h];rfl)
theorem comp_map{α:Type}{tg:Tg}{cs:Exs}{elt:Ex}{σ0:Sl}{xs:List α}{en:α->D}{g:α->D}(h:∀a∈xs,uw φ tg cs elt σ0 (en a) μ=.ok [g a] μ):mj φ m tg cs elt σ0 (xs.map en,none) μ=mkL m (xs.map g) μ:=by
 have e:mapR none (uw φ tg cs elt σ0) (xs.map en) μ=.ok (xs.map g) μ:=by
  induction xs with
  |nil=>simp[mapR]
  |cons a r ih =>
   simp![AF,mapR,Cu,if_true,h a BI,Res.br,ih λx hx=>h x (AU _ hx)]
   rfl
 rw[mj]
 show(mapR none _ (xs.map en) μ).bind _=_
 rw[e];rfl
theorem qw{α:Type}{tg:Tg}{cs:Exs}{elt:Ex}{σ0:Sl}{xs:List α}{en:α->D}{g:α->D}{p:α->Bool}(h:∀a∈xs,uw φ tg cs elt σ0 (en a) μ=.ok (if p a=true then [g a]else []) μ):mj φ m tg cs elt σ0 (xs.map en,none) μ=mkL m ((xs.filter p).map g) μ:=by
 have e:mapR none (uw φ tg cs elt σ0) (xs.map en) μ=.ok ((xs.filter p).map g) μ:=by
  induction xs with
  |nil=>simp[mapR]
  |cons a r ih =>
   simp![AF,mapR,Cu,if_true,h a BI,Res.br,ih λx hx=>h x (AU _ hx)]
   by_cases hp:p a=true
   ·simp[hp]
   ·simp[hp]
 rw[mj]
 show(mapR none _ (xs.map en) μ).bind _=_
 rw[e];rfl
noncomputable def many{S α:Type}(G:S->α×S):Nat->S->List α×S
 |0,s=>([],s)
 |n+1,s=>((G s).1::(many G n (G s).2).1,(many G n (G s).2).2)
theorem Yx{x:D}:kB φ op m b σ x μ=(evE φ b σ μ).bind (opD op m x):=rfl
theorem Kt{x:D}:adk φ r σ x μ=evC φ r x σ μ:=rfl
theorem Rb{o:Cp}{x y:D}:kCh φ o x r σ y μ=(cpD o x y μ).bind (Zw φ r y σ):=rfl
theorem Rc{x:D}:kIx φ b σ x μ=(evE φ b σ μ).bind (ixD x):=rfl
theorem Ku{hi:ExO}{x:D}{l:Option Int}:ab4 φ m hi σ x l μ=(evO φ hi σ μ).bind (slD m x l):=rfl
theorem Rf{lo hi:ExO}{x:D}:kSl φ m lo hi σ x μ=(evO φ lo σ μ).bind (ab4 φ m hi σ x):=rfl
theorem Kv{ds:List D}:kTup ds μ=.ok (.tup ds) μ:=rfl
theorem Kw{d:D}{ds:List D}:ab5 d ds μ=.ok (d::ds) μ:=rfl
theorem Rg{d:D}:kEs φ es σ d μ=(gn φ es σ μ).bind (ab5 d):=rfl
theorem Kx{x:D}:kOne x μ=.ok [x] μ:=rfl
theorem Kz{cs:Exs}{elt:Ex}:adl φ cs elt μ σ=(Gw φ cs σ μ).bind (Zx φ elt σ):=rfl
theorem Fj{x:D}:Xv φ b σ x μ=(evE φ b σ μ).bind (Fe x):=rfl
theorem K0{x:D}:adm φ b σ x μ=(evE φ b σ μ).bind (Xw x):=rfl
theorem K1{i:Nat}{d:D}:adn i σ d μ=.ok (.nx (σ.set i (some d))) μ:=rfl
theorem K2{is:List Nat}{d:D}:ado is σ d μ=ab6 (iz (.many is) d σ) μ:=rfl
theorem K3{d:D}:kNx σ d μ=.ok (.nx σ) μ:=rfl
theorem K4{d:Unit}:kNx σ d μ=.ok (.nx σ) μ:=rfl
theorem K5{d x y:D}:ab7 σ d x y μ=(Cg x y d μ).bind (kNx σ):=rfl
theorem K6{i:Ex}{d x:D}:ab8 φ i σ d x μ=(evE φ i σ μ).bind (ab7 σ d x):=rfl
theorem Rh{o i:Ex}{d:D}:kSx φ o i σ d μ=(evE φ o σ μ).bind (ab8 φ i σ d):=rfl
theorem Ri{b:Sms}:kLp φ b μ σ=rg φ b σ μ:=rfl
theorem K7{d:D}:kRet d μ=.ok (.rt d) μ:=rfl
theorem Fk{n:Nat}:List.replicate (n+1) (none:Option D)=none::List.replicate n none:=rfl
theorem Fm:List.replicate 0 (none:Option D)=[]:=rfl
end
section
variable{φ:Phi}{σ:Sl}{μ:Sto}
noncomputable def adw(φ:Phi)(b:Ex)(σ:Sl)(x:D)(μ:Sto):Res D:=(evE φ b σ μ).bind (Zt x)
noncomputable def Zy(σ:Sl)(x y z:D)(μ:Sto):Res Fl:=(Cg x y z μ).bind (kNx σ)
noncomputable def Zz(op:Operator)(σ:Sl)(x y old d:D)(μ:Sto):Res Fl:=(ada op old d μ).bind (Zy σ x y)
noncomputable def aca(φ:Phi)(op:Operator)(e:Ex)(σ:Sl)(x y old:D)(μ:Sto):Res Fl:=(evE φ e σ μ).bind (Zz op σ x y old)
noncomputable def acb(φ:Phi)(op:Operator)(e:Ex)(σ:Sl)(x y:D)(μ:Sto):Res Fl:=(ixL x y μ).bind (aca φ op e σ x y)
noncomputable def adx(φ:Phi)(op:Operator)(i e:Ex)(σ:Sl)(x:D)(μ:Sto):Res Fl:=(evE φ i σ μ).bind (acb φ op e σ x)
theorem Yy{a b:Ex}:evE φ (.dix a b) σ μ=(evE φ a σ μ).bind (adw φ b σ):=rfl
theorem K8{b:Ex}{x:D}:adw φ b σ x μ=(evE φ b σ μ).bind (Zt x):=rfl
theorem Rj{op:Operator}{o i e:Ex}:evS φ (.augx op o i e) σ μ=(evE φ o σ μ).bind (adx φ op i e σ):=rfl
theorem K9{op:Operator}{i e:Ex}{x:D}:adx φ op i e σ x μ=(evE φ i σ μ).bind (acb φ op e σ x):=rfl
theorem La{op:Operator}{e:Ex}{x y:D}:acb φ op e σ x y μ=(ixL x y μ).bind (aca φ op e σ x y):=rfl
theorem Lb{op:Operator}{e:Ex}{x y old:D}:aca φ op e σ x y old μ=(evE φ e σ μ).bind (Zz op σ x y old):=rfl
theorem Fn{x y:D}{i j:Int}:Zz .Add σ x y (.int i) (.int j) μ=Zy σ x y (.int (i+j)) μ:=rfl
theorem Fo{x y:D}{i j:Int}:Zz .Sub σ x y (.int i) (.int j) μ=Zy σ x y (.int (i-j)) μ:=rfl
theorem Lc{x y z:D}:Zy σ x y z μ=(Cg x y z μ).bind (kNx σ):=rfl
noncomputable def ady(φ:Phi)(b:Ex)(σ:Sl)(x:D)(μ:Sto):Res D:=(evE φ b σ μ).bind (aa3 x)
noncomputable def acd(φ:Phi)(k1:Bool)(f:Nat)(x:D)(ds:List D)(μ:Sto):Res D:=Wp k1 μ.length (φ f (x::ds) μ)
noncomputable def afi(φ:Phi)(k1:Bool)(c m:Str)(f:Nat)(es:Exs)(σ:Sl)(x:D)(μ:Sto):Res D:=if isObj c m x μ=true then(gn φ es σ μ).bind (acd φ k1 f x)else .stuck
noncomputable def kMk(φ:Phi)(c:Str)(f:Nat)(ds:List D)(μ:Sto):Res D:=Wq μ.length (φ f (.loc μ.length::ds) (μ++[.o c []]))
noncomputable def Yz(φ:Phi)(f:Nat)(ds:List D)(μ:Sto):Res D:=Sy μ.length (φ f ds μ)
noncomputable def ace(f:Str)(σ:Sl)(d x:D)(μ:Sto):Res Fl:=(Sx f x d μ).bind (kNx σ)
noncomputable def adz(φ:Phi)(o:Ex)(f:Str)(σ:Sl)(d:D)(μ:Sto):Res Fl:=(evE φ o σ μ).bind (ace f σ d)
noncomputable def kWh(φ:Phi)(c:Ex)(b:Sms)(σ:Sl)(μ:Sto):Res Fl:=whR (λσ μ=>(evE φ c σ μ).bind Zu) (λσ μ=>rg φ b σ μ) σ μ
noncomputable def kKeys(x:D)(μ:Sto):Res (List D×Gd):=match x with
 |.loc n=>match μ[n]? with
  |some (.d kvs)=>.ok (kvs.map (·.1),none) (μ.set n (.fd kvs))
  |_=>.stuck
 |_=>.stuck
theorem afj{e:Ex}{f:Str}:evE φ (.att e f) σ μ=(evE φ e σ μ).bind (ac8 f):=rfl
theorem acf{k1:Bool}{c m:Str}{f:Nat}{o:Ex}{es:Exs}:evE φ (.mcall k1 c m f o es) σ μ=(evE φ o σ μ).bind (afi φ k1 c m f es σ):=rfl
theorem ad0{c:Str}{f:Nat}{es:Exs}:evE φ (.make c f es) σ μ=(gn φ es σ μ).bind (kMk φ c f):=rfl
theorem acg{f:Nat}{es:Exs}:evE φ (.callK f es) σ μ=(gn φ es σ μ).bind (Yz φ f):=rfl
theorem afk{e:Ex}:evE φ (.tru e) σ μ=(evE φ e σ μ).bind truD:=rfl
theorem afl{a b:Ex}:evE φ (.gix a b) σ μ=(evE φ a σ μ).bind (ady φ b σ):=rfl
theorem ach{b:Ex}{x:D}:ady φ b σ x μ=(evE φ b σ μ).bind (aa3 x):=rfl
theorem ad1:evE φ .dicr σ μ=.ok (.loc μ.length) (μ++[.dr []]):=rfl
theorem ad2{o e:Ex}{f:Str}:evS φ (.seta o f e) σ μ=(evE φ e σ μ).bind (adz φ o f σ):=rfl
theorem aci{o:Ex}{f:Str}{d:D}:adz φ o f σ d μ=(evE φ o σ μ).bind (ace f σ d):=rfl
theorem acj{f:Str}{d x:D}:ace f σ d x μ=(Sx f x d μ).bind (kNx σ):=rfl
theorem afm{c:Ex}{b:Sms}:evS φ (.whl c b) σ μ=kWh φ c b σ μ:=rfl
theorem ad3{a:Ex}:evI φ (.keys a) σ μ=(evE φ a σ μ).bind kKeys:=rfl
end
section
variable{μ:Sto}
theorem ad4{α β:Type}(a:α)(f:α->Sto->Res β):(Res.ok a μ).bind f=f a μ:=rfl
theorem ad5{α β:Type}(a:α)(k:α->Res β):ot (some a) k=k a:=rfl
theorem agd(d:D):finD (.rt d) μ=.ok d μ:=rfl
theorem age(σ:Sl):finD (.nx σ) μ=.ok .non μ:=rfl
theorem agf{α β:Type}(f:α->β)(a:α)(l:List α):(a::l).map f=f a::l.map f:=rfl
theorem agg{α β:Type}(f:α->β):([]:List α).map f=[]:=rfl
theorem agh{α:Type}(a:α)(l m:List α):a::l++m=a::(l++m):=rfl
theorem agi{α:Type}(m:List α):[]++m=m:=rfl
theorem agj{α:Type}(a:α)(l:List α):(a::l)[0]? = some a:=rfl
theorem agk{α:Type}(a:α)(l:List α)(i:Nat):(a::l)[i+1]? = l[i]?:=rfl
theorem agl{α:Type}(a b:α)(l:List α):(a::l).set 0 b=b::l:=rfl
theorem agm{α:Type}(a b:α)(l:List α)(i:Nat):(a::l).set (i+1) b=a::l.set i b:=rfl
theorem agn{α:Type}(a b:α):(some a).getD b=a:=rfl
theorem ago{op:Operator}{m:Mk}{i j:Int}:opD op m (.int i) (.int j) μ=opI op i j μ:=Dg
theorem agp{i j:Int}:opI .Add i j μ=.ok (.int (i+j)) μ:=op_add
theorem agq{i j:Int}:opI .Sub i j μ=.ok (.int (i-j)) μ:=op_sub
theorem agr{d:D}{b:Nat}:sg true b (.ok d μ)=.ok d μ:=tu
end
theorem EV1:type_of% (@Xx)/\type_of% (@Xy)/\type_of% (@Xz)/\type_of% (@X0)/\type_of% (@X3)/\type_of% (@X4)/\type_of% (@adp)/\type_of% (@X5)/\type_of% (@X6)/\type_of% (@X7)/\type_of% (@Qh)/\type_of% (@Qi)/\type_of% (@X8)/\type_of% (@X9)/\type_of% (@Qj)/\type_of% (@adq)/\type_of% (@ads)/\type_of% (@Ya)/\type_of% (@Yb)/\type_of% (@Yc)/\type_of% (@Qk)/\type_of% (@Ql)/\type_of% (@Kl)/\type_of% (@adt)/\type_of% (@adu)/\type_of% (@Qm)/\type_of% (@Km)/\type_of% (@Yd)/\type_of% (@Ye)/\type_of% (@Qn)/\type_of% (@Yf)/\type_of% (@Qo):=⟨@Xx,@Xy,@Xz,@X0,@X3,@X4,@adp,@X5,@X6,@X7,@Qh,@Qi,@X8,@X9,@Qj,@adq,@ads,@Ya,@Yb,@Yc,@Qk,@Ql,@Kl,@adt,@adu,@Qm,@Km,@Yd,@Ye,@Qn,@Yf,@Qo⟩
theorem EV2:type_of% (@Qp)/\type_of% (@Yg)/\type_of% (@Yh)/\type_of% (@Qq)/\type_of% (@adv)/\type_of% (@Yi)/\type_of% (@Qr)/\type_of% (@Yj)/\type_of% (@Qs)/\type_of% (@Yk)/\type_of% (@Qt)/\type_of% (@Qu)/\type_of% (@Kn)/\type_of% (@Bn)/\type_of% (@Yx)/\type_of% (@Ff)/\type_of% (@Kp)/\type_of% (@Qv)/\type_of% (@Qw)/\type_of% (@Yl)/\type_of% (@Ym)/\type_of% (@Qx)/\type_of% (@Qy)/\type_of% (@Kt)/\type_of% (@Qz)/\type_of% (@Q0)/\type_of% (@Rb)/\type_of% (@Rc)/\type_of% (@Rf)/\type_of% (@Ku)/\type_of% (@Kv)/\type_of% (@Rg):=⟨@Qp,@Yg,@Yh,@Qq,@adv,@Yi,@Qr,@Yj,@Qs,@Yk,@Qt,@Qu,@Kn,@Bn,@Yx,@Ff,@Kp,@Qv,@Qw,@Yl,@Ym,@Qx,@Qy,@Kt,@Qz,@Q0,@Rb,@Rc,@Rf,@Ku,@Kv,@Rg⟩
theorem EV3:type_of% (@Kw)/\type_of% (@Fg)/\type_of% (@Kx)/\type_of% (@Q1)/\type_of% (@Q2)/\type_of% (@Kz)/\type_of% (@Yn)/\type_of% (@Yo)/\type_of% (@Fh)/\type_of% (@Fi)/\type_of% (@Fj)/\type_of% (@K0)/\type_of% (@K1)/\type_of% (@K2)/\type_of% (@Bo)/\type_of% (@K3)/\type_of% (@K4)/\type_of% (@Rh)/\type_of% (@K6)/\type_of% (@K5)/\type_of% (@Yp)/\type_of% (@Yq)/\type_of% (@Ri)/\type_of% (@K7)/\type_of% (@Q3)/\type_of% (@Q5)/\type_of% (@Q6)/\type_of% (@Q7)/\type_of% (@Res.br)/\type_of% (@qo)/\type_of% (@Bp)/\type_of% (@zz):=⟨@Kw,@Fg,@Kx,@Q1,@Q2,@Kz,@Yn,@Yo,@Fh,@Fi,@Fj,@K0,@K1,@K2,@Bo,@K3,@K4,@Rh,@K6,@K5,@Yp,@Yq,@Ri,@K7,@Q3,@Q5,@Q6,@Q7,@Res.br,@qo,@Bp,@zz⟩
theorem EV4:type_of% (@Kq)/\type_of% (@Kr)/\type_of% (@Ks)/\type_of% (@Dg)/\type_of% (@op_add)/\type_of% (@op_sub)/\type_of% (@Yr)/\type_of% (@Yt)/\type_of% (@Yu)/\type_of% (@Yv)/\type_of% (@Q8)/\type_of% (@Q9)/\type_of% (@Ra)/\type_of% (@bt_min)/\type_of% (@bt_max)/\type_of% (@g0)/\type_of% (@Kj)/\type_of% (@Kk)/\type_of% (@AF.{0,0})/\type_of% (@Db.{0,0})/\type_of% (@Fk)/\type_of% (@Fm)/\type_of% (@EH.{0})/\type_of% (@ED.{0})/\type_of% (@DM.{0})/\type_of% (@DL.{0})/\type_of% (@DI.{0})/\type_of% (@EK.{0})/\type_of% (@Go.{0})/\type_of% (@tu):=⟨@Kq,@Kr,@Ks,@Dg,@op_add,@op_sub,@Yr,@Yt,@Yu,@Yv,@Q8,@Q9,@Ra,@bt_min,@bt_max,@g0,@Kj,@Kk,@AF.{0,0},@Db.{0,0},@Fk,@Fm,@EH.{0},@ED.{0},@DM.{0},@DL.{0},@DI.{0},@EK.{0},@Go.{0},@tu⟩
theorem EV5:type_of% (@Yy)/\type_of% (@K8)/\type_of% (@Rj)/\type_of% (@K9)/\type_of% (@La)/\type_of% (@Lb)/\type_of% (@Fn)/\type_of% (@Fo)/\type_of% (@Lc):=⟨@Yy,@K8,@Rj,@K9,@La,@Lb,@Fn,@Fo,@Lc⟩
end Lr
namespace Lp
open PySem
noncomputable abbrev gv:Nat:=0
noncomputable abbrev yn:Nat:=1
noncomputable abbrev qb:Nat:=2
noncomputable abbrev jn:Nat:=6
noncomputable abbrev d8:Nat:=34
noncomputable abbrev ml:Nat:=93
noncomputable abbrev h8:Nat:=123
noncomputable abbrev bx:Nat:=218
noncomputable abbrev gp:Nat:=219
noncomputable abbrev gw:Nat:=220
noncomputable abbrev gx:Nat:=221
noncomputable abbrev bw:Nat:=222
noncomputable abbrev cu:Nat:=223
noncomputable abbrev mm:Nat:=224
noncomputable abbrev jo:Nat:=225
noncomputable abbrev i9:Nat:=226
noncomputable abbrev aq:Nat:=229
noncomputable abbrev kd:Nat:=231
noncomputable abbrev jh:Nat:=235
noncomputable abbrev jq:Nat:=236
noncomputable abbrev gh:Nat:=245
noncomputable abbrev fj:Nat:=246
noncomputable abbrev o4:Nat:=247
noncomputable abbrev nz:Nat:=248
noncomputable abbrev dq:Nat:=249
noncomputable abbrev du:Nat:=250
noncomputable abbrev mn:Nat:=251
noncomputable abbrev kf:Nat:=252
noncomputable abbrev kg:Nat:=253
noncomputable abbrev h9:Nat:=254
noncomputable abbrev ia:Nat:=255
noncomputable abbrev iu:Nat:=256
noncomputable abbrev wb:Nat:=257
noncomputable def D_night_need:Df:=⟨2,7,(.cons (.unp [2,3,4,5,6] (.ix (.ix (.var 0) (.cst (.int 3))) (.var 1))) (.cons (.ret (.bin .Mult .z (.var 6) (.var 5))) .nil))⟩
noncomputable def wc:Ex:=(.call false gv (.cons (.var 0) (.cons (.var 1) .nil)))
noncomputable def D_need:Df:=⟨1,1,(.cons (.ret (.blt .sum .z (.cons (.comp .z [0] 1 (.one 1) (.rng (.blt .len .z (.cons (.ix (.var 0) (.cst (.int 3))) .nil))) .nil wc) .nil))) .nil)⟩
noncomputable def D_can_burn:Df:=⟨3,6,(.cons (.unp [3,4,5] (.ix (.ix (.var 0) (.cst (.int 2))) (.var 1))) (.cons (.ret (.cmp (.var 2) (.cons .notin (.var 5) .nil))) .nil))⟩
noncomputable def D_law_whole:Df:=⟨1,1,(.cons (.ret (.and (.isi (.var 0) .int) (.not (.isi (.var 0) .bool)))) .nil)⟩
noncomputable def gq:Sms:=(.cons (.setx (.var 2) (.var 3) (.bin .Sub .z (.bin .Add .z (.meth .get (.var 2) (.cons (.var 3) (.cons (.cst (.int 0)) .nil))) (.var 5)) (.var 4))) .nil)
noncomputable def gr:Ex:=(.meth .get (.var 0) (.cons (.var 1) (.cons (.cst (.int 0)) .nil)))
noncomputable def D_ticks_of_spans:Df:=⟨2,6,(.cons (.set 2 (.dic false .nil)) (.cons (.loop (.many [3,4,5]) (.seq (.var 1)) gq) (.cons (.ret (.blt .tuple .z (.cons (.comp .z [2] 1 (.one 1) (.rng (.var 0)) .nil gr) .nil))) .nil)))⟩
noncomputable def D_ticks_in:Df:=⟨2,2,(.cons (.ret (.call false d8 (.cons (.var 0) (.cons (.var 1) .nil)))) .nil)⟩
noncomputable def D_law_cell_at:Df:=⟨2,2,(.cons (.ite (.cmp (.var 1) (.cons .lt (.blt .len .z (.cons (.var 0) .nil)) .nil)) (.cons (.ret (.ix (.var 0) (.var 1))) .nil) .nil) (.cons (.ret (.cst (.int 0))) .nil))⟩
noncomputable def D_store_node:Df:=⟨2,2,(.cons (.ret (.bin .Add .z (.cst (.int 2)) (.bin .Mult .z (.var 1) (.bin .Add .z (.bin .Mult .z (.cst (.int 2)) (.blt .len .z (.cons (.ix (.var 0) (.cst (.int 2))) .nil))) (.cst (.int 2)))))) .nil)⟩
noncomputable def D_tank_node:Df:=⟨3,3,(.cons (.ret (.bin .Add .z (.bin .Add .z (.call false bx (.cons (.var 0) (.cons (.var 2) .nil))) (.cst (.int 1))) (.bin .Mult .z (.cst (.int 2)) (.var 1)))) .nil)⟩
noncomputable def D_flame_node:Df:=⟨3,3,(.cons (.ret (.bin .Add .z (.bin .Add .z (.call false bx (.cons (.var 0) (.cons (.var 2) .nil))) (.cst (.int 2))) (.bin .Mult .z (.cst (.int 2)) (.var 1)))) .nil)⟩
noncomputable def D_night_node:Df:=⟨2,2,(.cons (.ret (.bin .Add .z (.bin .Add .z (.call false bx (.cons (.var 0) (.cons (.var 1) .nil))) (.bin .Mult .z (.cst (.int 2)) (.blt .len .z (.cons (.ix (.var 0) (.cst (.int 2))) .nil)))) (.cst (.int 1)))) .nil)⟩
noncomputable def dw:Sms:=(.cons (.ex (.meth .append (.var 5) (.cons (.tup (.cons (.tup (.cons (.cst (.int 0)) (.cons (.call false gp (.cons (.var 0) (.cons (.var 6) (.cons (.cst (.int 0)) .nil)))) (.cons (.ix (.var 7) (.cst (.int 1))) (.cons (.cst (.int 0)) .nil))))) (.cons (.tup (.cons (.cst (.str (PySem.Str.ofString "left"))) (.cons (.cst (.int 0)) (.cons (.var 6) .nil)))) .nil))) .nil))) .nil)
noncomputable def D_first_morning_ties:Df:=⟨1,8,(.cons (.unp [1,2,3,4] (.var 0)) (.cons (.set 5 (.lst .l (.cons (.tup (.cons (.tup (.cons (.cst (.int 0)) (.cons (.call false bx (.cons (.var 0) (.cons (.cst (.int 0)) .nil))) (.cons (.var 2) (.cons (.cst (.int 0)) .nil))))) (.cons (.tup (.cons (.cst (.str (PySem.Str.ofString "kept"))) (.cons (.cst (.int 0)) .nil))) .nil))) .nil))) (.cons (.loop (.many [6,7]) (.enum (.var 3)) dw) (.cons (.ret (.var 5)) .nil))))⟩
noncomputable def dz:Sms:=(.cons (.set 4 (.call false gw (.cons (.var 0) (.cons (.var 3) (.cons (.bin .Sub .z (.var 1) (.cst (.int 1))) .nil))))) (.cons (.ex (.meth .append (.var 2) (.cons (.tup (.cons (.tup (.cons (.var 4) (.cons (.call false gp (.cons (.var 0) (.cons (.var 3) (.cons (.var 1) .nil)))) (.cons (.call false yn (.cons (.var 0) .nil)) (.cons (.cst (.int 0)) .nil))))) (.cons (.tup (.cons (.cst (.str (PySem.Str.ofString "left"))) (.cons (.var 1) (.cons (.var 3) .nil)))) .nil))) .nil))) .nil))
noncomputable def D_later_morning_ties:Df:=⟨2,5,(.cons (.set 2 (.lst .l (.cons (.tup (.cons (.tup (.cons (.call false bx (.cons (.var 0) (.cons (.bin .Sub .z (.var 1) (.cst (.int 1))) .nil))) (.cons (.call false bx (.cons (.var 0) (.cons (.var 1) .nil))) (.cons (.ix (.var 0) (.cst (.int 0))) (.cons (.cst (.int 0)) .nil))))) (.cons (.tup (.cons (.cst (.str (PySem.Str.ofString "kept"))) (.cons (.var 1) .nil))) .nil))) .nil))) (.cons (.loop (.one 3) (.rng (.blt .len .z (.cons (.ix (.var 0) (.cst (.int 2))) .nil))) dz) (.cons (.ret (.frz 2)) .nil)))⟩
noncomputable def D_day_ties:Df:=⟨2,8,(.cons (.unp [2,3,4,5,6] (.ix (.ix (.var 0) (.cst (.int 3))) (.var 1))) (.cons (.set 7 (.call false bx (.cons (.var 0) (.cons (.var 1) .nil)))) (.cons (.ret (.lst .z (.cons (.tup (.cons (.tup (.cons (.cst (.int 0)) (.cons (.var 7) (.cons (.var 2) (.cons (.cst (.int 0)) .nil))))) (.cons (.tup (.cons (.cst (.str (PySem.Str.ofString "taken"))) (.cons (.var 1) .nil))) .nil))) (.cons (.tup (.cons (.tup (.cons (.cst (.int 0)) (.cons (.var 7) (.cons (.var 3) (.cons (.var 4) .nil))))) (.cons (.tup (.cons (.cst (.str (PySem.Str.ofString "bought"))) (.cons (.var 1) .nil))) .nil))) (.cons (.tup (.cons (.tup (.cons (.call false gx (.cons (.var 0) (.cons (.var 1) .nil))) (.cons (.cst (.int 1)) (.cons (.call false gv (.cons (.var 0) (.cons (.var 1) .nil))) (.cons (.cst (.int 0)) .nil))))) (.cons (.tup (.cons (.cst (.str (PySem.Str.ofString "shining"))) (.cons (.var 1) .nil))) .nil))) .nil))))) .nil)))⟩
noncomputable def D_lamp_ties:Df:=⟨3,6,(.cons (.set 3 (.call false gp (.cons (.var 0) (.cons (.var 1) (.cons (.var 2) .nil))))) (.cons (.set 4 (.call false gw (.cons (.var 0) (.cons (.var 1) (.cons (.var 2) .nil))))) (.cons (.set 5 (.ite (.call false qb (.cons (.var 0) (.cons (.var 1) (.cons (.var 2) .nil)))) (.ix (.ix (.ix (.var 0) (.cst (.int 3))) (.var 2)) (.cst (.int 3))) (.cst (.int 0)))) (.cons (.ret (.lst .z (.cons (.tup (.cons (.tup (.cons (.call false bx (.cons (.var 0) (.cons (.var 2) .nil))) (.cons (.var 3) (.cons (.call false yn (.cons (.var 0) .nil)) (.cons (.cst (.int 0)) .nil))))) (.cons (.tup (.cons (.cst (.str (PySem.Str.ofString "poured"))) (.cons (.var 2) (.cons (.var 1) .nil)))) .nil))) (.cons (.tup (.cons (.tup (.cons (.var 3) (.cons (.var 4) (.cons (.ix (.ix (.ix (.var 0) (.cst (.int 2))) (.var 1)) (.cst (.int 0))) (.cons (.cst (.int 0)) .nil))))) (.cons (.tup (.cons (.cst (.str (PySem.Str.ofString "through"))) (.cons (.var 2) (.cons (.var 1) .nil)))) .nil))) (.cons (.tup (.cons (.tup (.cons (.var 4) (.cons (.call false gx (.cons (.var 0) (.cons (.var 2) .nil))) (.cons (.var 5) (.cons (.cst (.int 0)) .nil))))) (.cons (.tup (.cons (.cst (.str (PySem.Str.ofString "burnt"))) (.cons (.var 2) (.cons (.var 1) .nil)))) .nil))) .nil))))) .nil))))⟩
noncomputable def jr:Sms:=(.cons (.ex (.meth .extend (.var 1) (.cons (.call false cu (.cons (.var 0) (.cons (.var 2) .nil))) .nil))) .nil)
noncomputable def jt:Sms:=(.cons (.ex (.meth .extend (.var 1) (.cons (.call false jo (.cons (.var 0) (.cons (.var 3) (.cons (.var 2) .nil)))) .nil))) .nil)
noncomputable def ju:Sms:=(.cons (.ex (.meth .extend (.var 1) (.cons (.call false mm (.cons (.var 0) (.cons (.var 2) .nil))) .nil))) (.cons (.loop (.one 3) (.rng (.blt .len .z (.cons (.ix (.var 0) (.cst (.int 2))) .nil))) jt) .nil))
noncomputable def D_named_ties:Df:=⟨1,4,(.cons (.set 1 (.call true bw (.cons (.var 0) .nil))) (.cons (.loop (.one 2) (.rng2 (.cst (.int 1)) (.blt .len .z (.cons (.ix (.var 0) (.cst (.int 3))) .nil))) jr) (.cons (.loop (.one 2) (.rng (.blt .len .z (.cons (.ix (.var 0) (.cst (.int 3))) .nil))) ju) (.cons (.ret (.blt .sortedN .z (.cons (.var 1) .nil))) .nil))))⟩
noncomputable def D_law_mixed_3:Df:=⟨1,2,(.cons (.set 1 (.bin .Mod .z (.bin .Mult .z (.bin .Add .z (.bin .Mod .z (.var 0) (.cst (.int 998244353))) (.cst (.int 1))) (.cst (.int 69621))) (.cst (.int 2147483647)))) (.cons (.ret (.bin .FloorDiv .z (.bin .Mod .z (.bin .Mult .z (.var 1) (.var 1)) (.cst (.int 1000000007))) (.cst (.int 7)))) .nil))⟩
noncomputable def jv:Sms:=(.cons (.setx (.var 2) (.bin .Mod .z (.var 3) (.var 1)) (.bin .Add .z (.bin .Mult .z (.ix (.var 2) (.bin .Mod .z (.var 3) (.var 1))) (.cst (.int 31))) (.ix (.var 0) (.var 3)))) .nil)
noncomputable def D_law_folded:Df:=⟨2,4,(.cons (.set 2 (.bin .Mult .l (.lst .z (.cons (.cst (.int 0)) .nil)) (.var 1))) (.cons (.loop (.one 3) (.rng (.blt .len .z (.cons (.var 0) .nil))) jv) (.cons (.ret (.frz 2)) .nil)))⟩
noncomputable def n3:Ex:=(.bin .Mult .z (.ix (.var 0) (.cst (.int 3))) (.ix (.var 0) (.cst (.int 4))))
noncomputable def D_law_need:Df:=⟨1,1,(.cons (.ret (.blt .sum .z (.cons (.comp .z [] 1 (.one 0) (.seq (.ix (.var 0) (.cst (.int 3)))) .nil n3) .nil))) .nil)⟩
noncomputable def lh:Sms:=(.cons (.ex (.meth .append (.var 4) (.cons (.tup (.cons (.cst (.int 0)) (.cons (.bin .Add .z (.cst (.int 3)) (.bin .Mult .z (.cst (.int 2)) (.var 5))) (.cons (.ix (.ix (.ix (.var 0) (.cst (.int 2))) (.var 5)) (.cst (.int 1))) (.cons (.cst (.int 0)) .nil))))) .nil))) .nil)
noncomputable def iw:Sms:=(.cons (.set 13 (.bin .Mult .z (.var 10) (.blt .int .z (.cons (.cmp (.var 6) (.cons .notin (.ix (.ix (.ix (.var 0) (.cst (.int 2))) (.var 5)) (.cst (.int 2))) .nil)) .nil)))) (.cons (.ex (.meth .append (.var 4) (.cons (.tup (.cons (.var 12) (.cons (.bin .Add .z (.bin .Add .z (.var 12) (.cst (.int 1))) (.bin .Mult .z (.cst (.int 2)) (.var 5))) (.cons (.var 3) (.cons (.cst (.int 0)) .nil))))) .nil))) (.cons (.ex (.meth .append (.var 4) (.cons (.tup (.cons (.bin .Add .z (.bin .Add .z (.var 12) (.cst (.int 1))) (.bin .Mult .z (.cst (.int 2)) (.var 5))) (.cons (.bin .Add .z (.bin .Add .z (.var 12) (.cst (.int 2))) (.bin .Mult .z (.cst (.int 2)) (.var 5))) (.cons (.ix (.ix (.ix (.var 0) (.cst (.int 2))) (.var 5)) (.cst (.int 0))) (.cons (.cst (.int 0)) .nil))))) .nil))) (.cons (.ex (.meth .append (.var 4) (.cons (.tup (.cons (.bin .Add .z (.bin .Add .z (.var 12) (.cst (.int 2))) (.bin .Mult .z (.cst (.int 2)) (.var 5))) (.cons (.bin .Sub .z (.bin .Add .z (.var 12) (.var 2)) (.cst (.int 1))) (.cons (.var 13) (.cons (.cst (.int 0)) .nil))))) .nil))) (.cons (.ite (.cmp (.var 6) (.cons .lt (.bin .Sub .z (.blt .len .z (.cons (.ix (.var 0) (.cst (.int 3))) .nil)) (.cst (.int 1))) .nil)) (.cons (.ex (.meth .append (.var 4) (.cons (.tup (.cons (.bin .Add .z (.bin .Add .z (.var 12) (.cst (.int 2))) (.bin .Mult .z (.cst (.int 2)) (.var 5))) (.cons (.bin .Add .z (.bin .Add .z (.bin .Add .z (.var 12) (.var 2)) (.cst (.int 1))) (.bin .Mult .z (.cst (.int 2)) (.var 5))) (.cons (.var 3) (.cons (.cst (.int 0)) .nil))))) .nil))) .nil) .nil) .nil)))))
noncomputable def iy:Sms:=(.cons (.unp [7,8,9,10,11] (.ix (.ix (.var 0) (.cst (.int 3))) (.var 6))) (.cons (.set 12 (.bin .Add .z (.cst (.int 2)) (.bin .Mult .z (.var 6) (.var 2)))) (.cons (.ex (.meth .append (.var 4) (.cons (.tup (.cons (.cst (.int 0)) (.cons (.var 12) (.cons (.var 7) (.cons (.cst (.int 0)) .nil))))) .nil))) (.cons (.ex (.meth .append (.var 4) (.cons (.tup (.cons (.cst (.int 0)) (.cons (.var 12) (.cons (.var 8) (.cons (.var 9) .nil))))) .nil))) (.cons (.ex (.meth .append (.var 4) (.cons (.tup (.cons (.bin .Sub .z (.bin .Add .z (.var 12) (.var 2)) (.cst (.int 1))) (.cons (.cst (.int 1)) (.cons (.bin .Mult .z (.var 11) (.var 10)) (.cons (.cst (.int 0)) .nil))))) .nil))) (.cons (.loop (.one 5) (.rng (.var 1)) iw) (.cons (.ite (.cmp (.var 6) (.cons .lt (.bin .Sub .z (.blt .len .z (.cons (.ix (.var 0) (.cst (.int 3))) .nil)) (.cst (.int 1))) .nil)) (.cons (.ex (.meth .append (.var 4) (.cons (.tup (.cons (.var 12) (.cons (.bin .Add .z (.var 12) (.var 2)) (.cons (.ix (.var 0) (.cst (.int 0))) (.cons (.cst (.int 0)) .nil))))) .nil))) .nil) .nil) .nil)))))))
noncomputable def D_law_web_3:Df:=⟨1,14,(.cons (.set 1 (.blt .len .z (.cons (.ix (.var 0) (.cst (.int 2))) .nil))) (.cons (.set 2 (.bin .Add .z (.bin .Mult .z (.cst (.int 2)) (.var 1)) (.cst (.int 2)))) (.cons (.set 3 (.call false jh (.cons (.var 0) .nil))) (.cons (.set 4 (.lst .l (.cons (.tup (.cons (.cst (.int 0)) (.cons (.cst (.int 2)) (.cons (.ix (.var 0) (.cst (.int 1))) (.cons (.cst (.int 0)) .nil))))) .nil))) (.cons (.loop (.one 5) (.rng (.var 1)) lh) (.cons (.loop (.one 6) (.rng (.blt .len .z (.cons (.ix (.var 0) (.cst (.int 3))) .nil))) iy) (.cons (.ret (.tup (.cons (.bin .Add .z (.cst (.int 2)) (.bin .Mult .z (.var 2) (.blt .len .z (.cons (.ix (.var 0) (.cst (.int 3))) .nil)))) (.cons (.blt .tuple .z (.cons (.blt .sortedT .z (.cons (.var 4) .nil)) .nil)) .nil)))) .nil)))))))⟩
noncomputable def D_add_lamp_flows:Df:=⟨4,11,(.cons (.unp [4,5,6,7] (.var 2)) (.cons (.set 8 (.ix (.call false ml (.cons (.blt .len .z (.cons (.var 6) .nil)) (.cons (.var 7) .nil))) (.var 0))) (.cons (.set 9 (.bin .Add .z (.var 8) (.getT (.var 3) (.cons (.cst (.str (PySem.Str.ofString "left"))) (.cons (.bin .Add .z (.var 1) (.cst (.int 1))) (.cons (.var 0) .nil))) (.cst (.int 0))))) (.cons (.set 10 (.blt .min .z (.cons (.ix (.var 6) (.var 0)) (.cons (.var 9) .nil)))) (.cons (.setxT (.var 3) (.cons (.cst (.str (PySem.Str.ofString "burnt"))) (.cons (.var 1) (.cons (.var 0) .nil))) (.var 8)) (.cons (.setxT (.var 3) (.cons (.cst (.str (PySem.Str.ofString "through"))) (.cons (.var 1) (.cons (.var 0) .nil))) (.var 9)) (.cons (.setxT (.var 3) (.cons (.cst (.str (PySem.Str.ofString "poured"))) (.cons (.var 1) (.cons (.var 0) .nil))) (.var 10)) (.cons (.setxT (.var 3) (.cons (.cst (.str (PySem.Str.ofString "left"))) (.cons (.var 1) (.cons (.var 0) .nil))) (.bin .Sub .z (.var 9) (.var 10))) .nil))))))))⟩
noncomputable def fz:Ex:=(.ixT (.var 0) (.cons (.cst (.str (PySem.Str.ofString "poured"))) (.cons (.var 1) (.cons (.var 2) .nil))))
noncomputable def D_add_store_flows:Df:=⟨3,10,(.cons (.unp [3,4,5,6] (.var 1)) (.cons (.set 7 (.bin .Add .z (.blt .sum .z (.cons (.comp .z [2,0] 1 (.one 2) (.rng (.blt .len .z (.cons (.var 5) .nil))) .nil fz) .nil)) (.getT (.var 2) (.cons (.cst (.str (PySem.Str.ofString "kept"))) (.cons (.bin .Add .z (.var 0) (.cst (.int 1))) .nil)) (.cst (.int 0))))) (.cons (.set 8 (.blt .min .z (.cons (.var 3) (.cons (.var 7) .nil)))) (.cons (.set 9 (.blt .min .z (.cons (.var 4) (.cons (.bin .Sub .z (.var 7) (.var 8)) .nil)))) (.cons (.setxT (.var 2) (.cons (.cst (.str (PySem.Str.ofString "taken"))) (.cons (.var 0) .nil)) (.var 8)) (.cons (.setxT (.var 2) (.cons (.cst (.str (PySem.Str.ofString "bought"))) (.cons (.var 0) .nil)) (.var 9)) (.cons (.setxT (.var 2) (.cons (.cst (.str (PySem.Str.ofString "kept"))) (.cons (.var 0) .nil)) (.bin .Sub .z (.bin .Sub .z (.var 7) (.var 8)) (.var 9))) .nil)))))))⟩
noncomputable def kh:Sms:=(.cons (.ex (.call false gh (.cons (.var 4) (.cons (.var 3) (.cons (.ix (.var 1) (.var 3)) (.cons (.var 2) .nil)))))) .nil)
noncomputable def o5:Sms:=(.cons (.loop (.one 4) (.rng (.blt .len .z (.cons (.ix (.var 0) (.cst (.int 2))) .nil))) kh) (.cons (.ex (.call false fj (.cons (.var 3) (.cons (.ix (.var 1) (.var 3)) (.cons (.var 2) .nil))))) (.cons (.setxT (.var 2) (.cons (.cst (.str (PySem.Str.ofString "shining"))) (.cons (.var 3) .nil)) (.call false gv (.cons (.var 0) (.cons (.var 3) .nil)))) .nil)))
noncomputable def o6:Ex:=(.ixV (.var 0) (.var 2))
noncomputable def D_flow_by:Df:=⟨2,5,(.cons (.set 2 (.dic true .nil)) (.cons (.loop (.one 3) (.rngD (.bin .Sub .z (.blt .len .z (.cons (.var 1) .nil)) (.cst (.int 1))) (.neg (.cst (.int 1))) (.neg (.cst (.int 1)))) o5) (.cons (.ret (.blt .tuple .z (.cons (.comp .z [2] 2 (.many [1,2]) (.seq (.call false i9 (.cons (.var 0) .nil))) .nil o6) .nil))) .nil)))⟩
noncomputable def lj:Ex:=(.bin .Mod .z (.bin .Add .z (.var 0) (.var 2)) (.var 1))
noncomputable def lp:Sms:=(.cons (.set 8 (.bin .Mod .z (.bin .FloorDiv .z (.call false aq (.cons (.ix (.var 0) (.cst (.int 2))) .nil)) (.bin .Add .z (.var 7) (.cst (.int 1)))) (.bin .Add .z (.var 2) (.cst (.int 1))))) (.cons (.set 9 (.ix (.var 5) (.var 7))) (.cons (.set 10 (.var 9)) (.cons (.ite (.and (.cmp (.var 7) (.cons .eq (.cst (.int 0)) .nil)) (.cmp (.var 3) (.cons .lt (.var 1) .nil))) (.cons (.set 10 (.ix (.var 5) (.bin .Sub .z (.var 1) (.cst (.int 1))))) .nil) .nil) (.cons (.ite (.cmp (.var 8) (.cons .gt (.cst (.int 0)) .nil)) (.cons (.ex (.meth .append (.var 6) (.cons (.tup (.cons (.var 9) (.cons (.cst (.int 0)) (.cons (.var 8) .nil)))) .nil))) .nil) .nil) (.cons (.ite (.cmp (.var 8) (.cons .lt (.var 2) .nil)) (.cons (.ex (.meth .append (.var 6) (.cons (.tup (.cons (.var 10) (.cons (.var 8) (.cons (.var 2) .nil)))) .nil))) .nil) .nil) .nil))))))
noncomputable def D_law_night:Df:=⟨3,11,(.cons (.set 3 (.bin .Mod .z (.call false aq (.cons (.ix (.var 0) (.cst (.int 0))) .nil)) (.bin .Add .z (.var 1) (.cst (.int 1))))) (.cons (.set 4 (.call false aq (.cons (.ix (.var 0) (.cst (.int 1))) .nil))) (.cons (.set 5 (.comp .z [4,1] 1 (.one 2) (.rng (.var 1)) .nil lj)) (.cons (.set 6 (.lst .l .nil)) (.cons (.loop (.one 7) (.rng (.var 3)) lp) (.cons (.ret (.tup (.cons (.var 3) (.cons (.blt .tuple .z (.cons (.blt .sortedT .z (.cons (.var 6) .nil)) .nil)) .nil)))) .nil))))))⟩
noncomputable def D_law_slack_2:Df:=⟨2,2,(.cons (.ite (.cmp (.bin .Mod .z (.call false aq (.cons (.var 0) .nil)) (.cst (.int 3))) (.cons .gt (.cst (.int 0)) .nil)) (.cons (.ret (.var 1)) .nil) .nil) (.cons (.ret (.bin .Add .z (.var 1) (.bin .Mod .z (.bin .FloorDiv .z (.call false aq (.cons (.var 0) .nil)) (.cst (.int 3))) (.cst (.int 5))))) .nil))⟩
noncomputable def gi:Exs:=(.cons (.cmp (.ix (.var 1) (.cst (.int 0))) (.cons .eq (.var 0) .nil)) .nil)
noncomputable def gj:Ex:=(.bin .Sub .z (.ix (.var 1) (.cst (.int 2))) (.ix (.var 1) (.cst (.int 1))))
noncomputable def D_law_burns_3:Df:=⟨2,2,(.cons (.ret (.blt .sum .z (.cons (.comp .z [1] 1 (.one 1) (.seq (.var 0)) gi gj) .nil))) .nil)⟩
noncomputable def jb:Exs:=(.cons (.cmp (.call false du (.cons (.ix (.ix (.var 0) (.var 2)) (.cst (.int 3))) (.cons (.var 1) .nil))) (.cons .eq (.cst (.int 0)) .nil)) .nil)
noncomputable def jc:Ex:=(.var 2)
noncomputable def jd:Exs:=(.cons (.cmp (.bin .Mod .z (.bin .RShift .z (.call false aq (.cons (.var 0) .nil)) (.var 1)) (.cst (.int 2))) (.cons .eq (.cst (.int 1)) .nil)) .nil)
noncomputable def je:Ex:=(.var 1)
noncomputable def D_law_idle:Df:=⟨3,4,(.cons (.set 3 (.comp .z [0,2] 1 (.one 2) (.rng (.blt .len .z (.cons (.var 0) .nil))) jb jc)) (.cons (.ret (.blt .tuple .z (.cons (.comp .z [1] 1 (.one 1) (.seq (.var 3)) jd je) .nil))) .nil))⟩
noncomputable def jw:Sms:=(.cons (.set 5 (.call false aq (.cons (.ix (.var 2) (.var 4)) .nil))) (.cons (.ex (.meth .append (.var 3) (.cons (.bin .Add .z (.blt .max .z (.cons (.cst (.int 0)) (.cons (.bin .Sub .z (.call false du (.cons (.var 0) (.cons (.var 4) .nil))) (.ix (.var 1) (.var 4))) .nil))) (.bin .Mult .z (.bin .Mod .z (.var 5) (.cst (.int 3))) (.bin .Mod .z (.bin .FloorDiv .z (.var 5) (.cst (.int 3))) (.cst (.int 2))))) .nil))) .nil))
noncomputable def D_law_poured:Df:=⟨3,6,(.cons (.set 3 (.lst .l .nil)) (.cons (.loop (.one 4) (.rng (.blt .len .z (.cons (.var 1) .nil))) jw) (.cons (.ret (.frz 3)) .nil)))⟩
noncomputable def jx:Ex:=(.tup (.cons (.bin .Mult .z (.ix (.var 1) (.cst (.int 0))) (.var 0)) (.cons (.bin .Mult .z (.ix (.var 1) (.cst (.int 1))) (.var 0)) (.cons (.ix (.var 1) (.cst (.int 2))) .nil))))
noncomputable def jy:Ex:=(.tup (.cons (.bin .Mult .z (.ix (.var 1) (.cst (.int 0))) (.var 0)) (.cons (.bin .Mult .z (.ix (.var 1) (.cst (.int 1))) (.var 0)) (.cons (.ix (.var 1) (.cst (.int 2))) (.cons (.bin .Mult .z (.ix (.var 1) (.cst (.int 3))) (.var 0)) (.cons (.ix (.var 1) (.cst (.int 4))) .nil))))))
noncomputable def jz:Ex:=(.tup (.cons (.ix (.var 1) (.cst (.int 0))) (.cons (.bin .Mult .z (.ix (.var 1) (.cst (.int 1))) (.var 0)) (.cons (.bin .Mult .z (.ix (.var 1) (.cst (.int 2))) (.var 0)) .nil))))
noncomputable def j0:Ex:=(.bin .Mult .z (.var 1) (.var 0))
noncomputable def j3:Sms:=(.cons (.set 10 (.blt .tuple .z (.cons (.comp .z [2] 1 (.one 1) (.seq (.var 9)) .nil jz) .nil))) (.cons (.ex (.meth .append (.var 5) (.cons (.tup (.cons (.bin .Mult .z (.var 6) (.var 2)) (.cons (.bin .Mult .z (.var 7) (.var 2)) (.cons (.blt .tuple .z (.cons (.comp .z [2] 1 (.one 1) (.seq (.var 8)) .nil j0) .nil)) (.cons (.var 10) .nil))))) .nil))) .nil))
noncomputable def D_law_scaled:Df:=⟨3,11,(.cons (.set 3 (.blt .tuple .z (.cons (.comp .z [2] 1 (.one 1) (.seq (.ix (.var 0) (.cst (.int 2)))) .nil jx) .nil))) (.cons (.set 4 (.blt .tuple .z (.cons (.comp .z [2] 1 (.one 1) (.seq (.ix (.var 0) (.cst (.int 3)))) .nil jy) .nil))) (.cons (.set 5 (.lst .l .nil)) (.cons (.loop (.many [6,7,8,9]) (.seq (.var 1)) j3) (.cons (.ret (.tup (.cons (.tup (.cons (.bin .Mult .z (.ix (.var 0) (.cst (.int 0))) (.var 2)) (.cons (.bin .Mult .z (.ix (.var 0) (.cst (.int 1))) (.var 2)) (.cons (.var 3) (.cons (.var 4) .nil))))) (.cons (.blt .tuple .z (.cons (.var 5) .nil)) .nil)))) .nil)))))⟩
noncomputable def ib:Ex:=(.bin .Mod .z (.call false aq (.cons (.ix (.var 0) (.bin .Add .z (.cst (.int 2)) (.bin .Mult .z (.cst (.int 3)) (.var 1)))) .nil)) (.cst (.int 9)))
noncomputable def fb:Sms:=(.cons (.setx (.var 5) (.var 19) (.bin .Add .z (.ix (.var 5) (.var 19)) (.ix (.var 18) (.var 19)))) (.cons (.setx (.var 8) (.var 19) (.blt .max .z (.cons (.ix (.var 8) (.var 19)) (.cons (.ix (.var 5) (.var 19)) .nil)))) (.cons (.setx (.var 5) (.var 19) (.bin .Sub .z (.ix (.var 5) (.var 19)) (.call false du (.cons (.var 17) (.cons (.var 19) .nil))))) .nil)))
noncomputable def c8:Sms:=(.cons (.set 13 (.bin .Add .z (.bin .Add .z (.cst (.int 2)) (.bin .Mult .z (.cst (.int 3)) (.var 2))) (.bin .Mult .z (.var 12) (.bin .Add .z (.cst (.int 8)) (.var 2))))) (.cons (.set 14 (.sl .z (.var 4) (.so (.var 13)) (.so (.bin .Add .z (.bin .Add .z (.var 13) (.cst (.int 8))) (.var 2))))) (.cons (.set 15 (.bin .Add .z (.cst (.int 1)) (.bin .Mod .z (.call false aq (.cons (.ix (.var 14) (.cst (.int 0))) .nil)) (.cst (.int 6))))) (.cons (.unp [16,17] (.call false nz (.cons (.sl .z (.var 14) (.so (.cst (.int 1))) (.so (.cst (.int 4)))) (.cons (.var 2) (.cons (.var 15) .nil))))) (.cons (.set 18 (.call false kf (.cons (.var 17) (.cons (.var 5) (.cons (.sl .z (.var 14) (.so (.cst (.int 8))) .no) .nil))))) (.cons (.loop (.one 19) (.rng (.var 2)) fb) (.cons (.set 20 (.blt .max .z (.cons (.cst (.int 0)) (.cons (.bin .Sub .z (.blt .sum .z (.cons (.var 18) .nil)) (.var 6)) .nil)))) (.cons (.set 21 (.bin .Mod .z (.call false aq (.cons (.ix (.var 14) (.cst (.int 4))) .nil)) (.bin .Add .z (.var 20) (.cst (.int 2))))) (.cons (.set 22 (.blt .max .z (.cons (.cst (.int 0)) (.cons (.bin .Sub .z (.var 20) (.var 21)) .nil)))) (.cons (.set 6 (.blt .min .z (.cons (.var 9) (.cons (.bin .Sub .z (.bin .Add .z (.bin .Add .z (.var 6) (.var 21)) (.var 22)) (.blt .sum .z (.cons (.var 18) .nil))) .nil)))) (.cons (.set 23 (.bin .Mod .z (.call false aq (.cons (.ix (.var 14) (.cst (.int 7))) .nil)) (.cst (.int 7)))) (.cons (.ex (.meth .append (.var 11) (.cons (.tup (.cons (.call false dq (.cons (.ix (.var 14) (.cst (.int 5))) (.cons (.var 21) .nil))) (.cons (.call false dq (.cons (.ix (.var 14) (.cst (.int 6))) (.cons (.var 22) .nil))) (.cons (.var 23) (.cons (.var 15) (.cons (.var 16) .nil)))))) .nil))) (.cons (.ex (.meth .append (.var 10) (.cons (.tup (.cons (.var 21) (.cons (.var 22) (.cons (.blt .tuple .z (.cons (.var 18) .nil)) (.cons (.var 17) .nil))))) .nil))) .nil)))))))))))))
noncomputable def fc:Sms:=(.cons (.ex (.meth .append (.var 24) (.cons (.tup (.cons (.call false dq (.cons (.ix (.var 4) (.bin .Add .z (.cst (.int 3)) (.bin .Mult .z (.cst (.int 3)) (.var 19)))) (.cons (.ix (.var 8) (.var 19)) .nil))) (.cons (.ix (.ix (.var 7) (.cst (.int 1))) (.var 19)) (.cons (.call false mn (.cons (.var 10) (.cons (.ix (.var 4) (.bin .Add .z (.cst (.int 4)) (.bin .Mult .z (.cst (.int 3)) (.var 19)))) (.cons (.var 19) .nil)))) .nil)))) .nil))) .nil)
noncomputable def D_law_kept_book:Df:=⟨2,27,(.cons (.set 2 (.bin .Add .z (.cst (.int 1)) (.bin .Mod .z (.call false aq (.cons (.call false h8 (.cons (.var 0) (.cons (.cst (.int 0)) .nil))) .nil)) (.cst (.int 3))))) (.cons (.set 3 (.bin .Add .z (.cst (.int 1)) (.bin .Mod .z (.call false aq (.cons (.call false h8 (.cons (.var 0) (.cons (.cst (.int 1)) .nil))) .nil)) (.var 1)))) (.cons (.set 4 (.call false kd (.cons (.sl .z (.var 0) (.so (.cst (.int 2))) .no) (.cons (.bin .Add .z (.bin .Add .z (.cst (.int 2)) (.bin .Mult .z (.cst (.int 3)) (.var 2))) (.bin .Mult .z (.bin .Add .z (.cst (.int 8)) (.var 2)) (.var 3))) .nil)))) (.cons (.set 5 (.comp .l [4] 1 (.one 1) (.rng (.var 2)) .nil ib)) (.cons (.set 6 (.bin .Mod .z (.call false aq (.cons (.ix (.var 4) (.cst (.int 1))) .nil)) (.cst (.int 9)))) (.cons (.set 7 (.tup (.cons (.var 6) (.cons (.blt .list .z (.cons (.var 5) .nil)) .nil)))) (.cons (.set 8 (.blt .list .l (.cons (.var 5) .nil))) (.cons (.set 9 (.bin .Mod .z (.call false aq (.cons (.ix (.var 4) (.cst (.int 0))) .nil)) (.cst (.int 13)))) (.cons (.set 10 (.lst .l .nil)) (.cons (.set 11 (.lst .l .nil)) (.cons (.loop (.one 12) (.rng (.var 3)) c8) (.cons (.set 24 (.lst .l .nil)) (.cons (.loop (.one 19) (.rng (.var 2)) fc) (.cons (.set 25 (.tup (.cons (.var 9) (.cons (.ix (.var 7) (.cst (.int 0))) (.cons (.blt .tuple .z (.cons (.var 24) .nil)) (.cons (.blt .tuple .z (.cons (.var 11) .nil)) .nil)))))) (.cons (.set 26 (.cst (.int 1))) (.cons (.ite (.cmp (.bin .Mod .z (.bin .FloorDiv .z (.call false aq (.cons (.ix (.var 4) (.cst (.int 1))) .nil)) (.cst (.int 9))) (.cst (.int 5))) (.cons .eq (.cst (.int 1)) .nil)) (.cons (.set 26 (.bin .Add .z (.cst (.int 1)) (.bin .Mod .z (.bin .FloorDiv .z (.ix (.var 4) (.cst (.int 1))) (.cst (.int 9))) (.bin .Pow .z (.cst (.int 10)) (.cst (.int 12)))))) .nil) .nil) (.cons (.ret (.call false kg (.cons (.var 25) (.cons (.var 10) (.cons (.var 26) .nil))))) .nil)))))))))))))))))⟩
noncomputable def ic:Sms:=(.cons (.ite (.or (.not (.call false jn (.cons (.ix (.var 1) (.var 4)) .nil))) (.or (.cmp (.ix (.var 1) (.var 4)) (.cons .lt (.cst (.int 0)) .nil)) (.cmp (.ix (.var 1) (.var 4)) (.cons .gt (.ix (.ix (.ix (.var 0) (.cst (.int 1))) (.var 4)) (.cst (.int 2))) .nil)))) (.cons (.ret (.cst (.bl false))) .nil) .nil) (.cons (.setx (.var 3) (.ix (.ix (.ix (.var 0) (.cst (.int 1))) (.var 4)) (.cst (.int 0))) (.bin .Add .z (.ix (.var 3) (.ix (.ix (.ix (.var 0) (.cst (.int 1))) (.var 4)) (.cst (.int 0)))) (.ix (.var 1) (.var 4)))) (.cons (.setx (.var 3) (.ix (.ix (.ix (.var 0) (.cst (.int 1))) (.var 4)) (.cst (.int 1))) (.bin .Sub .z (.ix (.var 3) (.ix (.ix (.ix (.var 0) (.cst (.int 1))) (.var 4)) (.cst (.int 1)))) (.ix (.var 1) (.var 4)))) .nil)))
noncomputable def D_law_flow_good:Df:=⟨3,5,(.cons (.ite (.or (.not (.isi (.var 1) .tuple)) (.cmp (.blt .len .z (.cons (.var 1) .nil)) (.cons .ne (.blt .len .z (.cons (.ix (.var 0) (.cst (.int 1))) .nil)) .nil))) (.cons (.ret (.cst (.bl false))) .nil) .nil) (.cons (.set 3 (.bin .Mult .l (.lst .z (.cons (.cst (.int 0)) .nil)) (.ix (.var 0) (.cst (.int 0))))) (.cons (.loop (.one 4) (.rng (.blt .len .z (.cons (.var 1) .nil))) ic) (.cons (.ret (.and (.cmp (.ix (.var 3) (.cst (.int 0))) (.cons .eq (.var 2) .nil)) (.and (.cmp (.ix (.var 3) (.cst (.int 1))) (.cons .eq (.neg (.var 2)) .nil)) (.cmp (.sl .z (.var 3) (.so (.cst (.int 2))) .no) (.cons .eq (.bin .Mult .z (.lst .z (.cons (.cst (.int 0)) .nil)) (.bin .Sub .z (.ix (.var 0) (.cst (.int 0))) (.cst (.int 2)))) .nil))))) .nil))))⟩
noncomputable def ir:Ex:=(.bin .Mult .z (.ix (.ix (.ix (.var 0) (.cst (.int 1))) (.var 2)) (.cst (.int 3))) (.ix (.var 1) (.var 2)))
noncomputable def D_law_flow_sum:Df:=⟨2,2,(.cons (.ret (.blt .sum .z (.cons (.comp .z [0,1] 1 (.one 2) (.rng (.blt .len .z (.cons (.var 1) .nil))) .nil ir) .nil))) .nil)⟩
noncomputable def o7:Ex:=(.bin .Mult .z (.ix (.ix (.var 0) (.var 2)) (.cst (.int 1))) (.ix (.ix (.ix (.var 1) (.cst (.int 3))) (.var 2)) (.cst (.int 2))))
noncomputable def D_law_k26:Df:=⟨1,5,(.cons (.unp [1,2] (.call false h9 (.cons (.var 0) (.cons (.cst (.int 4)) .nil)))) (.cons (.set 3 (.call false o4 (.cons (.var 1) (.cons (.var 2) .nil)))) (.cons (.set 4 (.call false jq (.cons (.var 1) .nil))) (.cons (.ite (.not (.call false ia (.cons (.var 4) (.cons (.var 3) (.cons (.call false jh (.cons (.var 1) .nil)) .nil))))) (.cons (.ret (.cst (.bl false))) .nil) .nil) (.cons (.ret (.cmp (.call false iu (.cons (.var 4) (.cons (.var 3) .nil))) (.cons .le (.blt .sum .z (.cons (.comp .z [2,1] 1 (.one 2) (.rng (.blt .len .z (.cons (.var 2) .nil))) .nil o7) .nil)) .nil))) .nil)))))⟩
noncomputable def Dz:Df:=⟨0,0,.nil⟩
noncomputable def GL:List Df:=[D_night_need,D_need,D_can_burn,Dz,Dz,Dz,D_law_whole,Dz,Dz,Dz,Dz,Dz,Dz,Dz,Dz,Dz,Dz,Dz,Dz,Dz,Dz,Dz,Dz,Dz,Dz,Dz,Dz,Dz,Dz,Dz,Dz,Dz,Dz,Dz,D_ticks_of_spans,Dz,Dz,Dz,Dz,Dz,Dz,Dz,Dz,Dz,Dz,Dz,Dz,Dz,Dz,Dz,Dz,Dz,Dz,Dz,Dz,Dz,Dz,Dz,Dz,Dz,Dz,Dz,Dz,Dz,Dz,Dz,Dz,Dz,Dz,Dz,Dz,Dz,Dz,Dz,Dz,Dz,Dz,Dz,Dz,Dz,Dz,Dz,Dz,Dz,Dz,Dz,Dz,Dz,Dz,Dz,Dz,Dz,Dz,D_ticks_in,Dz,Dz,Dz,Dz,Dz,Dz,Dz,Dz,Dz,Dz,Dz,Dz,Dz,Dz,Dz,Dz,Dz,Dz,Dz,Dz,Dz,Dz,Dz,Dz,Dz,Dz,Dz,Dz,Dz,D_law_cell_at,Dz,Dz,Dz,Dz,Dz,Dz,Dz,Dz,Dz,Dz,Dz,Dz,Dz,Dz,Dz,Dz,Dz,Dz,Dz,Dz,Dz,Dz,Dz,Dz,Dz,Dz,Dz,Dz,Dz,Dz,Dz,Dz,Dz,Dz,Dz,Dz,Dz,Dz,Dz,Dz,Dz,Dz,Dz,Dz,Dz,Dz,Dz,Dz,Dz,Dz,Dz,Dz,Dz,Dz,Dz,Dz,Dz,Dz,Dz,Dz,Dz,Dz,Dz,Dz,Dz,Dz,Dz,Dz,Dz,Dz,Dz,Dz,Dz,Dz,Dz,Dz,Dz,Dz,Dz,Dz,Dz,Dz,Dz,Dz,Dz,Dz,Dz,Dz,Dz,Dz,Dz,Dz,Dz,Dz,D_store_node,D_tank_node,D_flame_node,D_night_node,D_first_morning_ties,D_later_morning_ties,D_day_ties,D_lamp_ties,D_named_ties,Dz,Dz,D_law_mixed_3,Dz,D_law_folded,Dz,Dz,Dz,D_law_need,D_law_web_3,Dz,Dz,Dz,Dz,Dz,Dz,Dz,Dz,D_add_lamp_flows,D_add_store_flows,D_flow_by,D_law_night,D_law_slack_2,D_law_burns_3,D_law_idle,D_law_poured,D_law_scaled,D_law_kept_book,D_law_flow_good,D_law_flow_sum,D_law_k26]
theorem Br:GL[gv]? = some D_night_need:=rfl
theorem Y3:GL[yn]? = some D_need:=rfl
theorem G9:GL[qb]? = some D_can_burn:=rfl
theorem Di:GL[jn]? = some D_law_whole:=rfl
theorem uh:GL[d8]? = some D_ticks_of_spans:=rfl
theorem Ha:GL[ml]? = some D_ticks_in:=rfl
theorem z6:GL[h8]? = some D_law_cell_at:=rfl
theorem Bs:GL[bx]? = some D_store_node:=rfl
theorem Dj:GL[gp]? = some D_tank_node:=rfl
theorem Bu:GL[gw]? = some D_flame_node:=rfl
theorem Bv:GL[gx]? = some D_night_node:=rfl
theorem qe:GL[bw]? = some D_first_morning_ties:=rfl
theorem qf:GL[cu]? = some D_later_morning_ties:=rfl
theorem Hb:GL[mm]? = some D_day_ties:=rfl
theorem Dk:GL[jo]? = some D_lamp_ties:=rfl
theorem Bw:GL[i9]? = some D_named_ties:=rfl
theorem z7:GL[aq]? = some D_law_mixed_3:=rfl
theorem Bx:GL[kd]? = some D_law_folded:=rfl
theorem Hc:GL[jh]? = some D_law_need:=rfl
theorem Dl:GL[jq]? = some D_law_web_3:=rfl
theorem ui:GL[gh]? = some D_add_lamp_flows:=rfl
theorem tw:GL[fj]? = some D_add_store_flows:=rfl
theorem Ld:GL[o4]? = some D_flow_by:=rfl
theorem Dm:GL[nz]? = some D_law_night:=rfl
theorem z8:GL[dq]? = some D_law_slack_2:=rfl
theorem z9:GL[du]? = some D_law_burns_3:=rfl
theorem Hd:GL[mn]? = some D_law_idle:=rfl
theorem By:GL[kf]? = some D_law_poured:=rfl
theorem Bz:GL[kg]? = some D_law_scaled:=rfl
theorem wd:GL[h9]? = some D_law_kept_book:=rfl
theorem we:GL[ia]? = some D_law_flow_good:=rfl
theorem xw:GL[iu]? = some D_law_flow_sum:=rfl
theorem Le:GL[wb]? = some D_law_k26:=rfl
end Lp
local macro_rules | `(tactic| simp! only [$ls,*]) => do
  let mut a := ls.getElems
  for s in "Xx Xy Xz X0 X3 X4 adp X5 X6 X7 Qh Qi X8 X9 Qj adq ads Ya Yb Yc Qk Ql Kl adt adu Qm Km Yd Ye Qn Yf Qo Qp Yg Yh Qq adv Yi Qr Yj Qs Yk Qt Qu Kn Bn Ff Kp Qv Qw Yl Ym Qx Qy Qz Q0 Yn Yo Q1 Q2 Fg Yp Yq Q3 Q5 Q6 Q7 Bo Fh Fi Bp Yr Yt Yu Yv Q8 Q9 Ra bt_min bt_max g0 zz Kq Kr Ks Yx Kt Rb Rc Ku Rf Kv Kw Rg Kx Kz Fj K0 K1 K2 K3 K4 K5 K6 Rh Ri K7 Fk Fm Yy K8 Rj K9 La Lb Fn Fo Lc afj acf ad0 acg afk afl ach ad1 ad2 aci acj afm ad3 ad4 ad5 agd age agf agg agh agi agj agk agl agm agn ago agp agq agr Nat.reduceSub decide_true decide_false Bool.not_true Bool.not_false".splitOn " " do
    a := a.push ⟨(<- `(Lean.Parser.Tactic.simpLemma| $(Lean.mkIdent ((s.splitOn ".").foldl Lean.Name.mkStr .anonymous)):ident)).raw⟩
  `(tactic| simp only [$a,*])
namespace Lr
open Lp
open PySem
noncomputable def Lf(cs:List Int):O:=.l (cs.reverse.map D.int)
@[simp] theorem ad6 (cs:List Int):noR (Lf cs)=true:=rfl
section
variable{n:Nat}{μ ρ:Sto}
theorem Oi(c:Int):ai GL (n+1) jn [.int c] μ=.ok (.bl true) μ:=by
 rw[aj Di,run_eq rfl]
 simp! only[D_law_whole,U7]
theorem Oj(hr:i6 μ)(c:Int):iq (ai GL (n+1)) false jn [.int c] μ=.ok (.bl true) μ:=bt (Oi c) rfl rfl hr
end
open PySem
structure Lamp where
 tank:Int
 oil:Int
 away:List Int
structure Day where
 boat:Int
 most:Int
 price:Int
 length:Int
 wanted:Int
structure Book where
 store:Int
 oil:Int
 lamps:List Lamp
 days:List Day
noncomputable def lu(ns:List Int):D:=.tup (ns.map D.int)
noncomputable def de(l:Lamp):D:=.tup [.int l.tank,.int l.oil,lu l.away]
noncomputable def ji(d:Day):D:=.tup [.int d.boat,.int d.most,.int d.price,.int d.length,.int d.wanted]
noncomputable def az(b:Book):D:=.tup [.int b.store,.int b.oil,.tup (b.lamps.map de),.tup (b.days.map ji)]
theorem Lg{k:Nat}(ns:List Int):D.pureN (k+1) (lu ns)=true:=by
 simp![lu,c7,CW,AL]
 exact λx _=>cq
theorem Lh{k:Nat}(l:Lamp):D.pureN (k+2) (de l)=true:=by
 simp![de,c7,BF,FM,EY,FS,cq,Lg]
theorem Ol{k:Nat}(l:Day):D.pureN (k+1) (ji l)=true:=by
 simp![ji,c7,BF,FM,EY,FS,cq]
theorem Ui{b:Book}{μ:Sto}:ixD (az b) (.int 0) μ=.ok (.int b.store) μ:=rfl
theorem ack{b:Book}{μ:Sto}:ixD (az b) (.int 1) μ=.ok (.int b.oil) μ:=rfl
theorem t6{b:Book}{μ:Sto}:ixD (az b) (.int 2) μ=.ok (.tup (b.lamps.map de)) μ:=rfl
theorem rq{b:Book}{μ:Sto}:ixD (az b) (.int 3) μ=.ok (.tup (b.days.map ji)) μ:=rfl
theorem Li{b:Lamp}{μ:Sto}:ixD (de b) (.int 0) μ=.ok (.int b.tank) μ:=rfl
theorem Y4{b:Lamp}{μ:Sto}:ixD (de b) (.int 1) μ=.ok (.int b.oil) μ:=rfl
theorem Y5{b:Lamp}{μ:Sto}:ixD (de b) (.int 2) μ=.ok (lu b.away) μ:=rfl
theorem Uj{b:Day}{μ:Sto}:ixD (ji b) (.int 3) μ=.ok (.int b.length) μ:=rfl
theorem acm{b:Day}{μ:Sto}:ixD (ji b) (.int 4) μ=.ok (.int b.wanted) μ:=rfl
structure Wf (b:Book):Prop where
 store:0<=b.store/\b.store<=10 ^ 30
 oil:0<=b.oil/\b.oil<=10 ^ 30
 lamps:1<=b.lamps.length/\b.lamps.length<=8
 days:1<=b.days.length/\b.days.length<=16
 lamp:∀l∈b.lamps,(0<=l.tank/\l.tank<=10 ^ 30)/\(0<=l.oil/\l.oil<=l.tank)/\l.away.Pairwise (· < ·)/\∀a∈l.away,0<=a/\a<b.days.length
 day:∀d∈b.days,(0<=d.boat/\d.boat<=10 ^ 30)/\(0<=d.most/\d.most<=10 ^ 30)/\(0<=d.price/\d.price<=10 ^ 15)/\(1<=d.length/\d.length<=10 ^ 15)/\0<=d.wanted/\d.wanted<=b.lamps.length
section
variable{n:Nat}{μ ρ:Sto}
theorem He(l:Lamp):(de l).pure=true:=Lh l
theorem Lj(l:Day):(ji l).pure=true:=Ol l
end
noncomputable def a7(b:Book):List Int:=b.days.map λd=>d.wanted*d.length
section
variable{n:Nat}{μ:Sto}
theorem o8{b:Book}(hb:Wf b){k:Nat}{d:Day}(hd:b.days[k]? = some d):ai GL (n+1) gv [az b,.int k] μ=.ok (.int (d.wanted*d.length)) μ:=by
 rw[aj Br,run_eq rfl]
 have q:=hb.day d (BK hd)
 have q2:=hb.lamps
 have hm:CMul d.wanted d.length:=.left (by lia) (by lia)
 simp! only[D_night_need,rq,gu hd,ji,op_mul hm]
theorem Uk(hr:i6 μ){b:Book}(hb:Wf b):ai GL (n+2) yn [az b] μ=.ok (.int (a7 b).sum) μ:=by
 rw[aj Y3,run_eq rfl]
 have q:=hb.days
 have hc:mj (ai GL (n+1)) .z (.one 1) .nil wc [some (az b),none] ((List.range (b.days.map ji).length).map fun(k:Nat)=>D.int k,none) μ=.ok (.lst ((a7 b).map D.int)) μ:=by
  rw[comp_map (en:=fun(k:Nat)=>D.int k) (g:=fun(k:Nat)=>D.int ((a7 b).getD k 0))]
  ·rw[g0]
   congr 2
   refine EC λk=>?_
   simp![a7,AV,AG,BM]
   by_cases hk:k<b.days.length
   ·simp[hk]
   ·simp[hk]
  ·intro k hk
   have hk':k<b.days.length:=by simpa using hk
   have e:b.days[k]? = some b.days[k]:=AA hk'
   simp! only[uw,wc,bt (o8 (n:=n) hb e) rfl rfl hr,a7,BM,AV,e,DV]
 simp! only[D_need,rq,bt_len aw,bz (show(b.days.map ji).length<=1000000 by rw[AG];lia),hc,bt_sum au (h7 _)]
theorem Lk(ns:List Int):(ns.map D.int).all flat=true:=by
 rw[CW,AL]
 exact λ_ _=>rfl
theorem any_ints(ns:List Int)(k:Int):((ns.map D.int).any λy=>deq y (.int k))=decide (k∈ns):=by
 rw[JC]
 induction ns with
 |nil=>rfl
 |cons a r ih =>
  simp![CZ,ih,Function.comp,deq,AS]
  by_cases h:a=k
  ·simp[h]
  ·simp[h,Ne.symm h]
theorem n4{ns:List Int}{k:Int}:cpD .notin (.int k) (lu ns) μ=.ok (.bl (!decide (k∈ns))) μ:=by
 simp![cpD,lu,aw,flat,Lk,and_self,if_true,any_ints]
theorem Hf{b:Book}{k:Nat}{l:Lamp}(hl:b.lamps[k]? = some l)(y:Int):ai GL (n+1) qb [az b,.int k,.int y] μ=.ok (.bl (!decide (y∈l.away))) μ:=by
 rw[aj G9,run_eq rfl]
 simp! only[D_can_burn,t6,gu hl,de,n4]
end
open PySem
theorem deqs_self{k:Nat}(ih:∀d:D,D.pureN k d=true->deq d d=true):∀ds:List D,ds.all (D.pureN k)=true->pj ds ds=true
 | [],_=>by rw[pj]
 |d::r,h=>by
  simp![BF,AW]at h
  rw[pj,ih d h.1,deqs_self ih r h.2];rfl
theorem Aa:∀(k:Nat) (d:D),D.pureN k d=true->deq d d=true
 |0,d,h=>by cases d<;>simp_all[D.pureN,deq]
 |k+1,d,h=>by
  cases d with
  |tup ds=>rw[deq];exact deqs_self (Aa k) ds h
  |lst ds=>rw[deq];exact deqs_self (Aa k) ds h
  |loc n=>simp[D.pureN]at h
  |_=>simp[deq]
theorem Z0(xs:List D)(k:Nat):cut xs none (some (k:Int))=xs.take k:=by
 simp![cut,sIx]
 rw[if_neg (by lia)]
 simp[List.take_eq_take_iff]
theorem Fp(xs:List D)(k:Nat):cut xs (some (k:Int)) none=xs.drop k:=by
 simp![cut,sIx]
 rw[if_neg (by lia)]
 by_cases h:k<=xs.length
 ·rw[DR,Nat.min_eq_left h,BQ (by simp)]
 ·rw[DR,Nat.min_eq_right (by lia),List.drop_eq_nil_of_le (show xs.length<=k by lia)];simp
section
variable{n:Nat}{μ ρ:Sto}{m:Mk}{φ:Phi}{σ:Sl}{es:Exs}
theorem Y6{xs:List D}:U7 .tuple (.tup xs) μ=.ok (.bl true) μ:=rfl
theorem dh{f:Nat}{ds:List D}{d:D}(h:φ f ds μ=.ok d (μ++ρ))(hd:d.pure=true)(hr:i6 μ):iq φ false f ds μ=.ok d μ:=by
 rw[iq,h]
 have e:(μ++ρ).take μ.length=μ:=by simp
 have hr':μ.all (gm μ.length)=true:=hr
 simp![sg,BA,if_false,e,qa _ 8 d hd,hr',and_self,if_true]
theorem d6{o:O}:(μ++[o])[μ.length]? = some o:=by simp
theorem kj{o o':O}:(μ++[o]).set μ.length o'=μ++[o']:=by simp
theorem Hw{ds:List D}(h:ds.all (D.pureN 8)=true):mkL .l ds μ=.ok (.loc μ.length) (μ++[.l ds]):=by simp![mkL,h,if_true]
theorem qc{ds:List D}:g7 (μ++[.l ds]) (.loc μ.length)=some ds:=by simp![g7,d6]
theorem Ll{mt:Mt}{ds:List D}(h:∀d μ,oh mt d μ=(Lp.listOf μ d).isSome):kM φ mt es σ (.loc μ.length) (μ++[.l ds])=(gn φ es σ (μ++[.l ds])).bind (mtD mt (.loc μ.length)):=by
 refine Ko ?_
 rw[h]
 simp![Lp.listOf,d6];rfl
theorem uf{ds:List D}:kM φ .append es σ (.loc μ.length) (μ++[.l ds])=(gn φ es σ (μ++[.l ds])).bind (mtD .append (.loc μ.length)):=Ll λ_ _=>rfl
theorem wj{ds:List D}{d:D}(hd:d.pure=true)(hl:ds.length<1000000):mtD .append (.loc μ.length) [d] (μ++[.l ds])=.ok .non (μ++[.l (ds++[d])]):=by
 have:=jl
 simp![mtD,Ct,d6,ik,mtL,nk,fits,hd,putL,kj]
 rw[if_pos ⟨trivial,by lia⟩]
theorem d9{α:Type}{tg:Tg}{b:Sms}{xs:List α}{en:α->D}(I:Nat->Sl->Sto->Prop)(h0:I 0 σ μ)(st:∀(k:Nat) a σ μ,xs[k]? = some a->I k σ μ->∃σ' μ',fLp φ tg b (en a) σ μ=.ok (.nx σ') μ'/\I (k+1) σ' μ') :
  ∃σ' μ',Dh φ tg b σ (xs.map en,none) μ=.ok (.nx σ') μ'/\I xs.length σ' μ':=by
 obtain⟨σ',μ',e,i⟩:=Fd (f:=fLp φ tg b) I (ds:=xs.map en) (σ:=σ) (μ:=μ) 0 h0 λj d σ μ' e i=>by
  rw[AV]at e
  cases ex:xs[j]? with
  |none=>rw[ex]at e;cases e
  |some a =>
   rw[ex]at e
   cases e
   obtain⟨σ',μ'',e',i'⟩:=st j a σ μ' ex (by simpa using i)
   exact⟨σ',μ'',e',by simpa using i'⟩
 exact⟨σ',μ',e,by simpa using i⟩
theorem Om{b:Book}{i j k l:Nat}{σ:Sl}:iz (.many [i,j,k,l]) (az b) σ=some ((((σ.set i (some (.int b.store))).set j (some (.int b.oil))).set k (some (.tup (b.lamps.map de)))).set l (some (.tup (b.days.map ji)))):=rfl
end
open PySem
section
variable{n:Nat}{μ ρ:Sto}
structure Span where
 lamp:Int
 start:Int
 fin:Int
noncomputable def ba(s:Span):D:=.tup [.int s.lamp,.int s.start,.int s.fin]
theorem wm{k:Nat}(s:Span):D.pureN (k+1) (ba s)=true:=by simp![ba,c7,BF,FM,EY,cq]
end
open PySem
theorem ko{b c:Nat}(h:b<=c):∀(k:Nat) (d:D),D.belowN b k d=true->D.belowN c k d=true
 |0,d,e=>by cases d<;>simp_all[D.belowN];lia
 |k+1,d,e=>by
  cases d with
  |tup ds =>
   simp![D.belowN,AL]at e ⊢
   exact λx hx=>ko h k x (e x hx)
  |lst ds =>
   simp![D.belowN,AL]at e ⊢
   exact λx hx=>ko h k x (e x hx)
  |loc n=>simp_all[D.belowN];lia
  |_=>rfl
section
variable{n:Nat}{μ ρ:Sto}{φ:Phi}{es:Exs}{σ:Sl}
theorem Lm{ds:List D}:kM φ .extend es σ (.loc μ.length) (μ++[.l ds])=(gn φ es σ (μ++[.l ds])).bind (mtD .extend (.loc μ.length)):=Ll λ_ _=>rfl
theorem Ln{ds ys:List D}(hd:ys.all D.pure=true)(hl:ds.length+ys.length<=1000000):mtD .extend (.loc μ.length) [.lst ys] (μ++[.l ds])=.ok .non (μ++[.l (ds++ys)]):=by
 have:=jl
 have hf:ys.all (fits (.l ds))=true:=hd
 simp![mtD,Ct,d6,ik,mtL,nk,Lp.listOf,hf,putL,kj]
 rw[if_pos ⟨trivial,by lia⟩]
theorem qk(hr:i6 μ)(ds:List D):i6 (μ++[.l ds]):=by
 unfold i6 at hr ⊢
 rw[AL]at hr ⊢
 intro o ho
 rcases BD.mp ho with h | h
 ·have:=hr o h
  cases o with
  |r xs =>
   simp![gm,AL]at this ⊢
   exact λx hx=>ko (by simp) 8 x (this x hx)
  |o _ _ =>
   simp![gm,AL]at this ⊢
   exact λx hx=>ko (by simp) 8 _ (this x hx)
  |dr _ =>
   simp![gm,AL]at this ⊢
   exact λx hx=>ko (by simp) 8 _ (this x hx)
  |_=>rfl
 ·simp![EL]at h
  subst h;rfl
end
open PySem
section
variable{n:Nat}{μ ρ:Sto}{φ:Phi}{σ:Sl}
theorem Ul{i:Nat}{k:Nat}{ds:List D}(h:σ[i]? = some (some (.loc k)))(h2:μ[k]? = some (.l ds)):evE φ (.frz i) σ μ=.ok (.lst ds) (μ.set k .dead):=by simp![evE,h,h2]
end
open PySem
noncomputable def sN(b:Book)(d:Nat):Int:=2+d*(2*b.lamps.length+2)
noncomputable def tN(b:Book)(i d:Nat):Int:=sN b d+1+2*i
noncomputable def fN(b:Book)(i d:Nat):Int:=sN b d+2+2*i
noncomputable def nN(b:Book)(d:Nat):Int:=sN b d+2*b.lamps.length+1
section
variable{n:Nat}{μ:Sto}{b:Book}
theorem Oo(hl:b.lamps.length<=8)(d:Nat):ai GL (n+1) bx [az b,.int d] μ=.ok (.int (sN b d)) μ:=by
 rw[aj Bs,run_eq rfl]
 simp![D_store_node,EV1,EV2,EV3,EV4,EV5,Nat.reduceSub,decide_true,decide_false,CM,CD,t6,bt_len aw,AG,op_mul (show CMul 2 (b.lamps.length:Int)from .left (by decide) (by decide)),op_mul (show CMul (d:Int) (2*(b.lamps.length:Int)+2)from .right (by lia) (by lia)),sN]
theorem kq(hr:i6 μ)(hl:b.lamps.length<=8)(d:Nat):iq (ai GL (n+1)) false bx [az b,.int d] μ=.ok (.int (sN b d)) μ:=bt (Oo hl d) rfl rfl hr
theorem Um(hr:i6 μ)(hl:b.lamps.length<=8)(i d:Nat):ai GL (n+2) gp [az b,.int i,.int d] μ=.ok (.int (tN b i d)) μ:=by
 rw[aj Dj,run_eq rfl]
 simp![D_tank_node,EV1,EV2,EV3,EV4,EV5,Nat.reduceSub,decide_true,decide_false,CM,CD,kq hr hl,op_mul (show CMul 2 (i:Int)from .left (by decide) (by decide)),tN]
theorem Ab(hr:i6 μ)(hl:b.lamps.length<=8)(i d:Nat):iq (ai GL (n+2)) false gp [az b,.int i,.int d] μ=.ok (.int (tN b i d)) μ:=bt (Um hr hl i d) rfl rfl hr
theorem Oq(hr:i6 μ)(hl:b.lamps.length<=8)(i d:Nat):ai GL (n+2) gw [az b,.int i,.int d] μ=.ok (.int (fN b i d)) μ:=by
 rw[aj Bu,run_eq rfl]
 simp![D_flame_node,EV1,EV2,EV3,EV4,EV5,Nat.reduceSub,decide_true,decide_false,CM,CD,kq hr hl,op_mul (show CMul 2 (i:Int)from .left (by decide) (by decide)),fN]
theorem Ac(hr:i6 μ)(hl:b.lamps.length<=8)(i d:Nat):iq (ai GL (n+2)) false gw [az b,.int i,.int d] μ=.ok (.int (fN b i d)) μ:=bt (Oq hr hl i d) rfl rfl hr
theorem Lq(hr:i6 μ)(hl:b.lamps.length<=8)(d:Nat):ai GL (n+2) gx [az b,.int d] μ=.ok (.int (nN b d)) μ:=by
 rw[aj Bv,run_eq rfl]
 simp![D_night_node,EV1,EV2,EV3,EV4,EV5,Nat.reduceSub,decide_true,decide_false,CM,CD,kq hr hl,t6,bt_len aw,AG,op_mul (show CMul 2 (b.lamps.length:Int)from .left (by decide) (by decide)),nN]
theorem wo(hr:i6 μ)(hl:b.lamps.length<=8)(d:Nat):iq (ai GL (n+2)) false gx [az b,.int d] μ=.ok (.int (nN b d)) μ:=bt (Lq hr hl d) rfl rfl hr
theorem Dn(hr:i6 μ)(hb:Wf b):iq (ai GL (n+2)) false yn [az b] μ=.ok (.int (a7 b).sum) μ:=bt (Uk hr hb) rfl rfl hr
end
noncomputable abbrev o9:Str:=PySem.Str.ofString "kept"
noncomputable abbrev pe:Str:=PySem.Str.ofString "left"
noncomputable abbrev j5:Str:=PySem.Str.ofString "taken"
noncomputable abbrev gs:Str:=PySem.Str.ofString "bought"
noncomputable abbrev qm:Str:=PySem.Str.ofString "shining"
noncomputable abbrev qg:Str:=PySem.Str.ofString "poured"
noncomputable abbrev r6:Str:=PySem.Str.ofString "through"
noncomputable abbrev j6:Str:=PySem.Str.ofString "burnt"
noncomputable def j9(b:Book)(d:Nat)(a:Int)(m:Int):NR:=([a,sN b d,m,0],o9,[(d:Int)])
noncomputable def n8(b:Book)(i d:Nat)(a:Int)(m:Int):NR:=([a,tN b i d,m,0],pe,[(d:Int),(i:Int)])
noncomputable def zl{α:Type}(l:List α):List (Nat×α):=(List.range l.length).zip l
noncomputable def firstM(b:Book):List NR:=j9 b 0 0 b.oil::(zl b.lamps).map λp:Nat×Lamp=>n8 b p.1 0 0 p.2.oil
noncomputable def ff(b:Book)(d:Nat):List NR:=j9 b (d+1) (sN b d) b.store::(List.range b.lamps.length).map λi=>n8 b i (d+1) (fN b i d) (a7 b).sum
noncomputable def Dp(b:Book)(d:Nat)(y:Day):List NR:=[([0,sN b d,y.boat,0],j5,[(d:Int)]),([0,sN b d,y.most,y.price],gs,[(d:Int)]),([nN b d,1,y.wanted*y.length,0],qm,[(d:Int)])]
noncomputable def mv(l:Lamp)(d:Nat)(y:Day):Int:=if(d:Int)∈l.away then 0 else y.length
noncomputable def ka(b:Book)(i d:Nat)(l:Lamp)(y:Day):List NR:=[([sN b d,tN b i d,(a7 b).sum,0],qg,[(d:Int),(i:Int)]),([tN b i d,fN b i d,l.tank,0],r6,[(d:Int),(i:Int)]),([fN b i d,nN b d,mv l d y,0],j6,[(d:Int),(i:Int)])]
noncomputable def B0(b:Book)(d:Nat)(y:Day):List NR:=Dp b d y++(zl b.lamps).flatMap λq=>ka b q.1 d q.2 y
noncomputable def cz(b:Book):List NR:=firstM b++(List.range (b.days.length-1)).flatMap (ff b)++(zl b.days).flatMap λp=>B0 b p.1 p.2
theorem pf{α:Type}{l:List α}{j:Nat}{p:Nat×α}(h:(zl l)[j]? = some p):p.1=j/\l[j]? = some p.2/\j<l.length:=by
 obtain⟨h1,h2⟩:=Gt.mp h
 obtain⟨hj,hj2⟩:=AB.mp h1
 simp![AX]at hj
 simp![List.getElem_range]at hj2
 exact⟨hj2.symm,h2,hj⟩
theorem t8{α:Type}{l:List α}{j:Nat}{p:Nat×α}(h:(zl l)[j]? = some p):(zl l).take (j+1)=(zl l).take j++[p]:=by rw[EU,h];rfl
theorem oi{α:Type}(l:List α):(zl l).length=l.length:=by simp[zl]
theorem Uo{α:Type}{l:List α}{en:α->D}{μ:Sto}:kEnum (.tup (l.map en)) μ=.ok ((zl l).map (λp:Nat×α=>D.tup [.int p.1,en p.2]),none) μ:=by
 simp![kEnum,da,AG,zl]
 congr 2
 rw[show(List.range l.length)=(List.range l.length).map id by simp,List.zip_map,BB]
 simp![List.map_id];rfl
theorem t9(k:Nat)(x:NR):D.pureN (k+2) (gf x)=true:=by
 have h1:(x.1.map D.int).all (D.pureN k)=true:=by rw[CW,AL];exact λ_ _=>cq
 have h2:(x.2.2.map D.int).all (D.pureN k)=true:=by rw[CW,AL];exact λ_ _=>cq
 have h3:D.pureN k (.str x.2.1)=true:=by cases k<;>rfl
 show(D.pureN (k+1) (.tup (x.1.map D.int))&&(D.pureN (k+1) (.tup (.str x.2.1::x.2.2.map D.int))&&true))=true
 rw[c7,c7,BF,h1,h2,h3];rfl
theorem Ls(l:List NR):(l.map gf).all D.pure=true:=by rw[CW,AL];exact λx _=>t9 6 x
section
variable{n:Nat}{μ:Sto}{b:Book}
theorem Ot(hr:i6 μ)(hl:b.lamps.length<=8):ai GL (n+3) bw [az b] μ=.ok (.loc μ.length) (μ++[.l ((firstM b).map gf)]):=by
 rw[aj qe,run_eq rfl]
 have e0:mkL .l [gf (j9 b 0 0 b.oil)] μ=.ok (.loc μ.length) (μ++[.l [gf (j9 b 0 0 b.oil)]]):=Hw (by simp[t9 6])
 obtain⟨σ',μ',el,v6,v7,rfl,rfl⟩:=d9 (φ:=ai GL (n+2)) (μ:=μ++[.l [gf (j9 b 0 0 b.oil)]]) (tg:=.many [6,7]) (b:=dw) (xs:=zl b.lamps) (en:=λp:Nat×Lamp=>D.tup [.int p.1,de p.2])
  (σ:=[some (az b),some (.int b.store),some (.int b.oil),some (.tup (b.lamps.map de)),some (.tup (b.days.map ji)),some (.loc μ.length),none,none])
  (λj σ μ'=>∃v6 v7,σ=[some (az b),some (.int b.store),some (.int b.oil),some (.tup (b.lamps.map de)),some (.tup (b.days.map ji)),some (.loc μ.length),v6,v7]/\μ'=μ++[.l ((j9 b 0 0 b.oil::((zl b.lamps).take j).map λp:Nat×Lamp=>n8 b p.1 0 0 p.2.oil).map gf)]) ⟨none,none,rfl,by simp⟩ (by
   rintro j ⟨i,l⟩ σ μ' hk ⟨v6,v7,rfl,rfl⟩
   obtain⟨e1,e2,e3⟩:=pf hk
   have et:(D.tup [.tup [.int 0,.int (tN b i 0),.int l.oil,.int 0],.tup [.str pe,.int 0,.int i]])=gf (n8 b i 0 0 l.oil):=rfl
   refine⟨[some (az b),some (.int b.store),some (.int b.oil),some (.tup (b.lamps.map de)),some (.tup (b.days.map ji)),some (.loc μ.length),some (.int i),some (de l)],_,?_,_,_,rfl,rfl⟩
   rw[t8 hk]
   generalize hX:(j9 b 0 0 b.oil::((zl b.lamps).take j).map λp:Nat×Lamp=>n8 b p.1 0 0 p.2.oil)=X
   have eX:(j9 b 0 0 b.oil::((zl b.lamps).take j++[(i,l)]).map λp:Nat×Lamp=>n8 b p.1 0 0 p.2.oil)=X++[n8 b i 0 0 l.oil]:=by rw[<-hX];simp
   rw[eX]
   have lX:X.length<=9:=by rw[<-hX];simp[oi];lia
   have h0:=Ab (n:=n) (b:=b) (qk hr (X.map gf)) hl i 0
   simp! only[fLp,dw,uf,Int.natCast_zero ▸ h0,Y4,et,wj (t9 6 _) (show(X.map gf).length<1000000 by rw[AG];lia),AY,AF,Db])
 rw[oi,<-oi b.lamps,BR]at el
 have k0:=kq (n:=n+1) (b:=b) hr hl 0
 have ek:(D.tup [.tup [.int 0,.int (sN b 0),.int b.oil,.int 0],.tup [.str o9,.int 0]])=gf (j9 b 0 0 b.oil):=rfl
 simp! only[D_first_morning_ties,Om,Int.natCast_zero ▸ k0,ek,e0,Uo,el,firstM]
theorem Ou(hr:i6 μ)(hl:b.lamps.length<=8):iq (ai GL (n+3)) true bw [az b] μ=.ok (.loc μ.length) (μ++[.l ((firstM b).map gf)]):=G8 (Ot hr hl)
theorem Ad(l:List NR):(D.lst (l.map gf)).pure=true:=by
 show((l.map gf).all (D.pureN 7))=true
 rw[CW,AL];exact λx _=>t9 5 x
theorem Ov(hr:i6 μ)(hb:Wf b)(d:Nat):ai GL (n+3) cu [az b,.int ((d+1:Nat):Int)] μ=.ok (.lst ((ff b d).map gf)) (μ++[.dead]):=by
 have hl:=hb.lamps.2
 rw[aj qf,run_eq rfl]
 have e0:mkL .l [gf (j9 b (d+1) (sN b d) b.store)] μ=.ok (.loc μ.length) (μ++[.l [gf (j9 b (d+1) (sN b d) b.store)]]):=Hw (by simp[t9 6])
 have ed:((d+1:Nat):Int)-1=(d:Nat):=by lia
 obtain⟨σ',μ',el,v3,v4,rfl,rfl⟩:=d9 (φ:=ai GL (n+2)) (μ:=μ++[.l [gf (j9 b (d+1) (sN b d) b.store)]]) (tg:=.one 3) (b:=dz) (xs:=List.range b.lamps.length) (en:=λk:Nat=>D.int k)
  (σ:=[some (az b),some (.int ((d+1:Nat):Int)),some (.loc μ.length),none,none])
  (λj σ μ'=>∃v3 v4,σ=[some (az b),some (.int ((d+1:Nat):Int)),some (.loc μ.length),v3,v4]/\μ'=μ++[.l ((j9 b (d+1) (sN b d) b.store::(List.range j).map λi=>n8 b i (d+1) (fN b i d) (a7 b).sum).map gf)]) ⟨none,none,rfl,by simp⟩ (by
   rintro j i σ μ' hk ⟨v3,v4,rfl,rfl⟩
   have hj:=(AB.mp hk).1
   simp![AX]at hj
   rw[CI hj]at hk
   cases hk
   have et:(D.tup [.tup [.int (fN b j d),.int (tN b j (d+1)),.int (a7 b).sum,.int 0],.tup [.str pe,.int ((d+1:Nat):Int),.int j]])=gf (n8 b j (d+1) (fN b j d) (a7 b).sum):=rfl
   refine⟨[some (az b),some (.int ((d+1:Nat):Int)),some (.loc μ.length),some (.int j),some (.int (fN b j d))],_,?_,_,_,rfl,rfl⟩
   rw[DH,AY]
   generalize hX:(j9 b (d+1) (sN b d) b.store::(List.range j).map λi=>n8 b i (d+1) (fN b i d) (a7 b).sum)=X
   have eX:(j9 b (d+1) (sN b d) b.store::((List.range j).map (λi=>n8 b i (d+1) (fN b i d) (a7 b).sum)++[j].map λi=>n8 b i (d+1) (fN b i d) (a7 b).sum))=X++[n8 b j (d+1) (fN b j d) (a7 b).sum]:=by rw[<-hX];rfl
   rw[eX]
   have lX:X.length<=9:=by rw[<-hX];simp;lia
   have H:=qk hr (X.map gf)
   simp![fLp,dz,EV1,EV2,EV3,EV4,EV5,Nat.reduceSub,decide_true,decide_false,CM,CD,uf,ed,Ac H hl j d,Ab H hl j (d+1),Dn H hb,et,wj (t9 6 _) (show(X.map gf).length<1000000 by rw[AG];lia),AY,AF,Db])
 rw[AX]at el
 have ek:(D.tup [.tup [.int (sN b d),.int (sN b (d+1)),.int b.store,.int 0],.tup [.str o9,.int ((d+1:Nat):Int)]])=gf (j9 b (d+1) (sN b d) b.store):=rfl
 have ef:∀v3 v4 (ds:List D),evE (ai GL (n+2)) (.frz 2) [some (az b),some (.int ((d+1:Nat):Int)),some (.loc μ.length),v3,v4] (μ++[.l ds])=.ok (.lst ds) (μ++[.dead]):=λv3 v4 ds=>by
  rw[Ul rfl d6,kj]
 simp![D_later_morning_ties,EV1,EV2,EV3,EV4,EV5,Nat.reduceSub,decide_true,decide_false,CM,CD,ed,kq (n:=n+1) hr hl,Ui,ek,e0,t6,bt_len aw,AG,bz (show b.lamps.length<=1000000 by lia),el,ef,ff]
theorem Ow(hr:i6 μ)(hb:Wf b)(d:Nat):iq (ai GL (n+3)) false cu [az b,.int ((d+1:Nat):Int)] μ=.ok (.lst ((ff b d).map gf)) μ:=dh (Ov hr hb d) (Ad _) hr
theorem Dq{y:Day}{i j k l m:Nat}{σ:Sl}:iz (.many [i,j,k,l,m]) (ji y) σ=some (((((σ.set i (some (.int y.boat))).set j (some (.int y.most))).set k (some (.int y.price))).set l (some (.int y.length))).set m (some (.int y.wanted))):=rfl
theorem Uq(hr:i6 μ)(hb:Wf b){d:Nat}{y:Day}(hd:b.days[d]? = some y):ai GL (n+3) mm [az b,.int d] μ=.ok (.lst ((Dp b d y).map gf)) μ:=by
 have hl:=hb.lamps.2
 rw[aj Hb,run_eq rfl]
 simp![D_day_ties,EV1,EV2,EV3,EV4,EV5,Nat.reduceSub,decide_true,decide_false,CM,CD,rq,gu hd,Dq,kq (n:=n+1) hr hl,wo hr hl,bt (o8 (n:=n+1) hb hd) rfl rfl hr,g0,Dp,gf,AF,Db]
theorem Ur(hr:i6 μ)(hb:Wf b){d:Nat}{y:Day}(hd:b.days[d]? = some y):iq (ai GL (n+3)) false mm [az b,.int d] μ=.ok (.lst ((Dp b d y).map gf)) μ:=bt (Uq hr hb hd) (Ad _) rfl hr
theorem Ox(hr:i6 μ)(hb:Wf b){i d:Nat}{y:Day}{l:Lamp}(hd:b.days[d]? = some y)(hi:b.lamps[i]? = some l):ai GL (n+3) jo [az b,.int i,.int d] μ=.ok (.lst ((ka b i d l y).map gf)) μ:=by
 have hl:=hb.lamps.2
 rw[aj Dk,run_eq rfl]
 have kb:=bt (Hf (n:=n+1) (μ:=μ) hi (d:Int)) rfl rfl hr
 by_cases ha:(d:Int)∈l.away
 ·simp![D_lamp_ties,EV1,EV2,EV3,EV4,EV5,Nat.reduceSub,decide_true,decide_false,CM,CD,Ab hr hl,Ac hr hl,kb,ha,rq,gu hd,Uj,kq (n:=n+1) hr hl,wo hr hl,Dn hr hb,t6,gu hi,Li,g0,ka,mv,if_true,gf,AF,Db]
 ·simp![D_lamp_ties,EV1,EV2,EV3,EV4,EV5,Nat.reduceSub,decide_true,decide_false,CM,CD,Ab hr hl,Ac hr hl,kb,ha,rq,gu hd,Uj,kq (n:=n+1) hr hl,wo hr hl,Dn hr hb,t6,gu hi,Li,g0,ka,mv,if_false,gf,AF,Db]
theorem Oy(hr:i6 μ)(hb:Wf b){i d:Nat}{y:Day}{l:Lamp}(hd:b.days[d]? = some y)(hi:b.lamps[i]? = some l):iq (ai GL (n+3)) false jo [az b,.int i,.int d] μ=.ok (.lst ((ka b i d l y).map gf)) μ:=bt (Ox hr hb hd hi) (Ad _) rfl hr
theorem Lu:∀rs:List NR,y4 (rs.map gf)=some rs
 | []=>rfl
 |x::r=>by
  rw[AF]
  unfold y4
  rw[Lu r]
  simp![h7,Da,DV]
theorem Oz{rs:List NR}(hl:rs.length<=1000):btD .sortedN .z [.loc μ.length] (μ++[.l (rs.map gf)])=.ok (.lst ((gb ltN rs).map gf)) (μ++[.l (rs.map gf)]):=by
 simp![btD,nk,Jb,Lp.listOf,d6,Da,Lu,hl,if_true,g0]
end
open PySem
theorem fm_len{α β:Type}{f:α->List β}{c:Nat}:∀{l:List α},(∀x∈l,(f x).length<=c)->(l.flatMap f).length<=l.length*c
 | [],_=>by simp
 |x::l,h=>by
  rw[DS,AQ,BH,Nat.add_mul,Nat.one_mul]
  have h1:=h x BI
  have h2:=fm_len (l:=l) λy hy=>h y (AU _ hy)
  lia
theorem B1(b:Book)(d:Nat):(ff b d).length=b.lamps.length+1:=by simp[ff]
theorem Lv(b:Book)(i d:Nat)(l:Lamp)(y:Day):(ka b i d l y).length=3:=rfl
theorem Ae(b:Book)(d:Nat)(y:Day):(Dp b d y).length=3:=rfl
theorem yo(b:Book)(d j:Nat)(y:Day):(((zl b.lamps).take j).flatMap λq=>ka b q.1 d q.2 y).length<=b.lamps.length*3:=by
 have:=fm_len (c:=3) (l:=(zl b.lamps).take j) (f:=λq=>ka b q.1 d q.2 y) λx _=>AK 3
 have h2:((zl b.lamps).take j).length<=b.lamps.length:=by rw[BV,oi];lia
 have h3:=FY 3 h2
 lia
theorem O0(b:Book)(d:Nat)(y:Day):(B0 b d y).length<=b.lamps.length*3+3:=by
 have:=yo b d (zl b.lamps).length y
 rw[BR]at this
 unfold B0
 rw[AQ,Ae]
 lia
theorem wq(b:Book)(j:Nat)(hl:b.lamps.length<=8)(hj:j<=16):(firstM b++(List.range j).flatMap (ff b)).length<=200:=by
 have:=fm_len (c:=9) (l:=List.range j) (f:=ff b) λx _=>by rw[B1];lia
 rw[AX]at this
 have h2:(firstM b).length<=9:=by simp[firstM,oi];lia
 rw[AQ]
 lia
theorem B2(b:Book)(j:Nat)(hb:Wf b):(((zl b.days).take j).flatMap λp=>B0 b p.1 p.2).length<=500:=by
 have hl:=hb.lamps.2
 have hd:=hb.days.2
 have:=fm_len (c:=27) (l:=(zl b.days).take j) (f:=λp=>B0 b p.1 p.2) λx _=>by have:=O0 b x.1 x.2;lia
 have h2:((zl b.days).take j).length<=b.days.length:=by rw[BV,oi];lia
 lia
theorem B3(b:Book)(hb:Wf b):(cz b).length<=1000:=by
 have h1:=wq b (b.days.length-1) hb.lamps.2 (by have:=hb.days.2;lia)
 have h2:=B2 b (zl b.days).length hb
 rw[BR]at h2
 unfold cz
 rw[AQ]
 lia
section
variable{n:Nat}{μ:Sto}{b:Book}
theorem O1{N:Nat}(h:N<=1000000):Fe (.int 1) (.int N) μ=.ok ((List.range (N-1)).map (fun(k:Nat)=>D.int ((k+1:Nat):Int)),none) μ:=by
 have:=jl
 simp![Fe]
 rw[if_pos ⟨by lia,by lia,by lia,by lia,by lia⟩,show((N:Int)-1).toNat=N-1 by lia]
 congr 3
 funext k
 congr 1
 lia
theorem O2(hr:i6 μ)(hb:Wf b):ai GL (n+4) i9 [az b] μ=.ok (.lst ((gb ltN (cz b)).map gf)) (μ++[.l ((cz b).map gf)]):=by
 have hl:=hb.lamps.2
 have hd:=hb.days
 rw[aj Bw,run_eq rfl]
 obtain⟨σ1,μ1,el1,v2,rfl,rfl⟩:=d9 (φ:=ai GL (n+3)) (μ:=μ++[.l ((firstM b).map gf)]) (tg:=.one 2) (b:=jr) (xs:=List.range (b.days.length-1)) (en:=λk:Nat=>D.int ((k+1:Nat):Int))
  (σ:=[some (az b),some (.loc μ.length),none,none])
  (λj σ μ'=>∃v2,σ=[some (az b),some (.loc μ.length),v2,none]/\μ'=μ++[.l ((firstM b++(List.range j).flatMap (ff b)).map gf)]) ⟨none,rfl,by simp⟩ (by
   rintro j k σ μ' hk ⟨v2,rfl,rfl⟩
   have hj:=(AB.mp hk).1
   simp![AX]at hj
   rw[CI hj]at hk
   cases hk
   refine⟨[some (az b),some (.loc μ.length),some (.int ((j+1:Nat):Int)),none],_,?_,_,rfl,rfl⟩
   rw[DH,CJ,<-AD]
   have lX:=wq b j hl (by lia)
   generalize firstM b++(List.range j).flatMap (ff b)=X at lX ⊢
   have e1:[j].flatMap (ff b)=ff b j:=by simp
   rw[e1]
   have H:=qk hr (X.map gf)
   have lm:=B1 b j
   simp! only[fLp,jr,Lm,Ow (n:=n) H hb j,Ln (Ls _) (show(X.map gf).length+((ff b j).map gf).length<=1000000 by rw[AG,AG];lia),AY])
 rw[AX]at el1
 obtain⟨σ2,μ2,el2,v2',v3',rfl,rfl⟩:=d9 (φ:=ai GL (n+3)) (μ:=μ++[.l ((firstM b++(List.range (b.days.length-1)).flatMap (ff b)).map gf)]) (tg:=.one 2) (b:=ju) (xs:=zl b.days) (en:=λp:Nat×Day=>D.int (p.1:Int))
  (σ:=[some (az b),some (.loc μ.length),v2,none])
  (λj σ μ'=>∃v2 v3,σ=[some (az b),some (.loc μ.length),v2,v3]/\μ'=μ++[.l ((firstM b++(List.range (b.days.length-1)).flatMap (ff b)++((zl b.days).take j).flatMap λp=>B0 b p.1 p.2).map gf)]) ⟨v2,none,rfl,by simp⟩ (by
   rintro j ⟨d,y⟩ σ μ' hk ⟨v2,v3,rfl,rfl⟩
   obtain⟨e1,e2,e3⟩:=pf hk
   dsimp only at e1 e2
   subst e1
   rw[t8 hk,CJ,<-AD]
   have lX1:=wq b (b.days.length-1) hl (by lia)
   have lX2:=B2 b d hb
   have lX:(firstM b++(List.range (b.days.length-1)).flatMap (ff b)++((zl b.days).take d).flatMap λp=>B0 b p.1 p.2).length<=700:=by rw[AQ];lia
   generalize firstM b++(List.range (b.days.length-1)).flatMap (ff b)++((zl b.days).take d).flatMap (λp=>B0 b p.1 p.2)=X at lX ⊢
   have ex:([(d,y)].flatMap λp=>B0 b p.1 p.2)=B0 b d y:=by simp
   rw[ex]
   have H:=qk hr (X.map gf)
   obtain⟨σ3,μ3,el3,v3',rfl,rfl⟩:=d9 (φ:=ai GL (n+3)) (μ:=μ++[.l ((X++Dp b d y).map gf)]) (tg:=.one 3) (b:=jt) (xs:=zl b.lamps) (en:=λp:Nat×Lamp=>D.int (p.1:Int))
    (σ:=[some (az b),some (.loc μ.length),some (.int d),v3])
    (λj σ μ'=>∃v3,σ=[some (az b),some (.loc μ.length),some (.int d),v3]/\μ'=μ++[.l ((X++Dp b d y++((zl b.lamps).take j).flatMap λq=>ka b q.1 d q.2 y).map gf)]) ⟨v3,rfl,by simp⟩ (by
     rintro j ⟨i,l⟩ σ μ' hk3 ⟨v3,rfl,rfl⟩
     obtain⟨f1,f2,f3⟩:=pf hk3
     dsimp only at f1 f2
     subst f1
     refine⟨[some (az b),some (.loc μ.length),some (.int d),some (.int i)],_,?_,_,rfl,rfl⟩
     rw[t8 hk3,CJ,<-AD]
     have lZ:=yo b d i y
     have lW:(X++Dp b d y++((zl b.lamps).take i).flatMap λq=>ka b q.1 d q.2 y).length<=800:=by rw[AQ,AQ,Ae];lia
     generalize X++Dp b d y++((zl b.lamps).take i).flatMap (λq=>ka b q.1 d q.2 y)=Z at lW ⊢
     have ez:([(i,l)].flatMap λq=>ka b q.1 d q.2 y)=ka b i d l y:=by simp
     rw[ez]
     have H3:=qk hr (Z.map gf)
     have l3:=Lv b i d l y
     simp![fLp,jt,EV1,EV2,EV3,EV4,EV5,Nat.reduceSub,decide_true,decide_false,CM,CD,Lm,Oy (n:=n) H3 hb e2 f2,Ln (Ls _) (show(Z.map gf).length+((ka b i d l y).map gf).length<=1000000 by rw[AG,AG];lia),AY])
   rw[oi,<-oi b.lamps,BR]at el3
   refine⟨[some (az b),some (.loc μ.length),some (.int d),v3'],_,?_,_,_,rfl,rfl⟩
   have er:(zl b.lamps).map (λp:Nat×Lamp=>D.int (p.1:Int))=(List.range b.lamps.length).map fun(k:Nat)=>D.int k:=by
    rw[show(λp:Nat×Lamp=>D.int (p.1:Int))=(λk:Nat=>D.int k)∘Prod.fst from rfl,<-BB]
    congr 1
    simp[zl,EI]
   rw[er]at el3
   have ld:=Ae b d y
   rw[AY]at el3
   have em:=Ln (μ:=μ) (ds:=X.map gf) (ys:=(Dp b d y).map gf) (Ls _) (by rw[AG,AG];lia)
   unfold B0
   rw[<-AD]
   simp! only[fLp,ju,Lm,Ur (n:=n) H hb e2,em,t6,bt_len aw,AG,bz (show b.lamps.length<=1000000 by lia),el3])
 rw[BR]at el2
 have er:(zl b.days).map (λp:Nat×Day=>D.int (p.1:Int))=(List.range b.days.length).map fun(k:Nat)=>D.int k:=by
  rw[show(λp:Nat×Day=>D.int (p.1:Int))=(λk:Nat=>D.int k)∘Prod.fst from rfl,<-BB]
  congr 1
  simp[zl,EI]
 rw[er]at el2
 have bs:=Oz (μ:=μ) (B3 b hb)
 rw[show firstM b++(List.range (b.days.length-1)).flatMap (ff b)++(zl b.days).flatMap (λp=>B0 b p.1 p.2)=cz b from rfl]at el2
 generalize firstM b++(List.range (b.days.length-1)).flatMap (ff b)=X at *
 generalize hF:(firstM b).map gf=F at *
 have c0:iq (ai GL (n+3)) true bw [az b] μ=.ok (.loc μ.length) (μ++[.l F]):=by rw[<-hF];exact Ou hr hl
 simp! only[D_named_ties,c0,rq,bt_len aw,AG,O1 (show b.days.length<=1000000 by lia),el1,bz (show b.days.length<=1000000 by lia),el2,bs]
theorem O3(hr:i6 μ)(hb:Wf b):iq (ai GL (n+4)) false i9 [az b] μ=.ok (.lst ((gb ltN (cz b)).map gf)) μ:=dh (O2 hr hb) (Ad _) hr
noncomputable abbrev tieD(r:List Int):D:=.tup (r.map D.int)
noncomputable def Lw(b:Book):List (List Int):=(gb ltN (cz b)).map (·.1)
end
open PySem
noncomputable def stp(b:Book):Int:=2*b.lamps.length+2
noncomputable def gy(b:Book)(d:Nat)(y:Day):List (List Int):=[[0,sN b d,y.boat,0],[0,sN b d,y.most,y.price],[sN b d+stp b-1,1,y.wanted*y.length,0]]
noncomputable def c4(b:Book)(d i:Nat)(l:Lamp)(y:Day):List (List Int):=[[sN b d,sN b d+1+2*i,(a7 b).sum,0],[sN b d+1+2*i,sN b d+2+2*i,l.tank,0],[sN b d+2+2*i,sN b d+stp b-1,mv l d y,0]]++(if d+1<b.days.length then [[sN b d+2+2*i,sN b d+stp b+1+2*i,(a7 b).sum,0]]else [])
noncomputable def d7(b:Book)(d:Nat)(y:Day):List (List Int):=gy b d y++(zl b.lamps).flatMap (λq=>c4 b d q.1 q.2 y)++(if d+1<b.days.length then [[sN b d,sN b d+stp b,b.store,0]]else [])
noncomputable def fk(b:Book):List (List Int):=[0,2,b.oil,0]::(zl b.lamps).map λp:Nat×Lamp=>[0,3+2*(p.1:Int),p.2.oil,0]
noncomputable def Lx(b:Book):List (List Int):=fk b++(zl b.days).flatMap λp=>d7 b p.1 p.2
theorem Ly{α β:Type}(f g:α->List β):∀l:List α,(l.flatMap λx=>f x++g x).Perm (l.flatMap f++l.flatMap g)
 | []=>.refl _
 |x::l=>by
  rw[DS,DS,DS]
  refine((List.Perm.refl _).append (Ly f g l)).trans ?_
  rw[AD,AD]
  refine BL _ ?_
  rw[<-AD,<-AD]
  exact FJ _ CO
theorem Lz{α β:Type}{f g:α->List β}:∀{l:List α},(∀x∈l,(f x).Perm (g x))->(l.flatMap f).Perm (l.flatMap g)
 | [],_=>.refl _
 |x::l,h=>by
  rw[DS,DS]
  exact(h x BI).append (Lz λy hy=>h y (AU _ hy))
theorem Y7{α β:Type}(g:Nat->List β)(l:List α):((zl l).flatMap λp=>g p.1)=(List.range l.length).flatMap g:=by
 have:(zl l).map Prod.fst=List.range l.length:=by simp[zl,EI]
 rw[<-this,List.flatMap_map]
theorem Y8{β:Type}(g:Nat->List β)(m:Nat):((List.range m).flatMap λd=>if d+1<m then g d else [])=(List.range (m-1)).flatMap g:=by
 cases m with
 |zero=>rfl
 |succ k =>
  rw[DH,CJ]
  have e1:([k].flatMap λd=>if d+1<k+1 then g d else [])=[]:=by simp
  rw[e1,DT,Nat.add_sub_cancel]
  have:∀j,j<=k->((List.range j).flatMap λd=>if d+1<k+1 then g d else [])=(List.range j).flatMap g:=by
   intro j
   induction j with
   |zero=>intro _;rfl
   |succ j ih =>
    intro hj
    rw[DH,CJ,CJ,ih (by lia)]
    congr 1
    simp;lia
  exact this k (AK _)
theorem Y9{α β:Type}(f:α->β)(l:List α):(l.flatMap λx=>[f x])=l.map f:=by
 induction l with
 |nil=>rfl
 |cons x l ih=>rw[DS,ih];rfl
theorem L7{α β γ:Type}(f:β->γ)(g:α->List β)(l:List α):(l.flatMap g).map f=l.flatMap λx=>(g x).map f:=by rw[List.map_flatMap]
noncomputable def Dr(b:Book)(d:Nat):List (List Int):=[[sN b d,sN b d+stp b,b.store,0]]++(List.range b.lamps.length).map λi:Nat=>[sN b d+2+2*(i:Int),sN b d+stp b+1+2*i,(a7 b).sum,0]
theorem L8(b:Book)(d:Nat):sN b (d+1)=sN b d+stp b:=by
 unfold sN stp
 rw[show((d+1:Nat):Int)=(d:Int)+1 by lia,FZ,Int.one_mul]
 lia
theorem L9(b:Book)(d:Nat):(ff b d).map (·.1)=Dr b d:=by
 unfold ff Dr
 rw[AF,BB,List.singleton_append]
 congr 1
 ·show [sN b d,sN b (d+1),b.store,0]=_
  rw[L8]
 ·refine CH λi _=>?_
  show [fN b i d,tN b i (d+1),(a7 b).sum,0]=_
  rw[fN,tN,L8]
theorem O4(b:Book)(d:Nat)(y:Day):(d7 b d y).Perm ((B0 b d y).map (·.1)++if d+1<b.days.length then Dr b d else []):=by
 have e1:(Dp b d y).map (·.1)=gy b d y:=by
  show [[0,sN b d,y.boat,0],[0,sN b d,y.most,y.price],[nN b d,1,y.wanted*y.length,0]]=_
  unfold gy
  rw[nN,stp,show sN b d+2*(b.lamps.length:Int)+1=sN b d+(2*(b.lamps.length:Int)+2)-1 by lia]
 have e2:∀(i:Nat) (l:Lamp),(ka b i d l y).map (·.1)=[[sN b d,sN b d+1+2*(i:Int),(a7 b).sum,0],[sN b d+1+2*(i:Int),sN b d+2+2*i,l.tank,0],[sN b d+2+2*(i:Int),sN b d+stp b-1,mv l d y,0]]:=λi l=>by
  show [[sN b d,tN b i d,(a7 b).sum,0],[tN b i d,fN b i d,l.tank,0],[fN b i d,nN b d,mv l d y,0]]=_
  rw[tN,fN,nN,stp,show sN b d+2*(b.lamps.length:Int)+1=sN b d+(2*(b.lamps.length:Int)+2)-1 by lia]
 unfold d7 B0
 rw[AY,L7,e1]
 have e3:(zl b.lamps).flatMap (λq=>c4 b d q.1 q.2 y)=(zl b.lamps).flatMap λq=>(ka b q.1 d q.2 y).map (·.1)++(if d+1<b.days.length then [[sN b d+2+2*(q.1:Int),sN b d+stp b+1+2*q.1,(a7 b).sum,0]]else []):=by
  congr 1
  funext q
  rw[e2];rfl
 rw[e3]
 have p:=Ly (λq:Nat×Lamp=>(ka b q.1 d q.2 y).map (·.1)) (λq:Nat×Lamp=>if d+1<b.days.length then [[sN b d+2+2*(q.1:Int),sN b d+stp b+1+2*q.1,(a7 b).sum,0]]else []) (zl b.lamps)
 generalize (zl b.lamps).flatMap (λq:Nat×Lamp=>(ka b q.1 d q.2 y).map (·.1))=P at *
 rw[AD,AD]
 refine BL _ ?_
 refine(p.append_right _).trans ?_
 rw[AD]
 refine BL _ ?_
 by_cases h:d+1<b.days.length
 ·simp![h,if_true]
  rw[Y7 (λi:Nat=>[[sN b d+2+2*(i:Int),sN b d+stp b+1+2*i,(a7 b).sum,0]]) b.lamps,Y9]
  exact CO
 ·simp![h,if_false,DT]
  have:((zl b.lamps).flatMap λ_:Nat×Lamp=>([]:List (List Int)))=[]:=by simp
  rw[this]
theorem Hg(b:Book):((cz b).map (·.1)).Perm (Lx b):=by
 unfold cz Lx
 rw[AY,AY,L7,L7]
 have e0:(firstM b).map (·.1)=fk b:=by
  unfold firstM fk
  rw[AF,BB]
  congr 1
  ·show [0,sN b 0,b.oil,0]=_
   unfold sN
   rw[show(2:Int)+((0:Nat):Int)*(2*(b.lamps.length:Int)+2)=2 by simp]
  refine CH λp _=>?_
  show [0,tN b p.1 0,p.2.oil,0]=_
  unfold tN sN
  rw[show(2:Int)+((0:Nat):Int)*(2*(b.lamps.length:Int)+2)+1+2*(p.1:Int)=3+2*(p.1:Int)by simp]
 rw[e0,AD]
 refine BL _ ?_
 have e1:(List.range (b.days.length-1)).flatMap (λd=>(ff b d).map (·.1))=(List.range (b.days.length-1)).flatMap (Dr b):=by
  congr 1
  funext d
  exact L9 b d
 rw[e1]
 have p1:((zl b.days).flatMap λp=>d7 b p.1 p.2).Perm ((zl b.days).flatMap λp=>(B0 b p.1 p.2).map (·.1)++if p.1+1<b.days.length then Dr b p.1 else []):=Lz λp _=>O4 b p.1 p.2
 have p2:=Ly (λp:Nat×Day=>(B0 b p.1 p.2).map (·.1)) (λp:Nat×Day=>if p.1+1<b.days.length then Dr b p.1 else []) (zl b.days)
 rw[Y7 (λd=>if d+1<b.days.length then Dr b d else []) b.days,Y8]at p2
 exact(CO.trans p2.symm).trans p1.symm
theorem Za{x y:NR}(h:ltN y x=false):Lp.lexLt y.1 x.1=false:=by
 unfold ltN at h
 by_cases e:y.1=x.1
 ·rw[e];exact Srt.vw _
 ·rwa [if_neg e]at h
theorem O5(b:Book):Lw b=gb Lp.lexLt (Lx b):=by
 refine E9 adi ?_ ?_
 ·unfold Lw
  exact((jg (cz b)).map _).trans (Hg b)
 ·unfold Lw
  rw[List.pairwise_map]
  exact(zx aby (cz b)).imp λh=>Za h
open PySem
theorem Rk{m:Mk}{c:Bool}{μ:Sto}:btD .int m [.bl c] μ=.ok (.int (if c=true then 1 else 0)) μ:=by
 cases c<;>rfl
section
variable{n:Nat}{μ:Sto}{b:Book}
theorem Hh(hb:Wf b):ai GL (n+1) jh [az b] μ=.ok (.int (a7 b).sum) μ:=by
 rw[aj Hc,run_eq rfl]
 have hl:=hb.lamps.2
 have c1:mj (ai GL n) .z (.one 0) .nil n3 [none] (b.days.map ji,none) μ=.ok (.lst ((a7 b).map D.int)) μ:=by
  rw[comp_map (g:=λy:Day=>D.int (y.wanted*y.length)) λy hy=>by
   have q:=hb.day y hy
   have hm:CMul y.length y.wanted:=.right (by lia) (by lia)
   simp! only[uw,n3,Uj,acm,op_mul hm,Int.mul_comm y.length y.wanted]]
  rw[g0,a7,BB];rfl
 simp! only[D_law_need,rq,c1,bt_sum au (h7 _)]
theorem yp(hr:i6 μ)(hb:Wf b):iq (ai GL (n+1)) false jh [az b] μ=.ok (.int (a7 b).sum) μ:=bt (Hh hb) rfl rfl hr
theorem ie(k:Nat)(r:List Int):D.pureN (k+1) (tieD r)=true:=by rw[c7,CW,AL];exact λ_ _=>cq
theorem Af:∀rs:List (List Int),rowsOf (rs.map tieD)=some rs
 | []=>rfl
 |x::r=>by
  rw[AF]
  unfold rowsOf
  rw[Af r]
  simp![h7,Da,DV]
theorem O6{rs:List (List Int)}(hl:rs.length<=1000)(hn:∀r∈rs,r.length=4):btD .sortedT .z [.loc μ.length] (μ++[.l (rs.map tieD)])=.ok (.lst ((gb Lp.lexLt rs).map tieD)) (μ++[.l (rs.map tieD)]):=by
 have ha:(rs.all λr=>!r.isEmpty)=true:=by
  rw[AL]
  intro r hr
  have:=hn r hr
  cases r with
  |nil=>simp at this
  |cons=>rfl
 simp![btD,nk,Eh,Lp.listOf,d6,Da,Af,hl,ha,and_self,if_true,g0]
theorem n9{X:List (List Int)}{r:List Int}(hl:X.length<=900):mtD .append (.loc μ.length) [tieD r] (μ++[.l (X.map tieD)])=.ok .non (μ++[.l ((X++[r]).map tieD)]):=by
 rw[wj (ie 7 r) (by rw[AG];lia),AY];rfl
theorem Ds(b:Book)(d i:Nat)(l:Lamp)(y:Day):(c4 b d i l y).length<=4:=by
 unfold c4
 split<;>simp
theorem pg(b:Book)(d j:Nat)(y:Day):(((zl b.lamps).take j).flatMap λq=>c4 b d q.1 q.2 y).length<=b.lamps.length*4:=by
 have:=fm_len (c:=4) (l:=(zl b.lamps).take j) (f:=λq=>c4 b d q.1 q.2 y) λx _=>Ds b d x.1 x.2 y
 have h2:((zl b.lamps).take j).length<=b.lamps.length:=by rw[BV,oi];lia
 have h3:=FY 4 h2
 lia
theorem Dt(b:Book)(d:Nat)(y:Day):(d7 b d y).length<=b.lamps.length*4+4:=by
 have:=pg b d (zl b.lamps).length y
 rw[BR]at this
 unfold d7
 rw[AQ,AQ]
 have h3:(gy b d y).length=3:=rfl
 split
 ·simp![BH,CC];lia
 ·simp![CC];lia
theorem yq(b:Book)(j:Nat)(hb:Wf b):(fk b++((zl b.days).take j).flatMap λp=>d7 b p.1 p.2).length<=600:=by
 have hl:=hb.lamps.2
 have hd:=hb.days.2
 have:=fm_len (c:=36) (l:=(zl b.days).take j) (f:=λp=>d7 b p.1 p.2) λx _=>by have:=Dt b x.1 x.2;lia
 have h2:((zl b.days).take j).length<=b.days.length:=by rw[BV,oi];lia
 have h3:(fk b).length<=9:=by simp[fk,oi];lia
 rw[AQ]
 lia
theorem Us(b:Book)(hb:Wf b):(Lx b).length<=600:=by
 have:=yq b (zl b.days).length hb
 rwa [BR]at this
theorem O7(b:Book):∀r∈Lx b,r.length=4:=by
 intro r hr
 unfold Lx fk d7 gy c4 at hr
 simp![BD,AS,BW,DB]at hr
 rcases hr with(rfl | ⟨p,_,rfl⟩) | ⟨p,_,(h | ⟨q,_,h | h⟩) | h⟩
 ·rfl
 ·rfl
 ·rcases h with rfl | rfl | rfl | h
  ·rfl
  ·rfl
  ·rfl
  ·cases h
 ·rcases h with rfl | rfl | rfl | h
  ·rfl
  ·rfl
  ·rfl
  ·cases h
 ·split at h
  ·rcases EL.mp h with rfl;rfl
  ·cases h
 ·split at h
  ·rcases EL.mp h with rfl;rfl
  ·cases h
theorem Mb(hr:i6 μ)(hb:Wf b):∃ρ,ai GL (n+2) jq [az b] μ=.ok (.tup [.int (2+stp b*b.days.length),.tup ((gb Lp.lexLt (Lx b)).map tieD)]) (μ++ρ):=by
 have hl:=hb.lamps.2
 have hd:=hb.days
 rw[aj Dl,run_eq rfl]
 have e0:mkL .l [tieD [0,2,b.oil,0]] μ=.ok (.loc μ.length) (μ++[.l [tieD [0,2,b.oil,0]]]):=Hw (by simp[ie 7])
 have m2:∀i:Int,CMul 2 i:=λi=>.left (by decide) (by decide)
 obtain⟨σ1,μ1,el1,v5,rfl,rfl⟩:=d9 (φ:=ai GL (n+1)) (μ:=μ++[.l [tieD [0,2,b.oil,0]]]) (tg:=.one 5) (b:=lh) (xs:=zl b.lamps) (en:=λp:Nat×Lamp=>D.int (p.1:Int))
  (σ:=[some (az b),some (.int b.lamps.length),some (.int (stp b)),some (.int (a7 b).sum),some (.loc μ.length),none,none,none,none,none,none,none,none,none])
  (λj σ μ'=>∃v5,σ=[some (az b),some (.int b.lamps.length),some (.int (stp b)),some (.int (a7 b).sum),some (.loc μ.length),v5,none,none,none,none,none,none,none,none]/\μ'=μ++[.l (([0,2,b.oil,0]::((zl b.lamps).take j).map λp:Nat×Lamp=>[0,3+2*(p.1:Int),p.2.oil,0]).map tieD)]) ⟨none,rfl,by simp⟩ (by
   rintro j ⟨i,l⟩ σ μ' hk ⟨v5,rfl,rfl⟩
   obtain⟨f1,f2,f3⟩:=pf hk
   dsimp only at f1 f2
   subst f1
   refine⟨[some (az b),some (.int b.lamps.length),some (.int (stp b)),some (.int (a7 b).sum),some (.loc μ.length),some (.int i),none,none,none,none,none,none,none,none],_,?_,_,rfl,rfl⟩
   rw[t8 hk,AY]
   generalize hX:([0,2,b.oil,0]::((zl b.lamps).take i).map λp:Nat×Lamp=>[0,3+2*(p.1:Int),p.2.oil,0])=X
   have eX:([0,2,b.oil,0]::(((zl b.lamps).take i).map (λp:Nat×Lamp=>[0,3+2*(p.1:Int),p.2.oil,0])++[(i,l)].map λp:Nat×Lamp=>[0,3+2*(p.1:Int),p.2.oil,0]))=X++[[0,3+2*(i:Int),l.oil,0]]:=by rw[<-hX];rfl
   rw[eX]
   have lX:X.length<=900:=by rw[<-hX];simp[oi];lia
   have et:(D.tup [.int 0,.int (3+2*(i:Int)),.int l.oil,.int 0])=tieD [0,3+2*(i:Int),l.oil,0]:=rfl
   simp! only[fLp,lh,uf,op_mul (m2 _),t6,gu f2,Y4,et,n9 lX])
 rw[BR]at el1
 have er:(zl b.lamps).map (λp:Nat×Lamp=>D.int (p.1:Int))=(List.range b.lamps.length).map fun(k:Nat)=>D.int k:=by
  rw[show(λp:Nat×Lamp=>D.int (p.1:Int))=(λk:Nat=>D.int k)∘Prod.fst from rfl,<-BB]
  congr 1
  simp[zl,EI]
 rw[er,show([0,2,b.oil,0]::(zl b.lamps).map λp:Nat×Lamp=>[0,3+2*(p.1:Int),p.2.oil,0])=fk b from rfl]at el1
 obtain⟨σ2,μ2,el2,w5,w6,w7,w8,w9,w10,w11,w12,w13,rfl,rfl⟩:=d9 (φ:=ai GL (n+1)) (μ:=μ++[.l ((fk b).map tieD)]) (tg:=.one 6) (b:=iy) (xs:=zl b.days) (en:=λp:Nat×Day=>D.int (p.1:Int))
  (σ:=[some (az b),some (.int b.lamps.length),some (.int (stp b)),some (.int (a7 b).sum),some (.loc μ.length),v5,none,none,none,none,none,none,none,none])
  (λj σ μ'=>∃w5 w6 w7 w8 w9 w10 w11 w12 w13,σ=[some (az b),some (.int b.lamps.length),some (.int (stp b)),some (.int (a7 b).sum),some (.loc μ.length),w5,w6,w7,w8,w9,w10,w11,w12,w13]/\μ'=μ++[.l ((fk b++((zl b.days).take j).flatMap λp=>d7 b p.1 p.2).map tieD)]) ⟨_,_,_,_,_,_,_,_,_,rfl,by simp⟩ (by
   rintro j ⟨d,y⟩ σ μ' hk ⟨w5,w6,w7,w8,w9,w10,w11,w12,w13,rfl,rfl⟩
   obtain⟨f1,f2,f3⟩:=pf hk
   dsimp only at f1 f2
   subst f1
   rw[t8 hk,CJ,<-AD]
   have lX:=yq b d hb
   generalize fk b++((zl b.days).take d).flatMap (λp=>d7 b p.1 p.2)=X at lX ⊢
   have ex:([(d,y)].flatMap λp=>d7 b p.1 p.2)=d7 b d y:=by simp
   rw[ex]
   have q:=hb.day y (BK f2)
   have h13:(gy b d y).length=3:=rfl
   have dlt:(((d:Int)<(b.days.length:Int)-1))↔d+1<b.days.length:=by lia
   obtain⟨σ3,μ3,el3,x5,x13,rfl,rfl⟩:=d9 (φ:=ai GL (n+1)) (μ:=μ++[.l ((X++gy b d y).map tieD)]) (tg:=.one 5) (b:=iw) (xs:=zl b.lamps) (en:=λp:Nat×Lamp=>D.int (p.1:Int))
    (σ:=[some (az b),some (.int b.lamps.length),some (.int (stp b)),some (.int (a7 b).sum),some (.loc μ.length),w5,some (.int d),some (.int y.boat),some (.int y.most),some (.int y.price),some (.int y.length),some (.int y.wanted),some (.int (sN b d)),w13])
    (λj σ μ'=>∃x5 x13,σ=[some (az b),some (.int b.lamps.length),some (.int (stp b)),some (.int (a7 b).sum),some (.loc μ.length),x5,some (.int d),some (.int y.boat),some (.int y.most),some (.int y.price),some (.int y.length),some (.int y.wanted),some (.int (sN b d)),x13]/\μ'=μ++[.l ((X++gy b d y++((zl b.lamps).take j).flatMap λq=>c4 b d q.1 q.2 y).map tieD)]) ⟨_,_,rfl,by simp⟩ (by
     rintro j ⟨i,l⟩ σ μ' hk3 ⟨x5,x13,rfl,rfl⟩
     obtain⟨g1,g2,g3⟩:=pf hk3
     dsimp only at g1 g2
     subst g1
     refine⟨[some (az b),some (.int b.lamps.length),some (.int (stp b)),some (.int (a7 b).sum),some (.loc μ.length),some (.int i),some (.int d),some (.int y.boat),some (.int y.most),some (.int y.price),some (.int y.length),some (.int y.wanted),some (.int (sN b d)),some (.int (mv l d y))],_,?_,_,_,rfl,rfl⟩
     rw[t8 hk3,CJ,<-AD]
     have lZ:=pg b d i y
     have lW:(X++gy b d y++((zl b.lamps).take i).flatMap λq=>c4 b d q.1 q.2 y).length<=700:=by rw[AQ,AQ,h13];lia
     generalize X++gy b d y++((zl b.lamps).take i).flatMap (λq=>c4 b d q.1 q.2 y)=Z at lW ⊢
     have ez:([(i,l)].flatMap λq=>c4 b d q.1 q.2 y)=c4 b d i l y:=by simp
     rw[ez]
     have eb:y.length*(if(!decide ((d:Int)∈l.away))=true then 1 else 0)=mv l d y:=by
      unfold mv
      by_cases h:(d:Int)∈l.away
      ·simp[h]
      ·simp[h]
     have cb:CMul y.length (if(!decide ((d:Int)∈l.away))=true then 1 else 0):=.right (by split<;>decide) (by split<;>decide)
     have t1:(D.tup [.int (sN b d),.int (sN b d+1+2*(i:Int)),.int (a7 b).sum,.int 0])=tieD [sN b d,sN b d+1+2*(i:Int),(a7 b).sum,0]:=rfl
     have t2:(D.tup [.int (sN b d+1+2*(i:Int)),.int (sN b d+2+2*(i:Int)),.int l.tank,.int 0])=tieD [sN b d+1+2*(i:Int),sN b d+2+2*i,l.tank,0]:=rfl
     have t3:(D.tup [.int (sN b d+2+2*(i:Int)),.int (sN b d+stp b-1),.int (mv l d y),.int 0])=tieD [sN b d+2+2*(i:Int),sN b d+stp b-1,mv l d y,0]:=rfl
     have t4:(D.tup [.int (sN b d+2+2*(i:Int)),.int (sN b d+stp b+1+2*(i:Int)),.int (a7 b).sum,.int 0])=tieD [sN b d+2+2*(i:Int),sN b d+stp b+1+2*i,(a7 b).sum,0]:=rfl
     have a1:=n9 (μ:=μ) (X:=Z) (r:=[sN b d,sN b d+1+2*(i:Int),(a7 b).sum,0]) (by lia)
     have a2:=n9 (μ:=μ) (X:=Z++[[sN b d,sN b d+1+2*(i:Int),(a7 b).sum,0]]) (r:=[sN b d+1+2*(i:Int),sN b d+2+2*i,l.tank,0]) (by simp;lia)
     have a3:=n9 (μ:=μ) (X:=Z++[[sN b d,sN b d+1+2*(i:Int),(a7 b).sum,0]]++[[sN b d+1+2*(i:Int),sN b d+2+2*i,l.tank,0]]) (r:=[sN b d+2+2*(i:Int),sN b d+stp b-1,mv l d y,0]) (by simp;lia)
     have a4:=n9 (μ:=μ) (X:=Z++[[sN b d,sN b d+1+2*(i:Int),(a7 b).sum,0]]++[[sN b d+1+2*(i:Int),sN b d+2+2*i,l.tank,0]]++[[sN b d+2+2*(i:Int),sN b d+stp b-1,mv l d y,0]]) (r:=[sN b d+2+2*(i:Int),sN b d+stp b+1+2*i,(a7 b).sum,0]) (by simp;lia)
     have kA:∀(es:Exs) (σ:Sl) (W:List (List Int)),kM (ai GL (n+1)) .append es σ (.loc μ.length) (μ++[.l (W.map tieD)])=(gn (ai GL (n+1)) es σ (μ++[.l (W.map tieD)])).bind (mtD .append (.loc μ.length)):=λ_ _ _=>uf
     by_cases hc:d+1<b.days.length
     ·have hc':=dlt.mpr hc
      have el:Z++c4 b d i l y=Z++[[sN b d,sN b d+1+2*(i:Int),(a7 b).sum,0]]++[[sN b d+1+2*(i:Int),sN b d+2+2*i,l.tank,0]]++[[sN b d+2+2*(i:Int),sN b d+stp b-1,mv l d y,0]]++[[sN b d+2+2*(i:Int),sN b d+stp b+1+2*i,(a7 b).sum,0]]:=by
       unfold c4;rw[if_pos hc];simp
      rw[el]
      generalize Z++[[sN b d,sN b d+1+2*(i:Int),(a7 b).sum,0]]=Z1 at *
      generalize Z1++[[sN b d+1+2*(i:Int),sN b d+2+2*i,l.tank,0]]=Z2 at *
      generalize Z2++[[sN b d+2+2*(i:Int),sN b d+stp b-1,mv l d y,0]]=Z3 at *
      generalize Z3++[[sN b d+2+2*(i:Int),sN b d+stp b+1+2*i,(a7 b).sum,0]]=Z4 at *
      simp! only[fLp,iw,t6,gu g2,Y5,n4,Rk,op_mul cb,eb,kA,op_mul (m2 _),t1,a1,Li,t2,a2,t3,a3,rq,bt_len aw,AG,hc',t4,a4]
     ·have hc':¬((d:Int)<(b.days.length:Int)-1):=λz=>hc (dlt.mp z)
      have el:Z++c4 b d i l y=Z++[[sN b d,sN b d+1+2*(i:Int),(a7 b).sum,0]]++[[sN b d+1+2*(i:Int),sN b d+2+2*i,l.tank,0]]++[[sN b d+2+2*(i:Int),sN b d+stp b-1,mv l d y,0]]:=by
       unfold c4;rw[if_neg hc];simp
      rw[el]
      generalize Z++[[sN b d,sN b d+1+2*(i:Int),(a7 b).sum,0]]=Z1 at *
      generalize Z1++[[sN b d+1+2*(i:Int),sN b d+2+2*i,l.tank,0]]=Z2 at *
      generalize Z2++[[sN b d+2+2*(i:Int),sN b d+stp b-1,mv l d y,0]]=Z3 at *
      simp! only[fLp,iw,t6,gu g2,Y5,n4,Rk,op_mul cb,eb,kA,op_mul (m2 _),t1,a1,Li,t2,a2,t3,a3,rq,bt_len aw,AG,hc'])
   rw[BR,er]at el3
   have lZ:=pg b d (zl b.lamps).length y
   rw[BR]at lZ
   have lW:(X++gy b d y++(zl b.lamps).flatMap λq=>c4 b d q.1 q.2 y).length<=700:=by rw[AQ,AQ,h13];lia
   have es:2+(d:Int)*stp b=sN b d:=rfl
   have cm:CMul y.wanted y.length:=.left (by lia) (by lia)
   have cd:CMul (d:Int) (stp b):=.right (by unfold stp;lia) (by unfold stp;lia)
   have t1:(D.tup [.int 0,.int (sN b d),.int y.boat,.int 0])=tieD [0,sN b d,y.boat,0]:=rfl
   have t2:(D.tup [.int 0,.int (sN b d),.int y.most,.int y.price])=tieD [0,sN b d,y.most,y.price]:=rfl
   have t3:(D.tup [.int (sN b d+stp b-1),.int 1,.int (y.wanted*y.length),.int 0])=tieD [sN b d+stp b-1,1,y.wanted*y.length,0]:=rfl
   have t4:(D.tup [.int (sN b d),.int (sN b d+stp b),.int b.store,.int 0])=tieD [sN b d,sN b d+stp b,b.store,0]:=rfl
   have a1:=n9 (μ:=μ) (X:=X) (r:=[0,sN b d,y.boat,0]) (by lia)
   have a2:=n9 (μ:=μ) (X:=X++[[0,sN b d,y.boat,0]]) (r:=[0,sN b d,y.most,y.price]) (by simp;lia)
   have a3:=n9 (μ:=μ) (X:=X++[[0,sN b d,y.boat,0]]++[[0,sN b d,y.most,y.price]]) (r:=[sN b d+stp b-1,1,y.wanted*y.length,0]) (by simp;lia)
   have kA:∀(es:Exs) (σ:Sl) (W:List (List Int)),kM (ai GL (n+1)) .append es σ (.loc μ.length) (μ++[.l (W.map tieD)])=(gn (ai GL (n+1)) es σ (μ++[.l (W.map tieD)])).bind (mtD .append (.loc μ.length)):=λ_ _ _=>uf
   have eD:X++[[0,sN b d,y.boat,0]]++[[0,sN b d,y.most,y.price]]++[[sN b d+stp b-1,1,y.wanted*y.length,0]]=X++gy b d y:=by simp[gy]
   rw[eD]at a3
   generalize X++[[0,sN b d,y.boat,0]]=X1 at *
   generalize X1++[[0,sN b d,y.most,y.price]]=X2 at *
   have a4:=n9 (μ:=μ) (X:=X++gy b d y++(zl b.lamps).flatMap λq=>c4 b d q.1 q.2 y) (r:=[sN b d,sN b d+stp b,b.store,0]) (by lia)
   refine⟨[some (az b),some (.int b.lamps.length),some (.int (stp b)),some (.int (a7 b).sum),some (.loc μ.length),x5,some (.int d),some (.int y.boat),some (.int y.most),some (.int y.price),some (.int y.length),some (.int y.wanted),some (.int (sN b d)),x13],μ++[.l ((X++d7 b d y).map tieD)],?_,_,_,_,_,_,_,_,_,_,rfl,rfl⟩
   by_cases hc:d+1<b.days.length
   ·have hc':=dlt.mpr hc
    have el:X++d7 b d y=X++gy b d y++(zl b.lamps).flatMap (λq=>c4 b d q.1 q.2 y)++[[sN b d,sN b d+stp b,b.store,0]]:=by unfold d7;rw[if_pos hc];simp
    rw[el]
    generalize X++gy b d y++(zl b.lamps).flatMap (λq=>c4 b d q.1 q.2 y)=Y1 at *
    generalize Y1++[[sN b d,sN b d+stp b,b.store,0]]=Y2 at *
    generalize X++gy b d y=Y0 at *
    simp![fLp,iy,EV1,EV2,EV3,EV4,EV5,Nat.reduceSub,decide_true,decide_false,CM,CD,rq,gu f2,Dq,op_mul cd,es,kA,t1,a1,t2,a2,op_mul cm,t3,a3,bz (show b.lamps.length<=1000000 by lia),el3,bt_len aw,AG,hc',Ui,t4,a4]
   ·have hc':¬((d:Int)<(b.days.length:Int)-1):=λz=>hc (dlt.mp z)
    have el:X++d7 b d y=X++gy b d y++(zl b.lamps).flatMap (λq=>c4 b d q.1 q.2 y):=by unfold d7;rw[if_neg hc];simp
    rw[el]
    generalize X++gy b d y++(zl b.lamps).flatMap (λq=>c4 b d q.1 q.2 y)=Y1 at *
    generalize X++gy b d y=Y0 at *
    simp![fLp,iy,EV1,EV2,EV3,EV4,EV5,Nat.reduceSub,decide_true,decide_false,CM,CD,rq,gu f2,Dq,op_mul cd,es,kA,t1,a1,t2,a2,op_mul cm,t3,a3,bz (show b.lamps.length<=1000000 by lia),el3,bt_len aw,AG,hc'])
 rw[BR]at el2
 have er2:(zl b.days).map (λp:Nat×Day=>D.int (p.1:Int))=(List.range b.days.length).map fun(k:Nat)=>D.int k:=by
  rw[show(λp:Nat×Day=>D.int (p.1:Int))=(λk:Nat=>D.int k)∘Prod.fst from rfl,<-BB]
  congr 1
  simp[zl,EI]
 rw[er2,show fk b++(zl b.days).flatMap (λp=>d7 b p.1 p.2)=Lx b from rfl]at el2
 refine⟨[.l ((Lx b).map tieD)],?_⟩
 have bs:=O6 (μ:=μ) (rs:=Lx b) (by have:=Us b hb;lia) (O7 b)
 have et:(D.tup [.int 0,.int 2,.int b.oil,.int 0])=tieD [0,2,b.oil,0]:=rfl
 have est:2*(b.lamps.length:Int)+2=stp b:=rfl
 have cs:CMul (stp b) (b.days.length:Int):=.left (by unfold stp;lia) (by unfold stp;lia)
 generalize Lx b=W at *
 generalize (fk b).map tieD=F at *
 simp![D_law_web_3,EV1,EV2,EV3,EV4,EV5,Nat.reduceSub,decide_true,decide_false,CM,CD,t6,bt_len aw,AG,op_mul (m2 _),est,yp (n:=n) hr hb,ack,et,e0,bz (show b.lamps.length<=1000000 by lia),el1,rq,bz (show b.days.length<=1000000 by lia),el2,op_mul cs,bs,bt_tuple au]
end
open PySem
noncomputable abbrev wt(N:Int)(T:List (List Int)):D:=.tup [.int N,.tup (T.map tieD)]
theorem Mc(N:Int)(T:List (List Int))(k:Nat):D.pureN (k+3) (wt N T)=true:=by
 show(D.pureN (k+2) (.int N)&&(D.pureN (k+2) (.tup (T.map tieD))&&true))=true
 rw[cq,c7,CW]
 have:(T.all (D.pureN (k+1)∘tieD))=true:=by rw[AL];exact λx _=>ie k x
 rw[this];rfl
open PySem
section
variable{n:Nat}{μ ρ:Sto}
theorem yr{m:Nat}(hm:m<=1000):opD .Mult .l (.lst [.int 0]) (.int m) μ=.ok (.loc μ.length) (μ++[.l ((List.replicate m (0:Int)).map D.int)]):=by
 have:=jl
 have e:(List.replicate m [D.int 0]).flatten=(List.replicate m (0:Int)).map D.int:=by
  induction m with
  |zero=>rfl
  |succ m ih=>rw[CQ,DD,ih (by omega),CQ,AF];rfl
 simp![opD,Lp.listOf,DR]
 rw[if_pos ⟨by simp;omega,by omega,by omega⟩,e,Hw (by rw[AL];intro x hx;obtain⟨i,_,rfl⟩:=BW.mp hx;rfl)]
theorem Hj{m:Nat}(hm:m<=1000):opD .Mult .z (.lst [.int 0]) (.int m) μ=.ok (.lst ((List.replicate m (0:Int)).map D.int)) μ:=by
 have:=jl
 have e:(List.replicate m [D.int 0]).flatten=(List.replicate m (0:Int)).map D.int:=by
  induction m with
  |zero=>rfl
  |succ m ih=>rw[CQ,DD,ih (by omega),CQ,AF];rfl
 simp![opD,Lp.listOf,DR]
 rw[if_pos ⟨by simp;omega,by omega,by omega⟩,e,g0]
theorem Md{o:List Int}{k:Nat}{v:Int}(hk:k<o.length):Cg (.loc μ.length) (.int k) (.int v) (μ++[.l (o.map D.int)])=.ok () (μ++[.l ((o.set k v).map D.int)]):=by
 have e1:ixN (o.map D.int).length (k:Int)=some k:=by simp[ixN];omega
 simp![Cg,d6,ik,e1,fits,rp,if_true,putL,Res.br,kj,JD]
theorem deqs_ints:∀xs ys:List Int,pj (xs.map D.int) (ys.map D.int)=decide (xs=ys)
 | [],[]=>by simp[pj]
 | [],_::_=>by simp[pj]
 |_::_,[]=>by simp[pj]
 |x::xs,y::ys=>by simp[pj,deq,deqs_ints xs ys]
end
open PySem
noncomputable def c6(c:Int):Int:=((c % 998244353+1)*69621 % 2147483647)*((c % 998244353+1)*69621 % 2147483647) % 1000000007 / 7
section
variable{n:Nat}{μ:Sto}
theorem Zb(c:Int):ai GL (n+1) aq [.int c] μ=.ok (.int (c6 c)) μ:=by
 rw[aj z7,run_eq rfl]
 have h1:=EE ((c % 998244353+1)*69621) (show(2147483647:Int)≠0 by decide)
 have h2:=DJ ((c % 998244353+1)*69621) (show(0:Int)<2147483647 by decide)
 have c1:CMul (c % 998244353+1) 69621:=.right (by decide) (by decide)
 have c2:CMul ((c % 998244353+1)*69621 % 2147483647) ((c % 998244353+1)*69621 % 2147483647):=.left (by lia) (by lia)
 simp! only[D_law_mixed_3,op_mod (show(0:Int)<998244353 by decide),op_mul c1,op_mod (show(0:Int)<2147483647 by decide),op_mul c2,op_mod (show(0:Int)<1000000007 by decide),ym (show(0:Int)<7 by decide) (show(7:Int)<1073741824 by decide),c6]
theorem mw(hr:i6 μ)(c:Int):iq (ai GL (n+1)) false aq [.int c] μ=.ok (.int (c6 c)) μ:=bt (Zb c) rfl rfl hr
theorem Rl{ns:List Int}{k:Nat}{a:Int}(h:ns[k]? = some a):ixD (.lst (ns.map D.int)) (.int k) μ=.ok (.int a) μ:=Uh h
theorem Me(ns:List Int)(m:Nat)(h1:1<=m)(h2:m<=100)(hn:ns.length<=1000):∃cs:List Int,cs.length=m/\ai GL (n+1) kd [.lst (ns.map D.int),.int m] μ=.ok (.lst (cs.map D.int)) (μ++[.dead]):=by
 rw[aj Bx,run_eq rfl]
 obtain⟨σ',μ',el,cs,v3,hl,rfl,rfl⟩:=d9 (φ:=ai GL n) (μ:=μ++[.l ((List.replicate m (0:Int)).map D.int)]) (tg:=.one 3) (b:=jv) (xs:=List.range ns.length) (en:=λk:Nat=>D.int k)
  (σ:=[some (.lst (ns.map D.int)),some (.int m),some (.loc μ.length),none])
  (λ_ σ μ'=>∃(cs:List Int) (v3:Option D),cs.length=m/\σ=[some (.lst (ns.map D.int)),some (.int m),some (.loc μ.length),v3]/\μ'=μ++[.l (cs.map D.int)]) ⟨_,none,by simp,rfl,rfl⟩ (by
   rintro j k σ μ' hk ⟨cs,v3,hl,rfl,rfl⟩
   have hj:=(AB.mp hk).1
   rw[AX]at hj
   rw[CI hj]at hk
   cases hk
   obtain⟨a,ha⟩:∃a,ns[j]? = some a:=⟨ns[j],AA hj⟩
   obtain⟨q,hq,hqm⟩:∃q:Nat,(j:Int) % (m:Int)=(q:Int)/\q<m:=⟨j % m,by lia,Nat.mod_lt _ (by lia)⟩
   have hql:q<cs.length:=by lia
   have c1:CMul (cs.getD q 0) 31:=.right (by decide) (by decide)
   refine⟨[some (.lst (ns.map D.int)),some (.int m),some (.loc μ.length),some (.int j)],_,?_,cs.set q (cs.getD q 0*31+a),_,by simp[hl],rfl,rfl⟩
   have ixq:ixD (.loc μ.length) (.int q) (μ++[.l (cs.map D.int)])=.ok (.int (cs.getD q 0)) (μ++[.l (cs.map D.int)]):=Bq qc (by rw[AV,AA hql];simp[hql])
   simp! only[fLp,jv,op_mod (show(0:Int)<(m:Int)by lia),hq,ixq,op_mul c1,Rl ha,Md hql])
 refine⟨cs,hl,?_⟩
 have ef:∀v3 (ds:List D),evE (ai GL n) (.frz 2) [some (.lst (ns.map D.int)),some (.int m),some (.loc μ.length),v3] (μ++[.l ds])=.ok (.lst ds) (μ++[.dead]):=λv3 ds=>by
  rw[Ul rfl d6,kj]
 simp! only[D_law_folded,g0,yr (show m<=1000 by lia),bt_len au,AG,bz (show ns.length<=1000000 by lia),el,ef]
theorem Mf{cs:List Int}{p q:Nat}(h1:p<=q)(h2:q<=cs.length):slD .z (.lst (cs.map D.int)) (some (p:Int)) (some (q:Int)) μ=.ok (.lst (((cs.drop p).take (q-p)).map D.int)) μ:=by
 have e1:sIx (cs.map D.int).length 0 (some (p:Int))=p:=by simp[sIx];lia
 have e2:sIx (cs.map D.int).length (cs.map D.int).length (some (q:Int))=q:=by simp[sIx];lia
 simp![slD,Lp.listOf,g0,cut,e1,e2,List.map_take,IX]
theorem Fq{cs:List Int}{p:Nat}:slD .z (.lst (cs.map D.int)) (some (p:Int)) none μ=.ok (.lst ((cs.drop p).map D.int)) μ:=by
 simp![slD,Lp.listOf,g0]
 rw[Fp,IX]
theorem afn{cs:List Int}{p:Nat}(h:p+3<=cs.length):(cs.drop p).take 3=[cs.getD p 0,cs.getD (p+1) 0,cs.getD (p+2) 0]:=by
 apply EC
 intro i
 match i with
 |0=>simp[show p<cs.length by lia]
 |1=>simp[show p+1<cs.length by lia]
 |2=>simp[show p+2<cs.length by lia]
 |i+3=>rw[EN (by simp;lia),EN (by simp)]
theorem Fs(ns:List Int)(k:Nat):ai GL (n+1) h8 [.lst (ns.map D.int),.int k] μ=.ok (.int (ns.getD k 0)) μ:=by
 rw[aj z6,run_eq rfl]
 by_cases h:k<ns.length
 ·have h':(k:Int)<(ns.length:Int):=by lia
  have e:ns[k]? = some (ns.getD k 0):=by rw[AA h];simp[h]
  simp! only[D_law_cell_at,bt_len au,AG,h',Rl e]
 ·have h':¬(k:Int)<(ns.length:Int):=by lia
  have e:ns.getD k 0=0:=by simp[h]
  simp! only[D_law_cell_at,bt_len au,AG,h',e]
end
open PySem
noncomputable def encM(m:List (Int×Int)):List (D×D):=m.map λp=>(D.int p.1,D.int p.2)
noncomputable def ja:List (Int×Int)->Int->Option Int
 | [],_=>none
 |p::r,k=>if p.1=k then some p.2 else ja r k
noncomputable def O8(m:List (Int×Int))(k v:Int):List (Int×Int):=if(m.any λp=>decide (p.1=k))=true then m.map (λp=>if p.1=k then(p.1,v)else p)else m++[(k,v)]
theorem Ft(k:Int):∀m:List (Int×Int),xp (.int k) (encM m)=(ja m k).map D.int
 | []=>rfl
 |p::r=>by
  have ih:=Ft k r
  simp![encM,AF]at ih ⊢
  rw[xp,ja,deq]
  by_cases h:p.1=k
  ·simp[h]
  ·simp![h,decide_false,if_false,BA];exact ih
theorem Ut(k:Int)(m:List (Int×Int)):((encM m).any λp=>deq p.1 (.int k))=m.any λp=>decide (p.1=k):=by
 simp![encM,JC]
 congr 1
theorem O9(m:List (Int×Int))(k v:Int):dput (.int k) (.int v) (encM m)=encM (O8 m k v):=by
 unfold dput O8
 rw[Ut]
 split
 ·simp![encM,BB]
  refine CH λp _=>?_
  simp![Function.comp,deq]
  by_cases h:p.1=k
  ·simp[h]
  ·simp[h]
 ·simp[encM]
theorem Fu:∀(m:List (Int×Int)) (k:Int),(m.any λp=>decide (p.1=k))=(ja m k).isSome
 | [],_=>rfl
 |p::r,k=>by
  rw[CZ,ja,Fu r k]
  by_cases h:p.1=k<;>simp[h]
theorem Fv(k v k':Int):∀m:List (Int×Int),ja (m.map λp=>if p.1=k then(p.1,v)else p) k'=if k'=k then(ja m k).map λ_=>v else ja m k'
 | []=>by simp[ja]
 |p::r=>by
  have ih:=Fv k v k' r
  simp![AF,ja]
  by_cases h:p.1=k
  ·by_cases h':k'=k
   ·subst h';simp[h]
   ·have:¬p.1=k':=λz=>h' (z.symm.trans h)
    simp![h,if_true,ih,h',if_false]
    have h2:¬k=k':=λz=>h' z.symm
    simp[h2]
  ·by_cases h':k'=k
   ·subst h';simp![h,if_false,ih,if_true]
   ·simp![h,if_false,ih,h']
theorem B4(k v k':Int):∀m:List (Int×Int),ja (m++[(k,v)]) k'=match ja m k' with
  |some x=>some x
  |none=>if k=k' then some v else none
 | []=>by simp[ja]
 |p::r=>by
  have ih:=B4 k v k' r
  simp![EH,ja]
  by_cases h:p.1=k'
  ·simp[h]
  ·simp![h,if_false,ih]
theorem Pa(m:List (Int×Int))(k v k':Int):ja (O8 m k v) k'=if k'=k then some v else ja m k':=by
 unfold O8
 rw[Fu]
 split
 ·rename_i h
  rw[Fv]
  obtain⟨x,hx⟩:=DY.mp h
  simp[hx]
 ·rename_i h
  have hn:ja m k=none:=by simpa using h
  rw[B4]
  by_cases h':k'=k
  ·subst h';simp[hn]
  ·have h2:¬k=k':=λz=>h' z.symm
   simp![h',h2,if_false]
   cases ja m k'<;>rfl
theorem Pb(m:List (Int×Int))(k v:Int):(O8 m k v).length<=m.length+1:=by
 unfold O8
 split<;>simp
section
variable{n:Nat}{μ ρ:Sto}{φ:Phi}{σ:Sl}
theorem Fw{m:List (Int×Int)}{k x:Int}:mtD .get (.loc μ.length) [.int k,.int x] (μ++[.d (encM m)])=.ok (.int ((ja m k).getD x)) (μ++[.d (encM m)]):=by
 simp![mtD,Sv,dictAt,d6,A0,if_true,Ft]
 cases ja m k<;>rfl
theorem Rm{es:Exs}{m:List (Int×Int)}:kM φ .get es σ (.loc μ.length) (μ++[.d (encM m)])=(gn φ es σ (μ++[.d (encM m)])).bind (mtD .get (.loc μ.length)):=Ko (by simp![oh,d6])
theorem set_dict{m:List (Int×Int)}{k v:Int}(h:m.length<1000000):Cg (.loc μ.length) (.int k) (.int v) (μ++[.d (encM m)])=.ok () (μ++[.d (encM (O8 m k v))]):=by
 have:=jl
 have hl:(encM m).length<lim:=by simp![encM,AG];lia
 simp![Cg,d6,A0,rp,hl,and_self,if_true,O9,kj]
noncomputable def ao(ss:List Span)(k:Int):Int:=(ss.map λs=>if s.lamp=k then s.fin-s.start else 0).sum
theorem Du(F:D)(lamps:Nat)(ss:List Span)(hF:∀ν:Sto,kSeq F ν=.ok (ss.map ba,none) ν)(hn:ss.length<=1000)(hl:lamps<=1000):∃ρ,ai GL (n+1) d8 [.int lamps,F] μ=.ok (lu ((List.range lamps).map fun(k:Nat)=>ao ss k)) (μ++ρ):=by
 rw[aj uh,run_eq rfl]
 obtain⟨σ',μ',el,m,⟨v3,v4,v5,rfl⟩,rfl,hm,hk⟩:=d9 (φ:=ai GL n) (μ:=μ++[.d []]) (tg:=.many [3,4,5]) (b:=gq) (xs:=ss) (en:=ba)
  (σ:=[some (.int lamps),some (F),some (.loc μ.length),none,none,none])
  (λj σ μ'=>∃m,(∃v3 v4 v5,σ=[some (.int lamps),some (F),some (.loc μ.length),v3,v4,v5])/\μ'=μ++[.d (encM m)]/\m.length<=j/\∀k,(ja m k).getD 0=ao (ss.take j) k)
  ⟨[],⟨none,none,none,rfl⟩,rfl,by simp,λk=>by simp[ja,ao]⟩ (by
   rintro j s σ μ' hs ⟨m,⟨v3,v4,v5,rfl⟩,rfl,hm,hk⟩
   have hj:j<ss.length:=(AB.mp hs).1
   refine⟨[some (.int lamps),some (F),some (.loc μ.length),some (.int s.lamp),some (.int s.start),some (.int s.fin)],μ++[.d (encM (O8 m s.lamp ((ja m s.lamp).getD 0+s.fin-s.start)))],?_,O8 m s.lamp ((ja m s.lamp).getD 0+s.fin-s.start),⟨_,_,_,rfl⟩,rfl,?_,λk=>?_⟩
   ·simp! only[fLp,gq,ba,Rm,Fw,set_dict (show m.length<1000000 by lia)]
   ·have:=Pb m s.lamp ((ja m s.lamp).getD 0+s.fin-s.start);lia
   ·have et:ao (ss.take (j+1)) k=ao (ss.take j) k+if s.lamp=k then s.fin-s.start else 0:=by
     rw[EU,hs]
     simp[ao,DG]
    rw[Pa,et]
    by_cases h:k=s.lamp
    ·subst h
     have:=hk s.lamp
     simp![if_true,Go]
     lia
    ·have h2:¬s.lamp=k:=λz=>h z.symm
     simp![h,h2,if_false,hk k];lia)
 rw[BQ (AK _)]at hk
 have hc:mj (ai GL n) .z (.one 1) .nil gr [some (.loc μ.length),none] ((List.range lamps).map fun(k:Nat)=>D.int k,none) (μ++[.d (encM m)])=.ok (.lst (((List.range lamps).map fun(k:Nat)=>ao ss k).map D.int)) (μ++[.d (encM m)]):=by
  rw[comp_map (en:=fun(k:Nat)=>D.int k) (g:=fun(k:Nat)=>D.int (ao ss k)) λk _=>by
   simp! only[uw,gr,Rm,Fw,hk]]
  rw[g0,BB];rfl
 refine⟨[.d (encM m)],?_⟩
 have d0:U8 false [] μ=.ok (.loc μ.length) (μ++[.d []]):=rfl
 simp! only[D_ticks_of_spans,d0,hF,el,bz (show lamps<=1000000 by lia),hc,bt_tuple au,lu]
theorem Hk(lamps:Nat)(ss:List Span)(hn:ss.length<=1000)(hl:lamps<=1000):∃ρ,ai GL (n+1) d8 [.int lamps,.tup (ss.map ba)] μ=.ok (lu ((List.range lamps).map fun(k:Nat)=>ao ss k)) (μ++ρ):=Du _ lamps ss (λ_=>rfl) hn hl
end
open PySem
noncomputable def eP(p:Int×Int):D:=.tup [.int p.1,.int p.2]
open PySem
structure Tn where
 taken:Int
 bought:Int
 poured:List Int
 spans:List Span
noncomputable def eTn(t:Tn):D:=.tup [.int t.taken,.int t.bought,.tup (t.poured.map D.int),.tup (t.spans.map ba)]
theorem Dw{k:Nat}(t:Tn):D.pureN (k+3) (eTn t)=true:=by
 rw[eTn,c7]
 simp![BF,cq,FS,c7,FM,EY,AW]
 constructor
 ·rw[AL];intro x hx;obtain⟨i,_,rfl⟩:=BW.mp hx;exact cq
 ·rw[AL];intro x hx;obtain⟨i,_,rfl⟩:=BW.mp hx
  exact wm i
section
variable{n:Nat}{μ ρ:Sto}{φ:Phi}
theorem dk{x:D}{ns:List Int}{k:Nat}(h:g7 μ x=some (ns.map D.int))(hk:k<ns.length):ixD x (.int k) μ=.ok (.int (ns.getD k 0)) μ:=by
 refine Bq h ?_
 rw[AV,AA hk]
 simp[hk]
theorem all_int(xs:List Int):(xs.map D.int).all (D.pureN 8)=true:=by
 rw[AL];intro x hx;obtain⟨i,_,rfl⟩:=BW.mp hx;rfl
end
open PySem
noncomputable abbrev Nm:=Str×List Int
noncomputable abbrev nmL(x:Nm):List D:=.str x.1::x.2.map D.int
noncomputable abbrev nmD(x:Nm):D:=.tup (nmL x)
noncomputable abbrev NMap:=List (Nm×Int)
noncomputable def gz(m:NMap):List (D×D):=m.map λp=>(nmD p.1,D.int p.2)
noncomputable def f6:NMap->Nm->Option Int
 | [],_=>none
 |p::r,k=>if p.1=k then some p.2 else f6 r k
noncomputable def r8(m:NMap)(k:Nm)(v:Int):NMap:=if(m.any λp=>decide (p.1=k))=true then m.map (λp=>if p.1=k then(p.1,v)else p)else m++[(k,v)]
theorem Mh(a b:Nm):deq (nmD a) (nmD b)=decide (a=b):=by
 obtain⟨a,x⟩:=a
 obtain⟨b,y⟩:=b
 rw[deq,pj,deq,deqs_ints]
 by_cases h:a=b<;>by_cases h2:x=y<;>simp[h,h2]
theorem wu(k:Nm):∀m:NMap,xp (nmD k) (gz m)=(f6 m k).map D.int
 | []=>rfl
 |p::r=>by
  have ih:=wu k r
  simp![gz,AF]at ih ⊢
  rw[xp,f6,Mh]
  by_cases h:p.1=k
  ·simp[h]
  ·simp![h,decide_false,if_false,BA];exact ih
theorem Pc(k:Nm)(m:NMap):((gz m).any λp=>deq p.1 (nmD k))=m.any λp=>decide (p.1=k):=by
 simp![gz,JC]
 congr 1
 funext p
 exact Mh p.1 k
theorem Mi(m:NMap)(k:Nm)(v:Int):dput (nmD k) (.int v) (gz m)=gz (r8 m k v):=by
 unfold dput r8
 rw[Pc]
 split
 ·simp![gz,BB]
  refine CH λp _=>?_
  simp![Function.comp,Mh]
  by_cases h:p.1=k
  ·simp[h]
  ·simp[h]
 ·simp[gz]
theorem B5:∀(m:NMap) (k:Nm),(m.any λp=>decide (p.1=k))=(f6 m k).isSome
 | [],_=>rfl
 |p::r,k=>by
  rw[CZ,f6,B5 r k]
  by_cases h:p.1=k<;>simp[h]
theorem B6(k:Nm)(v:Int)(k':Nm):∀m:NMap,f6 (m.map λp=>if p.1=k then(p.1,v)else p) k'=if k'=k then(f6 m k).map λ_=>v else f6 m k'
 | []=>by simp[f6]
 |p::r=>by
  have ih:=B6 k v k' r
  simp![AF,f6]
  by_cases h:p.1=k
  ·by_cases h':k'=k
   ·subst h';simp[h]
   ·have:¬p.1=k':=λz=>h' (z.symm.trans h)
    simp![h,if_true,ih,h',if_false]
    have h2:¬k=k':=λz=>h' z.symm
    simp[h2]
  ·by_cases h':k'=k
   ·subst h';simp![h,if_false,ih,if_true]
   ·simp![h,if_false,ih,h']
theorem yu(k:Nm)(v:Int)(k':Nm):∀m:NMap,f6 (m++[(k,v)]) k'=match f6 m k' with
  |some x=>some x
  |none=>if k=k' then some v else none
 | []=>by simp[f6]
 |p::r=>by
  have ih:=yu k v k' r
  simp![EH,f6]
  by_cases h:p.1=k'
  ·simp[h]
  ·simp![h,if_false,ih]
theorem wx(m:NMap)(k:Nm)(v:Int)(k':Nm):f6 (r8 m k v) k'=if k'=k then some v else f6 m k':=by
 unfold r8
 rw[B5]
 split
 ·rename_i h
  rw[B6]
  obtain⟨x,hx⟩:=DY.mp h
  simp[hx]
 ·rename_i h
  have hn:f6 m k=none:=by simpa using h
  rw[yu]
  by_cases h':k'=k
  ·subst h';simp[hn]
  ·have h2:¬k=k':=λz=>h' z.symm
   simp![h',h2,if_false]
   cases f6 m k'<;>rfl
theorem fm(m:NMap)(k:Nm)(v:Int):(r8 m k v).length<=m.length+1:=by
 unfold r8
 split<;>simp
section
variable{n:Nat}{μ ρ:Sto}{φ:Phi}{σ:Sl}
theorem Mj(x:Nm):(nmL x).all A0=true:=by
 simp[nmL,A0]
theorem B7{m:NMap}{v:Int}(x:Nm)(h:m.length<1000000):ou (.loc μ.length) (nmL x) (.int v) (μ++[.dt (gz m)])=.ok () (μ++[.dt (gz (r8 m x v))]):=by
 have:=jl
 have hl:(gz m).length<lim:=by simp![gz,AG];lia
 simp![ou,d6,Mj,rp,hl,and_self,if_true,Mi,kj]
theorem Zc{m:NMap}{v:Int}(x:Nm):A6 (.loc μ.length) (nmL x) (.int v) (μ++[.dt (gz m)])=.ok (.int ((f6 m x).getD v)) (μ++[.dt (gz m)]):=by
 simp![A6,ip,d6,Mj,if_true,wu]
 cases f6 m x<;>rfl
theorem ad7{m:NMap}{v:Int}(x:Nm)(h:f6 m x=some v):Ny (.loc μ.length) (nmL x) (μ++[.dt (gz m)])=.ok (.int v) (μ++[.dt (gz m)]):=by
 simp![Ny,ip,d6,Mj,if_true,wu,h,DV]
theorem ad8{kvs:List (D×D)}:Nz (.loc μ.length) (μ++[.dt kvs])=true:=by simp![Nz,d6]
theorem B8{m:NMap}(hr:i6 μ):i6 (μ++[.dt (gz m)]):=by
 unfold i6 at hr ⊢
 rw[AL]at hr ⊢
 intro o ho
 rcases BD.mp ho with h | h
 ·have:=hr o h
  cases o with
  |r ds =>
   simp![gm,AL]at this ⊢
   exact λx hx=>ko (by simp) 8 x (this x hx)
  |o _ _ =>
   simp![gm,AL]at this ⊢
   exact λx hx=>ko (by simp) 8 _ (this x hx)
  |dr _ =>
   simp![gm,AL]at this ⊢
   exact λx hx=>ko (by simp) 8 _ (this x hx)
  |_=>rfl
 ·rw[EL.mp h];rfl
noncomputable def ad9(φ:Phi)(es:Exs)(σ:Sl)(x:D)(μ:Sto):Res D:=(gn φ es σ μ).bind λks μ=>Ny x ks μ
noncomputable def Zd(x:D)(ks:List D)(v:D)(μ:Sto):Res D:=A6 x ks v μ
noncomputable def Ml(φ:Phi)(e:Ex)(σ:Sl)(x:D)(ks:List D)(μ:Sto):Res D:=(evE φ e σ μ).bind (Zd x ks)
noncomputable def Uu(φ:Phi)(es:Exs)(e:Ex)(σ:Sl)(x:D)(μ:Sto):Res D:=if Nz x μ=true then(gn φ es σ μ).bind (Ml φ e σ x)else .stuck
theorem acn{d:Ex}{es:Exs}:evE φ (.ixT d es) σ μ=(evE φ d σ μ).bind (ad9 φ es σ):=rfl
theorem Uv{es:Exs}{x:D}:ad9 φ es σ x μ=(gn φ es σ μ).bind (Ny x):=rfl
theorem Rn{d e:Ex}{es:Exs}:evE φ (.getT d es e) σ μ=(evE φ d σ μ).bind (Uu φ es e σ):=rfl
theorem Fy{es:Exs}{e:Ex}{x:D}(h:Nz x μ=true):Uu φ es e σ x μ=(gn φ es σ μ).bind (Ml φ e σ x):=by simp![Uu,h,if_true]
theorem B9{e:Ex}{x:D}{ks:List D}:Ml φ e σ x ks μ=(evE φ e σ μ).bind (A6 x ks):=rfl
noncomputable def aea(φ:Phi)(k:Ex)(σ:Sl)(x:D)(μ:Sto):Res D:=(evE φ k σ μ).bind (Sw x)
theorem aco{d k:Ex}:evE φ (.ixV d k) σ μ=(evE φ d σ μ).bind (aea φ k σ):=rfl
theorem Uw{k:Ex}{x:D}:aea φ k σ x μ=(evE φ k σ μ).bind (Sw x):=rfl
noncomputable def Ux(σ:Sl)(d x:D)(ks:List D)(μ:Sto):Res Fl:=(ou x ks d μ).bind (kNx σ)
noncomputable def Uy(φ:Phi)(i:Exs)(σ:Sl)(d x:D)(μ:Sto):Res Fl:=(gn φ i σ μ).bind (Ux σ d x)
noncomputable def aeb(φ:Phi)(o:Ex)(i:Exs)(σ:Sl)(d:D)(μ:Sto):Res Fl:=(evE φ o σ μ).bind (Uy φ i σ d)
theorem Dx{o v:Ex}{i:Exs}:evS φ (.setxT o i v) σ μ=(evE φ v σ μ).bind (aeb φ o i σ):=rfl
theorem Dy{o:Ex}{i:Exs}{d:D}:aeb φ o i σ d μ=(evE φ o σ μ).bind (Uy φ i σ d):=rfl
theorem Ag{i:Exs}{d x:D}:Uy φ i σ d x μ=(gn φ i σ μ).bind (Ux σ d x):=rfl
theorem Ah{d x:D}{ks:List D}:Ux σ d x ks μ=(ou x ks d μ).bind (kNx σ):=rfl
theorem Ze{a b c:Ex}{i:Int}{μ1 μ2 μ3:Sto}(h1:evE φ a σ μ=.ok (.int i) μ1)(h2:evE φ b σ μ1=.ok (.int (-1)) μ2)(h3:evE φ c σ μ2=.ok (.int (-1)) μ3)(h4:-1<=i)(h5:i<1000000) :
  evI φ (.rngD a b c) σ μ=.ok ((List.range (i+1).toNat).map fun(n:Nat)=>D.int (i-n),none) μ3:=by
 have:=jl
 have h6:i<(lim:Int):=by lia
 simp![evI,h1,h2,h3,Res.br,h4,h6,and_self,if_true]
end
open PySem
noncomputable def sm(L:Nat)(f:Nat->Int):Int:=((List.range L).map f).sum
noncomputable def tk(t:Tn)(k:Nat):Int:=ao t.spans k
noncomputable def pr(t:Tn)(k:Nat):Int:=t.poured.getD k 0
noncomputable def lz:List Tn->Nat->Int
 | [],_=>0
 |t::r,k=>tk t k+lz r k-min (pr t k) (tk t k+lz r k)
noncomputable def D0:List Tn->Nat->Int
 | [],_=>0
 |t::_,k=>tk t k
noncomputable def D1:List Tn->Nat->Int
 | [],_=>0
 |t::r,k=>tk t k+lz r k
noncomputable def qh:List Tn->Nat->Int
 | [],_=>0
 |t::r,k=>min (pr t k) (tk t k+lz r k)
noncomputable def outF(L:Nat)(t:Tn)(r:List Tn)(q:Int):Int:=sm L (qh (t::r))+q
noncomputable def kc(L:Nat):List Tn->Int
 | []=>0
 |t::r=>outF L t r (kc L r)-min t.taken (outF L t r (kc L r))-min t.bought (outF L t r (kc L r)-min t.taken (outF L t r (kc L r)))
noncomputable def Hl(L:Nat):List Tn->Int
 | []=>0
 |t::r=>min t.taken (outF L t r (kc L r))
noncomputable def Ro(L:Nat):List Tn->Int
 | []=>0
 |t::r=>min t.bought (outF L t r (kc L r)-min t.taken (outF L t r (kc L r)))
noncomputable def VF(L:Nat)(rs:List Tn)(nd:Nat->Int)(x:Nm):Int :=
 if x.1=j6 then D0 (rs.drop (x.2.getD 0 0).toNat) (x.2.getD 1 0).toNat else
 if x.1=r6 then D1 (rs.drop (x.2.getD 0 0).toNat) (x.2.getD 1 0).toNat else
 if x.1=qg then qh (rs.drop (x.2.getD 0 0).toNat) (x.2.getD 1 0).toNat else
 if x.1=pe then lz (rs.drop (x.2.getD 0 0).toNat) (x.2.getD 1 0).toNat else
 if x.1=j5 then Hl L (rs.drop (x.2.getD 0 0).toNat)else
 if x.1=gs then Ro L (rs.drop (x.2.getD 0 0).toNat)else
 if x.1=o9 then kc L (rs.drop (x.2.getD 0 0).toNat)else nd (x.2.getD 0 0).toNat
section
variable{L:Nat}{rs:List Tn}{nd:Nat -> Int}{d k:Nat}
theorem D2:VF L rs nd (j6,[(d:Int),(k:Int)])=D0 (rs.drop d) k:=by
 rw[VF,if_pos rfl];rfl
theorem Mm:VF L rs nd (r6,[(d:Int),(k:Int)])=D1 (rs.drop d) k:=by
 rw[VF,if_neg (by dsimp only;decide),if_pos rfl];rfl
theorem Fz:VF L rs nd (qg,[(d:Int),(k:Int)])=qh (rs.drop d) k:=by
 rw[VF,if_neg (by dsimp only;decide),if_neg (by dsimp only;decide),if_pos rfl];rfl
theorem wy:VF L rs nd (pe,[(d:Int),(k:Int)])=lz (rs.drop d) k:=by
 rw[VF,if_neg (by dsimp only;decide),if_neg (by dsimp only;decide),if_neg (by dsimp only;decide),if_pos rfl];rfl
theorem D3:VF L rs nd (j5,[(d:Int)])=Hl L (rs.drop d):=by
 rw[VF,if_neg (by dsimp only;decide),if_neg (by dsimp only;decide),if_neg (by dsimp only;decide),if_neg (by dsimp only;decide),if_pos rfl];rfl
theorem ux:VF L rs nd (gs,[(d:Int)])=Ro L (rs.drop d):=by
 rw[VF,if_neg (by dsimp only;decide),if_neg (by dsimp only;decide),if_neg (by dsimp only;decide),if_neg (by dsimp only;decide),if_neg (by dsimp only;decide),if_pos rfl];rfl
theorem wz:VF L rs nd (o9,[(d:Int)])=kc L (rs.drop d):=by
 rw[VF,if_neg (by dsimp only;decide),if_neg (by dsimp only;decide),if_neg (by dsimp only;decide),if_neg (by dsimp only;decide),if_neg (by dsimp only;decide),if_neg (by dsimp only;decide),if_pos rfl];rfl
theorem D4:VF L rs nd (qm,[(d:Int)])=nd d:=by
 rw[VF,if_neg (by dsimp only;decide),if_neg (by dsimp only;decide),if_neg (by dsimp only;decide),if_neg (by dsimp only;decide),if_neg (by dsimp only;decide),if_neg (by dsimp only;decide),if_neg (by dsimp only;decide)];rfl
end
noncomputable def Okm(V:Nm->Int)(m:NMap):Prop:=∀x v,f6 m x=some v->v=V x
noncomputable def Has(m:NMap)(x:Nm):Prop:=(f6 m x).isSome=true
theorem Okm.put{V:Nm->Int}{m:NMap}(h:Okm V m){x:Nm}{v:Int}(hv:v=V x):Okm V (r8 m x v):=by
 intro y w hw
 rw[wx]at hw
 split at hw
 ·rename_i e;cases hw;rw[e];exact hv
 ·exact h y w hw
theorem Has.put{m:NMap}{y:Nm}(h:Has m y)(x:Nm)(v:Int):Has (r8 m x v) y:=by
 unfold Has at *
 rw[wx]
 split
 ·rfl
 ·exact h
theorem kr{m:NMap}{x:Nm}{v:Int}:Has (r8 m x v) x:=by
 unfold Has
 rw[wx,if_pos rfl];rfl
theorem Okm.get{V:Nm->Int}{m:NMap}(h:Okm V m){x:Nm}(hx:Has m x):f6 m x=some (V x):=by
 obtain⟨v,hv⟩:=DY.mp hx
 rw[hv,h x v hv]
theorem Okm.getD{V:Nm->Int}{m:NMap}(h:Okm V m){x:Nm}(hx:Has m x\/V x=0):(f6 m x).getD 0=V x:=by
 rcases hx with hx | hx
 ·rw[h.get hx];rfl
 ·cases e:f6 m x with
  |none=>rw[hx];rfl
  |some v=>rw[h x v e];rfl
theorem uy{L k:Nat}{f:Nat->Int}(h:k<L):((List.range L).map f).getD k 0=f k:=by simp[h]
section
variable{n:Nat}{μ ρ:Sto}{φ:Phi}{σ:Sl}
theorem Hm(hr:i6 μ)(lamps:Nat)(ss:List Span)(hn:ss.length<=1000)(hl:lamps<=1000):ai GL (n+2) ml [.int lamps,.tup (ss.map ba)] μ=.ok (lu ((List.range lamps).map fun(k:Nat)=>ao ss k)) μ:=by
 rw[aj Ha,run_eq rfl]
 obtain⟨ρ,e⟩:=Hk (n:=n) (μ:=μ) lamps ss hn hl
 have k1:=dh e (by rw[lu];exact ie 7 _) hr
 simp![D_ticks_in,EV1,EV2,EV3,EV4,EV5,Nat.reduceSub,decide_true,decide_false,CM,CD,k1]
theorem Hn(hr:i6 μ)(lamps:Nat)(ss:List Span)(hn:ss.length<=1000)(hl:lamps<=1000):iq (ai GL (n+2)) false ml [.int lamps,.tup (ss.map ba)] μ=.ok (lu ((List.range lamps).map fun(k:Nat)=>ao ss k)) μ:=bt (Hm hr lamps ss hn hl) (by rw[lu];exact ie 7 _) rfl hr
theorem D5{t:Tn}{i j k l:Nat}{σ:Sl}:iz (.many [i,j,k,l]) (eTn t) σ=some ((((σ.set i (some (.int t.taken))).set j (some (.int t.bought))).set k (some (.tup (t.poured.map D.int)))).set l (some (.tup (t.spans.map ba)))):=rfl
noncomputable def put4(m:NMap)(d k:Nat)(bu th po le:Int):NMap:=r8 (r8 (r8 (r8 m (j6,[(d:Int),(k:Int)]) bu) (r6,[(d:Int),(k:Int)]) th) (qg,[(d:Int),(k:Int)]) po) (pe,[(d:Int),(k:Int)]) le
theorem Pe(m:NMap)(d k:Nat)(bu th po le:Int):(put4 m d k bu th po le).length<=m.length+4:=by
 unfold put4
 refine BC (fm _ _ _) ?_
 have h1:=fm (r8 (r8 m (j6,[(d:Int),(k:Int)]) bu) (r6,[(d:Int),(k:Int)]) th) (qg,[(d:Int),(k:Int)]) po
 have h2:=fm (r8 m (j6,[(d:Int),(k:Int)]) bu) (r6,[(d:Int),(k:Int)]) th
 have h3:=fm m (j6,[(d:Int),(k:Int)]) bu
 lia
theorem Ho(hr:i6 μ){t:Tn}{m:NMap}(d k:Nat)(hp:k<t.poured.length)(hp2:t.poured.length<=1000)(hs:t.spans.length<=1000)(hm:m.length<999990){q:Int}(hq:(f6 m (pe,[((d+1:Nat):Int),(k:Int)])).getD 0=q) :
  ai GL (n+3) gh [.int k,.int d,eTn t,.loc μ.length] (μ++[.dt (gz m)])=.ok .non (μ++[.dt (gz (put4 m d k (tk t k) (tk t k+q) (min (pr t k) (tk t k+q)) (tk t k+q-min (pr t k) (tk t k+q))))]):=by
 rw[aj ui,run_eq rfl]
 have ct:=Hn (n:=n) (B8 (m:=m) hr) t.poured.length t.spans hs hp2
 have c1:ixD (lu ((List.range t.poured.length).map fun(k:Nat)=>ao t.spans k)) (.int k) (μ++[.dt (gz m)])=.ok (.int (tk t k)) (μ++[.dt (gz m)]):=by
  have:=dk (μ:=μ++[.dt (gz m)]) (k:=k) (x:=lu ((List.range t.poured.length).map fun(k:Nat)=>ao t.spans k)) (ns:=(List.range t.poured.length).map fun(k:Nat)=>ao t.spans k) rfl (by simpa using hp)
  rw[uy hp]at this
  exact this
 have c2:ixD (.tup (t.poured.map D.int)) (.int k) (μ++[.dt (gz m)])=.ok (.int (pr t k)) (μ++[.dt (gz m)]):=dk aw hp
 have g1:A6 (.loc μ.length) [.str pe,.int ((d:Int)+1),.int k] (.int 0) (μ++[.dt (gz m)])=.ok (.int q) (μ++[.dt (gz m)]):=by
  have:=Zc (μ:=μ) (m:=m) (v:=0) (pe,[((d+1:Nat):Int),(k:Int)])
  rw[hq]at this
  exact this
 have l1:=fm m (j6,[(d:Int),(k:Int)]) (tk t k)
 have s1:ou (.loc μ.length) [.str j6,.int d,.int k] (.int (tk t k)) (μ++[.dt (gz m)])=_:=B7 (μ:=μ) (m:=m) (v:=tk t k) (j6,[(d:Int),(k:Int)]) (by lia)
 generalize h1:r8 m (j6,[(d:Int),(k:Int)]) (tk t k)=m1 at s1 l1
 have l2:=fm m1 (r6,[(d:Int),(k:Int)]) (tk t k+q)
 have s2:ou (.loc μ.length) [.str r6,.int d,.int k] (.int (tk t k+q)) (μ++[.dt (gz m1)])=_:=B7 (μ:=μ) (m:=m1) (v:=tk t k+q) (r6,[(d:Int),(k:Int)]) (by lia)
 generalize h2:r8 m1 (r6,[(d:Int),(k:Int)]) (tk t k+q)=m2 at s2 l2
 have l3:=fm m2 (qg,[(d:Int),(k:Int)]) (min (pr t k) (tk t k+q))
 have s3:ou (.loc μ.length) [.str qg,.int d,.int k] (.int (min (pr t k) (tk t k+q))) (μ++[.dt (gz m2)])=_:=B7 (μ:=μ) (m:=m2) (v:=min (pr t k) (tk t k+q)) (qg,[(d:Int),(k:Int)]) (by lia)
 generalize h3:r8 m2 (qg,[(d:Int),(k:Int)]) (min (pr t k) (tk t k+q))=m3 at s3 l3
 have s4:ou (.loc μ.length) [.str pe,.int d,.int k] (.int (tk t k+q-min (pr t k) (tk t k+q))) (μ++[.dt (gz m3)])=_:=B7 (μ:=μ) (m:=m3) (v:=tk t k+q-min (pr t k) (tk t k+q)) (pe,[(d:Int),(k:Int)]) (by lia)
 unfold put4
 rw[h1,h2,h3]
 simp! only[D_add_lamp_flows,D5,bt_len aw,AG,ct,c1,Rn,Fy ad8,B9,g1,c2,bt_min,Dx,Dy,Ag,Ah,s1,s2,s3,s4]
end
open PySem
section
variable{n:Nat}{μ ρ:Sto}{φ:Phi}{σ:Sl}
noncomputable def put3(m:NMap)(d:Nat)(ta bo ke:Int):NMap:=r8 (r8 (r8 m (j5,[(d:Int)]) ta) (gs,[(d:Int)]) bo) (o9,[(d:Int)]) ke
theorem Pf(m:NMap)(d:Nat)(ta bo ke:Int):(put3 m d ta bo ke).length<=m.length+3:=by
 unfold put3
 refine BC (fm _ _ _) ?_
 have h2:=fm (r8 m (j5,[(d:Int)]) ta) (gs,[(d:Int)]) bo
 have h3:=fm m (j5,[(d:Int)]) ta
 lia
theorem D6{t:Tn}{m:NMap}(d:Nat)(hp2:t.poured.length<=1000)(hm:m.length<999990){f:Nat->Int}(hf:∀k,k<t.poured.length->f6 m (qg,[(d:Int),(k:Int)])=some (f k)){q o:Int}(hq:(f6 m (o9,[((d+1:Nat):Int)])).getD 0=q)(ho:o=sm t.poured.length f+q) :
  ai GL (n+1) fj [.int d,eTn t,.loc μ.length] (μ++[.dt (gz m)])=.ok .non (μ++[.dt (gz (put3 m d (min t.taken o) (min t.bought (o-min t.taken o)) (o-min t.taken o-min t.bought (o-min t.taken o))))]):=by
 rw[aj tw,run_eq rfl]
 have c1:mj (ai GL n) .z (.one 2) .nil fz [some (.loc μ.length),some (.int d),none] ((List.range t.poured.length).map fun(k:Nat)=>D.int k,none) (μ++[.dt (gz m)])=.ok (.lst (((List.range t.poured.length).map f).map D.int)) (μ++[.dt (gz m)]):=by
  rw[comp_map (en:=fun(k:Nat)=>D.int k) (g:=fun(k:Nat)=>D.int (f k)) λk hk=>by
   have hk:k<t.poured.length:=by simpa using hk
   have ix:Ny (.loc μ.length) [.str qg,.int d,.int k] (μ++[.dt (gz m)])=.ok (.int (f k)) (μ++[.dt (gz m)]):=ad7 (qg,[(d:Int),(k:Int)]) (hf k hk)
   simp! only[uw,fz,acn,Uv,ix]]
  rw[g0,BB];rfl
 have g1:A6 (.loc μ.length) [.str o9,.int ((d:Int)+1)] (.int 0) (μ++[.dt (gz m)])=.ok (.int q) (μ++[.dt (gz m)]):=by
  have:=Zc (μ:=μ) (m:=m) (v:=0) (o9,[((d+1:Nat):Int)])
  rw[hq]at this
  exact this
 have bs:btD .sum .z [.lst (((List.range t.poured.length).map f).map D.int)] (μ++[.dt (gz m)])=.ok (.int (sm t.poured.length f)) (μ++[.dt (gz m)]):=bt_sum au (h7 _)
 have l1:=fm m (j5,[(d:Int)]) (min t.taken o)
 have s1:ou (.loc μ.length) [.str j5,.int d] (.int (min t.taken o)) (μ++[.dt (gz m)])=_:=B7 (μ:=μ) (m:=m) (v:=min t.taken o) (j5,[(d:Int)]) (by lia)
 generalize h1:r8 m (j5,[(d:Int)]) (min t.taken o)=m1 at s1 l1
 have l2:=fm m1 (gs,[(d:Int)]) (min t.bought (o-min t.taken o))
 have s2:ou (.loc μ.length) [.str gs,.int d] (.int (min t.bought (o-min t.taken o))) (μ++[.dt (gz m1)])=_:=B7 (μ:=μ) (m:=m1) (v:=min t.bought (o-min t.taken o)) (gs,[(d:Int)]) (by lia)
 generalize h2:r8 m1 (gs,[(d:Int)]) (min t.bought (o-min t.taken o))=m2 at s2 l2
 have s3:ou (.loc μ.length) [.str o9,.int d] (.int (o-min t.taken o-min t.bought (o-min t.taken o))) (μ++[.dt (gz m2)])=_:=B7 (μ:=μ) (m:=m2) (v:=o-min t.taken o-min t.bought (o-min t.taken o)) (o9,[(d:Int)]) (by lia)
 unfold put3
 rw[h1,h2]
 simp! only[D_add_store_flows,D5,bt_len aw,AG,bz (show t.poured.length<=1000000 by lia),c1,bs,Rn,Fy ad8,B9,g1,<-ho,bt_min,Dx,Dy,Ag,Ah,s1,s2,s3]
structure LampHas (m:NMap) (d k:Nat):Prop where
 bu:Has m (j6,[(d:Int),(k:Int)])
 th:Has m (r6,[(d:Int),(k:Int)])
 po:Has m (qg,[(d:Int),(k:Int)])
 le:Has m (pe,[(d:Int),(k:Int)])
structure DayHas (L:Nat) (m:NMap) (d:Nat):Prop where
 lamp:∀k,k<L->LampHas m d k
 ta:Has m (j5,[(d:Int)])
 bo:Has m (gs,[(d:Int)])
 ke:Has m (o9,[(d:Int)])
 sh:Has m (qm,[(d:Int)])
theorem LampHas.put{m:NMap}{d k:Nat}(h:LampHas m d k)(x:Nm)(v:Int):LampHas (r8 m x v) d k:=⟨h.1.put x v,h.2.put x v,h.3.put x v,h.4.put x v⟩
theorem DayHas.put{L:Nat}{m:NMap}{d:Nat}(h:DayHas L m d)(x:Nm)(v:Int):DayHas L (r8 m x v) d:=⟨λk hk=>(h.lamp k hk).put x v,h.ta.put x v,h.bo.put x v,h.ke.put x v,h.sh.put x v⟩
theorem LampHas.put4{m:NMap}{d k:Nat}(h:LampHas m d k)(d' k':Nat)(a b c e:Int):LampHas (put4 m d' k' a b c e) d k:=(((h.put _ _).put _ _).put _ _).put _ _
theorem DayHas.put4{L:Nat}{m:NMap}{d:Nat}(h:DayHas L m d)(d' k':Nat)(a b c e:Int):DayHas L (put4 m d' k' a b c e) d:=(((h.put _ _).put _ _).put _ _).put _ _
theorem Pg{m:NMap}{d k:Nat}{a b c e:Int}:LampHas (put4 m d k a b c e) d k:=⟨((kr.put _ _).put _ _).put _ _,(kr.put _ _).put _ _,kr.put _ _,kr⟩
theorem drop_cons{rs:List Tn}{d:Nat}{t:Tn}(h:rs[d]? = some t):rs.drop d=t::rs.drop (d+1):=by
 obtain⟨h1,h2⟩:=AB.mp h
 rw[DW h1,h2]
theorem Okm.put4{L:Nat}{rs:List Tn}{nd:Nat->Int}{m:NMap}(h:Okm (VF L rs nd) m){d k:Nat}{t:Tn}(ht:rs[d]? = some t){q:Int}(hq:q=lz (rs.drop (d+1)) k):Okm (VF L rs nd) (put4 m d k (tk t k) (tk t k+q) (min (pr t k) (tk t k+q)) (tk t k+q-min (pr t k) (tk t k+q))):=by
 subst hq
 refine(((h.put ?_).put ?_).put ?_).put ?_
 ·rw[D2,drop_cons ht];rfl
 ·rw[Mm,drop_cons ht];rfl
 ·rw[Fz,drop_cons ht];rfl
 ·rw[wy,drop_cons ht];rfl
theorem Okm.put3{L:Nat}{rs:List Tn}{nd:Nat->Int}{m:NMap}(h:Okm (VF L rs nd) m){d:Nat}{t:Tn}(ht:rs[d]? = some t){o:Int}(ho:o=outF L t (rs.drop (d+1)) (kc L (rs.drop (d+1)))):Okm (VF L rs nd) (put3 m d (min t.taken o) (min t.bought (o-min t.taken o)) (o-min t.taken o-min t.bought (o-min t.taken o))):=by
 subst ho
 refine((h.put ?_).put ?_).put ?_
 ·rw[D3,drop_cons ht];rfl
 ·rw[ux,drop_cons ht];rfl
 ·rw[wz,drop_cons ht];rfl
theorem oa{L:Nat}{f g:Nat->Int}(h:∀k,k<L->f k=g k):sm L f=sm L g:=by
 unfold sm
 congr 1
 exact CH λk hk=>h k (by simpa using hk)
end
open PySem
section
variable{n:Nat}{μ ρ:Sto}{φ:Phi}{σ:Sl}{b:Book}
theorem afo{m:NMap}{v:Int}(x:Nm)(h:f6 m x=some v):Sw (.loc μ.length) (nmD x) (μ++[.dt (gz m)])=.ok (.int v) (μ++[.dt (gz m)]):=ad7 x h
theorem Hq (hr:i6 μ) {rs:List Tn} {nd:Nat->Int} {d:Nat} {t:Tn} (ht:rs[d]? = some t) {m0:NMap} {c:Nat} (hc:c<=1000) (hL:b.lamps.length<=8) (hp:t.poured.length=b.lamps.length) (hs:t.spans.length<=1000)
  (ok:Okm (VF b.lamps.length rs nd) m0) (hm:m0.length<=c) (hh:∀k,k<b.lamps.length->Has m0 (pe,[((d+1:Nat):Int),(k:Int)])\/lz (rs.drop (d+1)) k=0) (v4:Option D) :
  ∃m v4',Okm (VF b.lamps.length rs nd) m/\m.length<=c+4*b.lamps.length/\(∀k,k<b.lamps.length->LampHas m d k)/\(∀d',DayHas b.lamps.length m0 d'->DayHas b.lamps.length m d')/\(∀x,Has m0 x->Has m x) /\
   Dh (ai GL (n+3)) (.one 4) kh [some (az b),some (.tup (rs.map eTn)),some (.loc μ.length),some (.int d),v4] ((List.range b.lamps.length).map fun(k:Nat)=>D.int k,none) (μ++[.dt (gz m0)])=.ok (.nx [some (az b),some (.tup (rs.map eTn)),some (.loc μ.length),some (.int d),v4']) (μ++[.dt (gz m)]):=by
 obtain⟨σ',μ',el,m,v4',rfl,rfl,h1,h2,h3,h4,h5⟩:=d9 (φ:=ai GL (n+3)) (tg:=.one 4) (b:=kh) (xs:=List.range b.lamps.length) (en:=fun(k:Nat)=>D.int k)
  (λj σ μ'=>∃m v4,σ=[some (az b),some (.tup (rs.map eTn)),some (.loc μ.length),some (.int d),v4]/\μ'=μ++[.dt (gz m)]/\Okm (VF b.lamps.length rs nd) m/\m.length<=c+4*j/\(∀k,k<j->LampHas m d k)/\(∀d',DayHas b.lamps.length m0 d'->DayHas b.lamps.length m d')/\(∀x,Has m0 x->Has m x))
  ⟨m0,v4,rfl,rfl,ok,by lia,λk hk=>absurd hk (Nat.not_lt_zero k),λ_ h=>h,λ_ h=>h⟩ (by
   rintro j i σ μ' hk ⟨m,v4,rfl,rfl,h1,h2,h3,h4,h5⟩
   have hj:=(AB.mp hk).1
   simp![AX]at hj
   rw[CI hj]at hk
   cases hk
   have hq:(f6 m (pe,[((d+1:Nat):Int),(j:Int)])).getD 0=lz (rs.drop (d+1)) j:=by
    have:=h1.getD (x:=(pe,[((d+1:Nat):Int),(j:Int)])) (by
     rcases hh j hj with h | h
     ·exact .inl (h5 _ h)
     ·exact .inr (by rw[wy];exact h))
    rw[this,wy]
   have e:=Ho (n:=n) hr (t:=t) (m:=m) d j (by lia) (by lia) hs (by lia) hq
   have k1:=bt e rfl (by simp) (B8 hr)
   refine⟨[some (az b),some (.tup (rs.map eTn)),some (.loc μ.length),some (.int d),some (.int j)],_,?_,_,_,rfl,rfl,h1.put4 (k:=j) ht rfl,?_,?_,?_,?_⟩
   ·simp! only[fLp,kh,gu ht,k1]
   ·refine BC (Pe _ _ _ _ _ _ _) ?_;lia
   ·intro k hk
    by_cases e:k=j
    ·subst e;exact Pg
    ·exact(h3 k (by lia)).put4 _ _ _ _ _ _
   ·exact λd' h=>(h4 d' h).put4 _ _ _ _ _ _
   ·exact λx h=>((((h5 x h).put _ _).put _ _).put _ _).put _ _)
 rw[AX]at h2 h3
 exact⟨m,v4',h1,h2,h3,h4,h5,el⟩
theorem Mn{m:NMap}(hN:1<=b.days.length)(h:∀d,d<b.days.length->DayHas b.lamps.length m d):∀x∈cz b,Has m x.2:=by
 intro x hx
 rcases BD.mp hx with hx | hx
 ·rcases BD.mp hx with hx | hx
  ·rcases AS.mp hx with rfl | hx
   ·exact(h 0 hN).ke
   ·obtain⟨p,hp,rfl⟩:=BW.mp hx
    obtain⟨j,hj⟩:=BN.mp hp
    obtain⟨e1,e2,e3⟩:=pf hj
    rw[e1]
    exact((h 0 hN).lamp j e3).le
  ·obtain⟨d,hd,hx⟩:=DB.mp hx
   have hd:d<b.days.length-1:=by simpa using hd
   have D:=h (d+1) (by lia)
   rcases AS.mp hx with rfl | hx
   ·exact D.ke
   ·obtain⟨i,hi,rfl⟩:=BW.mp hx
    have hi:i<b.lamps.length:=by simpa using hi
    exact(D.lamp i hi).le
 ·obtain⟨p,hp,hx⟩:=DB.mp hx
  obtain⟨j,hj⟩:=BN.mp hp
  obtain⟨e1,e2,e3⟩:=pf hj
  have D:=h j e3
  rw[e1]at hx
  rcases BD.mp hx with hx | hx
  ·simp![Dp,AS,BY,or_false]at hx
   rcases hx with rfl | rfl | rfl
   ·exact D.ta
   ·exact D.bo
   ·exact D.sh
  ·obtain⟨q,hq,hx⟩:=DB.mp hx
   obtain⟨i,hi⟩:=BN.mp hq
   obtain⟨f1,f2,f3⟩:=pf hi
   have E:=D.lamp i f3
   rw[f1]at hx
   simp![ka,AS,BY,or_false]at hx
   rcases hx with rfl | rfl | rfl
   ·exact E.po
   ·exact E.th
   ·exact E.bu
noncomputable def ndF(b:Book)(d:Nat):Int:=(a7 b).getD d 0
theorem Mo{d:Nat}{y:Day}(h:b.days[d]? = some y):ndF b d=y.wanted*y.length:=by simp[ndF,a7,h]
noncomputable def Mp(b:Book)(rs:List Tn):List Int:=(gb ltN (cz b)).map λx=>VF b.lamps.length rs (ndF b) x.2
theorem Zf{x:NR}{σ:Sl}:iz (.many [1,2]) (gf x) σ=some ((σ.set 1 (some (tieD x.1))).set 2 (some (nmD x.2))):=rfl
theorem Mq(hr:i6 μ)(hb:Wf b){rs:List Tn}(hN:rs.length=b.days.length)(hT:∀t∈rs,t.poured.length=b.lamps.length/\t.spans.length<=1000) :
  ∃m,ai GL (n+5) o4 [az b,.tup (rs.map eTn)] μ=.ok (.tup ((Mp b rs).map D.int)) (μ++[.dt (gz m)]):=by
 have hL:=hb.lamps.2
 have hD:=hb.days
 rw[aj Ld,run_eq rfl]
 obtain⟨N,hNN⟩:∃N,N=rs.length:=⟨_,rfl⟩
 obtain⟨σ',μ',el,m,v3,v4,rfl,rfl,h1,h2,h3⟩:=d9 (φ:=ai GL (n+4)) (tg:=.one 3) (b:=o5) (xs:=List.range N) (en:=fun(j:Nat)=>D.int ((N:Int)-1-j))
  (λj σ μ'=>∃m v3 v4,σ=[some (az b),some (.tup (rs.map eTn)),some (.loc μ.length),v3,v4]/\μ'=μ++[.dt (gz m)]/\Okm (VF b.lamps.length rs (ndF b)) m/\m.length<=40*j/\(∀d,N<=d+j->d<N->DayHas b.lamps.length m d))
  ⟨[],none,none,rfl,rfl,λx v h=>by simp[f6]at h,by simp,λd h1 h2=>by lia⟩ (by
   rintro j i σ μ' hk ⟨m0,v3,v4,rfl,rfl,ok,hm,hh⟩
   have hj:=(AB.mp hk).1
   simp![AX]at hj
   rw[CI hj]at hk
   cases hk
   obtain⟨d,hd⟩:∃d:Nat,d+j+1=N:=⟨N-1-j,by lia⟩
   have ed:(N:Int)-1-j=(d:Int):=by lia
   obtain⟨t,ht⟩:∃t,rs[d]? = some t:=⟨rs[d]'(by lia),AA (by lia)⟩
   obtain⟨y,hy⟩:∃y,b.days[d]? = some y:=⟨b.days[d]'(by lia),AA (by lia)⟩
   obtain⟨tp,ts⟩:=hT t (BK ht)
   have dn:d+1=N->rs.drop (d+1)=[]:=λh=>CK (by lia)
   obtain⟨m1,w4,k1,k2,k3,k4,k5,kl⟩:=Hq (n:=n+1) (b:=b) hr (rs:=rs) (nd:=ndF b) ht (m0:=m0) (c:=40*j) (by lia) hL tp ts ok hm (λk hk=>by
    by_cases e:d+1=N
    ·right;rw[dn e];rfl
    ·left;exact((hh (d+1) (by lia) (by lia)).lamp k hk).le) v4
   have hq:(f6 m1 (o9,[((d+1:Nat):Int)])).getD 0=kc b.lamps.length (rs.drop (d+1)):=by
    have:=k1.getD (x:=(o9,[((d+1:Nat):Int)])) (by
     by_cases e:d+1=N
     ·right;rw[wz,dn e];rfl
     ·left;exact k5 _ (hh (d+1) (by lia) (by lia)).ke)
    rw[this,wz]
   obtain⟨o,ho⟩:∃o,o=outF b.lamps.length t (rs.drop (d+1)) (kc b.lamps.length (rs.drop (d+1))):=⟨_,rfl⟩
   have es:=D6 (n:=n+3) (μ:=μ) (t:=t) (m:=m1) d (by lia) (by lia) (f:=qh (t::rs.drop (d+1))) (λk hk=>by
    rw[k1.get ((k3 k (by lia)).po),Fz,drop_cons ht]) hq (o:=o) (by rw[ho,tp];rfl)
   have ks:=bt es rfl (by simp) (B8 hr)
   have k6:=k1.put3 ht ho
   have l6:=Pf m1 d (min t.taken o) (min t.bought (o-min t.taken o)) (o-min t.taken o-min t.bought (o-min t.taken o))
   have p6:∀x,Has m1 x->Has (put3 m1 d (min t.taken o) (min t.bought (o-min t.taken o)) (o-min t.taken o-min t.bought (o-min t.taken o))) x:=λx h=>((h.put _ _).put _ _).put _ _
   have p7:∀d',DayHas b.lamps.length m1 d'->DayHas b.lamps.length (put3 m1 d (min t.taken o) (min t.bought (o-min t.taken o)) (o-min t.taken o-min t.bought (o-min t.taken o))) d':=λd' h=>((h.put _ _).put _ _).put _ _
   have p8:Has (put3 m1 d (min t.taken o) (min t.bought (o-min t.taken o)) (o-min t.taken o-min t.bought (o-min t.taken o))) (j5,[(d:Int)])/\Has (put3 m1 d (min t.taken o) (min t.bought (o-min t.taken o)) (o-min t.taken o-min t.bought (o-min t.taken o))) (gs,[(d:Int)])/\Has (put3 m1 d (min t.taken o) (min t.bought (o-min t.taken o)) (o-min t.taken o-min t.bought (o-min t.taken o))) (o9,[(d:Int)]):=⟨(kr.put _ _).put _ _,kr.put _ _,kr⟩
   generalize put3 m1 d (min t.taken o) (min t.bought (o-min t.taken o)) (o-min t.taken o-min t.bought (o-min t.taken o))=m2 at *
   have kn:=bt (o8 (n:=n+3) (μ:=μ++[.dt (gz m2)]) hb hy) rfl rfl (B8 hr)
   have s1:ou (.loc μ.length) [.str qm,.int d] (.int (y.wanted*y.length)) (μ++[.dt (gz m2)])=_:=B7 (μ:=μ) (m:=m2) (v:=y.wanted*y.length) (qm,[(d:Int)]) (by lia)
   have l7:=fm m2 (qm,[(d:Int)]) (y.wanted*y.length)
   refine⟨[some (az b),some (.tup (rs.map eTn)),some (.loc μ.length),some (.int d),w4],_,?_,r8 m2 (qm,[(d:Int)]) (y.wanted*y.length),_,_,rfl,rfl,?_,?_,?_⟩
   ·rw[ed]
    simp! only[fLp,o5,t6,bt_len aw,AG,bz (show b.lamps.length<=1000000 by lia),kl,gu ht,ks,Dx,Dy,Ag,Ah,kn,s1]
   ·exact k6.put (by rw[D4,Mo hy])
   ·lia
   ·intro d' h1 h2
    by_cases e:d'=d
    ·subst e
     exact⟨λk hk=>⟨(p6 _ (k3 k hk).bu).put _ _,(p6 _ (k3 k hk).th).put _ _,(p6 _ (k3 k hk).po).put _ _,(p6 _ (k3 k hk).le).put _ _⟩,p8.1.put _ _,p8.2.1.put _ _,p8.2.2.put _ _,kr⟩
    ·exact(p7 _ (k4 _ (hh d' (by lia) h2))).put _ _)
 rw[AX]at h3
 have cn:=O3 (n:=n) (b:=b) (B8 (m:=m) hr) hb
 have nh:=Mn (b:=b) (m:=m) hD.1 (λd hd=>h3 d (by lia) (by lia))
 have c1:mj (ai GL (n+4)) .z (.many [1,2]) .nil o6 [some (.loc μ.length),none,none] ((gb ltN (cz b)).map gf,none) (μ++[.dt (gz m)])=.ok (.lst ((Mp b rs).map D.int)) (μ++[.dt (gz m)]):=by
  rw[comp_map (g:=λx:NR=>D.int (VF b.lamps.length rs (ndF b) x.2)) λx hx=>by
   have ix:Sw (.loc μ.length) (nmD x.2) (μ++[.dt (gz m)])=_:=afo (μ:=μ) (m:=m) x.2 (h1.get (nh x ((jg _).mem_iff.mp hx)))
   simp! only[uw,o6,Zf,aco,Uw,ix]]
  rw[g0,Mp,BB];rfl
 have d0:U8 true [] μ=.ok (.loc μ.length) (μ++[.dt (gz [])]):=rfl
 have ei:evI (ai GL (n+4)) (.rngD (.bin .Sub .z (.blt .len .z (.cons (.var 1) .nil)) (.cst (.int 1))) (.neg (.cst (.int 1))) (.neg (.cst (.int 1)))) [some (az b),some (.tup (rs.map eTn)),some (.loc μ.length),none,none] (μ++[.dt (gz [])])=.ok ((List.range N).map fun(j:Nat)=>D.int ((N:Int)-1-j),none) (μ++[.dt (gz [])]):=by
  have:=Ze (φ:=ai GL (n+4)) (a:=.bin .Sub .z (.blt .len .z (.cons (.var 1) .nil)) (.cst (.int 1))) (b:=.neg (.cst (.int 1))) (c:=.neg (.cst (.int 1))) (σ:=[some (az b),some (.tup (rs.map eTn)),some (.loc μ.length),none,none]) (μ:=μ++[.dt (gz [])]) (μ1:=μ++[.dt (gz [])]) (μ2:=μ++[.dt (gz [])]) (μ3:=μ++[.dt (gz [])]) (i:=(N:Int)-1)
   (by simp! only[bt_len aw,AG,hNN]) (by simp! only[]) (by simp! only[]) (by lia) (by lia)
  rw[this]
  congr 2
  rw[show((N:Int)-1+1).toNat=N by lia]
 refine⟨m,?_⟩
 simp! only[D_flow_by,d0,ei,el,cn,c1,bt_tuple au]
theorem Mr(hr:i6 μ)(hb:Wf b){rs:List Tn}(hN:rs.length=b.days.length)(hT:∀t∈rs,t.poured.length=b.lamps.length/\t.spans.length<=1000):iq (ai GL (n+5)) false o4 [az b,.tup (rs.map eTn)] μ=.ok (.tup ((Mp b rs).map D.int)) μ:=by
 obtain⟨m,e⟩:=Mq (n:=n) hr hb hN hT
 exact dh e (ie 7 _) hr
end
open PySem
theorem f9{f:Nat->Int}:sm 0 f=0:=rfl
theorem ay{L:Nat}{f:Nat->Int}:sm (L+1) f=sm L f+f L:=by
 unfold sm
 rw[DH]
 simp[DG]
theorem Ms{f g:Nat->Int}:∀{L:Nat},(∀k,k<L->f k<=g k)->sm L f<=sm L g
 |0,_=>HN _
 |L+1,h=>by
  have ih:=Ms (L:=L) λk hk=>h k (by lia)
  have:=h L (by lia)
  rw[ay,ay];lia
theorem Ph{f:Nat->Int}{L:Nat}(h:∀k,k<L->0<=f k):0<=sm L f:=by
 have e:∀L,sm L (λ_=>0)=0:=λL=>by
  induction L with
  |zero=>rfl
  |succ L ih=>rw[ay,ih];rfl
 have:=Ms (f:=λ_=>0) h
 rw[e]at this;exact this
theorem Rp{f:Nat->Int}:∀{L:Nat},(∀k,k<L->0<=f k)->∀k,k<L->f k<=sm L f
 |0,_,k,hk=>absurd hk (Nat.not_lt_zero k)
 |L+1,h,k,hk=>by
  have n1:=Ph (L:=L) λk hk=>h k (by lia)
  have n2:=h L (by lia)
  rw[ay]
  by_cases e:k=L
  ·subst e;lia
  ·have:=Rp (L:=L) (λk hk=>h k (by lia)) k (by lia);lia
theorem Ca{f g:Nat->Int}:∀{L:Nat},sm L (λk=>f k+g k)=sm L f+sm L g
 |0=>rfl
 |L+1=>by rw[ay,ay,ay,Ca];lia
theorem Mu{A X:Nat->Int}:∀{N:Nat},sm N (λd=>A d+X d-X (d+1))=sm N A+X 0-X N
 |0=>by rw[f9,f9];lia
 |N+1=>by rw[ay,ay,Mu];lia
theorem xg{f:Nat->Int}{c:Int}:∀{L:Nat},sm L (λk=>f k*c)=sm L f*c
 |0=>by rw[f9,f9];lia
 |L+1=>by rw[ay,ay,xg,FZ]
structure Keep (b:Book) (rs:List Tn) (st:Nat->Int) (lv:Nat->Nat->Int):Prop where
 len:rs.length=b.days.length
 po:∀t∈rs,t.poured.length=b.lamps.length/\t.spans.length<=1000
 s0:st 0=b.oil
 l0:∀k l,b.lamps[k]? = some l->lv 0 k=l.oil
 day:∀d t y,rs[d]? = some t->b.days[d]? = some y->(0<=t.taken/\t.taken<=y.boat)/\(0<=t.bought/\t.bought<=y.most)/\0<=st d+t.taken+t.bought-sm b.lamps.length (pr t)/\st (d+1)=min b.store (st d+t.taken+t.bought-sm b.lamps.length (pr t))/\sm b.lamps.length (tk t)=y.wanted*y.length
 lamp:∀d t y k l,rs[d]? = some t->b.days[d]? = some y->b.lamps[k]? = some l->0<=pr t k/\(0<=tk t k/\tk t k<=mv l d y)/\lv d k+pr t k<=l.tank/\0<=lv (d+1) k/\lv (d+1) k=lv d k+pr t k-tk t k
section
variable{b:Book}{rs:List Tn}{st:Nat -> Int}{lv:Nat -> Nat -> Int}
theorem Keep.at(K:Keep b rs st lv){d:Nat}(hd:d<b.days.length):∃t y,rs[d]? = some t/\b.days[d]? = some y :=
 ⟨rs[d]'(by have:=K.len;lia),b.days[d],AA (by have:=K.len;lia),AA hd⟩
theorem Ai{k:Nat}(hk:k<b.lamps.length):∃l,b.lamps[k]? = some l:=⟨b.lamps[k],AA hk⟩
theorem Keep.lv_nn(K:Keep b rs st lv)(hb:Wf b){d k:Nat}(hd:d<=b.days.length)(hk:k<b.lamps.length):0<=lv d k:=by
 obtain⟨l,hl⟩:=Ai hk
 cases d with
 |zero=>rw[K.l0 k l hl];exact(hb.lamp l (BK hl)).2.1.1
 |succ d =>
  obtain⟨t,y,ht,hy⟩:=K.at (d:=d) (by lia)
  exact(K.lamp d t y k l ht hy hl).2.2.2.1
theorem Keep.st_nn(K:Keep b rs st lv)(hb:Wf b){d:Nat}(hd:d<=b.days.length):0<=st d:=by
 cases d with
 |zero=>rw[K.s0];exact hb.oil.1
 |succ d =>
  obtain⟨t,y,ht,hy⟩:=K.at (d:=d) (by lia)
  have:=K.day d t y ht hy
  have:=hb.store
  lia
theorem Keep.end(K:Keep b rs st lv):rs.drop b.days.length=[]:=CK (by have:=K.len;lia)
theorem Keep.left_b(K:Keep b rs st lv)(hb:Wf b){k:Nat}(hk:k<b.lamps.length):∀j d,d+j=b.days.length->0<=lz (rs.drop d) k/\lz (rs.drop d) k<=lv d k
 |0,d,h=>by
  have:=K.lv_nn hb (d:=d) (by lia) hk
  rw[show d=b.days.length by lia,K.end]at *
  exact⟨HN _,this⟩
 |j+1,d,h=>by
  have ih:=K.left_b hb hk j (d+1) (by lia)
  obtain⟨t,y,ht,hy⟩:=K.at (d:=d) (by lia)
  obtain⟨l,hl⟩:=Ai hk
  have q:=K.lamp d t y k l ht hy hl
  have n:=K.lv_nn hb (d:=d) (by lia) hk
  rw[drop_cons ht,lz]
  lia
theorem Keep.pour_b(K:Keep b rs st lv)(hb:Wf b){d k:Nat}{t:Tn}(ht:rs[d]? = some t)(hk:k<b.lamps.length):0<=qh (t::rs.drop (d+1)) k/\qh (t::rs.drop (d+1)) k<=pr t k:=by
 have hd:d<b.days.length:=by have:=(AB.mp ht).1;have:=K.len;lia
 obtain⟨t',y,ht',hy⟩:=K.at hd
 cases ht.symm.trans ht'
 obtain⟨l,hl⟩:=Ai hk
 have q:=K.lamp d t y k l ht hy hl
 have ih:=K.left_b hb hk (b.days.length-(d+1)) (d+1) (by lia)
 rw[qh]
 lia
theorem Keep.kept_b(K:Keep b rs st lv)(hb:Wf b):∀j d,d+j=b.days.length->0<=kc b.lamps.length (rs.drop d)/\kc b.lamps.length (rs.drop d)<=st d
 |0,d,h=>by
  have:=K.st_nn hb (d:=d) (by lia)
  rw[show d=b.days.length by lia,K.end]at *
  exact⟨HN _,this⟩
 |j+1,d,h=>by
  have ih:=K.kept_b hb j (d+1) (by lia)
  obtain⟨t,y,ht,hy⟩:=K.at (d:=d) (by lia)
  have q:=K.day d t y ht hy
  have n:=K.st_nn hb (d:=d) (by lia)
  have p1:=Ph λk (hk:k<b.lamps.length)=>(K.pour_b hb ht hk).1
  have p2:=Ms λk (hk:k<b.lamps.length)=>(K.pour_b hb ht hk).2
  have p3:sm b.lamps.length (λk=>pr t k)=sm b.lamps.length (pr t):=rfl
  have p4:sm b.lamps.length (λk=>qh (t::rs.drop (d+1)) k)=sm b.lamps.length (qh (t::rs.drop (d+1))):=rfl
  rw[drop_cons ht,kc,outF]
  lia
noncomputable def bs:List Tn->Nat->Int
 | [],_=>0
 |t::r,k=>tk t k+bs r k
theorem Keep.bs_b(K:Keep b rs st lv)(hb:Wf b){k:Nat}(hk:k<b.lamps.length):∀j d,d+j=b.days.length->0<=bs (rs.drop d) k/\lz (rs.drop d) k<=bs (rs.drop d) k
 |0,d,h=>by
  rw[show d=b.days.length by lia,K.end]
  exact⟨HN _,HN _⟩
 |j+1,d,h=>by
  have ih:=K.bs_b hb hk j (d+1) (by lia)
  have il:=K.left_b hb hk j (d+1) (by lia)
  obtain⟨t,y,ht,hy⟩:=K.at (d:=d) (by lia)
  obtain⟨l,hl⟩:=Ai hk
  have q:=K.lamp d t y k l ht hy hl
  rw[drop_cons ht,lz,bs]
  lia
theorem Keep.bs_sum(K:Keep b rs st lv)(hb:Wf b):∀j d,d+j=b.days.length->sm b.lamps.length (bs (rs.drop d))=((a7 b).drop d).sum
 |0,d,h=>by
  rw[show d=b.days.length by lia,K.end,CK (by simp[a7])]
  have e:∀L,sm L (bs [])=0:=λL=>by
   induction L with
   |zero=>rfl
   |succ L ih=>rw[ay,ih];rfl
  exact e _
 |j+1,d,h=>by
  have ih:=K.bs_sum hb j (d+1) (by lia)
  obtain⟨t,y,ht,hy⟩:=K.at (d:=d) (by lia)
  have q:=(K.day d t y ht hy).2.2.2.2
  have e:(a7 b)[d]? = some (y.wanted*y.length):=by simp[a7,hy]
  obtain⟨e1,e2⟩:=AB.mp e
  rw[drop_cons ht,DW e1,e2,DF,<-ih,<-q,<-Ca]
  rfl
theorem Mv(hb:Wf b):∀x∈a7 b,0<=x:=by
 intro x hx
 obtain⟨y,hy,rfl⟩:=BW.mp hx
 have q:=hb.day y hy
 exact DZ q.2.2.2.2.1 (by lia)
theorem F0:∀{l:List Int},(∀x∈l,0<=x)->∀d,(l.drop d).sum<=l.sum
 | [],_,d=>by simp
 |x::l,h,0=>by simp
 |x::l,h,d+1=>by
  have:=F0 (l:=l) (λy hy=>h y (AU _ hy)) d
  have:=h x BI
  rw[List.drop_succ_cons,DF];lia
theorem Keep.bs_need(K:Keep b rs st lv)(hb:Wf b){d k:Nat}(hd:d<=b.days.length)(hk:k<b.lamps.length):bs (rs.drop d) k<=(a7 b).sum:=by
 have h1:=Rp (f:=bs (rs.drop d)) (L:=b.lamps.length) (λk hk=>(K.bs_b hb hk (b.days.length-d) d (by lia)).1) k hk
 rw[K.bs_sum hb (b.days.length-d) d (by lia)]at h1
 have:=F0 (Mv hb) d
 lia
theorem Keep.V_ok(K:Keep b rs st lv)(hb:Wf b):∀x∈cz b,0<=VF b.lamps.length rs (ndF b) x.2/\VF b.lamps.length rs (ndF b) x.2<=x.1.getD 2 0:=by
 have hD:=hb.days
 intro x hx
 rcases BD.mp hx with hx | hx
 ·rcases BD.mp hx with hx | hx
  ·rcases AS.mp hx with rfl | hx
   ·have q:=K.kept_b hb b.days.length 0 (by lia)
    have e:VF b.lamps.length rs (ndF b) (j9 b 0 0 b.oil).2=kc b.lamps.length (rs.drop 0):=wz (d:=0)
    have e2:(j9 b 0 0 b.oil).1.getD 2 0=b.oil:=rfl
    rw[e,e2,<-K.s0]
    exact q
   ·obtain⟨p,hp,rfl⟩:=BW.mp hx
    obtain⟨j,hj⟩:=BN.mp hp
    obtain⟨e1,e2,e3⟩:=pf hj
    rw[e1]
    have q:=K.left_b hb e3 b.days.length 0 (by lia)
    have e:VF b.lamps.length rs (ndF b) (n8 b j 0 0 p.2.oil).2=lz (rs.drop 0) j:=wy (d:=0)
    have e4:(n8 b j 0 0 p.2.oil).1.getD 2 0=p.2.oil:=rfl
    rw[e,e4,<-K.l0 j p.2 e2]
    exact q
  ·obtain⟨d,hd,hx⟩:=DB.mp hx
   have hd:d<b.days.length-1:=by simpa using hd
   rcases AS.mp hx with rfl | hx
   ·have q:=K.kept_b hb (b.days.length-(d+1)) (d+1) (by lia)
    have e:VF b.lamps.length rs (ndF b) (j9 b (d+1) (sN b d) b.store).2=kc b.lamps.length (rs.drop (d+1)):=wz (d:=d+1)
    have e2:(j9 b (d+1) (sN b d) b.store).1.getD 2 0=b.store:=rfl
    obtain⟨t,y,ht,hy⟩:=K.at (d:=d) (by lia)
    have q2:=(K.day d t y ht hy).2.2.2.1
    rw[e,e2]
    lia
   ·obtain⟨i,hi,rfl⟩:=BW.mp hx
    have hi:i<b.lamps.length:=by simpa using hi
    have q:=K.left_b hb hi (b.days.length-(d+1)) (d+1) (by lia)
    have q2:=K.bs_b hb hi (b.days.length-(d+1)) (d+1) (by lia)
    have q3:=K.bs_need hb (d:=d+1) (by lia) hi
    have e:VF b.lamps.length rs (ndF b) (n8 b i (d+1) (fN b i d) (a7 b).sum).2=lz (rs.drop (d+1)) i:=wy (d:=d+1)
    have e2:(n8 b i (d+1) (fN b i d) (a7 b).sum).1.getD 2 0=(a7 b).sum:=rfl
    rw[e,e2]
    lia
 ·obtain⟨p,hp,hx⟩:=DB.mp hx
  obtain⟨d,hj⟩:=BN.mp hp
  obtain⟨e1,hy,e3⟩:=pf hj
  rw[e1]at hx
  generalize p.2=y at hx hy
  obtain⟨t,y',ht,hy'⟩:=K.at e3
  cases hy.symm.trans hy'
  have q:=K.day d t y ht hy
  have kb:=K.kept_b hb (b.days.length-(d+1)) (d+1) (by lia)
  have p1:=Ph λk (hk:k<b.lamps.length)=>(K.pour_b hb ht hk).1
  have p4:sm b.lamps.length (λk=>qh (t::rs.drop (d+1)) k)=sm b.lamps.length (qh (t::rs.drop (d+1))):=rfl
  rcases BD.mp hx with hx | hx
  ·simp![Dp,AS,BY,or_false]at hx
   rcases hx with rfl | rfl | rfl
   ·show 0<=VF b.lamps.length rs (ndF b) (j5,[(d:Int)])/\VF b.lamps.length rs (ndF b) (j5,[(d:Int)])<=y.boat
    rw[D3,drop_cons ht,Hl,outF]
    lia
   ·show 0<=VF b.lamps.length rs (ndF b) (gs,[(d:Int)])/\VF b.lamps.length rs (ndF b) (gs,[(d:Int)])<=y.most
    rw[ux,drop_cons ht,Ro,outF]
    lia
   ·show 0<=VF b.lamps.length rs (ndF b) (qm,[(d:Int)])/\VF b.lamps.length rs (ndF b) (qm,[(d:Int)])<=y.wanted*y.length
    rw[D4,Mo hy]
    have:=Mv hb (y.wanted*y.length) (BW.mpr ⟨y,BK hy,rfl⟩)
    lia
  ·obtain⟨z,hq,hx⟩:=DB.mp hx
   obtain⟨i,hi⟩:=BN.mp hq
   obtain⟨f1,hl,f3⟩:=pf hi
   rw[f1]at hx
   generalize z.2=l at hx hl
   have c:=K.lamp d t y i l ht hy hl
   have lb:=K.left_b hb f3 (b.days.length-(d+1)) (d+1) (by lia)
   have bb:=K.bs_b hb f3 (b.days.length-(d+1)) (d+1) (by lia)
   have bn:=K.bs_need hb (d:=d) (by lia) f3
   rw[drop_cons ht,bs]at bn
   simp![ka,AS,BY,or_false]at hx
   rcases hx with rfl | rfl | rfl
   ·show 0<=VF b.lamps.length rs (ndF b) (qg,[(d:Int),(i:Int)])/\VF b.lamps.length rs (ndF b) (qg,[(d:Int),(i:Int)])<=(a7 b).sum
    rw[Fz,drop_cons ht,qh]
    lia
   ·show 0<=VF b.lamps.length rs (ndF b) (r6,[(d:Int),(i:Int)])/\VF b.lamps.length rs (ndF b) (r6,[(d:Int),(i:Int)])<=l.tank
    rw[Mm,drop_cons ht,D1]
    lia
   ·show 0<=VF b.lamps.length rs (ndF b) (j6,[(d:Int),(i:Int)])/\VF b.lamps.length rs (ndF b) (j6,[(d:Int),(i:Int)])<=mv l d y
    rw[D2,drop_cons ht,D0]
    exact c.2.1
end
open PySem
theorem F6{α β:Type}(f:α->List β)(g:β->Int):∀l:List α,((l.flatMap f).map g).sum=(l.map λx=>((f x).map g).sum).sum
 | []=>rfl
 |x::l=>by rw[DS,AY,DG,F6 f g l,AF,DF]
theorem Uz{α:Type}{l:List α}{f:Nat×α->Int}{h:Nat->Int}(H:∀k a,l[k]? = some a->f (k,a)=h k):((zl l).map f).sum=sm l.length h:=by
 have e:(zl l).map f=(zl l).map (h∘Prod.fst):=by
  refine CH λp hp=>?_
  obtain⟨j,hj⟩:=BN.mp hp
  obtain⟨e1,e2,e3⟩:=pf hj
  obtain⟨a,c⟩:=p
  dsimp only at e1 e2
  subst e1
  exact H a c e2
 rw[e,<-BB,sm]
 congr 2
 simp[zl,EI]
section
variable{b:Book}{rs:List Tn}{st:Nat -> Int}{lv:Nat -> Nat -> Int}
theorem Cb(g:NR->Int){k0:Int}{l0 kl dd:Nat->Int}{ll lm:Nat->Nat->Int}(h1:g (j9 b 0 0 b.oil)=k0)(h2:∀k l,b.lamps[k]? = some l->g (n8 b k 0 0 l.oil)=l0 k)(h3:∀d,g (j9 b (d+1) (sN b d) b.store)=kl d)(h4:∀d k,g (n8 b k (d+1) (fN b k d) (a7 b).sum)=ll d k)(h5:∀d y,b.days[d]? = some y->((Dp b d y).map g).sum=dd d)(h6:∀d y k l,b.days[d]? = some y->b.lamps[k]? = some l->((ka b k d l y).map g).sum=lm d k) :
  ((cz b).map g).sum=k0+sm b.lamps.length l0+sm (b.days.length-1) (λd=>kl d+sm b.lamps.length (ll d))+sm b.days.length (λd=>dd d+sm b.lamps.length (lm d)):=by
 unfold cz firstM
 rw[AY,AY,DG,DG,F6,F6,AF,DF,h1,BB]
 rw[Uz (h:=l0) (λk l hl=>h2 k l hl)]
 rw[Uz (h:=λd=>dd d+sm b.lamps.length (lm d)) (λd y hy=>by
  unfold B0
  rw[AY,DG,h5 d y hy,F6,Uz (h:=lm d) (λk l hl=>h6 d y k l hy hl)])]
 have e:((List.range (b.days.length-1)).map λx=>((ff b x).map g).sum).sum=sm (b.days.length-1) (λd=>kl d+sm b.lamps.length (ll d)):=by
  unfold sm
  congr 1
  refine CH λd _=>?_
  unfold ff
  rw[AF,DF,h3,BB]
  congr 2
  exact CH λk _=>h4 d k
 rw[e]
noncomputable def ind(a v:Int):Int:=if a=v then 1 else 0
noncomputable def gN(V:Nm->Int)(v:Int)(x:NR):Int:=V x.2*(ind (x.1.getD 0 0) v-ind (x.1.getD 1 0) v)
theorem Cc{po th bu le le' T F T':Nat->Int}{s w:Int}:∀{L:Nat},(∀k,k<L->th k-po k=le k/\th k=bu k+le' k) ->
  sm L (λk=>po k*(s-T k)+(th k*(T k-F k)+bu k*(F k-w)))+sm L (λk=>le' k*(F k-T' k))=s*sm L po+sm L (λk=>le k*T k)-w*sm L bu-sm L (λk=>le' k*T' k)
 |0,_=>by simp[f9]
 |L+1,h=>by
  have ih:=Cc (s:=s) (w:=w) (T:=T) (F:=F) (T':=T') (po:=po) (L:=L) λk hk=>h k (by lia)
  obtain⟨e1,e2⟩:=h L (by lia)
  rw[ay,ay,ay,ay,ay,ay]
  have e3:bu L=th L-le' L:=by lia
  have e4:po L=th L-le L:=by lia
  rw[e3,e4]
  grind
theorem Keep.net(K:Keep b rs st lv)(hb:Wf b)(v:Int):((cz b).map (gN (VF b.lamps.length rs (ndF b)) v)).sum=(a7 b).sum*(ind 0 v-ind 1 v):=by
 have hD:=hb.days
 let ke:Nat->Int:=λd=>kc b.lamps.length (rs.drop d)
 let le:Nat->Nat->Int:=λd k=>lz (rs.drop d) k
 let ta:Nat->Int:=λd=>Hl b.lamps.length (rs.drop d)
 let bo:Nat->Int:=λd=>Ro b.lamps.length (rs.drop d)
 let po:Nat->Nat->Int:=λd k=>qh (rs.drop d) k
 let th:Nat->Nat->Int:=λd k=>D1 (rs.drop d) k
 let bu:Nat->Nat->Int:=λd k=>D0 (rs.drop d) k
 let s:Nat->Int:=λd=>ind (sN b d) v
 let T:Nat->Nat->Int:=λd k=>ind (tN b k d) v
 let F:Nat->Nat->Int:=λd k=>ind (fN b k d) v
 let w:Nat->Int:=λd=>ind (nN b d) v
 rw[Cb (gN (VF b.lamps.length rs (ndF b)) v) (k0:=ke 0*(ind 0 v-s 0)) (l0:=λk=>le 0 k*(ind 0 v-T 0 k)) (kl:=λd=>ke (d+1)*(s d-s (d+1))) (ll:=λd k=>le (d+1) k*(F d k-T (d+1) k)) (dd:=λd=>ta d*(ind 0 v-s d)+(bo d*(ind 0 v-s d)+ndF b d*(w d-ind 1 v))) (lm:=λd k=>po d k*(s d-T d k)+(th d k*(T d k-F d k)+bu d k*(F d k-w d)))
  (by show VF _ _ _ (o9,[((0:Nat):Int)])*_=_;rw[wz];rfl) (λk l _=>by show VF _ _ _ (pe,[((0:Nat):Int),(k:Int)])*_=_;rw[wy];rfl) (λd=>by show VF _ _ _ (o9,[((d+1:Nat):Int)])*_=_;rw[wz];rfl) (λd k=>by show VF _ _ _ (pe,[((d+1:Nat):Int),(k:Int)])*_=_;rw[wy];rfl)
  (λd y _=>by
   show VF _ _ _ (j5,[(d:Int)])*_+(VF _ _ _ (gs,[(d:Int)])*_+(VF _ _ _ (qm,[(d:Int)])*_+0))=_
   rw[D3,ux,D4,IG];rfl)
  (λd y k l _ _=>by
   show VF _ _ _ (qg,[(d:Int),(k:Int)])*_+(VF _ _ _ (r6,[(d:Int),(k:Int)])*_+(VF _ _ _ (j6,[(d:Int),(k:Int)])*_+0))=_
   rw[Fz,Mm,D2,IG];rfl)]
 let X:Nat->Int:=λd=>ke d*s d+sm b.lamps.length (λk=>le d k*T d k)
 let Y:Nat->Int:=λd=>ke d+sm b.lamps.length (le d)
 have keN:ke b.days.length=0:=by show kc _ (rs.drop _)=0;rw[K.end];rfl
 have leN:∀k,le b.days.length k=0:=λk=>by show lz (rs.drop _) k=0;rw[K.end];rfl
 have z0:∀L (f:Nat->Int),(∀k,f k=0)->sm L f=0:=λL f h=>by
  induction L with
  |zero=>rfl
  |succ L ih=>rw[ay,ih,h];rfl
 have XN:X b.days.length=0:=by
  show ke _*s _+sm _ _=0
  rw[keN,z0 _ _ (λk=>by rw[leN];lia)];lia
 have YN:Y b.days.length=0:=by
  show ke _+sm _ _=0
  rw[keN,z0 _ _ leN];rfl
 have ext:sm (b.days.length-1) (λd=>ke (d+1)*(s d-s (d+1))+sm b.lamps.length (λk=>le (d+1) k*(F d k-T (d+1) k)))=sm b.days.length (λd=>ke (d+1)*(s d-s (d+1))+sm b.lamps.length (λk=>le (d+1) k*(F d k-T (d+1) k))):=by
  obtain⟨N,hN⟩:∃N,b.days.length=N+1:=⟨b.days.length-1,by lia⟩
  rw[hN,Nat.add_sub_cancel,ay]
  rw[hN]at keN leN
  rw[keN,z0 b.lamps.length (λk=>le (N+1) k*(F N k-T (N+1) k)) (λk=>by rw[leN];lia)];lia
 have dayE:∀d,d<b.days.length->sm b.lamps.length (bu d)=ndF b d/\ke d=sm b.lamps.length (po d)+ke (d+1)-ta d-bo d/\∀k,th d k-po d k=le d k/\th d k=bu d k+le (d+1) k:=by
  intro d hd
  obtain⟨t,y,ht,hy⟩:=K.at hd
  have q:=(K.day d t y ht hy).2.2.2.2
  refine⟨?_,?_,λk=>?_⟩
  ·show sm _ (λk=>D0 (rs.drop d) k)=_
   rw[drop_cons ht,Mo hy,<-q];rfl
  ·show kc _ (rs.drop d)=sm _ (λk=>qh (rs.drop d) k)+kc _ (rs.drop (d+1))-Hl _ (rs.drop d)-Ro _ (rs.drop d)
   rw[drop_cons ht,kc,Hl,Ro];rfl
  ·show D1 (rs.drop d) k-qh (rs.drop d) k=lz (rs.drop d) k/\D1 (rs.drop d) k=D0 (rs.drop d) k+lz (rs.drop (d+1)) k
   rw[drop_cons ht,D1,qh,lz,D0]
   exact⟨rfl,rfl⟩
 rw[ext,Int.add_assoc (ke 0*(ind 0 v-s 0)+_),<-Ca]
 have step:sm b.days.length (λd=>ke (d+1)*(s d-s (d+1))+sm b.lamps.length (λk=>le (d+1) k*(F d k-T (d+1) k))+(ta d*(ind 0 v-s d)+(bo d*(ind 0 v-s d)+ndF b d*(w d-ind 1 v))+sm b.lamps.length (λk=>po d k*(s d-T d k)+(th d k*(T d k-F d k)+bu d k*(F d k-w d)))))=sm b.days.length (λd=>((ta d+bo d)*ind 0 v-ndF b d*ind 1 v)+X d-X (d+1)):=by
  refine oa λd hd=>?_
  obtain⟨e1,e2,e3⟩:=dayE d hd
  have ln:=Cc (L:=b.lamps.length) (po:=po d) (th:=th d) (bu:=bu d) (le:=le d) (le':=le (d+1)) (T:=T d) (F:=F d) (T':=T (d+1)) (s:=s d) (w:=w d) λk _=>e3 k
  rw[e1]at ln
  show _=_+(ke d*s d+sm b.lamps.length (λk=>le d k*T d k))-(ke (d+1)*s (d+1)+sm b.lamps.length (λk=>le (d+1) k*T (d+1) k))
  have eP:sm b.lamps.length (λk=>po d k)=sm b.lamps.length (po d):=rfl
  generalize sm b.lamps.length (λk=>le (d+1) k*(F d k-T (d+1) k))=A1 at *
  generalize sm b.lamps.length (λk=>po d k*(s d-T d k)+(th d k*(T d k-F d k)+bu d k*(F d k-w d)))=A2 at *
  generalize sm b.lamps.length (λk=>le d k*T d k)=A3 at *
  generalize sm b.lamps.length (λk=>le (d+1) k*T (d+1) k)=A4 at *
  generalize sm b.lamps.length (po d)=A5 at *
  have e4:A2=s d*A5+A3-w d*ndF b d-A4-A1:=by lia
  rw[e4,e2]
  grind
 rw[step,Mu,XN]
 have flow:sm b.days.length (λd=>(ta d+bo d)*ind 0 v-ndF b d*ind 1 v)=sm b.days.length (λd=>ta d+bo d)*ind 0 v-(a7 b).sum*ind 1 v:=by
  have e:sm b.days.length (ndF b)=(a7 b).sum:=by
   unfold sm
   congr 1
   refine GP (by simp[a7]) λi h1 h2=>?_
   have h3:i<b.days.length:=by simpa[a7]using h2
   simp[ndF,a7,h3]
  rw[<-e,<-xg,<-xg]
  have:∀N,sm N (λd=>(ta d+bo d)*ind 0 v-ndF b d*ind 1 v)=sm N (λd=>(ta d+bo d)*ind 0 v)-sm N (λd=>ndF b d*ind 1 v):=λN=>by
   induction N with
   |zero=>rfl
   |succ N ih=>rw[ay,ay,ay,ih];lia
  exact this _
 have tot:sm b.days.length (λd=>ta d+bo d)+Y 0=(a7 b).sum:=by
  have h1:sm b.days.length (λd=>ta d+bo d)=sm b.days.length (λd=>ndF b d+Y (d+1)-Y d):=by
   refine oa λd hd=>?_
   obtain⟨e1,e2,e3⟩:=dayE d hd
   have h:∀L,sm L (le d)+sm L (po d)=sm L (bu d)+sm L (le (d+1)):=λL=>by
    induction L with
    |zero=>rfl
    |succ L ih =>
     have:=e3 L
     rw[ay,ay,ay,ay];lia
   have:=h b.lamps.length
   show _=ndF b d+(ke (d+1)+sm b.lamps.length (le (d+1)))-(ke d+sm b.lamps.length (le d))
   lia
  have h2:sm b.days.length (λd=>ndF b d+Y (d+1)-Y d)=sm b.days.length (ndF b)+Y b.days.length-Y 0:=by
   have:∀N,sm N (λd=>ndF b d+Y (d+1)-Y d)=sm N (ndF b)+Y N-Y 0:=λN=>by
    induction N with
    |zero=>rw[f9,f9];lia
    |succ N ih=>rw[ay,ay,ih];lia
   exact this _
  have e:sm b.days.length (ndF b)=(a7 b).sum:=by
   unfold sm
   congr 1
   refine GP (by simp[a7]) λi h1 h2=>?_
   have h3:i<b.days.length:=by simpa[a7]using h2
   simp[ndF,a7,h3]
  rw[h1,h2,YN,e];lia
 rw[flow,<-tot]
 have hl:sm b.lamps.length (λk=>le 0 k*(ind 0 v-T 0 k))=sm b.lamps.length (le 0)*ind 0 v-sm b.lamps.length (λk=>le 0 k*T 0 k):=by
  have:∀L,sm L (λk=>le 0 k*(ind 0 v-T 0 k))=sm L (le 0)*ind 0 v-sm L (λk=>le 0 k*T 0 k):=λL=>by
   induction L with
   |zero=>rw[f9,f9,f9];lia
   |succ L ih=>rw[ay,ay,ay,ih];grind
  exact this _
 rw[hl]
 show ke 0*(ind 0 v-s 0)+_+(_+(ke 0*s 0+sm b.lamps.length (λk=>le 0 k*T 0 k))-0)=(_+(ke 0+sm b.lamps.length (le 0)))*_
 grind
end
open PySem
noncomputable def prF(b:Book)(d:Nat):Int:=((b.days[d]?).map (·.price)).getD 0
noncomputable def bgF(rs:List Tn)(d:Nat):Int:=((rs[d]?).map (·.bought)).getD 0
structure Ends (M:Nat) (V:Nm->Int) (x:NR):Prop where
 ex:∃(a c:Nat) (m p:Int),x.1=[(a:Int),(c:Int),m,p]/\a<M/\c<M/\0<=V x.2/\V x.2<=m/\(0<=p/\p<=10 ^ 15)
section
variable{b:Book}{rs:List Tn}{st:Nat -> Int}{lv:Nat -> Nat -> Int}
theorem Keep.cost(K:Keep b rs st lv)(hb:Wf b):((cz b).map λx=>x.1.getD 3 0*VF b.lamps.length rs (ndF b) x.2).sum<=sm b.days.length (λd=>bgF rs d*prF b d):=by
 have z0:∀L,sm L (λ_=>0)=0:=λL=>by
  induction L with
  |zero=>rfl
  |succ L ih=>rw[ay,ih];rfl
 rw[Cb (λx=>x.1.getD 3 0*VF b.lamps.length rs (ndF b) x.2) (k0:=0) (l0:=λ_=>0) (kl:=λ_=>0) (ll:=λ_ _=>0) (dd:=λd=>Ro b.lamps.length (rs.drop d)*prF b d) (lm:=λ_ _=>0)
  (by show 0*_=_;lia) (λk l _=>by show 0*_=_;lia) (λd=>by show 0*_=_;lia) (λd k=>by show 0*_=_;lia)
  (λd y hy=>by
   show 0*_+(y.price*VF _ _ _ (gs,[(d:Int)])+(0*_+0))=_
   rw[ux,prF,hy]
   show _=_*y.price
   rw[Int.mul_comm y.price]
   lia)
  (λd y k l _ _=>by show 0*_+(0*_+(0*_+0))=_;lia)]
 simp![z0,IG,Int.zero_add]
 refine Ms λd hd=>?_
 obtain⟨t,y,ht,hy⟩:=K.at hd
 have q:=hb.day y (BK hy)
 have c:=K.day d t y ht hy
 rw[drop_cons ht,Ro,bgF,prF,ht,hy]
 exact GQ (by show min t.bought _<=t.bought;lia) q.2.2.1.1
noncomputable def mN(b:Book):Nat:=2+(2*b.lamps.length+2)*b.days.length
theorem Zg(hb:Wf b):2<=mN b/\mN b<=1000:=by
 have h1:=hb.lamps
 have h2:=hb.days
 have h3:(2*b.lamps.length+2)*b.days.length<=18*16:=Nat.mul_le_mul (by lia) (by lia)
 unfold mN
 lia
theorem Pj{d:Nat}(hd:d<b.days.length):2<=sN b d/\sN b d+2*b.lamps.length+2<=mN b:=by
 have h:(d+1)*(2*b.lamps.length+2)<=b.days.length*(2*b.lamps.length+2):=FY _ hd
 have e:sN b d=((2+d*(2*b.lamps.length+2):Nat):Int):=by unfold sN;push_cast;lia
 have e2:(2*b.lamps.length+2)*b.days.length=b.days.length*(2*b.lamps.length+2):=Nat.mul_comm _ _
 have e3:(d+1)*(2*b.lamps.length+2)=d*(2*b.lamps.length+2)+(2*b.lamps.length+2):=Nat.succ_mul _ _
 have e4:mN b=2+b.days.length*(2*b.lamps.length+2):=by unfold mN;rw[e2]
 rw[e,e4]
 generalize d*(2*b.lamps.length+2)=A at *
 generalize b.days.length*(2*b.lamps.length+2)=B at *
 lia
theorem l4{M:Nat}{V:Nm->Int}{x:NR}{a c m p:Int}(h:x.1=[a,c,m,p])(ha:0<=a/\a<M)(hc:0<=c/\c<M)(hV:0<=V x.2/\V x.2<=x.1.getD 2 0)(hp:0<=p/\p<=10 ^ 15):Ends M V x:=by
 refine⟨a.toNat,c.toNat,m,p,?_,by lia,by lia,hV.1,?_,hp⟩
 ·rw[h,Int.toNat_of_nonneg ha.1,Int.toNat_of_nonneg hc.1]
 ·have:=hV.2
  rw[h]at this
  exact this
theorem Keep.ends(K:Keep b rs st lv)(hb:Wf b):∀x∈cz b,Ends (mN b) (VF b.lamps.length rs (ndF b)) x:=by
 have hD:=hb.days
 have hm:=Zg hb
 have p0:(0:Int)<=0/\(0:Int)<=10 ^ 15:=by decide
 intro x hx
 have hV:=K.V_ok hb x hx
 rcases BD.mp hx with hx | hx
 ·rcases BD.mp hx with hx | hx
  ·have s:=Pj (b:=b) (d:=0) (by lia)
   rcases AS.mp hx with rfl | hx
   ·exact l4 rfl (by lia) (by lia) hV p0
   ·obtain⟨p,hp,rfl⟩:=BW.mp hx
    obtain⟨j,hj⟩:=BN.mp hp
    obtain⟨e1,e2,e3⟩:=pf hj
    refine l4 rfl (by lia) ?_ hV p0
    rw[e1,tN];lia
  ·obtain⟨d,hd,hx⟩:=DB.mp hx
   have hd:d<b.days.length-1:=by simpa using hd
   have s:=Pj (b:=b) (d:=d) (by lia)
   have s2:=Pj (b:=b) (d:=d+1) (by lia)
   rcases AS.mp hx with rfl | hx
   ·exact l4 rfl (by lia) (by lia) hV p0
   ·obtain⟨i,hi,rfl⟩:=BW.mp hx
    have hi:i<b.lamps.length:=by simpa using hi
    refine l4 rfl ?_ ?_ hV p0
    ·rw[fN];lia
    ·rw[tN];lia
 ·obtain⟨p,hp,hx⟩:=DB.mp hx
  obtain⟨d,hj⟩:=BN.mp hp
  obtain⟨e1,hy,e3⟩:=pf hj
  rw[e1]at hx
  generalize p.2=y at hx hy
  have s:=Pj e3
  have q:=hb.day y (BK hy)
  rcases BD.mp hx with hx | hx
  ·simp![Dp,AS,BY,or_false]at hx
   rcases hx with rfl | rfl | rfl
   ·exact l4 rfl (by lia) (by lia) hV p0
   ·exact l4 rfl (by lia) (by lia) hV q.2.2.1
   ·refine l4 rfl ?_ (by lia) hV p0
    rw[nN];lia
  ·obtain⟨z,hq,hx⟩:=DB.mp hx
   obtain⟨i,hi⟩:=BN.mp hq
   obtain⟨f1,hl,f3⟩:=pf hi
   rw[f1]at hx
   simp![ka,AS,BY,or_false]at hx
   rcases hx with rfl | rfl | rfl
   ·refine l4 rfl (by lia) ?_ hV p0
    rw[tN];lia
   ·refine l4 rfl ?_ ?_ hV p0
    ·rw[tN];lia
    ·rw[fN];lia
   ·refine l4 rfl ?_ ?_ hV p0
    ·rw[fN];lia
    ·rw[nN];lia
end
section
variable{n:Nat}{μ ρ:Sto}{φ:Phi}{σ:Sl}
theorem U0{o:List Int}{k:Nat}:slD .z (.loc μ.length) (some (k:Int)) none (μ++[.l (o.map D.int)])=.ok (.lst ((o.drop k).map D.int)) (μ++[.l (o.map D.int)]):=by
 simp![slD,Lp.listOf,d6,ik,g0]
 rw[Fp,IX]
theorem r9{o:List Int}{a:Nat}{w:Int}{v:Nat}(ha:a<o.length):(o.set a w).getD v 0=if a=v then w else o.getD v 0:=by
 simp![BM,List.getElem?_set]
 split
 ·rename_i e;subst e;simp[ha]
 ·rfl
theorem D7(hr:i6 μ){S:List NR}{V:Nm->Int}{M:Nat}(hM:2<=M/\M<=1000)(hS:S.length<=1000)(hE:∀x∈S,Ends M V x){due:Int}(hn:∀v:Nat,v<M->(S.map (gN V v)).sum=due*(ind 0 v-ind 1 v)) :
  ∃o:List Int,ai GL (n+2) ia [wt M (S.map (·.1)),.tup ((S.map λx=>V x.2).map D.int),.int due] μ=.ok (.bl true) (μ++[.l (o.map D.int)]):=by
 rw[aj we,run_eq rfl]
 obtain⟨σ',μ',el,v4,o,rfl,rfl,h1,h2⟩:=d9 (φ:=ai GL (n+1)) (tg:=.one 4) (b:=ic) (xs:=List.range S.length) (en:=fun(k:Nat)=>D.int k)
  (λj σ μ'=>∃(v4:Option D) (o:List Int),σ=[some (wt M (S.map (·.1))),some (.tup ((S.map λx=>V x.2).map D.int)),some (.int due),some (.loc μ.length),v4]/\μ'=μ++[.l (o.map D.int)]/\o.length=M/\∀v:Nat,v<M->o.getD v 0=((S.take j).map (gN V v)).sum)
  ⟨none,List.replicate M 0,rfl,rfl,by simp,λv hv=>by simp[hv]⟩ (by
   rintro j i σ μ' hk ⟨v4,o,rfl,rfl,h1,h2⟩
   have hj:=(AB.mp hk).1
   simp![AX]at hj
   rw[CI hj]at hk
   cases hk
   obtain⟨x,hx⟩:∃x,S[j]? = some x:=⟨S[j],AA hj⟩
   obtain⟨a,c,m,p,ex,ha,hc,hv0,hvm,hp⟩:=(hE x (BK hx)).ex
   have i1:∀ν,ixD (.tup ((S.map (·.1)).map tieD)) (.int j) ν=.ok (tieD x.1) ν:=λν=>gu (by rw[AV,hx];rfl)
   have i2:∀ν,ixD (.tup ((S.map λx=>V x.2).map D.int)) (.int j) ν=.ok (.int (V x.2)) ν:=λν=>gu (en:=D.int) (by rw[AV,hx];rfl)
   have t0:∀ν,ixD (tieD x.1) (.int 0) ν=.ok (.int a) ν:=λν=>ue aw (by decide) (by rw[ex];rfl)
   have t1:∀ν,ixD (tieD x.1) (.int 1) ν=.ok (.int c) ν:=λν=>ue aw (by decide) (by rw[ex];rfl)
   have t2:∀ν,ixD (tieD x.1) (.int 2) ν=.ok (.int m) ν:=λν=>ue aw (by decide) (by rw[ex];rfl)
   have w1:∀ν,ixD (wt M (S.map (·.1))) (.int 1) ν=.ok (.tup ((S.map (·.1)).map tieD)) ν:=λν=>ue aw (by decide) rfl
   generalize tieD x.1=tx at i1 t0 t1 t2
   generalize hf:V x.2=f at *
   have sa:=Md (μ:=μ) (o:=o) (k:=a) (v:=o.getD a 0+f) (by lia)
   have ga:∀v,(o.set a (o.getD a 0+f)).getD v 0=if a=v then o.getD a 0+f else o.getD v 0:=λv=>r9 (by lia)
   have la:(o.set a (o.getD a 0+f)).length=M:=by simp[h1]
   have ra:=dk (μ:=μ++[.l (o.map D.int)]) (k:=a) qc (show a<o.length by lia)
   generalize o.set a (o.getD a 0+f)=o1 at sa ga la
   have sc:=Md (μ:=μ) (o:=o1) (k:=c) (v:=o1.getD c 0-f) (by lia)
   have gc:∀v,(o1.set c (o1.getD c 0-f)).getD v 0=if c=v then o1.getD c 0-f else o1.getD v 0:=λv=>r9 (by lia)
   have lc:(o1.set c (o1.getD c 0-f)).length=M:=by simp[la]
   have rc:=dk (μ:=μ++[.l (o1.map D.int)]) (k:=c) qc (show c<o1.length by lia)
   refine⟨_,_,?_,some (.int j),_,rfl,rfl,lc,λv hv=>?_⟩
   ·have c1:decide (f<0)=false:=by simpa using hv0
    have c2:decide (f > m)=false:=by simpa using hvm
    have cw:=Oj (n:=n) (μ:=μ++[.l (o.map D.int)]) (qk hr _) f
    simp! only[fLp,ic,w1,i1,i2,t0,t1,t2,cw,c1,c2,ra,sa,rc,sc]
   ·rw[gc,ga,ga,EU,hx]
    simp![Option.toList_some,AY,AF,Db,DG,DF,List.sum_nil]
    rw[<-h2 v hv]
    have e:gN V v x=f*(ind a v-ind c v):=by rw[gN,ex,hf];rfl
    rw[e]
    unfold ind
    by_cases e1:a=v
    ·by_cases e2:c=v
     ·subst e1;subst e2;simp
     ·have e3:¬a=c:=λz=>e2 (z.symm.trans e1)
      have e4:¬((c:Int)=(v:Int)):=by lia
      subst e1;simp[e2,e4]
    ·have e4:¬((a:Int)=(v:Int)):=by lia
     by_cases e2:c=v
     ·subst e2;simp[e1,e4];lia
     ·have e3:¬((c:Int)=(v:Int)):=by lia
      simp[e1,e2,e3,e4])
 rw[AX]at h2
 rw[BR]at h2
 refine⟨o,?_⟩
 have hh:∀v:Nat,v<M->o.getD v 0=due*(ind 0 v-ind 1 v):=λv hv=>(h2 v hv).trans (hn v hv)
 have r0:ixD (.loc μ.length) (.int 0) (μ++[.l (o.map D.int)])=.ok (.int due) (μ++[.l (o.map D.int)]):=by
  have:=dk (μ:=μ++[.l (o.map D.int)]) (k:=0) qc (show 0<o.length by lia)
  rw[hh 0 (by lia)]at this
  simpa[ind]using this
 have r1:ixD (.loc μ.length) (.int 1) (μ++[.l (o.map D.int)])=.ok (.int (-due)) (μ++[.l (o.map D.int)]):=by
  have:=dk (μ:=μ++[.l (o.map D.int)]) (k:=1) qc (show 1<o.length by lia)
  rw[hh 1 (by lia)]at this
  simp[ind]at this
  rw[this]
 have rd:o.drop 2=List.replicate (M-2) 0:=by
  refine GP (by simp[h1]) λi e1 e2=>?_
  have e3:i+2<M:=by simp at e2;lia
  have:=hh (2+i) (by lia)
  have i0:ind 0 ((2+i:Nat):Int)=0:=by unfold ind;rw[if_neg (by lia)]
  have i1:ind 1 ((2+i:Nat):Int)=0:=by unfold ind;rw[if_neg (by lia)]
  rw[i0,i1]at this
  rw[List.getElem_drop,List.getElem_replicate]
  simp[h1,show 2+i<M by lia]at this
  exact this
 have s2:slD .z (.loc μ.length) (some 2) none (μ++[.l (o.map D.int)])=.ok (.lst ((List.replicate (M-2) (0:Int)).map D.int)) (μ++[.l (o.map D.int)]):=by
  rw[<-rd];exact U0 (k:=2)
 have w0:∀ν,ixD (wt M (S.map (·.1))) (.int 0) ν=.ok (.int M) ν:=λν=>ue aw (by decide) rfl
 have w1:∀ν,ixD (wt M (S.map (·.1))) (.int 1) ν=.ok (.tup ((S.map (·.1)).map tieD)) ν:=λν=>ue aw (by decide) rfl
 have m2:(M:Int)-2=((M-2:Nat):Int):=by lia
 have rz:=Hj (μ:=μ++[.l (o.map D.int)]) (m:=M-2) (by lia)
 have pz:(D.lst ((List.replicate (M-2) (0:Int)).map D.int)).pure=true:=by
  show(((List.replicate (M-2) (0:Int)).map D.int).all (D.pureN 7))=true
  rw[CW,AL];exact λ_ _=>cq
 have rl:=yr (μ:=μ) (m:=M) (by lia)
 have ce:∀ν:Sto,cpD .eq (.lst ((List.replicate (M-2) (0:Int)).map D.int)) (.lst ((List.replicate (M-2) (0:Int)).map D.int)) ν=.ok (.bl true) ν:=λν=>by rw[ab9 pz pz,Aa 8 _ pz]
 generalize (List.replicate (M-2) (0:Int)).map D.int=Z at *
 generalize (List.replicate M (0:Int)).map D.int=Z1 at *
 simp! only[D_law_flow_good,Y6,bt_len aw,AG,w0,w1,g0,rl,bz (show S.length<=1000000 by lia),el,r0,r1,s2,m2,rz,ce]
theorem Aj{S:List NR}{V:Nm->Int}{M:Nat}(hS:S.length<=1000)(hE:∀x∈S,Ends M V x) :
  ai GL (n+1) iu [wt M (S.map (·.1)),.tup ((S.map λx=>V x.2).map D.int)] μ=.ok (.int (S.map λx=>x.1.getD 3 0*V x.2).sum) μ:=by
 rw[aj xw,run_eq rfl]
 have c:=comp_map (m:=.z) (μ:=μ) (φ:=ai GL n) (tg:=.one 2) (cs:=.nil) (elt:=ir) (σ0:=[some (wt M (S.map (·.1))),some (.tup ((S.map λx=>V x.2).map D.int)),none]) (xs:=zl S) (en:=λp:Nat×NR=>D.int (p.1:Int)) (g:=λp:Nat×NR=>D.int (p.2.1.getD 3 0*V p.2.2)) (by
  rintro⟨j,x⟩ hp
  obtain⟨i,hi⟩:=BN.mp hp
  obtain⟨e1,hx,e3⟩:=pf hi
  dsimp only at e1 hx
  subst e1
  obtain⟨a,c,m,p,ex,ha,hc,hv0,hvm,hp⟩:=(hE x (BK hx)).ex
  have i1:∀ν,ixD (.tup ((S.map (·.1)).map tieD)) (.int j) ν=.ok (tieD x.1) ν:=λν=>gu (by rw[AV,hx];rfl)
  have i2:∀ν,ixD (.tup ((S.map λx=>V x.2).map D.int)) (.int j) ν=.ok (.int (V x.2)) ν:=λν=>gu (en:=D.int) (by rw[AV,hx];rfl)
  have t3:∀ν,ixD (tieD x.1) (.int 3) ν=.ok (.int p) ν:=λν=>ue aw (by decide) (by rw[ex];rfl)
  have w1:∀ν,ixD (wt M (S.map (·.1))) (.int 1) ν=.ok (.tup ((S.map (·.1)).map tieD)) ν:=λν=>ue aw (by decide) rfl
  have e4:x.1.getD 3 0=p:=by rw[ex];rfl
  dsimp only
  rw[e4]
  generalize tieD x.1=tx at i1 t3
  simp! only[uw,ir,w1,i1,i2,t3,op_mul (show CMul p (V x.2)from .left (by lia) (by lia))])
 have er:(zl S).map (λp:Nat×NR=>D.int (p.1:Int))=(List.range S.length).map fun(k:Nat)=>D.int k:=by
  rw[show(λp:Nat×NR=>D.int (p.1:Int))=(λk:Nat=>D.int k)∘Prod.fst from rfl,<-BB]
  congr 1
  simp[zl,EI]
 have es:(zl S).map (λp:Nat×NR=>D.int (p.2.1.getD 3 0*V p.2.2))=(S.map λx=>x.1.getD 3 0*V x.2).map D.int:=by
  rw[BB,show(λp:Nat×NR=>D.int (p.2.1.getD 3 0*V p.2.2))=(λx:NR=>D.int (x.1.getD 3 0*V x.2))∘Prod.snd from rfl,<-BB]
  congr 1
  simp[zl,List.map_snd_zip]
 rw[er,es,g0]at c
 simp! only[D_law_flow_sum,bt_len aw,AG,bz (show S.length<=1000000 by lia),c,bt_sum au (h7 _)]
end
open PySem
theorem Cd(a c:List Span)(v:Int):ao (a++c) v=ao a v+ao c v:=by simp[ao,DG]
theorem Hr{a c:List Span}(h:a.Perm c)(v:Int):ao a v=ao c v:=by
 unfold ao
 induction h with
 |nil=>rfl
 |cons x _ ih=>simp![AF,DF,ih]
 |swap x y l=>simp![AF,DF];lia
 |trans _ _ h1 h2=>rw[h1,h2]
noncomputable def odI(t:Int)(L k:Nat):Int:=(t+k) % L
noncomputable def twI(t:Int)(L W k:Nat):Int:=if k=0/\W<L then odI t L (L-1)else odI t L k
noncomputable def Ce(m len:Int)(k:Nat):Int:=m / (k+1) % (len+1)
noncomputable def spK(t m len:Int)(L W k:Nat):List Span:=(if 0<Ce m len k then [⟨odI t L k,0,Ce m len k⟩]else [])++(if Ce m len k<len then [⟨twI t L W k,Ce m len k,len⟩]else [])
noncomputable def nC(t len:Int)(L W:Nat)(cut:Nat->Int)(k:Nat)(v:Int):Int:=(if odI t L k=v then cut k else 0)+(if twI t L W k=v then len-cut k else 0)
theorem Rq{m len:Int}(h:0<=len)(k:Nat):0<=Ce m len k/\Ce m len k<=len:=by
 have h1:=EE (m / (k+1)) (show len+1≠0 by lia)
 have h2:=DJ (m / (k+1)) (show 0<len+1 by lia)
 unfold Ce
 lia
theorem Mw(t m:Int){len:Int}(h:0<=len)(L W k:Nat)(v:Int):ao (spK t m len L W k) v=nC t len L W (Ce m len) k v:=by
 have c:=Rq (m:=m) h k
 unfold spK nC
 rw[Cd]
 congr 1
 ·by_cases h1:0<Ce m len k
  ·rw[if_pos h1];simp[ao]
  ·rw[if_neg h1]
   have:Ce m len k=0:=by lia
   rw[this];simp[ao]
 ·by_cases h1:Ce m len k<len
  ·rw[if_pos h1];simp[ao]
  ·rw[if_neg h1]
   have:len-Ce m len k=0:=by lia
   rw[this];simp[ao]
theorem U1(t m len:Int)(L W k:Nat):(spK t m len L W k).length<=2:=by
 unfold spK
 rw[AQ]
 split<;>split<;>simp
theorem xj(t m:Int){len:Int}(h:0<=len)(L W:Nat)(v:Int):∀j,ao ((List.range j).flatMap (spK t m len L W)) v=sm j (λk=>nC t len L W (Ce m len) k v)
 |0=>rfl
 |j+1=>by
  rw[DH,CJ,Cd,xj t m h L W v j,ay]
  congr 1
  rw[<-Mw t m h];simp
theorem sd(t m len:Int)(L W:Nat):∀j,((List.range j).flatMap (spK t m len L W)).length<=2*j
 |0=>by simp
 |j+1=>by
  rw[DH,CJ,AQ]
  have h1:=sd t m len L W j
  have h2:=U1 t m len L W j
  have h3:([j].flatMap (spK t m len L W)).length=(spK t m len L W j).length:=by simp
  lia
theorem uz{c:Int}:∀{L:Nat},sm L (λ_=>c)=L*c
 |0=>by rw[f9];lia
 |L+1=>by rw[ay,uz];push_cast;rw[FZ];lia
theorem Mx{f:Nat->Nat->Int}{L:Nat}:∀{W:Nat},sm L (λv=>sm W (λk=>f k v))=sm W (λk=>sm L (f k))
 |0=>by
  rw[f9]
  have:=uz (c:=0) (L:=L)
  rw[Int.mul_zero]at this
  exact this
 |W+1=>by
  have ih:=Mx (f:=f) (L:=L) (W:=W)
  rw[ay (L:=W) (f:=λk=>sm L (f k)),<-ih,<-Ca]
  exact oa λv _=>ay
theorem D8{o x:Int}:∀{L:Nat},sm L (λv=>if o=v then x else 0)=if 0<=o/\o<L then x else 0
 |0=>by rw[f9,if_neg (by lia)]
 |L+1=>by
  rw[ay,D8]
  by_cases h:o=L
  ·rw[if_pos h,if_neg (by lia),if_pos (by lia)];lia
  ·rw[if_neg h,IG]
   by_cases h2:0<=o/\o<L
   ·rw[if_pos h2,if_pos (by lia)]
   ·rw[if_neg h2,if_neg (by lia)]
theorem Hs(t len:Int){L W:Nat}(hL:1<=L/\L<=3)(hW:W<=L){cut:Nat->Int}(hc:∀k,0<=cut k/\cut k<=len):(∀v:Nat,v<L->0<=sm W (λk=>nC t len L W cut k v)/\sm W (λk=>nC t len L W cut k v)<=len)/\sm L (λv=>sm W (λk=>nC t len L W cut k v))=W*len:=by
 have ob:∀k,0<=odI t L k/\odI t L k<L:=λk=>⟨EE _ (by lia),DJ _ (by lia)⟩
 have tb:∀k,0<=twI t L W k/\twI t L W k<L:=λk=>by unfold twI;split<;>exact ob _
 refine⟨?_,?_⟩
 ·intro v hv
  have c0:=hc 0
  have c1:=hc 1
  have c2:=hc 2
  rcases(show L=1\/L=2\/L=3 by lia)with rfl | rfl | rfl
  ·have o:odI t 1 0=v:=by unfold odI;lia
   rcases(show W=0\/W=1 by lia)with rfl | rfl<;>simp[ay,f9,nC,twI,o]<;>lia
  ·rcases(show(odI t 2 0=v/\¬odI t 2 1=v)\/(¬odI t 2 0=v/\odI t 2 1=v)by unfold odI;lia)with⟨o0,o1⟩ | ⟨o0,o1⟩ <;>
   rcases(show W=0\/W=1\/W=2 by lia)with rfl | rfl | rfl<;>simp[ay,f9,nC,twI,o0,o1]<;>lia
  ·rcases(show(odI t 3 0=v/\¬odI t 3 1=v/\¬odI t 3 2=v)\/(¬odI t 3 0=v/\odI t 3 1=v/\¬odI t 3 2=v)\/(¬odI t 3 0=v/\¬odI t 3 1=v/\odI t 3 2=v)by unfold odI;lia)with⟨o0,o1,o2⟩ | ⟨o0,o1,o2⟩ | ⟨o0,o1,o2⟩ <;>
   rcases(show W=0\/W=1\/W=2\/W=3 by lia)with rfl | rfl | rfl | rfl<;>simp[ay,f9,nC,twI,o0,o1,o2]<;>lia
 ·rw[Mx,<-uz]
  refine oa λk _=>?_
  unfold nC
  rw[Ca,D8,D8,if_pos (ob k),if_pos (tb k)]
  lia
section
variable{n:Nat}{μ ρ:Sto}{φ:Phi}{σ:Sl}
theorem F7{α:Type}(p:α->Bool)(f:α->Int):∀l:List α,((l.filter p).map f).sum=(l.map λx=>if p x=true then f x else 0).sum
 | []=>rfl
 |x::l=>by
  rw[List.filter_cons,AF,DF,<-F7 p f l]
  split
  ·simp
  ·simp
theorem My(ss:List Span)(k:Int):ai GL (n+1) du [.tup (ss.map ba),.int k] μ=.ok (.int (ao ss k)) μ:=by
 rw[aj z9,run_eq rfl]
 have x0:∀(s:Span) (ν:Sto),ixD (ba s) (.int 0) ν=.ok (.int s.lamp) ν:=λ_ _=>rfl
 have x1:∀(s:Span) (ν:Sto),ixD (ba s) (.int 1) ν=.ok (.int s.start) ν:=λ_ _=>rfl
 have x2:∀(s:Span) (ν:Sto),ixD (ba s) (.int 2) ν=.ok (.int s.fin) ν:=λ_ _=>rfl
 have c1:mj (ai GL n) .z (.one 1) gi gj [some (.int k),none] (ss.map ba,none) μ=.ok (.lst (((ss.filter λs=>decide (s.lamp=k)).map λs=>s.fin-s.start).map D.int)) μ:=by
  rw[qw (en:=ba) (g:=λs:Span=>D.int (s.fin-s.start)) (p:=λs=>decide (s.lamp=k)) λs _=>by
   by_cases h:s.lamp=k
   ·simp! only[uw,gi,gj,x0,x1,x2,h,if_true]
   ·simp! only[uw,gi,gj,x0,x1,x2,h,if_false,BA]]
  rw[g0,BB];rfl
 have e:((ss.filter λs=>decide (s.lamp=k)).map λs=>s.fin-s.start).sum=ao ss k:=by
  rw[F7]
  unfold ao
  congr 1
  refine CH λs _=>?_
  simp
 have ks:kSeq (.tup (ss.map ba)) μ=.ok (ss.map ba,none) μ:=rfl
 simp! only[D_law_burns_3,ks,c1,bt_sum au (h7 _),e]
theorem xk(hr:i6 μ)(ss:List Span)(k:Int):iq (ai GL (n+1)) false du [.tup (ss.map ba),.int k] μ=.ok (.int (ao ss k)) μ:=bt (My ss k) rfl rfl hr
theorem F8{X:List Span}{s:Span}(hl:X.length<=900):mtD .append (.loc μ.length) [ba s] (μ++[.l (X.map ba)])=.ok .non (μ++[.l ((X++[s]).map ba)]):=by
 rw[wj (wm s) (by rw[AG];lia),AY];rfl
noncomputable def Rr(s:Span):List Int:=[s.lamp,s.start,s.fin]
noncomputable def unK:List Int->Span
 | [a,b,c]=>⟨a,b,c⟩
 |_=>⟨0,0,0⟩
theorem Ht(ss:List Span)(hl:ss.length<=1000):∃ss':List Span,ss'.Perm ss/\∀μ:Sto,btD .sortedT .z [.loc (List.length μ)] (μ++[.l (ss.map ba)])=.ok (.lst (ss'.map ba)) (μ++[.l (ss.map ba)]):=by
 have hp:(gb Lp.lexLt (ss.map Rr)).Perm (ss.map Rr):=jg _
 have e0:ss.map ba=(ss.map Rr).map tieD:=by rw[BB];rfl
 refine⟨(gb Lp.lexLt (ss.map Rr)).map unK,?_,λμ=>?_⟩
 ·have:=hp.map unK
  rw[BB,show unK∘Rr=id from rfl,List.map_id]at this
  exact this
 ·have ha:((ss.map Rr).all λr=>!r.isEmpty)=true:=by rw[CW,AL];exact λ_ _=>rfl
  have e1:((gb Lp.lexLt (ss.map Rr)).map unK).map ba=(gb Lp.lexLt (ss.map Rr)).map tieD:=by
   rw[BB]
   refine CH λr hr=>?_
   obtain⟨s,_,rfl⟩:=BW.mp (hp.mem_iff.mp hr)
   rfl
  rw[e1,e0]
  simp![btD,nk,Eh,Lp.listOf,d6,Da,Af,AG,hl,ha,and_self,if_true,g0]
theorem Mz(hr:i6 μ)(a b c:Int){L:Nat}(hL:1<=L/\L<=3){len:Int}(hl:1<=len/\len<=1000):∃(W:Nat) (ss:List Span) (ρ:Sto),W<=L/\ss.length<=6/\(∀v:Nat,v<L->0<=ao ss v/\ao ss v<=len)/\sm L (λv=>ao ss v)=W*len /\
  ai GL (n+2) nz [.lst ([a,b,c].map D.int),.int L,.int len] μ=.ok (.tup [.int W,.tup (ss.map ba)]) (μ++ρ):=by
 rw[aj Dm,run_eq rfl]
 obtain⟨W,hW⟩:∃W:Nat,(W:Int)=c6 a % (L+1):=⟨(c6 a % (L+1)).toNat,by have:=EE (c6 a) (show(L:Int)+1≠0 by lia);lia⟩
 have hWL:W<=L:=by have:=DJ (c6 a) (show(0:Int)<L+1 by lia);lia
 have x0:∀ν,ixD (.lst ([a,b,c].map D.int)) (.int 0) ν=.ok (.int a) ν:=λ_=>rfl
 have x1:∀ν,ixD (.lst ([a,b,c].map D.int)) (.int 1) ν=.ok (.int b) ν:=λ_=>rfl
 have x2:∀ν,ixD (.lst ([a,b,c].map D.int)) (.int 2) ν=.ok (.int c) ν:=λ_=>rfl
 generalize D.lst ([a,b,c].map D.int)=cs at x0 x1 x2 ⊢
 have c1:mj (ai GL (n+1)) .z (.one 2) .nil lj [some (.int (c6 b)),some (.int L),none] ((List.range L).map fun(k:Nat)=>D.int k,none) μ=.ok (.lst (((List.range L).map λk=>odI (c6 b) L k).map D.int)) μ:=by
  rw[comp_map (en:=fun(k:Nat)=>D.int k) (g:=λk:Nat=>D.int (odI (c6 b) L k)) λk hk=>by
   simp! only[uw,lj,op_mod (show(0:Int)<L by lia),odI]]
  rw[g0,BB];rfl
 have ox:∀(k:Nat) (ν:Sto),k<L->ixD (.lst (((List.range L).map λk=>odI (c6 b) L k).map D.int)) (.int k) ν=.ok (.int (odI (c6 b) L k)) ν:=λk ν hk=>by
  have:=dk (μ:=ν) (k:=k) (x:=.lst (((List.range L).map λk=>odI (c6 b) L k).map D.int)) au (by simpa using hk)
  rw[uy hk]at this
  exact this
 have ol:∀(ν:Sto),ixD (.lst (((List.range L).map λk=>odI (c6 b) L k).map D.int)) (.int ((L:Int)-1)) ν=.ok (.int (odI (c6 b) L (L-1))) ν:=λν=>by
  have:=ox (L-1) ν (by lia)
  rw[show((L-1:Nat):Int)=(L:Int)-1 by lia]at this
  exact this
 generalize D.lst (((List.range L).map λk=>odI (c6 b) L k).map D.int)=od at c1 ox ol
 have e0:mkL .l [] μ=.ok (.loc μ.length) (μ++[.l (([]:List Span).map ba)]):=Hw rfl
 obtain⟨σ',μ',el,v7,v8,v9,v10,rfl,rfl⟩:=d9 (φ:=ai GL (n+1)) (μ:=μ++[.l (([]:List Span).map ba)]) (tg:=.one 7) (b:=lp) (xs:=List.range W) (en:=fun(k:Nat)=>D.int k)
  (λj σ μ'=>∃v7 v8 v9 v10,σ=[some cs,some (.int L),some (.int len),some (.int W),some (.int (c6 b)),some od,some (.loc μ.length),v7,v8,v9,v10]/\μ'=μ++[.l (((List.range j).flatMap (spK (c6 b) (c6 c) len L W)).map ba)])
  ⟨none,none,none,none,rfl,rfl⟩ (by
   rintro j i σ μ' hk ⟨v7,v8,v9,v10,rfl,rfl⟩
   have hj:=(AB.mp hk).1
   simp![AX]at hj
   rw[CI hj]at hk
   cases hk
   have lX:=sd (c6 b) (c6 c) len L W j
   rw[DH,CJ,show [j].flatMap (spK (c6 b) (c6 c) len L W)=spK (c6 b) (c6 c) len L W j by simp]
   generalize (List.range j).flatMap (spK (c6 b) (c6 c) len L W)=X at lX ⊢
   have cm:=mw (n:=n) (μ:=μ++[.l (X.map ba)]) (qk hr _) c
   have dv:opI .FloorDiv (c6 c) ((j:Int)+1) (μ++[.l (X.map ba)])=.ok (.int (c6 c / ((j:Int)+1))) (μ++[.l (X.map ba)]):=ym (by lia) (by lia)
   have md:opI .Mod (c6 c / ((j:Int)+1)) (len+1) (μ++[.l (X.map ba)])=.ok (.int (Ce (c6 c) len j)) (μ++[.l (X.map ba)]):=op_mod (by lia)
   have oj:=ox j (μ++[.l (X.map ba)]) (by lia)
   have s1:∀(x y z:Int),(D.tup [.int x,.int y,.int z])=ba ⟨x,y,z⟩:=λ_ _ _=>rfl
   refine⟨[some cs,some (.int L),some (.int len),some (.int W),some (.int (c6 b)),some od,some (.loc μ.length),some (.int j),some (.int (Ce (c6 c) len j)),some (.int (odI (c6 b) L j)),some (.int (twI (c6 b) L W j))],_,?_,_,_,_,_,rfl,rfl⟩
   have hz:decide ((j:Int)=0)=decide (j=0):=by congr 1;simp
   have hw:decide ((W:Int)<(L:Int))=decide (W<L):=by congr 1;simp
   unfold spK twI
   generalize hcut:Ce (c6 c) len j=cut at *
   generalize hod:odI (c6 b) L j=o1 at *
   generalize hol:odI (c6 b) L (L-1)=o2 at *
   have a1:∀s:Span,mtD .append (.loc μ.length) [ba s] (μ++[.l (X.map ba)])=.ok .non (μ++[.l ((X++[s]).map ba)]):=λs=>F8 (by lia)
   have a2:∀s s2:Span,mtD .append (.loc μ.length) [ba s] (μ++[.l ((X++[s2]).map ba)])=.ok .non (μ++[.l ((X++[s2,s]).map ba)]):=λs s2=>by rw[F8 (by simp;lia)];simp
   have g2:decide (cut > 0)=decide (0<cut):=rfl
   rcases(show(j=0)=True\/(j=0)=False by by_cases h:j=0<;>simp[h])with k1 | k1<;>by_cases k2:W<L<;>by_cases h2:0<cut<;>by_cases h3:cut<len <;>
    simp! only[fLp,lp,x2,cm,dv,md,oj,ol,hz,hw,k1,k2,g2,h2,h3,uf,s1,a1,a2,and_self,if_true,if_false,DT,ED,EH,and_true,true_and,and_false,false_and])
 rw[AX,Db]at el
 rw[Db]at e0
 obtain⟨ss,hp,es⟩:=Ht ((List.range W).flatMap (spK (c6 b) (c6 c) len L W)) (by have:=sd (c6 b) (c6 c) len L W W;lia)
 have nm:=Hs (c6 b) len hL hWL (λk=>Rq (m:=c6 c) (show 0<=len by lia) k)
 have et:∀v,ao ss v=sm W (λk=>nC (c6 b) len L W (Ce (c6 c) len) k v):=λv=>by rw[Hr hp,xj _ _ (by lia)]
 refine⟨W,ss,[.l (((List.range W).flatMap (spK (c6 b) (c6 c) len L W)).map ba)],hWL,?_,λv hv=>?_,?_,?_⟩
 ·rw[hp.length_eq];have:=sd (c6 b) (c6 c) len L W W;lia
 ·rw[et];exact nm.1 v hv
 ·rw[<-nm.2];exact oa λv _=>et v
 ·have q1:=mw (n:=n) hr a
  have q2:=mw (n:=n) hr b
  have es':=es μ
  generalize ((List.range W).flatMap (spK (c6 b) (c6 c) len L W)).map ba=X at *
  simp! only[D_law_night,x0,x1,q1,q2,op_mod (show(0:Int)<(L:Int)+1 by lia),<-hW,bz (show L<=1000000 by lia),c1,e0,bz (show W<=1000000 by lia),el,es',bt_tuple au]
end
open PySem
noncomputable def yw(c m:Int):Int:=if c6 c % 3 > 0 then m else m+c6 c / 3 % 5
theorem F9(c m:Int):m<=yw c m/\yw c m<=m+4:=by
 unfold yw
 split<;>lia
noncomputable def poI(ss:List Span)(ts cs:List Int)(k:Nat):Int:=max 0 (ao ss k-ts.getD k 0)+c6 (cs.getD k 0) % 3*(c6 (cs.getD k 0) / 3 % 2)
theorem acp(ss:List Span)(ts cs:List Int)(k:Nat):0<=poI ss ts cs k/\ao ss k<=ts.getD k 0+poI ss ts cs k/\poI ss ts cs k<=max 0 (ao ss k-ts.getD k 0)+2:=by
 unfold poI
 generalize c6 (cs.getD k 0)=e
 rcases(show e / 3 % 2=0\/e / 3 % 2=1 by lia)with h | h<;>rw[h]<;>lia
noncomputable def idI(rs:List Tn)(c:Int)(k:Nat):List Int:=(((List.range rs.length).filter λd=>decide (ao ((rs.getD d ⟨0,0,[],[]⟩).spans) k=0)).filter λd=>decide (c6 c / 2 ^ d % 2=1)).map λd:Nat=>(d:Int)
theorem Zh(rs:List Tn)(c:Int)(k:Nat):(idI rs c k).Pairwise (· < ·)/\∀a∈idI rs c k,(0<=a/\a<rs.length)/\∀(d:Nat) (t:Tn),(d:Int)=a->rs[d]? = some t->tk t k=0:=by
 unfold idI
 constructor
 ·rw[List.pairwise_map]
  refine List.Pairwise.imp ?_ (((List.pairwise_lt_range (n:=rs.length)).filter _).filter _)
  intro a c h
  exact Int.ofNat_lt.mpr h
 ·intro a ha
  obtain⟨d,hd,rfl⟩:=BW.mp ha
  have h1:=(FN.mp (FN.mp hd).1).1
  have h2:=(FN.mp (FN.mp hd).1).2
  have h3:d<rs.length:=by simpa using h1
  refine⟨⟨by lia,by lia⟩,λd' t e ht=>?_⟩
  have e:d'=d:=by lia
  subst e
  simp![BM,ht,Go,decide_eq_true_eq]at h2
  exact h2
noncomputable def sB(q:Int)(b:Book):Book:=⟨b.store*q,b.oil*q,b.lamps.map λl=>⟨l.tank*q,l.oil*q,l.away⟩,b.days.map λy=>⟨y.boat*q,y.most*q,y.price,y.length*q,y.wanted⟩⟩
noncomputable def sS(q:Int)(s:Span):Span:=⟨s.lamp,s.start*q,s.fin*q⟩
noncomputable def sT(q:Int)(t:Tn):Tn:=⟨t.taken*q,t.bought*q,t.poured.map (· * q),t.spans.map (sS q)⟩
section
variable{n:Nat}{μ ρ:Sto}{φ:Phi}{σ:Sl}
theorem Pk{α:Type}{g:Gd}{tg:Tg}{b:Sms}{xs:List α}{en:α->D}(I:Nat->Sl->Sto->Prop)(hg:∀k σ μ,I k σ μ->gd g μ)(h0:I 0 σ μ)(st:∀(k:Nat) a σ μ,xs[k]? = some a->I k σ μ->∃σ' μ',fLp φ tg b (en a) σ μ=.ok (.nx σ') μ'/\I (k+1) σ' μ') :
  ∃σ' μ',Dh φ tg b σ (xs.map en,g) μ=.ok (.nx σ') μ'/\I xs.length σ' μ':=by
 obtain⟨fl,μ',e,r⟩:=Bm (g:=g) (f:=fLp φ tg b) (ds:=xs.map en) (σ:=σ) (μ:=μ) I (λfl μ'=>∃σ',fl=.nx σ'/\I xs.length σ' μ') 0 hg h0 (λj d σ μ ej i=>by
  rw[AV]at ej
  cases ex:xs[j]? with
  |none=>rw[ex]at ej;cases ej
  |some a =>
   rw[ex]at ej
   simp![DV,BX]at ej
   subst ej
   rw[FK]at i
   obtain⟨σ',μ',e1,i1⟩:=st j a σ μ ex i
   exact⟨.nx σ',μ',e1,by rw[FK];exact i1⟩) λσ μ i=>⟨σ,rfl,by simpa using i⟩
 obtain⟨σ',rfl,i⟩:=r
 exact⟨σ',μ',e,i⟩
theorem M0(hr:i6 μ)(c m:Int):ai GL (n+2) dq [.int c,.int m] μ=.ok (.int (yw c m)) μ:=by
 rw[aj z8,run_eq rfl]
 have cm:=mw (n:=n) hr c
 by_cases h:c6 c % 3 > 0
 ·simp! only[D_law_slack_2,cm,op_mod (show(0:Int)<3 by decide),h,yw,if_true]
 ·simp! only[D_law_slack_2,cm,op_mod (show(0:Int)<3 by decide),h,ym (show(0:Int)<3 by decide) (show(3:Int)<1073741824 by decide),op_mod (show(0:Int)<5 by decide),yw,if_false]
theorem xm(hr:i6 μ)(c m:Int):iq (ai GL (n+2)) false dq [.int c,.int m] μ=.ok (.int (yw c m)) μ:=bt (M0 hr c m) rfl rfl hr
theorem Ga{a:Nat}{o p:O}(h:μ[a]? = some o):(μ++[p])[a]? = some o:=by rw[AN (AB.mp h).1];exact h
theorem u0{a:Nat}{ds:List D}(h:μ[a]? = some (.l ds)):g7 μ (.loc a)=some ds:=by simp![g7,h]
theorem M4(hr:i6 μ)(ss:List Span){a:Nat}{ts cs:List Int}(ha:μ[a]? = some (.l (ts.map D.int)))(hl:ts.length<=8)(hc:ts.length<=cs.length):ai GL (n+2) kf [.tup (ss.map ba),.loc a,.lst (cs.map D.int)] μ=.ok (.lst (((List.range ts.length).map (poI ss ts cs)).map D.int)) (μ++[.dead]):=by
 rw[aj By,run_eq rfl]
 have e0:mkL .l [] μ=.ok (.loc μ.length) (μ++[.l []]):=Hw rfl
 obtain⟨σ',μ',el,v4,v5,rfl,rfl⟩:=d9 (φ:=ai GL (n+1)) (μ:=μ++[.l []]) (tg:=.one 4) (b:=jw) (xs:=List.range ts.length) (en:=fun(k:Nat)=>D.int k)
  (λj σ μ'=>∃v4 v5,σ=[some (.tup (ss.map ba)),some (.loc a),some (.lst (cs.map D.int)),some (.loc μ.length),v4,v5]/\μ'=μ++[.l (((List.range j).map (poI ss ts cs)).map D.int)])
  ⟨none,none,rfl,rfl⟩ (by
   rintro j i σ μ' hk ⟨v4,v5,rfl,rfl⟩
   have hj:=(AB.mp hk).1
   simp![AX]at hj
   rw[CI hj]at hk
   cases hk
   have e1:((List.range (j+1)).map (poI ss ts cs)).map D.int=((List.range j).map (poI ss ts cs)).map D.int++[.int (poI ss ts cs j)]:=by rw[DH,AY,AY];rfl
   rw[e1]
   have lX:(((List.range j).map (poI ss ts cs)).map D.int).length<=8:=by simp;lia
   generalize ((List.range j).map (poI ss ts cs)).map D.int=X at lX ⊢
   have H:=qk hr X
   have cm:=mw (n:=n) H (cs.getD j 0)
   have cb:=xk (n:=n) H ss (j:Int)
   have i1:=dk (μ:=μ++[.l X]) (x:=.lst (cs.map D.int)) (k:=j) au (show j<cs.length by lia)
   have i2:=dk (μ:=μ++[.l X]) (x:=.loc a) (k:=j) (u0 (Ga ha)) hj
   have mt:=wj (μ:=μ) (ds:=X) (d:=.int (poI ss ts cs j)) rfl (by lia)
   have m3:=EE (c6 (cs.getD j 0)) (show(3:Int)≠0 by decide)
   have m4:=DJ (c6 (cs.getD j 0)) (show(0:Int)<3 by decide)
   refine⟨[some (.tup (ss.map ba)),some (.loc a),some (.lst (cs.map D.int)),some (.loc μ.length),some (.int j),some (.int (c6 (cs.getD j 0)))],_,?_,_,_,rfl,rfl⟩
   unfold poI at mt ⊢
   simp! only[fLp,jw,i1,cm,uf,cb,i2,bt_max,op_mod (show(0:Int)<3 by decide),ym (show(0:Int)<3 by decide) (show(3:Int)<1073741824 by decide),op_mod (show(0:Int)<2 by decide),op_mul (show CMul (c6 (cs.getD j 0) % 3) (c6 (cs.getD j 0) / 3 % 2)from .left (by lia) (by lia)),mt])
 rw[AX]at el
 have ef:∀v4 v5 (ds:List D),evE (ai GL (n+1)) (.frz 3) [some (.tup (ss.map ba)),some (.loc a),some (.lst (cs.map D.int)),some (.loc μ.length),v4,v5] (μ++[.l ds])=.ok (.lst ds) (μ++[.dead]):=λv4 v5 ds=>by
  rw[Ul rfl d6,kj]
 simp! only[D_law_poured,e0,bt_len (u0 (Ga ha)),AG,bz (show ts.length<=1000000 by lia),el,ef]
theorem U2(hr:i6 μ){a:Nat}{rs:List Tn}(ha:μ[a]? = some (.l (rs.map eTn)))(hl:rs.length<=16)(c:Int)(k:Nat):ai GL (n+2) mn [.loc a,.int c,.int k] μ=.ok (lu (idI rs c k)) μ:=by
 rw[aj Hd,run_eq rfl]
 have c1:mj (ai GL (n+1)) .z (.one 2) jb jc [some (.loc a),some (.int k),none] ((List.range rs.length).map fun(k:Nat)=>D.int k,none) μ=.ok (.lst (((List.range rs.length).filter λd=>decide (ao ((rs.getD d ⟨0,0,[],[]⟩).spans) k=0)).map λd:Nat=>D.int d)) μ:=by
  rw[qw (en:=fun(k:Nat)=>D.int k) (g:=λd:Nat=>D.int d) (p:=λd=>decide (ao ((rs.getD d ⟨0,0,[],[]⟩).spans) k=0)) λd hd=>by
   have hd:d<rs.length:=by simpa using hd
   obtain⟨t,ht⟩:∃t,rs[d]? = some t:=⟨rs[d],AA hd⟩
   have e1:rs.getD d ⟨0,0,[],[]⟩=t:=by rw[BM,ht];rfl
   have i1:ixD (.loc a) (.int d) μ=.ok (eTn t) μ:=Bq (u0 ha) (by rw[AV,ht];rfl)
   have i2:ixD (eTn t) (.int 3) μ=.ok (.tup (t.spans.map ba)) μ:=rfl
   have cb:=xk (n:=n) hr t.spans (k:Int)
   rw[e1]
   by_cases h:ao t.spans (k:Int)=0
   ·simp! only[uw,jb,jc,i1,i2,cb,h,if_true]
   ·simp! only[uw,jb,jc,i1,i2,cb,h,if_false,BA]]
  rw[g0]
 have c2:mj (ai GL (n+1)) .z (.one 1) jd je [some (.int c),none] (((List.range rs.length).filter λd=>decide (ao ((rs.getD d ⟨0,0,[],[]⟩).spans) k=0)).map λd:Nat=>D.int d,none) μ=.ok (.lst ((idI rs c k).map D.int)) μ:=by
  rw[qw (en:=fun(k:Nat)=>D.int k) (g:=λd:Nat=>D.int d) (p:=λd=>decide (c6 c / 2 ^ d % 2=1)) λd hd=>by
   have cm:=mw (n:=n) hr c
   have ek:(d:Int).toNat=d:=DR d
   by_cases h:c6 c / 2 ^ d % 2=1
   ·simp! only[uw,jd,je,cm,op_shr (show(0:Int)<=(d:Int)by lia),ek,op_mod (show(0:Int)<2 by decide),h,if_true]
   ·simp! only[uw,jd,je,cm,op_shr (show(0:Int)<=(d:Int)by lia),ek,op_mod (show(0:Int)<2 by decide),h,if_false,BA]]
  rw[g0,idI,BB];rfl
 generalize ((List.range rs.length).filter λd=>decide (ao ((rs.getD d ⟨0,0,[],[]⟩).spans) k=0)).map (λd:Nat=>D.int d)=X at c1 c2
 have ks:kSeq (.lst X) μ=.ok (X,none) μ:=rfl
 simp! only[D_law_idle,bt_len (u0 ha),AG,bz (show rs.length<=1000000 by lia),c1,ks,c2,bt_tuple au,lu]
theorem U3(hr:i6 μ){a:Nat}{rs:List Tn}(ha:μ[a]? = some (.l (rs.map eTn)))(hl:rs.length<=16)(c:Int)(k:Nat):iq (ai GL (n+2)) false mn [.loc a,.int c,.int k] μ=.ok (lu (idI rs c k)) μ:=bt (U2 hr ha hl c k) (by rw[lu];exact ie 7 _) rfl hr
theorem M6{b:Book}{a:Nat}{rs:List Tn}{q:Int}(hq:0<=q/\q<2 ^ 64)(ha:μ[a]? = some (.l (rs.map eTn)))(hl:rs.length<=16):∃ρ,ai GL (n+1) kg [az b,.loc a,.int q] μ=.ok (.tup [az (sB q b),.tup ((rs.map (sT q)).map eTn)]) (μ++ρ):=by
 rw[aj Bz,run_eq rfl]
 have mq:∀i:Int,CMul i q:=λi=>.right (by lia) hq.2
 have c1:mj (ai GL n) .z (.one 1) .nil jx [some (.int q),none] (b.lamps.map de,none) μ=.ok (.lst ((sB q b).lamps.map de)) μ:=by
  rw[comp_map (en:=de) (g:=λl:Lamp=>de ⟨l.tank*q,l.oil*q,l.away⟩) λl _=>by
   have i2:∀ν,ixD (de l) (.int 2) ν=.ok (lu l.away) ν:=λ_=>rfl
   have i1:∀ν,ixD (de l) (.int 1) ν=.ok (.int l.oil) ν:=λ_=>rfl
   simp! only[uw,jx,Li,i1,i2,op_mul (mq _)]
   rfl]
  rw[g0,sB,BB];rfl
 have c2:mj (ai GL n) .z (.one 1) .nil jy [some (.int q),none] (b.days.map ji,none) μ=.ok (.lst ((sB q b).days.map ji)) μ:=by
  rw[comp_map (en:=ji) (g:=λy:Day=>ji ⟨y.boat*q,y.most*q,y.price,y.length*q,y.wanted⟩) λy _=>by
   have i0:∀ν,ixD (ji y) (.int 0) ν=.ok (.int y.boat) ν:=λ_=>rfl
   have i1:∀ν,ixD (ji y) (.int 1) ν=.ok (.int y.most) ν:=λ_=>rfl
   have i2:∀ν,ixD (ji y) (.int 2) ν=.ok (.int y.price) ν:=λ_=>rfl
   have i3:∀ν,ixD (ji y) (.int 3) ν=.ok (.int y.length) ν:=λ_=>rfl
   have i4:∀ν,ixD (ji y) (.int 4) ν=.ok (.int y.wanted) ν:=λ_=>rfl
   simp! only[uw,jy,i0,i1,i2,i3,i4,op_mul (mq _)]
   rfl]
  rw[g0,sB,BB];rfl
 have e0:mkL .l [] μ=.ok (.loc μ.length) (μ++[.l []]):=Hw rfl
 have ks:∀ν:Sto,ν[a]? = some (.l (rs.map eTn))->kSeq (.loc a) ν=.ok (rs.map eTn,some (a,.l (rs.map eTn))) ν:=λν h=>by simp![kSeq,da,h]
 obtain⟨σ',μ',el,v6,v7,v8,v9,v10,rfl,rfl⟩:=Pk (φ:=ai GL n) (g:=some (a,.l (rs.map eTn))) (μ:=μ++[.l []]) (tg:=.many [6,7,8,9]) (b:=j3) (xs:=rs) (en:=eTn)
  (λj σ μ'=>∃v6 v7 v8 v9 v10,σ=[some (az b),some (.loc a),some (.int q),some (.tup ((sB q b).lamps.map de)),some (.tup ((sB q b).days.map ji)),some (.loc μ.length),v6,v7,v8,v9,v10]/\μ'=μ++[.l (((rs.take j).map (sT q)).map eTn)])
  (by rintro k σ μ' ⟨v6,v7,v8,v9,v10,rfl,rfl⟩;exact Ga ha) ⟨none,none,none,none,none,rfl,rfl⟩ (by
   rintro j t σ μ' hk ⟨v6,v7,v8,v9,v10,rfl,rfl⟩
   have hj:=(AB.mp hk).1
   have e1:((rs.take (j+1)).map (sT q)).map eTn=((rs.take j).map (sT q)).map eTn++[eTn (sT q t)]:=by rw[EU,hk];simp
   rw[e1]
   have lX:(((rs.take j).map (sT q)).map eTn).length<=16:=by simp;lia
   generalize ((rs.take j).map (sT q)).map eTn=X at lX ⊢
   have d1:mj (ai GL n) .z (.one 1) .nil jz [some (.int q),none] (t.spans.map ba,none) (μ++[.l X])=.ok (.lst ((t.spans.map (sS q)).map ba)) (μ++[.l X]):=by
    rw[comp_map (en:=ba) (g:=λs:Span=>ba (sS q s)) λs _=>by
     have x0:∀ν:Sto,ixD (ba s) (.int 0) ν=.ok (.int s.lamp) ν:=λ_=>rfl
     have x1:∀ν:Sto,ixD (ba s) (.int 1) ν=.ok (.int s.start) ν:=λ_=>rfl
     have x2:∀ν:Sto,ixD (ba s) (.int 2) ν=.ok (.int s.fin) ν:=λ_=>rfl
     simp! only[uw,jz,x0,x1,x2,op_mul (mq _)]
     rfl]
    rw[g0,BB];rfl
   have d2:mj (ai GL n) .z (.one 1) .nil j0 [some (.int q),none] (t.poured.map D.int,none) (μ++[.l X])=.ok (.lst ((t.poured.map (· * q)).map D.int)) (μ++[.l X]):=by
    rw[comp_map (en:=D.int) (g:=λi:Int=>D.int (i*q)) λi _=>by
     simp! only[uw,j0,op_mul (mq _)]]
    rw[g0,BB];rfl
   have mt:=wj (μ:=μ) (ds:=X) (d:=eTn (sT q t)) (Dw _) (by lia)
   have et:(D.tup [.int (t.taken*q),.int (t.bought*q),.tup ((t.poured.map (· * q)).map D.int),.tup ((t.spans.map (sS q)).map ba)])=eTn (sT q t):=rfl
   have k1:kSeq (.tup (t.spans.map ba)) (μ++[.l X])=.ok (t.spans.map ba,none) (μ++[.l X]):=rfl
   have k2:kSeq (.tup (t.poured.map D.int)) (μ++[.l X])=.ok (t.poured.map D.int,none) (μ++[.l X]):=rfl
   generalize (t.spans.map (sS q)).map ba=Y1 at d1 et
   generalize (t.poured.map (· * q)).map D.int=Y2 at d2 et
   refine⟨[some (az b),some (.loc a),some (.int q),some (.tup ((sB q b).lamps.map de)),some (.tup ((sB q b).days.map ji)),some (.loc μ.length),some (.int t.taken),some (.int t.bought),some (.tup (t.poured.map D.int)),some (.tup (t.spans.map ba)),some (.tup Y1)],_,?_,_,_,_,_,_,rfl,rfl⟩
   simp! only[fLp,j3,D5,k1,d1,bt_tuple au,uf,op_mul (mq _),k2,d2,et,mt])
 rw[BR]at el
 refine⟨[.l ((rs.map (sT q)).map eTn)],?_⟩
 have eb:(D.tup [.int (b.store*q),.int (b.oil*q),.tup ((sB q b).lamps.map de),.tup ((sB q b).days.map ji)])=az (sB q b):=rfl
 have k1:kSeq (.tup (b.lamps.map de)) μ=.ok (b.lamps.map de,none) μ:=rfl
 have k2:kSeq (.tup (b.days.map ji)) μ=.ok (b.days.map ji,none) μ:=rfl
 have bx1:∀ν,ixD (az b) (.int 1) ν=.ok (.int b.oil) ν:=λ_=>rfl
 have sl:g7 (μ++[.l ((rs.map (sT q)).map eTn)]) (.loc μ.length)=some ((rs.map (sT q)).map eTn):=qc
 generalize (rs.map (sT q)).map eTn=Z at *
 generalize (sB q b).lamps.map de=Z1 at *
 generalize (sB q b).days.map ji=Z2 at *
 simp! only[D_law_scaled,t6,k1,c1,bt_tuple au,rq,k2,c2,e0,ks _ (Ga ha),el,Ui,bx1,op_mul (mq _),eb,bt_tuple sl]
end
open PySem
noncomputable def Q4(a b:List Int)(c d:List D):Sto:=[.l (a.map D.int),.l (b.map D.int),.l c,.l d]
theorem j7{a b:List Int}{c d:List D}:i6 (Q4 a b c d):=rfl
theorem afp{a b:List Int}{c d:List D}:(Q4 a b c d)[0]? = some (.l (a.map D.int)):=rfl
theorem M7{a b:List Int}{c d:List D}:g7 (Q4 a b c d) (.loc 0)=some (a.map D.int):=rfl
theorem Zi{a b:List Int}{c d:List D}:g7 (Q4 a b c d) (.loc 1)=some (b.map D.int):=rfl
theorem Rt{a b:List Int}{c d:List D}{k:Nat}{v:Int}(hk:k<a.length):Cg (.loc 0) (.int k) (.int v) (Q4 a b c d)=.ok () (Q4 (a.set k v) b c d):=by
 have e1:ixN (a.map D.int).length (k:Int)=some k:=by simp[ixN];lia
 simp![Cg,Q4,DM,ik,e1,fits,rp,if_true,putL,Res.br,DI,JD]
theorem Zj{a b:List Int}{c d:List D}{k:Nat}{v:Int}(hk:k<b.length):Cg (.loc 1) (.int k) (.int v) (Q4 a b c d)=.ok () (Q4 a (b.set k v) c d):=by
 have e1:ixN (b.map D.int).length (k:Int)=some k:=by simp[ixN];lia
 simp![Cg,Q4,DL,DM,ik,e1,fits,rp,if_true,putL,Res.br,EK,DI,JD]
theorem Zk{a b:List Int}{c d:List D}{x:D}(hx:x.pure=true)(hl:c.length<1000):mtD .append (.loc 2) [x] (Q4 a b c d)=.ok .non (Q4 a b (c++[x]) d):=by
 have:=jl
 simp![mtD,Ct,Q4,DL,DM,ik,mtL,nk,fits,hx,putL,EK,DI]
 rw[if_pos ⟨trivial,by lia⟩]
theorem Zl{a b:List Int}{c d:List D}{x:D}(hx:x.pure=true)(hl:d.length<1000):mtD .append (.loc 3) [x] (Q4 a b c d)=.ok .non (Q4 a b c (d++[x])):=by
 have:=jl
 simp![mtD,Ct,Q4,DL,DM,ik,mtL,nk,fits,hx,putL,EK,DI]
 rw[if_pos ⟨trivial,by lia⟩]
theorem acq{φ:Phi}{σ:Sl}{es:Exs}{a b:List Int}{c d:List D}:kM φ .append es σ (.loc 2) (Q4 a b c d)=(gn φ es σ (Q4 a b c d)).bind (mtD .append (.loc 2)):=Ko rfl
theorem acr{φ:Phi}{σ:Sl}{es:Exs}{a b:List Int}{c d:List D}:kM φ .append es σ (.loc 3) (Q4 a b c d)=(gn φ es σ (Q4 a b c d)).bind (mtD .append (.loc 3)):=Ko rfl
section
variable{n:Nat}{φ:Phi}
theorem Pl{L:Nat}(hL:L<=3)(ss:List Span){ps a0 b0:List Int}(hp:ps.length=L)(ha0:a0.length=L)(hb0:b0.length=L)(c d:List D){x0 x1 x3 x4 x6 x7 x9 x12 x13 x14 x15 x16 x24 x25 x26:Option D}(w:Nat->Option D) :
  ∃(a b:List Int) (v19:Option D),a.length=L/\b.length=L/\(∀k,k<L->a.getD k 0=a0.getD k 0+ps.getD k 0-ao ss k)/\(∀k,k<L->b.getD k 0=max (b0.getD k 0) (a0.getD k 0+ps.getD k 0)) /\
   Dh (ai GL (n+1)) (.one 19) fb [x0,x1,some (.int L),x3,x4,some (.loc 0),x6,x7,some (.loc 1),x9,some (.loc 2),some (.loc 3),x12,x13,x14,x15,x16,some (.tup (ss.map ba)),some (.lst (ps.map D.int)),w 0,w 1,w 2,w 3,w 4,x24,x25,x26] ((List.range L).map fun(k:Nat)=>D.int k,none) (Q4 a0 b0 c d) =
    .ok (.nx [x0,x1,some (.int L),x3,x4,some (.loc 0),x6,x7,some (.loc 1),x9,some (.loc 2),some (.loc 3),x12,x13,x14,x15,x16,some (.tup (ss.map ba)),some (.lst (ps.map D.int)),v19,w 1,w 2,w 3,w 4,x24,x25,x26]) (Q4 a b c d):=by
 obtain⟨σ',μ',el,a,b,v19,rfl,rfl,h1,h2,h3,h4⟩:=d9 (φ:=ai GL (n+1)) (tg:=.one 19) (b:=fb) (xs:=List.range L) (en:=fun(k:Nat)=>D.int k)
  (λj σ μ'=>∃(a b:List Int) (v19:Option D),σ=[x0,x1,some (.int L),x3,x4,some (.loc 0),x6,x7,some (.loc 1),x9,some (.loc 2),some (.loc 3),x12,x13,x14,x15,x16,some (.tup (ss.map ba)),some (.lst (ps.map D.int)),v19,w 1,w 2,w 3,w 4,x24,x25,x26]/\μ'=Q4 a b c d/\a.length=L/\b.length=L/\(∀k,k<L->a.getD k 0=if k<j then a0.getD k 0+ps.getD k 0-ao ss k else a0.getD k 0)/\(∀k,k<L->b.getD k 0=if k<j then max (b0.getD k 0) (a0.getD k 0+ps.getD k 0)else b0.getD k 0))
  ⟨a0,b0,w 0,rfl,rfl,ha0,hb0,λk _=>by simp,λk _=>by simp⟩ (by
   rintro j i σ μ' hk ⟨a,b,v19,rfl,rfl,h1,h2,h3,h4⟩
   have hj:=(AB.mp hk).1
   simp![AX]at hj
   rw[CI hj]at hk
   cases hk
   have r1:=dk (μ:=Q4 a b c d) (k:=j) M7 (show j<a.length by lia)
   have r2:∀ν,ixD (.lst (ps.map D.int)) (.int j) ν=.ok (.int (ps.getD j 0)) ν:=λν=>dk au (show j<ps.length by lia)
   have s1:=Rt (a:=a) (b:=b) (c:=c) (d:=d) (k:=j) (v:=a.getD j 0+ps.getD j 0) (by lia)
   have g1:∀k,(a.set j (a.getD j 0+ps.getD j 0)).getD k 0=if j=k then a.getD j 0+ps.getD j 0 else a.getD k 0:=λk=>r9 (by lia)
   have l1:(a.set j (a.getD j 0+ps.getD j 0)).length=L:=by simp[h1]
   generalize a.set j (a.getD j 0+ps.getD j 0)=a1 at s1 g1 l1
   have q1:=dk (μ:=Q4 a1 b c d) (k:=j) M7 (show j<a1.length by lia)
   have q2:=dk (μ:=Q4 a1 b c d) (k:=j) Zi (show j<b.length by lia)
   have s2:=Zj (a:=a1) (b:=b) (c:=c) (d:=d) (k:=j) (v:=max (b.getD j 0) (a1.getD j 0)) (by lia)
   have g2:∀k,(b.set j (max (b.getD j 0) (a1.getD j 0))).getD k 0=if j=k then max (b.getD j 0) (a1.getD j 0)else b.getD k 0:=λk=>r9 (by lia)
   have l2:(b.set j (max (b.getD j 0) (a1.getD j 0))).length=L:=by simp[h2]
   generalize b.set j (max (b.getD j 0) (a1.getD j 0))=b1 at s2 g2 l2
   have q3:=dk (μ:=Q4 a1 b1 c d) (k:=j) M7 (show j<a1.length by lia)
   have cb:=xk (n:=n) (μ:=Q4 a1 b1 c d) j7 ss (j:Int)
   have s3:=Rt (a:=a1) (b:=b1) (c:=c) (d:=d) (k:=j) (v:=a1.getD j 0-ao ss j) (by lia)
   have g3:∀k,(a1.set j (a1.getD j 0-ao ss j)).getD k 0=if j=k then a1.getD j 0-ao ss j else a1.getD k 0:=λk=>r9 (by lia)
   have l3:(a1.set j (a1.getD j 0-ao ss j)).length=L:=by simp[l1]
   generalize a1.set j (a1.getD j 0-ao ss j)=a2 at s3 g3 l3
   refine⟨_,_,?_,a2,b1,some (.int j),rfl,rfl,l3,l2,λk hk=>?_,λk hk=>?_⟩
   ·simp! only[fLp,fb,r1,r2,s1,q2,q1,bt_max,s2,q3,cb,s3]
   ·have z:=h3 j hj
    have zk:=h3 k hk
    rw[if_neg (by lia)]at z
    rw[g3,g1,g1]
    by_cases e:j=k
    ·subst e
     simp![if_true]
     rw[if_pos (by lia),z]
    ·rw[if_neg e,if_neg e,zk]
     by_cases e2:k<j
     ·rw[if_pos e2,if_pos (by lia)]
     ·rw[if_neg e2,if_neg (by lia)]
   ·have z:=h3 j hj
    have y:=h4 j hj
    have zk:=h4 k hk
    rw[if_neg (by lia)]at z y
    rw[g2,g1]
    by_cases e:j=k
    ·subst e
     simp![if_true]
     rw[if_pos (by lia),z,y]
    ·rw[if_neg e,zk]
     by_cases e2:k<j
     ·rw[if_pos e2,if_pos (by lia)]
     ·rw[if_neg e2,if_neg (by lia)])
 rw[AX]at h3 h4
 exact⟨a,b,v19,h1,h2,λk hk=>by rw[h3 k hk,if_pos hk],λk hk=>by rw[h4 k hk,if_pos hk],el⟩
end
open PySem
theorem M8{ps:List Int}{L:Nat}(h:ps.length=L):ps=(List.range L).map λk=>ps.getD k 0:=by
 refine GP (by simp[h]) λi h1 h2=>?_
 simp[h1]
theorem Ak{ps:List Int}{L:Nat}(h:ps.length=L):sm L (λk=>ps.getD k 0)=ps.sum:=by
 unfold sm
 rw[<-M8 h]
structure DayF (L:Nat) (bound st st':Int) (a b a' b':List Int) (t:Tn) (y:Day):Prop where
 la:a'.length=L
 lb:b'.length=L
 po:t.poured.length=L/\t.spans.length<=6
 lamp:∀k,k<L->0<=pr t k/\(0<=tk t k/\tk t k<=y.length)/\pr t k<=max 0 (tk t k-a.getD k 0)+2/\0<=a'.getD k 0/\a'.getD k 0=a.getD k 0+pr t k-tk t k/\b'.getD k 0=max (b.getD k 0) (a.getD k 0+pr t k)
 ticks:sm L (tk t)=y.wanted*y.length
 boat:0<=t.taken/\t.taken<=y.boat/\y.boat<=1000
 most:0<=t.bought/\t.bought<=y.most/\y.most<=1000
 price:0<=y.price/\y.price<=6
 len:1<=y.length/\y.length<=6
 want:0<=y.wanted/\y.wanted<=L
 here:0<=st+t.taken+t.bought-sm L (pr t)
 left:st'=min bound (st+t.taken+t.bought-sm L (pr t))
section
variable{n:Nat}{φ:Phi}
theorem Zm{L:Nat}(hL:1<=L/\L<=3){cs:List Int}(dn:Nat)(hS:2+3*L+dn*(8+L)+8+L<=cs.length){a b:List Int}(ha:a.length=L)(hb:b.length=L)(h0:∀k,k<L->0<=a.getD k 0){st:Int}(hst:0<=st)(bound:Int){c e:List D}(hc:c.length<1000)(he:e.length<1000){x0 x1 x3 x7 x24 x25 x26:Option D}(w:Nat->Option D) :
  ∃(a' b':List Int) (t:Tn) (y:Day) (st':Int) (w':Nat->Option D),DayF L bound st st' a b a' b' t y /\
   fLp (ai GL (n+2)) (.one 12) c8 (.int dn) [x0,x1,some (.int L),x3,some (.lst (cs.map D.int)),some (.loc 0),some (.int st),x7,some (.loc 1),some (.int bound),some (.loc 2),some (.loc 3),w 0,w 1,w 2,w 3,w 4,w 5,w 6,w 7,w 8,w 9,w 10,w 11,x24,x25,x26] (Q4 a b c e) =
    .ok (.nx [x0,x1,some (.int L),x3,some (.lst (cs.map D.int)),some (.loc 0),some (.int st'),x7,some (.loc 1),some (.int bound),some (.loc 2),some (.loc 3),w' 0,w' 1,w' 2,w' 3,w' 4,w' 5,w' 6,w' 7,w' 8,w' 9,w' 10,w' 11,x24,x25,x26]) (Q4 a' b' (c++[eTn t]) (e++[ji y])):=by
 obtain⟨S,eS⟩:∃S:Nat,S=2+3*L+dn*(8+L):=⟨_,rfl⟩
 have hS2:S+8+L<=cs.length:=by rw[eS];exact hS
 have z1:2+3*(L:Int)+(dn:Int)*(8+(L:Int))=(S:Int):=by rw[eS];push_cast;rfl
 have z2:(S:Int)+8+(L:Int)=((S+8+L:Nat):Int):=by push_cast;rfl
 have sl0:=λν:Sto=>Mf (μ:=ν) (cs:=cs) (p:=S) (q:=S+8+L) (by lia) hS2
 obtain⟨pt,ept⟩:∃pt:List Int,pt=(cs.drop S).take (S+8+L-S):=⟨_,rfl⟩
 have hpt:pt.length=8+L:=by rw[ept,BV,DX];lia
 rw[<-ept]at sl0
 clear ept
 have p0:∀ν:Sto,ixD (.lst (pt.map D.int)) (.int 0) ν=.ok (.int (pt.getD 0 0)) ν:=λν=>dk (k:=0) au (by lia)
 have p4:∀ν:Sto,ixD (.lst (pt.map D.int)) (.int 4) ν=.ok (.int (pt.getD 4 0)) ν:=λν=>dk (k:=4) au (by lia)
 have p5:∀ν:Sto,ixD (.lst (pt.map D.int)) (.int 5) ν=.ok (.int (pt.getD 5 0)) ν:=λν=>dk (k:=5) au (by lia)
 have p6:∀ν:Sto,ixD (.lst (pt.map D.int)) (.int 6) ν=.ok (.int (pt.getD 6 0)) ν:=λν=>dk (k:=6) au (by lia)
 have p7:∀ν:Sto,ixD (.lst (pt.map D.int)) (.int 7) ν=.ok (.int (pt.getD 7 0)) ν:=λν=>dk (k:=7) au (by lia)
 have s1:∀ν:Sto,slD .z (.lst (pt.map D.int)) (some 1) (some 4) ν=.ok (.lst ([pt.getD 1 0,pt.getD 2 0,pt.getD 3 0].map D.int)) ν:=λν=>by
  have:=Mf (μ:=ν) (cs:=pt) (p:=1) (q:=4) (by lia) (by lia)
  rw[show 4-1=3 from rfl,afn (by lia)]at this
  exact this
 have s8:∀ν:Sto,slD .z (.lst (pt.map D.int)) (some 8) none ν=.ok (.lst ((pt.drop 8).map D.int)) ν:=λν=>Fq (p:=8)
 have l8:(pt.drop 8).length=L:=by rw[DX];lia
 obtain⟨len,hlen⟩:∃len:Int,len=1+c6 (pt.getD 0 0) % 6:=⟨_,rfl⟩
 have hl:1<=len/\len<=6:=by lia
 obtain⟨W,ss,ρ,hW,hss,hb1,hsum,en⟩:=Mz (n:=n) (μ:=Q4 a b c e) j7 (pt.getD 1 0) (pt.getD 2 0) (pt.getD 3 0) hL (len:=len) (by lia)
 have pu:D.pureN 8 (.tup [.int W,.tup (ss.map ba)])=true:=by
  rw[c7]
  simp![BF,cq,FS,c7,FM,EY]
  rw[AL];intro x hx;obtain⟨i,_,rfl⟩:=BW.mp hx;exact wm i
 have kn:=dh en pu j7
 have ep:=M4 (n:=n) (μ:=Q4 a b c e) j7 ss (a:=0) (ts:=a) (cs:=pt.drop 8) afp (by lia) (by lia)
 have hpk:∀k,k<L->((List.range a.length).map (poI ss a (pt.drop 8))).getD k 0=poI ss a (pt.drop 8) k:=λk hk=>uy (by lia)
 have hpl:((List.range a.length).map (poI ss a (pt.drop 8))).length=L:=by simp[ha]
 have kp:=dh ep (by show((_:List D).all (D.pureN 7))=true;rw[CW,AL];exact λ_ _=>cq) j7
 generalize (List.range a.length).map (poI ss a (pt.drop 8))=ps at kp hpk hpl
 have hp1:∀k,k<L->0<=ps.getD k 0/\ao ss k<=a.getD k 0+ps.getD k 0/\ps.getD k 0<=max 0 (ao ss k-a.getD k 0)+2:=λk hk=>by rw[hpk k hk];exact acp ss a (pt.drop 8) k
 have hs0:0<=ps.sum:=by rw[<-Ak hpl];exact Ph λk hk=>(hp1 k hk).1
 have hs1:ps.sum<=24:=by
  rw[<-Ak hpl]
  have h1:=Ms (L:=L) (f:=λk=>ps.getD k 0) (g:=λ_=>8) λk hk=>by
   have:=hp1 k hk
   have:=hb1 k hk
   have:=h0 k hk
   show ps.getD k 0<=8
   lia
  rw[uz]at h1
  lia
 obtain⟨a',b',v19,k1,k2,k3,k4,el⟩:=Pl (n:=n+1) hL.2 ss hpl ha hb c e (x0:=x0) (x1:=x1) (x3:=x3) (x4:=some (.lst (cs.map D.int))) (x6:=some (.int st)) (x7:=x7) (x9:=some (.int bound)) (x12:=some (.int dn)) (x13:=some (.int S)) (x14:=some (.lst (pt.map D.int))) (x15:=some (.int len)) (x16:=some (.int W)) (x24:=x24) (x25:=x25) (x26:=x26) (λi=>w (7+i))
 simp![Nat.reduceAdd,Nat.add_zero]at el
 obtain⟨lack,hlack⟩:∃lack:Int,lack=max 0 (ps.sum-st):=⟨_,rfl⟩
 obtain⟨taken,htaken⟩:∃taken:Int,taken=c6 (pt.getD 4 0) % (lack+2):=⟨_,rfl⟩
 have t1:=EE (c6 (pt.getD 4 0)) (show lack+2≠0 by lia)
 have t2:=DJ (c6 (pt.getD 4 0)) (show 0<lack+2 by lia)
 rw[<-htaken]at t1 t2
 obtain⟨bought,hbought⟩:∃bought:Int,bought=max 0 (lack-taken):=⟨_,rfl⟩
 obtain⟨price,hprice⟩:∃price:Int,price=c6 (pt.getD 7 0) % 7:=⟨_,rfl⟩
 have b5:=F9 (pt.getD 5 0) taken
 have b6:=F9 (pt.getD 6 0) bought
 have prk:∀k,pr ⟨taken,bought,ps,ss⟩ k=ps.getD k 0:=λk=>rfl
 have tkk:∀k,tk ⟨taken,bought,ps,ss⟩ k=ao ss k:=λk=>rfl
 have smp:sm L (pr ⟨taken,bought,ps,ss⟩)=ps.sum:=Ak hpl
 refine⟨a',b',⟨taken,bought,ps,ss⟩,⟨yw (pt.getD 5 0) taken,yw (pt.getD 6 0) bought,price,len,W⟩,min bound (st+taken+bought-ps.sum),λi=>[some (.int dn),some (.int S),some (.lst (pt.map D.int)),some (.int len),some (.int W),some (.tup (ss.map ba)),some (.lst (ps.map D.int)),v19,some (.int lack),some (.int taken),some (.int bought),some (.int price)].getD i none,?_,?_⟩
 ·refine⟨k1,k2,⟨hpl,hss⟩,λk hk=>?_,hsum,?_,?_,?_,hl,?_,?_,?_⟩
  ·have:=hp1 k hk
   have:=hb1 k hk
   rw[prk,tkk,k3 k hk,k4 k hk]
   refine⟨by lia,by dsimp only;lia,by lia,by lia,rfl,rfl⟩
  ·dsimp only;lia
  ·dsimp only;lia
  ·dsimp only;lia
  ·dsimp only;lia
  ·rw[smp];dsimp only;lia
  ·rw[smp]
 ·have m1:∀i:Int,CMul 3 i:=λi=>.left (by decide) (by decide)
  have m2:∀i:Int,CMul i (8+(L:Int)):=λi=>.right (by lia) (by lia)
  have cmA:=λx=>mw (n:=n+1) (μ:=Q4 a b c e) j7 x
  have cmB:=λx=>mw (n:=n+1) (μ:=Q4 a' b' c e) j7 x
  have bs1:btD .sum .z [.lst (ps.map D.int)] (Q4 a' b' c e)=.ok (.int ps.sum) (Q4 a' b' c e):=bt_sum au (h7 _)
  have sk5:=xm (n:=n) (μ:=Q4 a' b' c e) j7 (pt.getD 5 0) taken
  have sk6:=xm (n:=n) (μ:=Q4 a' b' c e) j7 (pt.getD 6 0) bought
  have ed:(D.tup [.int (yw (pt.getD 5 0) taken),.int (yw (pt.getD 6 0) bought),.int price,.int len,.int W])=ji ⟨yw (pt.getD 5 0) taken,yw (pt.getD 6 0) bought,price,len,W⟩:=rfl
  have et:(D.tup [.int taken,.int bought,.tup (ps.map D.int),.tup (ss.map ba)])=eTn ⟨taken,bought,ps,ss⟩:=rfl
  have ap3:=Zl (a:=a') (b:=b') (c:=c) (d:=e) (x:=ji ⟨yw (pt.getD 5 0) taken,yw (pt.getD 6 0) bought,price,len,W⟩) (Lj _) he
  have ap2:=Zk (a:=a') (b:=b') (c:=c) (d:=e++[ji ⟨yw (pt.getD 5 0) taken,yw (pt.getD 6 0) bought,price,len,W⟩]) (x:=eTn ⟨taken,bought,ps,ss⟩) (Dw _) hc
  have btt:∀ν:Sto,btD .tuple .z [.lst (ps.map D.int)] ν=.ok (.tup (ps.map D.int)) ν:=λν=>bt_tuple au
  have bm:btD .max .z [.int 0,.int (ps.sum-st)] (Q4 a' b' c e)=.ok (.int lack) (Q4 a' b' c e):=by rw[hlack];exact bt_max
  have bq:btD .max .z [.int 0,.int (lack-taken)] (Q4 a' b' c e)=.ok (.int bought) (Q4 a' b' c e):=by rw[hbought];exact bt_max
  have om:opI .Mod (c6 (pt.getD 4 0)) (lack+2) (Q4 a' b' c e)=.ok (.int taken) (Q4 a' b' c e):=by rw[htaken];exact op_mod (by lia)
  have op7:opI .Mod (c6 (pt.getD 7 0)) 7 (Q4 a' b' c e)=.ok (.int price) (Q4 a' b' c e):=by rw[hprice];exact op_mod (by decide)
  generalize D.lst (pt.map D.int)=PT at *
  generalize D.lst ([pt.getD 1 0,pt.getD 2 0,pt.getD 3 0].map D.int)=P3 at *
  generalize D.lst ((pt.drop 8).map D.int)=P8 at *
  generalize D.lst (cs.map D.int)=CS at *
  simp![fLp,c8,EV1,EV2,EV3,EV4,EV5,Nat.reduceSub,decide_true,decide_false,CM,CD,zz,op_mul (m1 _),op_mul (m2 _),z1,z2,sl0,p0,p4,p5,p6,p7,s1,s8,cmA,cmB,op_mod (show(0:Int)<6 by decide),<-hlen,kn,kp,bz (show L<=1000000 by lia),el,bs1,bm,om,bq,bt_min,op7,acr,sk5,sk6,ed,ap3,acq,btt,et,ap2,List.getD_cons_zero,List.getD_cons_succ]
end
open PySem
noncomputable def lvF(t0:List Int)(rs:List Tn)(d k:Nat):Int:=t0.getD k 0+((rs.take d).map λt=>pr t k-tk t k).sum
noncomputable def stF(bound s0:Int)(L:Nat)(rs:List Tn)(d:Nat):Int:=(rs.take d).foldl (λs t=>min bound (s+t.taken+t.bought-sm L (pr t))) s0
theorem Gb{t0:List Int}{rs:List Tn}{k:Nat}:lvF t0 rs 0 k=t0.getD k 0:=by simp[lvF]
theorem Gc{bound s0:Int}{L:Nat}{rs:List Tn}:stF bound s0 L rs 0=s0:=by simp[stF]
theorem Al{t0:List Int}{rs:List Tn}{t:Tn}{d k:Nat}(h:d<=rs.length):lvF t0 (rs++[t]) d k=lvF t0 rs d k:=by
 unfold lvF
 rw[DE h]
theorem Ge{bound s0:Int}{L:Nat}{rs:List Tn}{t:Tn}{d:Nat}(h:d<=rs.length):stF bound s0 L (rs++[t]) d=stF bound s0 L rs d:=by
 unfold stF
 rw[DE h]
theorem Am{t0:List Int}{rs:List Tn}{t:Tn}{d k:Nat}(h:rs[d]? = some t):lvF t0 rs (d+1) k=lvF t0 rs d k+pr t k-tk t k:=by
 unfold lvF
 rw[EU,h]
 simp[DG]
 lia
theorem Gf{bound s0:Int}{L:Nat}{rs:List Tn}{t:Tn}{d:Nat}(h:rs[d]? = some t):stF bound s0 L rs (d+1)=min bound (stF bound s0 L rs d+t.taken+t.bought-sm L (pr t)):=by
 unfold stF
 rw[EU,h]
 simp[List.foldl_append]
structure DyF (L:Nat) (st:Int) (lv lv' top:Nat->Int) (t:Tn) (y:Day):Prop where
 boat:0<=t.taken/\t.taken<=y.boat/\y.boat<=1000
 most:0<=t.bought/\t.bought<=y.most/\y.most<=1000
 price:0<=y.price/\y.price<=6
 len:1<=y.length/\y.length<=6
 want:0<=y.wanted/\y.wanted<=L
 here:0<=st+t.taken+t.bought-sm L (pr t)
 ticks:sm L (tk t)=y.wanted*y.length
 lamp:∀k,k<L->0<=pr t k/\(0<=tk t k/\tk t k<=y.length)/\lv k+pr t k<=top k/\0<=lv' k
structure KJ (L:Nat) (bound s0:Int) (t0 a b:List Int) (st:Int) (rs:List Tn) (ys:List Day) (j:Nat):Prop where
 la:a.length=L
 lb:b.length=L
 lr:rs.length=j
 ly:ys.length=j
 lv:∀k,k<L->a.getD k 0=lvF t0 rs j k
 sv:st=stF bound s0 L rs j
 low:∀k,k<L->0<=a.getD k 0/\a.getD k 0<=8+8*j
 top:∀k,k<L->t0.getD k 0<=b.getD k 0/\b.getD k 0<=8+8*j
 sn:0<=st/\st<=100
 po:∀t∈rs,t.poured.length=L/\t.spans.length<=6
 dy:∀(d:Nat) t y,rs[d]? = some t->ys[d]? = some y->DyF L (stF bound s0 L rs d) (lvF t0 rs d) (lvF t0 rs (d+1)) (λk=>b.getD k 0) t y
theorem KJ.step{L:Nat}{bound s0 st st':Int}{t0 a b a' b':List Int}{rs:List Tn}{ys:List Day}{j:Nat}{t:Tn}{y:Day}(K:KJ L bound s0 t0 a b st rs ys j)(hb:0<=bound/\bound<=12)(F:DayF L bound st st' a b a' b' t y):KJ L bound s0 t0 a' b' st' (rs++[t]) (ys++[y]) (j+1):=by
 have lr:=K.lr
 have ly:=K.ly
 have rt:(rs++[t])[j]? = some t:=by rw[<-lr];simp
 have yt:(ys++[y])[j]? = some y:=by rw[<-ly];simp
 have e1:∀k,lvF t0 (rs++[t]) j k=lvF t0 rs j k:=λk=>Al (by lia)
 have e2:stF bound s0 L (rs++[t]) j=stF bound s0 L rs j:=Ge (by lia)
 have e3:∀k,k<L->a'.getD k 0=lvF t0 (rs++[t]) (j+1) k:=λk hk=>by
  rw[Am rt,e1,<-K.lv k hk]
  exact(F.lamp k hk).2.2.2.2.1
 refine⟨F.la,F.lb,by simp[lr],by simp[ly],e3,?_,λk hk=>?_,λk hk=>?_,?_,λu hu=>?_,λd u z hu hz=>?_⟩
 ·rw[Gf rt,e2,<-K.sv]
  exact F.left
 ·have f:=F.lamp k hk
  have l:=K.low k hk
  have:=F.len
  push_cast
  lia
 ·have f:=F.lamp k hk
  have l:=K.low k hk
  have u:=K.top k hk
  have:=F.len
  push_cast
  lia
 ·have:=F.left
  have:=F.here
  lia
 ·rcases BD.mp hu with h | h
  ·exact K.po u h
  ·rw[EL.mp h];exact F.po
 ·by_cases hd:d=j
  ·subst hd
   cases rt.symm.trans hu
   cases yt.symm.trans hz
   refine⟨F.boat,F.most,F.price,F.len,F.want,?_,F.ticks,λk hk=>?_⟩
   ·rw[e2,<-K.sv];exact F.here
   ·have f:=F.lamp k hk
    have l:=K.lv k hk
    rw[<-e3 k hk,e1]
    refine⟨f.1,f.2.1,?_,f.2.2.2.1⟩
    lia
  ·have hj:d<j:=by
    have:=(AB.mp hu).1
    simp[lr]at this
    lia
   rw[AN (by lia)]at hu hz
   have D:=K.dy d u z hu hz
   refine⟨D.boat,D.most,D.price,D.len,D.want,?_,D.ticks,λk hk=>?_⟩
   ·rw[Ge (by lia)];exact D.here
   ·have q:=D.lamp k hk
    have f:=F.lamp k hk
    rw[Al (by lia),Al (by lia)]
    refine⟨q.1,q.2.1,?_,q.2.2.2⟩
    have:=q.2.2.1
    lia
theorem An{x y q:Int}(h:x<=y)(hq:0<=q):x*q<=y*q:=GQ h hq
theorem acs{x y q:Int}(hq:0<=q):min x y*q=min (x*q) (y*q):=by
 by_cases h:x<=y
 ·have:=An h hq
  rw[Int.min_eq_left h,Int.min_eq_left this]
 ·have h:y<=x:=by lia
  have:=An h hq
  rw[Int.min_eq_right h,Int.min_eq_right this]
theorem aec{x q:Int}(h:0<=x/\x<=1000)(hq:1<=q/\q<=10 ^ 12):0<=x*q/\x*q<=10 ^ 15:=by
 have h1:=DZ h.1 (show 0<=q by lia)
 have h2:=An h.2 (show 0<=q by lia)
 lia
theorem aed{q:Int}{t:Tn}{k:Nat}:tk (sT q t) k=tk t k*q:=by
 unfold tk sT ao
 dsimp only
 induction t.spans with
 |nil=>simp
 |cons s r ih =>
  simp![AF,DF,ih]
  rw[FZ]
  congr 1
  by_cases h:s.lamp=(k:Int)
  ·rw[if_pos (show(sS q s).lamp=(k:Int)from h),if_pos h,Int.sub_mul];rfl
  ·rw[if_neg (show ¬(sS q s).lamp=(k:Int)from h),if_neg h];simp
theorem aee{q:Int}{t:Tn}{k:Nat}:pr (sT q t) k=pr t k*q:=by
 unfold pr sT
 dsimp only
 simp![BM,AV]
 cases t.poured[k]?<;>simp
theorem Zn{q:Int}{t:Tn}{L:Nat}:sm L (pr (sT q t))=sm L (pr t)*q:=by
 rw[<-xg];exact oa λk _=>aee
theorem Zo{q:Int}{t:Tn}{L:Nat}:sm L (tk (sT q t))=sm L (tk t)*q:=by
 rw[<-xg];exact oa λk _=>aed
noncomputable def j8(rs:List Tn)(t0 b cs:List Int)(k:Nat):Lamp:=⟨yw (cs.getD (3+3*k) 0) (b.getD k 0),t0.getD k 0,idI rs (cs.getD (4+3*k) 0) k⟩
noncomputable def ig(L:Nat)(bound s0:Int)(rs:List Tn)(t0 b cs:List Int)(ys:List Day):Book:=⟨bound,s0,(List.range L).map (j8 rs t0 b cs),ys⟩
section
variable{L N:Nat}{bound s0 st q:Int}{t0 a b cs:List Int}{rs:List Tn}{ys:List Day}
theorem xn{k:Nat}{l:Lamp}(h:(sB q (ig L bound s0 rs t0 b cs ys)).lamps[k]? = some l):k<L/\l=⟨yw (cs.getD (3+3*k) 0) (b.getD k 0)*q,t0.getD k 0*q,idI rs (cs.getD (4+3*k) 0) k⟩:=by
 obtain⟨h1,h2⟩:=AB.mp h
 have hk:k<L:=by simpa[sB,ig]using h1
 refine⟨hk,?_⟩
 rw[<-h2]
 simp[sB,ig,j8]
theorem KJ.keep(K:KJ L bound s0 t0 a b st rs ys N)(hq:1<=q/\q<=10 ^ 12):Keep (sB q (ig L bound s0 rs t0 b cs ys)) (rs.map (sT q)) (λd=>stF bound s0 L rs d*q) (λd k=>lvF t0 rs d k*q):=by
 have q0:0<=q:=by lia
 have eL:(sB q (ig L bound s0 rs t0 b cs ys)).lamps.length=L:=by simp[sB,ig]
 have atd:∀(d:Nat) (t:Tn) (y:Day),(rs.map (sT q))[d]? = some t->(sB q (ig L bound s0 rs t0 b cs ys)).days[d]? = some y->∃t1 y1,rs[d]? = some t1/\ys[d]? = some y1/\t=sT q t1/\y=⟨y1.boat*q,y1.most*q,y1.price,y1.length*q,y1.wanted⟩:=by
  intro d t y ht hy
  rw[AV]at ht
  have hy:(ys.map λy=>(⟨y.boat*q,y.most*q,y.price,y.length*q,y.wanted⟩:Day))[d]? = some y:=hy
  rw[AV]at hy
  cases e1:rs[d]? with
  |none=>rw[e1]at ht;cases ht
  |some t1 =>
   cases e2:ys[d]? with
   |none=>rw[e2]at hy;cases hy
   |some y1 =>
    rw[e1]at ht
    rw[e2]at hy
    exact⟨t1,y1,rfl,rfl,(CB ht).symm,(CB hy).symm⟩
 refine⟨?_,?_,?_,?_,?_,?_⟩
 ·simp[sB,ig,K.lr,K.ly]
 ·intro t ht
  obtain⟨t1,h1,rfl⟩:=BW.mp ht
  have:=K.po t1 h1
  rw[eL]
  simp[sT]
  lia
 ·show stF bound s0 L rs 0*q=_
  rw[Gc];rfl
 ·intro k l hl
  obtain⟨hk,rfl⟩:=xn hl
  show lvF t0 rs 0 k*q=_
  rw[Gb]
 ·intro d t y ht hy
  obtain⟨t1,y1,h1,h2,rfl,rfl⟩:=atd d t y ht hy
  have D:=K.dy d t1 y1 h1 h2
  rw[eL,Zn,Zo,Gf h1,D.ticks]
  have e:∀s:Int,s*q+t1.taken*q+t1.bought*q-sm L (pr t1)*q=(s+t1.taken+t1.bought-sm L (pr t1))*q:=λs=>by rw[Int.sub_mul,FZ,FZ]
  have e':stF bound s0 L rs d*q+(sT q t1).taken+(sT q t1).bought-sm L (pr t1)*q=(stF bound s0 L rs d+t1.taken+t1.bought-sm L (pr t1))*q:=e _
  rw[e']
  refine⟨⟨DZ D.boat.1 q0,An D.boat.2.1 q0⟩,⟨DZ D.most.1 q0,An D.most.2.1 q0⟩,DZ D.here q0,?_,?_⟩
  ·rw[acs q0];rfl
  ·dsimp only
   rw[Int.mul_assoc]
 ·intro d t y k l ht hy hl
  obtain⟨hk,rfl⟩:=xn hl
  obtain⟨t1,y1,h1,h2,rfl,rfl⟩:=atd d t y ht hy
  have D:=K.dy d t1 y1 h1 h2
  have f:=D.lamp k hk
  have T:=K.top k hk
  have B:=F9 (cs.getD (3+3*k) 0) (b.getD k 0)
  have I:=(Zh rs (cs.getD (4+3*k) 0) k).2
  rw[aee,aed,Am h1]
  rw[Am h1]at f
  refine⟨DZ f.1 q0,⟨DZ f.2.1.1 q0,?_⟩,?_,DZ f.2.2.2 q0,?_⟩
  ·unfold mv
   split
   ·rename_i ha
    have:=(I d ha).2 d t1 rfl h1
    rw[this];simp
   ·exact An f.2.1.2 q0
  ·rw[<-FZ]
   refine An ?_ q0
   have:=f.2.2.1
   lia
  ·rw[Int.sub_mul,FZ]
theorem KJ.wf(K:KJ L bound s0 t0 a b st rs ys N)(hq:1<=q/\q<=10 ^ 12)(hL:1<=L/\L<=3)(hN:1<=N/\N<=8)(hbd:0<=bound/\bound<=12)(hs:0<=s0/\s0<=8)(ht:∀k,k<L->0<=t0.getD k 0):Wf (sB q (ig L bound s0 rs t0 b cs ys)):=by
 have p1:(10:Int) ^ 15<=10 ^ 30:=by decide
 have eL:(sB q (ig L bound s0 rs t0 b cs ys)).lamps.length=L:=by simp[sB,ig]
 have eN:(sB q (ig L bound s0 rs t0 b cs ys)).days.length=N:=by simp[sB,ig,K.ly]
 have big:∀x:Int,0<=x/\x<=1000->0<=x*q/\x*q<=10 ^ 30:=λx hx=>by have:=aec hx hq;exact⟨this.1,Int.le_trans this.2 p1⟩
 refine⟨big bound (by lia),big s0 (by lia),by rw[eL];lia,by rw[eN];lia,λl hl=>?_,λy hy=>?_⟩
 ·obtain⟨k,hk⟩:=BN.mp hl
  obtain⟨hkL,rfl⟩:=xn hk
  have T:=K.top k hkL
  have B:=F9 (cs.getD (3+3*k) 0) (b.getD k 0)
  have t:=ht k hkL
  have I:=Zh rs (cs.getD (4+3*k) 0) k
  refine⟨big _ (by lia),⟨DZ t (by lia),An (by lia) (by lia)⟩,I.1,λx hx=>?_⟩
  have:=(I.2 x hx).1
  rw[eN,<-K.lr]
  exact this
 ·have hy:y∈ys.map λy=>(⟨y.boat*q,y.most*q,y.price,y.length*q,y.wanted⟩:Day):=hy
  obtain⟨y1,h1,rfl⟩:=BW.mp hy
  obtain⟨d,hd⟩:=BN.mp h1
  have hd2:=(AB.mp hd).1
  obtain⟨t,ht⟩:∃t,rs[d]? = some t:=⟨rs[d]'(by have:=K.lr;have:=K.ly;lia),AA _⟩
  have D:=K.dy d t y1 ht hd
  have p2:(6:Int)<=10 ^ 15:=by decide
  have b1:=D.boat
  have b2:=D.most
  have b3:=D.price
  have b4:=D.len
  refine⟨big _ (by lia),big _ (by lia),by dsimp only;lia,⟨?_,(aec (by lia) hq).2⟩,by rw[eL];exact D.want⟩
  have:=An b4.1 (show 0<=q by lia)
  dsimp only
  lia
end
open PySem
theorem Hu(k:Nat)(b:Book):D.pureN (k+4) (az b)=true:=by
 have h1:(b.lamps.map de).all (D.pureN (k+2))=true:=by
  rw[CW,AL]
  intro l _
  show D.pureN (k+2) (.tup [.int l.tank,.int l.oil,.tup (l.away.map D.int)])=true
  rw[c7]
  simp![BF,cq,FS,FM,EY]
  exact ie k _
 have h2:(b.days.map ji).all (D.pureN (k+2))=true:=by
  rw[CW,AL]
  intro l _
  exact ie (k+1) [l.boat,l.most,l.price,l.length,l.wanted]
 show D.pureN (k+4) (.tup [.int b.store,.int b.oil,.tup (b.lamps.map de),.tup (b.days.map ji)])=true
 rw[c7]
 simp![BF,cq,FS,c7,h1,h2,FM,EY]
theorem M9(b:Book)(rs:List Tn):D.pureN 8 (.tup [az b,.tup (rs.map eTn)])=true:=by
 rw[c7]
 simp![BF,Hu 3,FS,c7,FM,EY]
 rw[CW,AL]
 exact λt _=>Dw t
section
variable{n:Nat}{φ:Phi}
theorem U4{L N:Nat}(hL:1<=L/\L<=3)(hN:N<=8){cs t0:List Int}(hcs:cs.length=2+3*L+(8+L)*N)(h0:t0.length=L)(ht:∀k,k<L->0<=t0.getD k 0/\t0.getD k 0<=8){bound s0:Int}(hbd:0<=bound/\bound<=12)(hs:0<=s0/\s0<=8){x0 x1 x3 x7 x24 x25 x26:Option D} :
  ∃(a b:List Int) (st:Int) (rs:List Tn) (ys:List Day) (w:Nat->Option D),KJ L bound s0 t0 a b st rs ys N /\
   Dh (ai GL (n+2)) (.one 12) c8 [x0,x1,some (.int L),x3,some (.lst (cs.map D.int)),some (.loc 0),some (.int s0),x7,some (.loc 1),some (.int bound),some (.loc 2),some (.loc 3),none,none,none,none,none,none,none,none,none,none,none,none,x24,x25,x26] ((List.range N).map fun(k:Nat)=>D.int k,none) (Q4 t0 t0 [] []) =
    .ok (.nx [x0,x1,some (.int L),x3,some (.lst (cs.map D.int)),some (.loc 0),some (.int st),x7,some (.loc 1),some (.int bound),some (.loc 2),some (.loc 3),w 0,w 1,w 2,w 3,w 4,w 5,w 6,w 7,w 8,w 9,w 10,w 11,x24,x25,x26]) (Q4 a b (rs.map eTn) (ys.map ji)):=by
 obtain⟨σ',μ',el,a,b,st,rs,ys,w,rfl,rfl,K⟩:=d9 (φ:=ai GL (n+2)) (μ:=Q4 t0 t0 [] []) (tg:=.one 12) (b:=c8) (xs:=List.range N) (en:=fun(k:Nat)=>D.int k)
  (λj σ μ'=>∃(a b:List Int) (st:Int) (rs:List Tn) (ys:List Day) (w:Nat->Option D),σ=[x0,x1,some (.int L),x3,some (.lst (cs.map D.int)),some (.loc 0),some (.int st),x7,some (.loc 1),some (.int bound),some (.loc 2),some (.loc 3),w 0,w 1,w 2,w 3,w 4,w 5,w 6,w 7,w 8,w 9,w 10,w 11,x24,x25,x26]/\μ'=Q4 a b (rs.map eTn) (ys.map ji)/\KJ L bound s0 t0 a b st rs ys j)
  ⟨t0,t0,s0,[],[],λ_=>none,rfl,rfl,⟨h0,h0,rfl,rfl,λk _=>by rw[Gb],by rw[Gc],λk hk=>by have:=ht k hk;lia,λk hk=>by have:=ht k hk;lia,by lia,λt h=>absurd h (BY),λd t y h=>by simp at h⟩⟩ (by
   rintro j i σ μ' hk ⟨a,b,st,rs,ys,w,rfl,rfl,K⟩
   have hj:=(AB.mp hk).1
   simp![AX]at hj
   rw[CI hj]at hk
   cases hk
   have hm:(j+1)*(8+L)<=N*(8+L):=FY _ hj
   rw[Nat.succ_mul,Nat.mul_comm N]at hm
   obtain⟨a',b',t,y,st',w',F,e⟩:=Zm (n:=n) hL (cs:=cs) j (by rw[hcs];lia) K.la K.lb (λk hk=>(K.low k hk).1) K.sn.1 bound (c:=rs.map eTn) (e:=ys.map ji) (by have:=K.lr;simp;lia) (by have:=K.ly;simp;lia) (x0:=x0) (x1:=x1) (x3:=x3) (x7:=x7) (x24:=x24) (x25:=x25) (x26:=x26) w
   refine⟨_,_,e,a',b',st',rs++[t],ys++[y],w',rfl,?_,K.step hbd F⟩
   rw[AY,AY];rfl)
 rw[AX]at K
 exact⟨a,b,st,rs,ys,w,K,el⟩
theorem Na{L N:Nat}(hL:1<=L/\L<=3)(hN:N<=8){cs t0 a b:List Int}(hcs:2+3*L<=cs.length)(h0:t0.length=L)(hb:b.length=L){rs:List Tn}(hr:rs.length=N){yd:List D}{s0:Int}{x0 x1 x3 x5 x6 x9 x11 x25 x26:Option D}(w:Nat->Option D) :
  ∃v19:Option D,Dh (ai GL (n+2)) (.one 19) fc [x0,x1,some (.int L),x3,some (.lst (cs.map D.int)),x5,x6,some (.tup [.int s0,.lst (t0.map D.int)]),some (.loc 1),x9,some (.loc 2),x11,w 0,w 1,w 2,w 3,w 4,w 5,w 6,w 7,w 8,w 9,w 10,w 11,some (.loc 4),x25,x26] ((List.range L).map fun(k:Nat)=>D.int k,none) (Q4 a b (rs.map eTn) yd++[.l []]) =
    .ok (.nx [x0,x1,some (.int L),x3,some (.lst (cs.map D.int)),x5,x6,some (.tup [.int s0,.lst (t0.map D.int)]),some (.loc 1),x9,some (.loc 2),x11,w 0,w 1,w 2,w 3,w 4,w 5,w 6,v19,w 8,w 9,w 10,w 11,some (.loc 4),x25,x26]) (Q4 a b (rs.map eTn) yd++[.l (((List.range L).map (j8 rs t0 b cs)).map de)]):=by
 obtain⟨σ',μ',el,v19,rfl,rfl⟩:=d9 (φ:=ai GL (n+2)) (μ:=Q4 a b (rs.map eTn) yd++[.l []]) (tg:=.one 19) (b:=fc) (xs:=List.range L) (en:=fun(k:Nat)=>D.int k)
  (λj σ μ'=>∃v19,σ=[x0,x1,some (.int L),x3,some (.lst (cs.map D.int)),x5,x6,some (.tup [.int s0,.lst (t0.map D.int)]),some (.loc 1),x9,some (.loc 2),x11,w 0,w 1,w 2,w 3,w 4,w 5,w 6,v19,w 8,w 9,w 10,w 11,some (.loc 4),x25,x26]/\μ'=Q4 a b (rs.map eTn) yd++[.l (((List.range j).map (j8 rs t0 b cs)).map de)])
  ⟨w 7,rfl,rfl⟩ (by
   rintro j i σ μ' hk ⟨v19,rfl,rfl⟩
   have hj:=(AB.mp hk).1
   simp![AX]at hj
   rw[CI hj]at hk
   cases hk
   have e1:((List.range (j+1)).map (j8 rs t0 b cs)).map de=((List.range j).map (j8 rs t0 b cs)).map de++[de (j8 rs t0 b cs j)]:=by rw[DH,AY,AY];rfl
   rw[e1]
   have lX:(((List.range j).map (j8 rs t0 b cs)).map de).length<=8:=by simp;lia
   generalize ((List.range j).map (j8 rs t0 b cs)).map de=X at lX ⊢
   obtain⟨M,hM⟩:∃M:Sto,M=Q4 a b (rs.map eTn) yd++[.l X]:=⟨_,rfl⟩
   have H:i6 M:=by rw[hM];exact qk j7 X
   have i3:ixD (.lst (cs.map D.int)) (.int ((3+3*j:Nat):Int)) M=.ok (.int (cs.getD (3+3*j) 0)) M:=dk au (by lia)
   have i4:ixD (.lst (cs.map D.int)) (.int ((4+3*j:Nat):Int)) M=.ok (.int (cs.getD (4+3*j) 0)) M:=dk au (by lia)
   have z3:3+3*(j:Int)=((3+3*j:Nat):Int):=by lia
   have z4:4+3*(j:Int)=((4+3*j:Nat):Int):=by lia
   have it:ixD (.loc 1) (.int j) M=.ok (.int (b.getD j 0)) M:=by rw[hM];exact dk (x:=.loc 1) (ns:=b) rfl (by lia)
   have i7:ixD (.tup [.int s0,.lst (t0.map D.int)]) (.int 1) M=.ok (.lst (t0.map D.int)) M:=rfl
   have i8:ixD (.lst (t0.map D.int)) (.int j) M=.ok (.int (t0.getD j 0)) M:=dk au (by lia)
   have ks:=xm (n:=n) H (cs.getD (3+3*j) 0) (b.getD j 0)
   have ki:=U3 (n:=n) (μ:=M) H (a:=2) (rs:=rs) (by rw[hM];rfl) (by lia) (cs.getD (4+3*j) 0) j
   have el:(D.tup [.int (yw (cs.getD (3+3*j) 0) (b.getD j 0)),.int (t0.getD j 0),lu (idI rs (cs.getD (4+3*j) 0) j)])=de (j8 rs t0 b cs j):=rfl
   have mt:mtD .append (.loc 4) [de (j8 rs t0 b cs j)] M=.ok .non (Q4 a b (rs.map eTn) yd++[.l (X++[de (j8 rs t0 b cs j)])]):=by
    rw[hM];exact wj (μ:=Q4 a b (rs.map eTn) yd) (He _) (by lia)
   have km:∀(es:Exs) (σ:Sl),kM (ai GL (n+2)) .append es σ (.loc 4) M=(gn (ai GL (n+2)) es σ M).bind (mtD .append (.loc 4)):=λes σ=>by
    rw[hM];exact Ko rfl
   have m3:∀i:Int,CMul 3 i:=λi=>.left (by decide) (by decide)
   refine⟨[x0,x1,some (.int L),x3,some (.lst (cs.map D.int)),x5,x6,some (.tup [.int s0,.lst (t0.map D.int)]),some (.loc 1),x9,some (.loc 2),x11,w 0,w 1,w 2,w 3,w 4,w 5,w 6,some (.int j),w 8,w 9,w 10,w 11,some (.loc 4),x25,x26],_,?_,_,rfl,rfl⟩
   rw[<-hM]
   generalize de (j8 rs t0 b cs j)=E at el mt ⊢
   generalize ((3+3*j:Nat):Int)=J3 at i3 z3
   generalize ((4+3*j:Nat):Int)=J4 at i4 z4
   simp! only[fLp,fc,km,op_mul (m3 _),z3,z4,i3,i4,it,ks,i7,i8,ki,el,mt])
 rw[AX]at el
 exact⟨v19,el⟩
end
open PySem
section
variable{n:Nat}{φ:Phi}
theorem D9(ns:List Int)(hn:ns.length<=1000){most:Nat}(hm:1<=most/\most<=8):∃(b:Book) (rs:List Tn) (st:Nat->Int) (lv:Nat->Nat->Int) (μ':Sto),Wf b/\Keep b rs st lv/\ai GL (n+3) h9 [.lst (ns.map D.int),.int most] []=.ok (.tup [az b,.tup (rs.map eTn)]) μ':=by
 rw[aj wd,run_eq rfl]
 have hr:i6 []:=rfl
 obtain⟨L,hL⟩:∃L:Nat,(L:Int)=1+c6 (ns.getD 0 0) % 3:=⟨(1+c6 (ns.getD 0 0) % 3).toNat,by lia⟩
 have y1:=EE (c6 (ns.getD 1 0)) (show(most:Int)≠0 by lia)
 have y2:=DJ (c6 (ns.getD 1 0)) (show(0:Int)<most by lia)
 obtain⟨N,hN⟩:∃N:Nat,(N:Int)=1+c6 (ns.getD 1 0) % most:=⟨(1+c6 (ns.getD 1 0) % most).toNat,by lia⟩
 have hL1:1<=L/\L<=3:=by lia
 have hN1:1<=N/\N<=8:=by lia
 have hmul:(8+L)*N<=11*8:=Nat.mul_le_mul (by lia) (by lia)
 obtain⟨cs,hc,ef⟩:=Me (n:=n+1) (μ:=[]) (ns.drop 2) (2+3*L+(8+L)*N) (by lia) (by lia) (by simp;lia)
 have cf:=dh ef (by show((cs.map D.int).all (D.pureN 7))=true;rw[CW,AL];exact λ_ _=>cq) hr
 have z0:=bt (Fs (n:=n+1) (μ:=[]) ns 0) rfl rfl hr
 have z1:=bt (Fs (n:=n+1) (μ:=[]) ns 1) rfl rfl hr
 have em:2+3*(L:Int)+(8+(L:Int))*(N:Int)=((2+3*L+(8+L)*N:Nat):Int):=by push_cast;rfl
 have m3:∀i:Int,CMul 3 i:=λi=>.left (by decide) (by decide)
 have m8:∀i:Int,CMul (8+(L:Int)) i:=λi=>.left (by lia) (by lia)
 obtain⟨t0,ht0⟩:∃t0:List Int,t0=(List.range L).map λk=>c6 (cs.getD (2+3*k) 0) % 9:=⟨_,rfl⟩
 have lt0:t0.length=L:=by rw[ht0];simp
 have bt0:∀k,k<L->0<=t0.getD k 0/\t0.getD k 0<=8:=λk hk=>by rw[ht0,uy hk];lia
 have at0:(t0.map D.int).all (D.pureN 8)=true:=all_int t0
 obtain⟨M1,hM1⟩:∃M:Sto,M=[.l (t0.map D.int)]:=⟨_,rfl⟩
 obtain⟨M2,hM2⟩:∃M:Sto,M=[.l (t0.map D.int),.l (t0.map D.int)]:=⟨_,rfl⟩
 obtain⟨M3,hM3⟩:∃M:Sto,M=[.l (t0.map D.int),.l (t0.map D.int),.l []]:=⟨_,rfl⟩
 have H1:i6 M1:=by rw[hM1];rfl
 have H2:i6 M2:=by rw[hM2];rfl
 have c1:mj (ai GL (n+2)) .l (.one 1) .nil ib [some (.lst (cs.map D.int)),none] ((List.range L).map fun(k:Nat)=>D.int k,none) []=.ok (.loc 0) M1:=by
  rw[comp_map (en:=fun(k:Nat)=>D.int k) (g:=λk:Nat=>D.int (c6 (cs.getD (2+3*k) 0) % 9)) λk hk=>by
   have hk':k<L:=by simpa using hk
   have e1:2+3*(k:Int)=((2+3*k:Nat):Int):=by lia
   have ix:ixD (.lst (cs.map D.int)) (.int ((2+3*k:Nat):Int)) []=.ok (.int (cs.getD (2+3*k) 0)) []:=dk au (by lia)
   generalize ((2+3*k:Nat):Int)=J at e1 ix
   simp! only[uw,ib,op_mul (m3 _),e1,ix,mw (n:=n+1) hr,op_mod (show(0:Int)<9 by decide)]]
  rw[show(List.range L).map (λk:Nat=>D.int (c6 (cs.getD (2+3*k) 0) % 9))=t0.map D.int by rw[ht0,BB];rfl,Hw at0,hM1]
  rfl
 have i1:∀ν:Sto,ixD (.lst (cs.map D.int)) (.int 1) ν=.ok (.int (cs.getD 1 0)) ν:=λν=>dk (k:=1) au (by lia)
 have i0:∀ν:Sto,ixD (.lst (cs.map D.int)) (.int 0) ν=.ok (.int (cs.getD 0 0)) ν:=λν=>dk (k:=0) au (by lia)
 obtain⟨s0,hs0⟩:∃s0:Int,s0=c6 (cs.getD 1 0) % 9:=⟨_,rfl⟩
 obtain⟨bound,hbd⟩:∃bound:Int,bound=c6 (cs.getD 0 0) % 13:=⟨_,rfl⟩
 have b7:btD .list .z [.loc 0] M1=.ok (.lst (t0.map D.int)) M1:=by rw[hM1,bt_list (xs:=t0.map D.int) rfl,g0]
 have b8:btD .list .l [.loc 0] M1=.ok (.loc 1) M2:=by rw[hM1,hM2,bt_list (xs:=t0.map D.int) rfl,Hw at0];rfl
 have l10:mkL .l [] M2=.ok (.loc 2) M3:=by rw[hM2,hM3,Hw rfl];rfl
 have l11:mkL .l [] M3=.ok (.loc 3) (Q4 t0 t0 [] []):=by rw[hM3,Hw rfl];rfl
 obtain⟨a,b,st,rs,ys,w,K,el⟩:=U4 (n:=n) (L:=L) (N:=N) hL1 (by lia) (cs:=cs) (t0:=t0) hc lt0 bt0 (bound:=bound) (s0:=s0) (by lia) (by lia) (x0:=some (.lst (ns.map D.int))) (x1:=some (.int most)) (x3:=some (.int N)) (x7:=some (.tup [.int s0,.lst (t0.map D.int)])) (x24:=none) (x25:=none) (x26:=none)
 have lr:=K.lr
 have l24:mkL .l [] (Q4 a b (rs.map eTn) (ys.map ji))=.ok (.loc 4) (Q4 a b (rs.map eTn) (ys.map ji)++[.l []]):=by rw[Hw rfl];rfl
 obtain⟨v19,el2⟩:=Na (n:=n) (L:=L) (N:=N) hL1 (by lia) (cs:=cs) (t0:=t0) (a:=a) (b:=b) (by lia) lt0 K.lb (rs:=rs) lr (yd:=ys.map ji) (s0:=s0) (x0:=some (.lst (ns.map D.int))) (x1:=some (.int most)) (x3:=some (.int N)) (x5:=some (.loc 0)) (x6:=some (.int st)) (x9:=some (.int bound)) (x11:=some (.loc 3)) (x25:=none) (x26:=none) w
 have eb:(D.tup [.int bound,.int s0,.tup (((List.range L).map (j8 rs t0 b cs)).map de),.tup (ys.map ji)])=az (ig L bound s0 rs t0 b cs ys):=rfl
 have KK:∀q:Int,1<=q/\q<=10 ^ 12->Wf (sB q (ig L bound s0 rs t0 b cs ys))/\Keep (sB q (ig L bound s0 rs t0 b cs ys)) (rs.map (sT q)) (λd=>stF bound s0 L rs d*q) (λd k=>lvF t0 rs d k*q):=λq hq=>⟨K.wf hq hL1 hN1 (by lia) (by lia) (λk hk=>(bt0 k hk).1),K.keep hq⟩
 generalize ((List.range L).map (j8 rs t0 b cs)).map de=LD at el2 eb
 obtain⟨M5,hM5⟩:∃M:Sto,M=Q4 a b (rs.map eTn) (ys.map ji)++[.l LD]:=⟨_,rfl⟩
 have H5:i6 M5:=by rw[hM5];exact qk j7 LD
 rw[<-hM5]at el2
 have q24:btD .tuple .z [.loc 4] M5=.ok (.tup LD) M5:=by rw[hM5];exact bt_tuple (xs:=LD) rfl
 have q11:btD .tuple .z [.loc 3] M5=.ok (.tup (ys.map ji)) M5:=by rw[hM5];exact bt_tuple (xs:=ys.map ji) rfl
 have ix7:∀ν:Sto,ixD (.tup [.int s0,.lst (t0.map D.int)]) (.int 0) ν=.ok (.int s0) ν:=λ_=>rfl
 have a2:M5[2]? = some (.l (rs.map eTn)):=by rw[hM5];rfl
 obtain⟨q,hq1,hq⟩:∃q:Int,(1<=q/\q<=10 ^ 12)/\q=if c6 (cs.getD 1 0) / 9 % 5=1 then 1+cs.getD 1 0 / 9 % 10 ^ 12 else 1:=by
  refine⟨_,?_,rfl⟩
  split
  ·have h1:=EE (cs.getD 1 0 / 9) (show(10 ^ 12:Int)≠0 by decide)
   have h2:=DJ (cs.getD 1 0 / 9) (show(0:Int)<10 ^ 12 by decide)
   lia
  ·decide
 have p12:∀ν:Sto,opI .Pow 10 12 ν=.ok (.int (10 ^ 12)) ν:=λν=>op_pow (by decide)
 obtain⟨ρ,es⟩:=M6 (n:=n+1) (μ:=M5) (b:=ig L bound s0 rs t0 b cs ys) (a:=2) (rs:=rs) (q:=q) (by lia) a2 (by lia)
 have ks:=dh es (M9 _ _) H5
 obtain⟨W,KP⟩:=KK q hq1
 refine⟨_,_,_,_,M5,W,KP,?_⟩
 clear KK W KP es K
 generalize az (ig L bound s0 rs t0 b cs ys)=EB at eb ks
 generalize D.tup [az (sB q (ig L bound s0 rs t0 b cs ys)),.tup ((rs.map (sT q)).map eTn)]=R at ks ⊢
 have s2:slD .z (.lst (ns.map D.int)) (some 2) none []=.ok (.lst ((ns.drop 2).map D.int)) []:=Fq (p:=2)
 rw[show((0:Nat):Int)=0 from rfl]at z0
 rw[show((1:Nat):Int)=1 from rfl]at z1
 generalize ((2+3*L+(8+L)*N:Nat):Int)=MM at em cf
 generalize D.lst ((ns.drop 2).map D.int)=ND at *
 generalize D.lst (ns.map D.int)=NS at *
 have cm0:=λx=>mw (n:=n+1) (μ:=[]) hr x
 have cm1:=λx=>mw (n:=n+1) (μ:=M1) H1 x
 have cm2:=λx=>mw (n:=n+1) (μ:=M2) H2 x
 have cm5:=λx=>mw (n:=n+1) (μ:=M5) H5 x
 have hk:kIf (ai GL (n+2)) (.cons (.set 26 (.bin .Add .z (.cst (.int 1)) (.bin .Mod .z (.bin .FloorDiv .z (.ix (.var 4) (.cst (.int 1))) (.cst (.int 9))) (.bin .Pow .z (.cst (.int 10)) (.cst (.int 12)))))) .nil) .nil [some NS,some (.int most),some (.int L),some (.int N),some (.lst (cs.map D.int)),some (.loc 0),some (.int st),some (.tup [.int s0,.lst (t0.map D.int)]),some (.loc 1),some (.int bound),some (.loc 2),some (.loc 3),w 0,w 1,w 2,w 3,w 4,w 5,w 6,v19,w 8,w 9,w 10,w 11,some (.loc 4),some EB,some (.int 1)] (.bl (decide (c6 (cs.getD 1 0) / 9 % 5=1))) M5=.ok (.nx [some NS,some (.int most),some (.int L),some (.int N),some (.lst (cs.map D.int)),some (.loc 0),some (.int st),some (.tup [.int s0,.lst (t0.map D.int)]),some (.loc 1),some (.int bound),some (.loc 2),some (.loc 3),w 0,w 1,w 2,w 3,w 4,w 5,w 6,v19,w 8,w 9,w 10,w 11,some (.loc 4),some EB,some (.int q)]) M5:=by
  by_cases hby:c6 (cs.getD 1 0) / 9 % 5=1
  ·rw[if_pos hby]at hq
   simp! only[i1,hby,ym (show(0:Int)<9 by decide) (show(9:Int)<1073741824 by decide),p12,op_mod (show(0:Int)<10 ^ 12 by decide),<-hq]
  ·rw[if_neg hby]at hq
   simp! only[hby,hq]
 have hz5:∀ν:Sto,opI .Mod (c6 (cs.getD 1 0) / 9) 5 ν=.ok (.int (c6 (cs.getD 1 0) / 9 % 5)) ν:=λν=>op_mod (by decide)
 generalize c6 (cs.getD 1 0) / 9 % 5=z5 at hk hq hz5
 simp![D_law_kept_book,EV1,EV2,EV3,EV4,EV5,Nat.reduceSub,decide_true,decide_false,CM,CD,z0,z1,cm0,cm1,cm2,cm5,op_mod (show(0:Int)<3 by decide),op_mod (show(0:Int)<most by lia),<-hL,<-hN,s2,op_mul (m3 _),op_mul (m8 _),em,cf,bz (show L<=1000000 by lia),bz (show N<=1000000 by lia),c1,i0,i1,op_mod (show(0:Int)<9 by decide),<-hs0,b7,b8,op_mod (show(0:Int)<13 by decide),<-hbd,l10,l11,el,l24,el2,ix7,q24,q11,eb,ym (show(0:Int)<9 by decide) (show(9:Int)<1073741824 by decide),hz5,hk,ks]
end
open PySem
theorem Cf{a c:List Int}(h:a.Perm c):a.sum=c.sum:=by
 induction h with
 |nil=>rfl
 |cons x _ ih=>simp![DF,ih]
 |swap x y l=>simp![DF];lia
 |trans _ _ h1 h2=>rw[h1,h2]
theorem acu(ns:List Int)(hn:ns.length<=63):∃μ',ai GL 8 wb [.lst (ns.map D.int)] []=.ok (.bl true) μ':=by
 rw[aj Le,run_eq rfl]
 have hr:i6 []:=rfl
 obtain⟨b,rs,st,lv,μ',hb,K,ek⟩:=D9 (n:=4) ns (by lia) (most:=4) (by lia)
 have k1:=dh (μ:=[]) (ρ:=μ') ek (M9 b rs) hr
 rw[show((4:Nat):Int)=4 from rfl]at k1
 have k2:=Mr (n:=2) (μ:=[]) hr hb K.len K.po
 obtain⟨ρ3,e3⟩:=Mb (n:=5) (μ:=[]) hr hb
 have eM:2+stp b*(b.days.length:Int)=((mN b:Nat):Int):=by unfold mN stp;push_cast;rfl
 rw[eM,<-O5]at e3
 have k3:iq (ai GL 7) false jq [az b] []=.ok (wt (mN b) ((gb ltN (cz b)).map (·.1))) []:=dh e3 (Mc _ _ 5) hr
 have k4:=yp (n:=6) (μ:=[]) hr hb
 have hp:(gb ltN (cz b)).Perm (cz b):=jg _
 have hS:(gb ltN (cz b)).length<=1000:=by rw[hp.length_eq];exact B3 b hb
 have hE:∀x∈gb ltN (cz b),Ends (mN b) (VF b.lamps.length rs (ndF b)) x:=λx hx=>K.ends hb x (hp.mem_iff.mp hx)
 obtain⟨o,e5⟩:=D7 (n:=5) (μ:=[]) hr (V:=VF b.lamps.length rs (ndF b)) (M:=mN b) (Zg hb) hS hE (due:=(a7 b).sum) (λv _=>by
  rw[Cf (hp.map _)]
  exact K.net hb v)
 have k5:=dh e5 rfl hr
 have e6:=Aj (n:=6) (μ:=[]) (V:=VF b.lamps.length rs (ndF b)) (M:=mN b) hS hE
 have k6:=bt e6 rfl rfl hr
 have c1:mj (ai GL 7) .z (.one 2) .nil o7 [some (.tup (rs.map eTn)),some (az b),none] ((List.range rs.length).map fun(k:Nat)=>D.int k,none) []=.ok (.lst (((List.range rs.length).map λd=>bgF rs d*prF b d).map D.int)) []:=by
  rw[comp_map (en:=fun(k:Nat)=>D.int k) (g:=λd:Nat=>D.int (bgF rs d*prF b d)) λd hd=>by
   have hd:d<rs.length:=by simpa using hd
   obtain⟨t,y,ht,hy⟩:=K.at (d:=d) (by have:=K.len;lia)
   have q:=hb.day y (BK hy)
   have x1:∀ν:Sto,ixD (eTn t) (.int 1) ν=.ok (.int t.bought) ν:=λ_=>rfl
   have x2:∀ν:Sto,ixD (ji y) (.int 2) ν=.ok (.int y.price) ν:=λ_=>rfl
   have e1:bgF rs d=t.bought:=by rw[bgF,ht];rfl
   have e2:prF b d=y.price:=by rw[prF,hy];rfl
   have p1:(10:Int) ^ 15<2 ^ 64:=by decide
   rw[e1,e2]
   simp! only[uw,o7,gu ht,x1,rq,gu hy,x2,op_mul (show CMul t.bought y.price from .right (by lia) (by lia))]]
  rw[g0,BB];rfl
 have bs:btD .sum .z [.lst (((List.range rs.length).map λd=>bgF rs d*prF b d).map D.int)] []=.ok (.int (sm rs.length λd=>bgF rs d*prF b d)) []:=bt_sum au (h7 _)
 have cost:=K.cost hb
 rw[<-Cf (hp.map _),<-K.len]at cost
 have dc:decide (((gb ltN (cz b)).map λx=>x.1.getD 3 0*VF b.lamps.length rs (ndF b) x.2).sum<=sm rs.length λd=>bgF rs d*prF b d)=true:=decide_eq_true cost
 have hl:rs.length<=16:=by have:=K.len;have:=hb.days;lia
 have fl:Mp b rs=(gb ltN (cz b)).map λx=>VF b.lamps.length rs (ndF b) x.2:=rfl
 rw[fl]at k2
 generalize ((gb ltN (cz b)).map λx=>x.1.getD 3 0*VF b.lamps.length rs (ndF b) x.2).sum=P1 at *
 generalize (sm rs.length λd=>bgF rs d*prF b d)=P2 at *
 generalize D.tup (((gb ltN (cz b)).map λx=>VF b.lamps.length rs (ndF b) x.2).map D.int)=FL at *
 generalize wt (mN b) ((gb ltN (cz b)).map (·.1))=WB at *
 refine⟨[],?_⟩
 simp! only[D_law_k26,zz,k1,k2,k3,k4,k5,k6,bt_len aw,AG,bz (show rs.length<=1000000 by lia),c1,bs,dc]
end Lr
namespace Lp.Law
open PySem PySem.Spec PyProof.Rows L2 Lp
noncomputable def top(i:Nat):Stmt:=PySem.Challenge.pw_lamprota_k26_flows_of_rotas.main.body.getD i (.Pass ⟨0,0,0,0⟩)
noncomputable def e0:Ent:=⟨gv,"night_need",top 1,["book","day","boat","most","price","length","wanted"],["book","day"],D_night_need⟩
noncomputable def e1:Ent:=⟨yn,"need",top 2,["book"],["book"],D_need⟩
noncomputable def e2:Ent:=⟨qb,"can_burn",top 3,["book","lamp","day","tank","oil","away"],["book","lamp","day"],D_can_burn⟩
noncomputable def e3:Ent:=⟨d8,"ticks_of_spans",top 5,["lamps","spans","ticks","lamp","start","end"],["lamps","spans"],D_ticks_of_spans⟩
noncomputable def e4:Ent:=⟨ml,"ticks_in",top 7,["lamps","spans"],["lamps","spans"],D_ticks_in⟩
noncomputable def e5:Ent:=⟨bx,"store_node",top 11,["book","day"],["book","day"],D_store_node⟩
noncomputable def e6:Ent:=⟨gp,"tank_node",top 12,["book","lamp","day"],["book","lamp","day"],D_tank_node⟩
noncomputable def e7:Ent:=⟨gw,"flame_node",top 13,["book","lamp","day"],["book","lamp","day"],D_flame_node⟩
noncomputable def e8:Ent:=⟨gx,"night_node",top 14,["book","day"],["book","day"],D_night_node⟩
noncomputable def e9:Ent:=⟨bw,"first_morning_ties",top 15,["book","store","oil","lamps","days","ties","lamp","parts"],["book"],D_first_morning_ties⟩
noncomputable def e10:Ent:=⟨cu,"later_morning_ties",top 16,["book","day","ties","lamp","flame"],["book","day"],D_later_morning_ties⟩
noncomputable def e11:Ent:=⟨mm,"day_ties",top 17,["book","day","boat","most","price","length","wanted","store"],["book","day"],D_day_ties⟩
noncomputable def e12:Ent:=⟨jo,"lamp_ties",top 18,["book","lamp","day","tank","flame","length"],["book","lamp","day"],D_lamp_ties⟩
noncomputable def e13:Ent:=⟨i9,"named_ties",top 19,["book","ties","day","lamp"],["book"],D_named_ties⟩
noncomputable def e14:Ent:=⟨gh,"add_lamp_flows",top 20,["lamp","day","turn","flows","taken","bought","poured","spans","burnt","through","from_store"],["lamp","day","turn","flows"],D_add_lamp_flows⟩
noncomputable def e15:Ent:=⟨fj,"add_store_flows",top 21,["day","turn","flows","taken","bought","poured","spans","out","from_boat","from_market"],["day","turn","flows"],D_add_store_flows⟩
noncomputable def e16:Ent:=⟨o4,"flow_by",top 22,["book","rota","flows","day","lamp"],["book","rota"],D_flow_by⟩
noncomputable def e17:Ent:=⟨h8,"_law_cell_at",top 24,["script","k"],["script","k"],D_law_cell_at⟩
noncomputable def e18:Ent:=⟨aq,"_law_mixed",top 25,["cell","stir"],["cell"],D_law_mixed_3⟩
noncomputable def e19:Ent:=⟨kd,"_law_folded",top 26,["script","many","cells","k"],["script","many"],D_law_folded⟩
noncomputable def e20:Ent:=⟨nz,"_law_night",top 27,["cells","lamps","length","wanted","turn","order","spans","k","cut","one","two"],["cells","lamps","length"],D_law_night⟩
noncomputable def e21:Ent:=⟨dq,"_law_slack",top 28,["cell","much"],["cell","much"],D_law_slack_2⟩
noncomputable def e22:Ent:=⟨du,"_law_burns",top 29,["spans","lamp"],["spans","lamp"],D_law_burns_3⟩
noncomputable def e23:Ent:=⟨mn,"_law_idle",top 30,["rota","cell","lamp","idle"],["rota","cell","lamp"],D_law_idle⟩
noncomputable def e24:Ent:=⟨kf,"_law_poured",top 31,["spans","tanks","cells","poured","k","extra"],["spans","tanks","cells"],D_law_poured⟩
noncomputable def e25:Ent:=⟨kg,"_law_scaled",top 32,["book","rota","by","lamps","days","made","taken","bought","poured","spans","more"],["book","rota","by"],D_law_scaled⟩
noncomputable def e26:Ent:=⟨h9,"_law_kept_book",top 33,["script","most","lamps","days","cells","tanks","store","first","tops","bound","rota","told_days","d","start","part","length","wanted","spans","poured","k","lack","taken","bought","price","told_lamps","book","by"],["script","most"],D_law_kept_book⟩
noncomputable def e27:Ent:=⟨jh,"_law_need",top 34,["book"],["book"],D_law_need⟩
noncomputable def e28:Ent:=⟨jq,"_law_web",top 35,["book","lamps","step","need_all","ties","i","d","boat","most","price","length","wanted","s","burns"],["book"],D_law_web_3⟩
noncomputable def e29:Ent:=⟨jn,"_law_whole",top 36,["found"],["found"],D_law_whole⟩
noncomputable def e30:Ent:=⟨ia,"_law_flow_good",top 37,["web","flow","due","left","k"],["web","flow","due"],D_law_flow_good⟩
noncomputable def e31:Ent:=⟨iu,"_law_flow_sum",top 38,["web","flow"],["web","flow"],D_law_flow_sum⟩
noncomputable def e32:Ent:=⟨wb,"law",top 39,["script","book","rota","flow","web"],["script"],D_law_k26⟩
noncomputable def ents:List Ent:=[e0,e1,e2,e3,e4,e5,e6,e7,e8,e9,e10,e11,e12,e13,e14,e15,e16,e17,e18,e19,e20,e21,e22,e23,e24,e25,e26,e27,e28,e29,e30,e31,e32]
noncomputable def qd:List Str:=["len","range","sum","tuple","enumerate","sorted","min","max","list","int","isinstance","bool"]
noncomputable def cns:List (Str×Int):=[("SEA",0),("LIGHT",1)]
theorem arS{k:Nat}{Q:List Value->Prop}(h:∀a us,us.length=k->Q (a::us)):∀us:List Value,us.length=k+1->Q us
 | [],e=>nomatch e
 |a::us,e=>h a us (Nat.succ.inj e)
theorem ar0{Q:List Value->Prop}(h:∀(_:Unit),Q []):∀us:List Value,us.length=0->Q us
 | [],_=>h ()
theorem ar1{Q:List Value->Prop}(h:∀(a0:Value),Q [a0]):∀us:List Value,us.length=1->Q us:=arS λa0=>ar0 (Q:=λus=>Q (a0::us)) (λ_=>h a0)
theorem ar2{Q:List Value->Prop}(h:∀(a0 a1:Value),Q [a0,a1]):∀us:List Value,us.length=2->Q us:=arS λa0=>ar1 (Q:=λus=>Q (a0::us)) (h a0)
theorem ar3{Q:List Value->Prop}(h:∀(a0 a1 a2:Value),Q [a0,a1,a2]):∀us:List Value,us.length=3->Q us:=arS λa0=>ar2 (Q:=λus=>Q (a0::us)) (h a0)
theorem ar4{Q:List Value->Prop}(h:∀(a0 a1 a2 a3:Value),Q [a0,a1,a2,a3]):∀us:List Value,us.length=4->Q us:=arS λa0=>ar3 (Q:=λus=>Q (a0::us)) (h a0)
section
variable{P:Program}{w:World}{K:PySem.W.Frag}{mg:Str -> Option Value}{base:Heap}
theorem dv0(B:∀(j:Nat) x,qd[j]? = some x->mg x=none)(cn:p9 cns mg):Derived GL P w K mg base ents e0:=dmk λn fa cdv A outer s H E hu C =>
 (ax (zi (mf (av 2 (av 3 (av 4 (av 5 (av 6 me)))))) (bf (bf (ae 0) af) (ae 1))) (ax (fh (ah (ae 6) (ae 5))) eh))
theorem dv1(B:∀(j:Nat) x,qd[j]? = some x->mg x=none)(cn:p9 cns mg):Derived GL P w K mg base ents e1:=dmk λn fa cdv A outer s H E hu C =>
 (ax (fh (ow (B 2 _ rfl) (aa (mh ["book","day"] (fo (B 1 _ rfl) (cj (B 0 _ rfl) (aa (bf (ae 0) af) ag))) (λ_ _ _ _=>⟨(bh 1),fw,(ar (C 0 _ rfl) (aa (ae 0) (aa (ae 1) ag)))⟩)) ag))) eh)
theorem dv2(B:∀(j:Nat) x,qd[j]? = some x->mg x=none)(cn:p9 cns mg):Derived GL P w K mg base ents e2:=dmk λn fa cdv A outer s H E hu C =>
 (ax (zi (mf (av 3 (av 4 (av 5 me)))) (bf (bf (ae 0) af) (ae 1))) (ax (fh (G0 (ae 2) (Gz hu .notin (ae 5)))) eh))
theorem dv3(B:∀(j:Nat) x,qd[j]? = some x->mg x=none)(cn:p9 cns mg):Derived GL P w K mg base ents e3:=dmk λn fa cdv A outer s H E hu C =>
 (ax (bp 2 (Qc false)) (ax (nt (qi (ae 1)) (mf (av 3 (av 4 (av 5 me)))) (ax (vt hu (ae 2) (ae 3) (ah (ah (Jx hu (ae 2) (ae 3) af) (ae 5)) (ae 4))) eh)) (ax (fh (dg (B 3 _ rfl) (aa (mh ["ticks","lamp"] (fo (B 1 _ rfl) (ae 0)) (λ_ _ _ _=>⟨(bh 1),fw,(Jx hu (ae 0) (ae 1) af)⟩)) ag))) eh)))
theorem dv4(B:∀(j:Nat) x,qd[j]? = some x->mg x=none)(cn:p9 cns mg):Derived GL P w K mg base ents e4:=dmk λn fa cdv A outer s H E hu C =>
 (ax (fh (ar (C 3 _ rfl) (aa (ae 0) (aa (ae 1) ag)))) eh)
theorem dv5(B:∀(j:Nat) x,qd[j]? = some x->mg x=none)(cn:p9 cns mg):Derived GL P w K mg base ents e5:=dmk λn fa cdv A outer s H E hu C =>
 (ax (fh (ah af (ah (ae 1) (ah (ah af (cj (B 0 _ rfl) (aa (bf (ae 0) af) ag))) af)))) eh)
theorem dv6(B:∀(j:Nat) x,qd[j]? = some x->mg x=none)(cn:p9 cns mg):Derived GL P w K mg base ents e6:=dmk λn fa cdv A outer s H E hu C =>
 (ax (fh (ah (ah (ar (C 5 _ rfl) (aa (ae 0) (aa (ae 2) ag))) af) (ah af (ae 1)))) eh)
theorem dv7(B:∀(j:Nat) x,qd[j]? = some x->mg x=none)(cn:p9 cns mg):Derived GL P w K mg base ents e7:=dmk λn fa cdv A outer s H E hu C =>
 (ax (fh (ah (ah (ar (C 5 _ rfl) (aa (ae 0) (aa (ae 2) ag))) af) (ah af (ae 1)))) eh)
theorem dv8(B:∀(j:Nat) x,qd[j]? = some x->mg x=none)(cn:p9 cns mg):Derived GL P w K mg base ents e8:=dmk λn fa cdv A outer s H E hu C =>
 (ax (fh (ah (ah (ar (C 5 _ rfl) (aa (ae 0) (aa (ae 1) ag))) (ah af (cj (B 0 _ rfl) (aa (bf (ae 0) af) ag)))) af)) eh)
theorem dv9(B:∀(j:Nat) x,qd[j]? = some x->mg x=none)(cn:p9 cns mg):Derived GL P w K mg base ents e9:=dmk λn fa cdv A outer s H E hu C =>
 (ax (zi (mf (av 1 (av 2 (av 3 (av 4 me))))) (ae 0)) (ax (bp 5 (rh (aa (cg (aa (cg (aa (Bl (cn 0 _ rfl)) (aa (ar (C 5 _ rfl) (aa (ae 0) (aa af ag))) (aa (ae 2) (aa af ag))))) (aa (cg (aa lg (aa af ag))) ag))) ag))) (ax (nt (T5 (B 4 _ rfl) (ae 3)) (mf (av 6 (av 7 me))) (ax (vq (a8 (ae 5) (aa (cg (aa (cg (aa (Bl (cn 0 _ rfl)) (aa (ar (C 6 _ rfl) (aa (ae 0) (aa (ae 6) (aa af ag)))) (aa (bf (ae 7) af) (aa af ag))))) (aa (cg (aa lg (aa af (aa (ae 6) ag)))) ag))) ag))) eh)) (ax (fh (ae 5)) eh))))
theorem afq(B:∀(j:Nat) x,qd[j]? = some x->mg x=none)(cn:p9 cns mg):Derived GL P w K mg base ents e10:=dmk λn fa cdv A outer s H E hu C =>
 (ax (bp 2 (rh (aa (cg (aa (cg (aa (ar (C 5 _ rfl) (aa (ae 0) (aa (ah (ae 1) af) ag))) (aa (ar (C 5 _ rfl) (aa (ae 0) (aa (ae 1) ag))) (aa (bf (ae 0) af) (aa af ag))))) (aa (cg (aa lg (aa (ae 1) ag))) ag))) ag))) (ax (nt (fo (B 1 _ rfl) (cj (B 0 _ rfl) (aa (bf (ae 0) af) ag))) (bh 3) (ax (bp 4 (ar (C 7 _ rfl) (aa (ae 0) (aa (ae 3) (aa (ah (ae 1) af) ag))))) (ax (vq (a8 (ae 2) (aa (cg (aa (cg (aa (ae 4) (aa (ar (C 6 _ rfl) (aa (ae 0) (aa (ae 3) (aa (ae 1) ag)))) (aa (ar (C 1 _ rfl) (aa (ae 0) ag)) (aa af ag))))) (aa (cg (aa lg (aa (ae 1) (aa (ae 3) ag)))) ag))) ag))) eh))) (ax (fh (To 2)) eh)))
theorem afr(B:∀(j:Nat) x,qd[j]? = some x->mg x=none)(cn:p9 cns mg):Derived GL P w K mg base ents e11:=dmk λn fa cdv A outer s H E hu C =>
 (ax (zi (mf (av 2 (av 3 (av 4 (av 5 (av 6 me)))))) (bf (bf (ae 0) af) (ae 1))) (ax (bp 7 (ar (C 5 _ rfl) (aa (ae 0) (aa (ae 1) ag)))) (ax (fh (rh (aa (cg (aa (cg (aa (Bl (cn 0 _ rfl)) (aa (ae 7) (aa (ae 2) (aa af ag))))) (aa (cg (aa lg (aa (ae 1) ag))) ag))) (aa (cg (aa (cg (aa (Bl (cn 0 _ rfl)) (aa (ae 7) (aa (ae 3) (aa (ae 4) ag))))) (aa (cg (aa lg (aa (ae 1) ag))) ag))) (aa (cg (aa (cg (aa (ar (C 8 _ rfl) (aa (ae 0) (aa (ae 1) ag))) (aa (Bl (cn 1 _ rfl)) (aa (ar (C 0 _ rfl) (aa (ae 0) (aa (ae 1) ag))) (aa af ag))))) (aa (cg (aa lg (aa (ae 1) ag))) ag))) ag))))) eh)))
theorem afs(B:∀(j:Nat) x,qd[j]? = some x->mg x=none)(cn:p9 cns mg):Derived GL P w K mg base ents e12:=dmk λn fa cdv A outer s H E hu C =>
 (ax (bp 3 (ar (C 6 _ rfl) (aa (ae 0) (aa (ae 1) (aa (ae 2) ag))))) (ax (bp 4 (ar (C 7 _ rfl) (aa (ae 0) (aa (ae 1) (aa (ae 2) ag))))) (ax (bp 5 (abt (ze (ar (C 2 _ rfl) (aa (ae 0) (aa (ae 1) (aa (ae 2) ag))))) (bf (bf (bf (ae 0) af) (ae 2)) af) af)) (ax (fh (rh (aa (cg (aa (cg (aa (ar (C 5 _ rfl) (aa (ae 0) (aa (ae 2) ag))) (aa (ae 3) (aa (ar (C 1 _ rfl) (aa (ae 0) ag)) (aa af ag))))) (aa (cg (aa lg (aa (ae 2) (aa (ae 1) ag)))) ag))) (aa (cg (aa (cg (aa (ae 3) (aa (ae 4) (aa (bf (bf (bf (ae 0) af) (ae 1)) af) (aa af ag))))) (aa (cg (aa lg (aa (ae 2) (aa (ae 1) ag)))) ag))) (aa (cg (aa (cg (aa (ae 4) (aa (ar (C 8 _ rfl) (aa (ae 0) (aa (ae 2) ag))) (aa (ae 5) (aa af ag))))) (aa (cg (aa lg (aa (ae 2) (aa (ae 1) ag)))) ag))) ag))))) eh))))
theorem aft(B:∀(j:Nat) x,qd[j]? = some x->mg x=none)(cn:p9 cns mg):Derived GL P w K mg base ents e13:=dmk λn fa cdv A outer s H E hu C =>
 (ax (bp 1 (ar (C 9 _ rfl) (aa (ae 0) ag))) (ax (nt (Tw (B 1 _ rfl) af (cj (B 0 _ rfl) (aa (bf (ae 0) af) ag))) (bh 2) (ax (vq (qu (ae 1) (aa (ar (C 10 _ rfl) (aa (ae 0) (aa (ae 2) ag))) ag))) eh)) (ax (nt (fo (B 1 _ rfl) (cj (B 0 _ rfl) (aa (bf (ae 0) af) ag))) (bh 2) (ax (vq (qu (ae 1) (aa (ar (C 11 _ rfl) (aa (ae 0) (aa (ae 2) ag))) ag))) (ax (nt (fo (B 1 _ rfl) (cj (B 0 _ rfl) (aa (bf (ae 0) af) ag))) (bh 3) (ax (vq (qu (ae 1) (aa (ar (C 12 _ rfl) (aa (ae 0) (aa (ae 3) (aa (ae 2) ag)))) ag))) eh)) eh))) (ax (fh (Kg hu (B 5 _ rfl) (aa (ae 1) ag))) eh))))
theorem afu(B:∀(j:Nat) x,qd[j]? = some x->mg x=none)(cn:p9 cns mg):Derived GL P w K mg base ents e14:=dmk λn fa cdv A outer s H E hu C =>
 (ax (zi (mf (av 4 (av 5 (av 6 (av 7 me))))) (ae 2)) (ax (bp 8 (bf (ar (C 4 _ rfl) (aa (cj (B 0 _ rfl) (aa (ae 6) ag)) (aa (ae 7) ag))) (ae 0))) (ax (bp 9 (ah (ae 8) (Qg hu (ae 3) (aa lg (aa (ah (ae 1) af) (aa (ae 0) ag))) af))) (ax (bp 10 (zf (B 6 _ rfl) (aa (bf (ae 6) (ae 0)) (aa (ae 9) ag)))) (ax (oy hu (ae 3) (aa lg (aa (ae 1) (aa (ae 0) ag))) (ae 8)) (ax (oy hu (ae 3) (aa lg (aa (ae 1) (aa (ae 0) ag))) (ae 9)) (ax (oy hu (ae 3) (aa lg (aa (ae 1) (aa (ae 0) ag))) (ae 10)) (ax (oy hu (ae 3) (aa lg (aa (ae 1) (aa (ae 0) ag))) (ah (ae 9) (ae 10))) eh))))))))
theorem afv(B:∀(j:Nat) x,qd[j]? = some x->mg x=none)(cn:p9 cns mg):Derived GL P w K mg base ents e15:=dmk λn fa cdv A outer s H E hu C =>
 (ax (zi (mf (av 3 (av 4 (av 5 (av 6 me))))) (ae 1)) (ax (bp 7 (ah (ow (B 2 _ rfl) (aa (mh ["flows","day","lamp"] (fo (B 1 _ rfl) (cj (B 0 _ rfl) (aa (ae 5) ag))) (λ_ _ _ _=>⟨(bh 2),fw,(abz hu (ae 0) (aa lg (aa (ae 1) (aa (ae 2) ag))))⟩)) ag)) (Qg hu (ae 2) (aa lg (aa (ah (ae 0) af) ag)) af))) (ax (bp 8 (zf (B 6 _ rfl) (aa (ae 3) (aa (ae 7) ag)))) (ax (bp 9 (zf (B 6 _ rfl) (aa (ae 4) (aa (ah (ae 7) (ae 8)) ag)))) (ax (oy hu (ae 2) (aa lg (aa (ae 0) ag)) (ae 8)) (ax (oy hu (ae 2) (aa lg (aa (ae 0) ag)) (ae 9)) (ax (oy hu (ae 2) (aa lg (aa (ae 0) ag)) (ah (ah (ae 7) (ae 8)) (ae 9))) eh)))))))
theorem afw(B:∀(j:Nat) x,qd[j]? = some x->mg x=none)(cn:p9 cns mg):Derived GL P w K mg base ents e16:=dmk λn fa cdv A outer s H E hu C =>
 (ax (bp 2 (Qc true)) (ax (nt (Ue (B 1 _ rfl) (ah (cj (B 0 _ rfl) (aa (ae 1) ag)) af) (Tp af) (Tp af)) (bh 3) (ax (nt (fo (B 1 _ rfl) (cj (B 0 _ rfl) (aa (bf (ae 0) af) ag))) (bh 4) (ax (vq (ar (C 14 _ rfl) (aa (ae 4) (aa (ae 3) (aa (bf (ae 1) (ae 3)) (aa (ae 2) ag)))))) eh)) (ax (vq (ar (C 15 _ rfl) (aa (ae 3) (aa (bf (ae 1) (ae 3)) (aa (ae 2) ag))))) (ax (oy hu (ae 2) (aa lg (aa (ae 3) ag)) (ar (C 0 _ rfl) (aa (ae 0) (aa (ae 3) ag)))) eh)))) (ax (fh (dg (B 3 _ rfl) (aa (mh ["flows","tie","name"] (qi (ar (C 13 _ rfl) (aa (ae 0) ag))) (λ_ _ _ _=>⟨(mf (av 1 (av 2 me))),fw,(ab0 hu (ae 0) (ae 2))⟩)) ag))) eh)))
theorem afx(B:∀(j:Nat) x,qd[j]? = some x->mg x=none)(cn:p9 cns mg):Derived GL P w K mg base ents e17:=dmk λn fa cdv A outer s H E hu C =>
 (ax (Ju (jm (ae 1) (qt hu .lt (cj (B 0 _ rfl) (aa (ae 0) ag)))) (ax (fh (bf (ae 0) (ae 1))) eh) eh) (ax (fh af) eh))
theorem afy(B:∀(j:Nat) x,qd[j]? = some x->mg x=none)(cn:p9 cns mg):Derived GL P w K mg base ents e18:=dmk λn fa cdv A outer s H E hu C =>
 (ax (bp 1 (ah (ah (ah (ah (ae 0) af) af) af) af)) (ax (fh (ah (ah (ah (ae 1) (ae 1)) af) af)) eh))
theorem afz(B:∀(j:Nat) x,qd[j]? = some x->mg x=none)(cn:p9 cns mg):Derived GL P w K mg base ents e19:=dmk λn fa cdv A outer s H E hu C =>
 (ax (bp 2 (ah (rh (aa af ag)) (ae 1))) (ax (nt (fo (B 1 _ rfl) (cj (B 0 _ rfl) (aa (ae 0) ag))) (bh 3) (ax (vt hu (ae 2) (ah (ae 3) (ae 1)) (ah (ah (bf (ae 2) (ah (ae 3) (ae 1))) af) (bf (ae 0) (ae 3)))) eh)) (ax (fh (To 2)) eh)))
theorem af0(B:∀(j:Nat) x,qd[j]? = some x->mg x=none)(cn:p9 cns mg):Derived GL P w K mg base ents e20:=dmk λn fa cdv A outer s H E hu C =>
 (ax (bp 3 (ah (ar (C 18 _ rfl) (aa (bf (ae 0) af) ag)) (ah (ae 1) af))) (ax (bp 4 (ar (C 18 _ rfl) (aa (bf (ae 0) af) ag))) (ax (vp 5 ["turn","lamps","k"] (fo (B 1 _ rfl) (ae 1)) (λ_ _ _ _=>⟨(bh 2),fw,(ah (ah (ae 0) (ae 2)) (ae 1))⟩)) (ax (bp 6 (rh ag)) (ax (nt (fo (B 1 _ rfl) (ae 3)) (bh 7) (ax (bp 8 (ah (ah (ar (C 18 _ rfl) (aa (bf (ae 0) af) ag)) (ah (ae 7) af)) (ah (ae 2) af))) (ax (bp 9 (bf (ae 5) (ae 7))) (ax (bp 10 (ae 9)) (ax (Ju (abv (Xl (jm (ae 7) (qt hu .eq af)) (Ts (jm (ae 3) (qt hu .lt (ae 1)))))) (ax (bp 10 (bf (ae 5) (ah (ae 1) af))) eh) eh) (ax (Ju (jm (ae 8) (qt hu .gt af)) (ax (vq (a8 (ae 6) (aa (cg (aa (ae 9) (aa af (aa (ae 8) ag)))) ag))) eh) eh) (ax (Ju (jm (ae 8) (qt hu .lt (ae 2))) (ax (vq (a8 (ae 6) (aa (cg (aa (ae 10) (aa (ae 8) (aa (ae 2) ag)))) ag))) eh) eh) eh))))))) (ax (fh (cg (aa (ae 3) (aa (dg (B 3 _ rfl) (aa (Bk hu (B 5 _ rfl) (aa (ae 6) ag)) ag)) ag)))) eh))))))
theorem af1(B:∀(j:Nat) x,qd[j]? = some x->mg x=none)(cn:p9 cns mg):Derived GL P w K mg base ents e21:=dmk λn fa cdv A outer s H E hu C =>
 (ax (Ju (jm (ah (ar (C 18 _ rfl) (aa (ae 0) ag)) af) (qt hu .gt af)) (ax (fh (ae 1)) eh) eh) (ax (fh (ah (ae 1) (ah (ah (ar (C 18 _ rfl) (aa (ae 0) ag)) af) af))) eh))
theorem af2(B:∀(j:Nat) x,qd[j]? = some x->mg x=none)(cn:p9 cns mg):Derived GL P w K mg base ents e22:=dmk λn fa cdv A outer s H E hu C =>
 (ax (fh (ow (B 2 _ rfl) (aa (mh ["lamp","span"] (qi (ae 0)) (λ_ _ _ _=>⟨(bh 1),(zh (jm (bf (ae 1) af) (qt hu .eq (ae 0))) fw),(ah (bf (ae 1) af) (bf (ae 1) af))⟩)) ag))) eh)
theorem af3(B:∀(j:Nat) x,qd[j]? = some x->mg x=none)(cn:p9 cns mg):Derived GL P w K mg base ents e23:=dmk λn fa cdv A outer s H E hu C =>
 (ax (vp 3 ["rota","lamp","d"] (fo (B 1 _ rfl) (cj (B 0 _ rfl) (aa (ae 0) ag))) (λ_ _ _ _=>⟨(bh 2),(zh (jm (ar (C 22 _ rfl) (aa (bf (bf (ae 0) (ae 2)) af) (aa (ae 1) ag))) (qt hu .eq af)) fw),(ae 2)⟩)) (ax (fh (dg (B 3 _ rfl) (aa (mh ["cell","d"] (qi (ae 3)) (λ_ _ _ _=>⟨(bh 1),(zh (jm (ah (ah (ar (C 18 _ rfl) (aa (ae 0) ag)) (ae 1)) af) (qt hu .eq af)) fw),(ae 1)⟩)) ag))) eh))
theorem af4(B:∀(j:Nat) x,qd[j]? = some x->mg x=none)(cn:p9 cns mg):Derived GL P w K mg base ents e24:=dmk λn fa cdv A outer s H E hu C =>
 (ax (bp 3 (rh ag)) (ax (nt (fo (B 1 _ rfl) (cj (B 0 _ rfl) (aa (ae 1) ag))) (bh 4) (ax (bp 5 (ar (C 18 _ rfl) (aa (bf (ae 2) (ae 4)) ag))) (ax (vq (a8 (ae 3) (aa (ah (zg (B 7 _ rfl) (aa af (aa (ah (ar (C 22 _ rfl) (aa (ae 0) (aa (ae 4) ag))) (bf (ae 1) (ae 4))) ag))) (ah (ah (ae 5) af) (ah (ah (ae 5) af) af))) ag))) eh))) (ax (fh (To 3)) eh)))
theorem af5(B:∀(j:Nat) x,qd[j]? = some x->mg x=none)(cn:p9 cns mg):Derived GL P w K mg base ents e25:=dmk λn fa cdv A outer s H E hu C =>
 (ax (bp 3 (dg (B 3 _ rfl) (aa (mh ["by","lamp"] (qi (bf (ae 0) af)) (λ_ _ _ _=>⟨(bh 1),fw,(cg (aa (ah (bf (ae 1) af) (ae 0)) (aa (ah (bf (ae 1) af) (ae 0)) (aa (bf (ae 1) af) ag))))⟩)) ag))) (ax (bp 4 (dg (B 3 _ rfl) (aa (mh ["by","day"] (qi (bf (ae 0) af)) (λ_ _ _ _=>⟨(bh 1),fw,(cg (aa (ah (bf (ae 1) af) (ae 0)) (aa (ah (bf (ae 1) af) (ae 0)) (aa (bf (ae 1) af) (aa (ah (bf (ae 1) af) (ae 0)) (aa (bf (ae 1) af) ag))))))⟩)) ag))) (ax (bp 5 (rh ag)) (ax (nt (qi (ae 1)) (mf (av 6 (av 7 (av 8 (av 9 me))))) (ax (bp 10 (dg (B 3 _ rfl) (aa (mh ["by","span"] (qi (ae 9)) (λ_ _ _ _=>⟨(bh 1),fw,(cg (aa (bf (ae 1) af) (aa (ah (bf (ae 1) af) (ae 0)) (aa (ah (bf (ae 1) af) (ae 0)) ag))))⟩)) ag))) (ax (vq (a8 (ae 5) (aa (cg (aa (ah (ae 6) (ae 2)) (aa (ah (ae 7) (ae 2)) (aa (dg (B 3 _ rfl) (aa (mh ["by","much"] (qi (ae 8)) (λ_ _ _ _=>⟨(bh 1),fw,(ah (ae 1) (ae 0))⟩)) ag)) (aa (ae 10) ag))))) ag))) eh))) (ax (fh (cg (aa (cg (aa (ah (bf (ae 0) af) (ae 2)) (aa (ah (bf (ae 0) af) (ae 2)) (aa (ae 3) (aa (ae 4) ag))))) (aa (dg (B 3 _ rfl) (aa (ae 5) ag)) ag)))) eh)))))
theorem af6(B:∀(j:Nat) x,qd[j]? = some x->mg x=none)(cn:p9 cns mg):Derived GL P w K mg base ents e26:=dmk λn fa cdv A outer s H E hu C =>
 (ax (bp 2 (ah af (ah (ar (C 18 _ rfl) (aa (ar (C 17 _ rfl) (aa (ae 0) (aa af ag))) ag)) af))) (ax (bp 3 (ah af (ah (ar (C 18 _ rfl) (aa (ar (C 17 _ rfl) (aa (ae 0) (aa af ag))) ag)) (ae 1)))) (ax (bp 4 (ar (C 19 _ rfl) (aa (Xk (ae 0) (Tr af) abu) (aa (ah (ah af (ah af (ae 2))) (ah (ah af (ae 2)) (ae 3))) ag)))) (ax (vp 5 ["cells","k"] (fo (B 1 _ rfl) (ae 2)) (λ_ _ _ _=>⟨(bh 1),fw,(ah (ar (C 18 _ rfl) (aa (bf (ae 0) (ah af (ah af (ae 1)))) ag)) af)⟩)) (ax (bp 6 (ah (ar (C 18 _ rfl) (aa (bf (ae 4) af) ag)) af)) (ax (bp 7 (cg (aa (ae 6) (aa (Er (B 8 _ rfl) (aa (ae 5) ag)) ag)))) (ax (bp 8 (Er (B 8 _ rfl) (aa (ae 5) ag))) (ax (bp 9 (ah (ar (C 18 _ rfl) (aa (bf (ae 4) af) ag)) af)) (ax (bp 10 (rh ag)) (ax (bp 11 (rh ag)) (ax (nt (fo (B 1 _ rfl) (ae 3)) (bh 12) (ax (bp 13 (ah (ah af (ah af (ae 2))) (ah (ae 12) (ah af (ae 2))))) (ax (bp 14 (Xk (ae 4) (Tr (ae 13)) (Tr (ah (ah (ae 13) af) (ae 2))))) (ax (bp 15 (ah af (ah (ar (C 18 _ rfl) (aa (bf (ae 14) af) ag)) af))) (ax (zi (mf (av 16 (av 17 me))) (ar (C 20 _ rfl) (aa (Xk (ae 14) (Tr af) (Tr af)) (aa (ae 2) (aa (ae 15) ag))))) (ax (bp 18 (ar (C 24 _ rfl) (aa (ae 17) (aa (ae 5) (aa (Xk (ae 14) (Tr af) abu) ag))))) (ax (nt (fo (B 1 _ rfl) (ae 2)) (bh 19) (ax (vt hu (ae 5) (ae 19) (ah (bf (ae 5) (ae 19)) (bf (ae 18) (ae 19)))) (ax (vt hu (ae 8) (ae 19) (zg (B 7 _ rfl) (aa (bf (ae 8) (ae 19)) (aa (bf (ae 5) (ae 19)) ag)))) (ax (vt hu (ae 5) (ae 19) (ah (bf (ae 5) (ae 19)) (ar (C 22 _ rfl) (aa (ae 17) (aa (ae 19) ag))))) eh)))) (ax (bp 20 (zg (B 7 _ rfl) (aa af (aa (ah (ow (B 2 _ rfl) (aa (ae 18) ag)) (ae 6)) ag)))) (ax (bp 21 (ah (ar (C 18 _ rfl) (aa (bf (ae 14) af) ag)) (ah (ae 20) af))) (ax (bp 22 (zg (B 7 _ rfl) (aa af (aa (ah (ae 20) (ae 21)) ag)))) (ax (bp 6 (zf (B 6 _ rfl) (aa (ae 9) (aa (ah (ah (ah (ae 6) (ae 21)) (ae 22)) (ow (B 2 _ rfl) (aa (ae 18) ag))) ag)))) (ax (bp 23 (ah (ar (C 18 _ rfl) (aa (bf (ae 14) af) ag)) af)) (ax (vq (a8 (ae 11) (aa (cg (aa (ar (C 21 _ rfl) (aa (bf (ae 14) af) (aa (ae 21) ag))) (aa (ar (C 21 _ rfl) (aa (bf (ae 14) af) (aa (ae 22) ag))) (aa (ae 23) (aa (ae 15) (aa (ae 16) ag)))))) ag))) (ax (vq (a8 (ae 10) (aa (cg (aa (ae 21) (aa (ae 22) (aa (dg (B 3 _ rfl) (aa (ae 18) ag)) (aa (ae 17) ag))))) ag))) eh)))))))))))))) (ax (bp 24 (rh ag)) (ax (nt (fo (B 1 _ rfl) (ae 2)) (bh 19) (ax (vq (a8 (ae 24) (aa (cg (aa (ar (C 21 _ rfl) (aa (bf (ae 4) (ah af (ah af (ae 19)))) (aa (bf (ae 8) (ae 19)) ag))) (aa (bf (bf (ae 7) af) (ae 19)) (aa (ar (C 23 _ rfl) (aa (ae 10) (aa (bf (ae 4) (ah af (ah af (ae 19)))) (aa (ae 19) ag)))) ag)))) ag))) eh)) (ax (bp 25 (cg (aa (ae 9) (aa (bf (ae 7) af) (aa (dg (B 3 _ rfl) (aa (ae 24) ag)) (aa (dg (B 3 _ rfl) (aa (ae 11) ag)) ag)))))) (ax (bp 26 af) (ax (Ju (jm (ah (ah (ar (C 18 _ rfl) (aa (bf (ae 4) af) ag)) af) af) (qt hu .eq af)) (ax (bp 26 (ah af (ah (ah (bf (ae 4) af) af) (ah af af)))) eh) eh) (ax (fh (ar (C 25 _ rfl) (aa (ae 25) (aa (ae 10) (aa (ae 26) ag))))) eh)))))))))))))))))
theorem af7(B:∀(j:Nat) x,qd[j]? = some x->mg x=none)(cn:p9 cns mg):Derived GL P w K mg base ents e27:=dmk λn fa cdv A outer s H E hu C =>
 (ax (fh (ow (B 2 _ rfl) (aa (mh ["day"] (qi (bf (ae 0) af)) (λ_ _ _ _=>⟨(bh 0),fw,(ah (bf (ae 0) af) (bf (ae 0) af))⟩)) ag))) eh)
theorem af8(B:∀(j:Nat) x,qd[j]? = some x->mg x=none)(cn:p9 cns mg):Derived GL P w K mg base ents e28:=dmk λn fa cdv A outer s H E hu C =>
 (ax (bp 1 (cj (B 0 _ rfl) (aa (bf (ae 0) af) ag))) (ax (bp 2 (ah (ah af (ae 1)) af)) (ax (bp 3 (ar (C 27 _ rfl) (aa (ae 0) ag))) (ax (bp 4 (rh (aa (cg (aa af (aa af (aa (bf (ae 0) af) (aa af ag))))) ag))) (ax (nt (fo (B 1 _ rfl) (ae 1)) (bh 5) (ax (vq (a8 (ae 4) (aa (cg (aa af (aa (ah af (ah af (ae 5))) (aa (bf (bf (bf (ae 0) af) (ae 5)) af) (aa af ag))))) ag))) eh)) (ax (nt (fo (B 1 _ rfl) (cj (B 0 _ rfl) (aa (bf (ae 0) af) ag))) (bh 6) (ax (zi (mf (av 7 (av 8 (av 9 (av 10 (av 11 me)))))) (bf (bf (ae 0) af) (ae 6))) (ax (bp 12 (ah af (ah (ae 6) (ae 2)))) (ax (vq (a8 (ae 4) (aa (cg (aa af (aa (ae 12) (aa (ae 7) (aa af ag))))) ag))) (ax (vq (a8 (ae 4) (aa (cg (aa af (aa (ae 12) (aa (ae 8) (aa (ae 9) ag))))) ag))) (ax (vq (a8 (ae 4) (aa (cg (aa (ah (ah (ae 12) (ae 2)) af) (aa af (aa (ah (ae 11) (ae 10)) (aa af ag))))) ag))) (ax (nt (fo (B 1 _ rfl) (ae 1)) (bh 5) (ax (bp 13 (ah (ae 10) (Tu (B 9 _ rfl) (aa (G0 (ae 6) (Gz hu .notin (bf (bf (bf (ae 0) af) (ae 5)) af))) ag)))) (ax (vq (a8 (ae 4) (aa (cg (aa (ae 12) (aa (ah (ah (ae 12) af) (ah af (ae 5))) (aa (ae 3) (aa af ag))))) ag))) (ax (vq (a8 (ae 4) (aa (cg (aa (ah (ah (ae 12) af) (ah af (ae 5))) (aa (ah (ah (ae 12) af) (ah af (ae 5))) (aa (bf (bf (bf (ae 0) af) (ae 5)) af) (aa af ag))))) ag))) (ax (vq (a8 (ae 4) (aa (cg (aa (ah (ah (ae 12) af) (ah af (ae 5))) (aa (ah (ah (ae 12) (ae 2)) af) (aa (ae 13) (aa af ag))))) ag))) (ax (Ju (jm (ae 6) (qt hu .lt (ah (cj (B 0 _ rfl) (aa (bf (ae 0) af) ag)) af))) (ax (vq (a8 (ae 4) (aa (cg (aa (ah (ah (ae 12) af) (ah af (ae 5))) (aa (ah (ah (ah (ae 12) (ae 2)) af) (ah af (ae 5))) (aa (ae 3) (aa af ag))))) ag))) eh) eh) eh)))))) (ax (Ju (jm (ae 6) (qt hu .lt (ah (cj (B 0 _ rfl) (aa (bf (ae 0) af) ag)) af))) (ax (vq (a8 (ae 4) (aa (cg (aa (ae 12) (aa (ah (ae 12) (ae 2)) (aa (bf (ae 0) af) (aa af ag))))) ag))) eh) eh) eh)))))))) (ax (fh (cg (aa (ah af (ah (ae 2) (cj (B 0 _ rfl) (aa (bf (ae 0) af) ag)))) (aa (dg (B 3 _ rfl) (aa (Bk hu (B 5 _ rfl) (aa (ae 4) ag)) ag)) ag)))) eh)))))))
theorem af9(B:∀(j:Nat) x,qd[j]? = some x->mg x=none)(cn:p9 cns mg):Derived GL P w K mg base ents e29:=dmk λn fa cdv A outer s H E hu C =>
 (ax (fh (Tq (Tv (ae 0) (B 10 _ rfl) (B 9 _ rfl)) (P9 (abr (Tv (ae 0) (B 10 _ rfl) (B 11 _ rfl)))))) eh)
theorem aga(B:∀(j:Nat) x,qd[j]? = some x->mg x=none)(cn:p9 cns mg):Derived GL P w K mg base ents e30:=dmk λn fa cdv A outer s H E hu C =>
 (ax (Ju (abv (Tt (Jt (ze (Tv (ae 1) (B 10 _ rfl) (B 3 _ rfl)))) (Qa (jm (cj (B 0 _ rfl) (aa (ae 1) ag)) (qt hu .ne (cj (B 0 _ rfl) (aa (bf (ae 0) af) ag))))))) (ax (fh abq) eh) eh) (ax (bp 3 (ah (rh (aa af ag)) (bf (ae 0) af))) (ax (nt (fo (B 1 _ rfl) (cj (B 0 _ rfl) (aa (ae 1) ag))) (bh 4) (ax (Ju (abv (Tt (Jt (ze (ar (C 29 _ rfl) (aa (bf (ae 1) (ae 4)) ag)))) (Tt (jm (bf (ae 1) (ae 4)) (qt hu .lt af)) (Qa (jm (bf (ae 1) (ae 4)) (qt hu .gt (bf (bf (bf (ae 0) af) (ae 4)) af))))))) (ax (fh abq) eh) eh) (ax (vt hu (ae 3) (bf (bf (bf (ae 0) af) (ae 4)) af) (ah (bf (ae 3) (bf (bf (bf (ae 0) af) (ae 4)) af)) (bf (ae 1) (ae 4)))) (ax (vt hu (ae 3) (bf (bf (bf (ae 0) af) (ae 4)) af) (ah (bf (ae 3) (bf (bf (bf (ae 0) af) (ae 4)) af)) (bf (ae 1) (ae 4)))) eh)))) (ax (fh (Tq (G0 (bf (ae 3) af) (Gz hu .eq (ae 2))) (Tq (G0 (bf (ae 3) af) (Gz hu .eq (Tp (ae 2)))) (P9 (G0 (Xk (ae 3) (Tr af) abu) (Gz hu .eq (ah (rh (aa af ag)) (ah (bf (ae 0) af) af)))))))) eh))))
theorem agb(B:∀(j:Nat) x,qd[j]? = some x->mg x=none)(cn:p9 cns mg):Derived GL P w K mg base ents e31:=dmk λn fa cdv A outer s H E hu C =>
 (ax (fh (ow (B 2 _ rfl) (aa (mh ["web","flow","k"] (fo (B 1 _ rfl) (cj (B 0 _ rfl) (aa (ae 1) ag))) (λ_ _ _ _=>⟨(bh 2),fw,(ah (bf (bf (bf (ae 0) af) (ae 2)) af) (bf (ae 1) (ae 2)))⟩)) ag))) eh)
theorem agc(B:∀(j:Nat) x,qd[j]? = some x->mg x=none)(cn:p9 cns mg):Derived GL P w K mg base ents e32:=dmk λn fa cdv A outer s H E hu C =>
 (ax (zi (mf (av 1 (av 2 me))) (ar (C 26 _ rfl) (aa (ae 0) (aa af ag)))) (ax (bp 3 (ar (C 16 _ rfl) (aa (ae 1) (aa (ae 2) ag)))) (ax (bp 4 (ar (C 28 _ rfl) (aa (ae 1) ag))) (ax (Ju (Jt (ze (ar (C 30 _ rfl) (aa (ae 4) (aa (ae 3) (aa (ar (C 27 _ rfl) (aa (ae 1) ag)) ag)))))) (ax (fh abq) eh) eh) (ax (fh (G0 (ar (C 31 _ rfl) (aa (ae 4) (aa (ae 3) ag))) (Gz hu .le (ow (B 2 _ rfl) (aa (mh ["rota","book","d"] (fo (B 1 _ rfl) (cj (B 0 _ rfl) (aa (ae 2) ag))) (λ_ _ _ _=>⟨(bh 2),fw,(ah (bf (bf (ae 0) (ae 2)) af) (bf (bf (bf (ae 1) af) (ae 2)) af))⟩)) ag))))) eh)))))
theorem dvs(B:∀(j:Nat) x,qd[j]? = some x->mg x=none)(cn:p9 cns mg):∀(j:Nat) e,ents[j]? = some e->Derived GL P w K mg base ents e:=(Lp.dj (dv0 B cn) (Lp.dj (dv1 B cn) (Lp.dj (dv2 B cn) (Lp.dj (dv3 B cn) (Lp.dj (dv4 B cn) (Lp.dj (dv5 B cn) (Lp.dj (dv6 B cn) (Lp.dj (dv7 B cn) (Lp.dj (dv8 B cn) (Lp.dj (dv9 B cn) (Lp.dj (afq B cn) (Lp.dj (afr B cn) (Lp.dj (afs B cn) (Lp.dj (aft B cn) (Lp.dj (afu B cn) (Lp.dj (afv B cn) (Lp.dj (afw B cn) (Lp.dj (afx B cn) (Lp.dj (afy B cn) (Lp.dj (afz B cn) (Lp.dj (af0 B cn) (Lp.dj (af1 B cn) (Lp.dj (af2 B cn) (Lp.dj (af3 B cn) (Lp.dj (af4 B cn) (Lp.dj (af5 B cn) (Lp.dj (af6 B cn) (Lp.dj (af7 B cn) (Lp.dj (af8 B cn) (Lp.dj (af9 B cn) (Lp.dj (aga B cn) (Lp.dj (agb B cn) (Lp.dj (agc B cn) Lp.Zv)))))))))))))))))))))))))))))))))
end
end Lp.Law
namespace PySem.W.Fast
noncomputable def tw12888934226795450858:=0
noncomputable def tw4042315659845487191:=0
noncomputable def tw10855875179634309020:=0
noncomputable def tw741019755868248027:=0
noncomputable def tw1291245716054198447:=0
noncomputable def tw9301350350971971436:=0
noncomputable def tw14810181282662168241:=0
noncomputable def tw13465293007187367032:=0
noncomputable def tw1229417311097707485:=0
noncomputable def tw3945033972113502361:=0
noncomputable def tw15094091424094819946:=0
noncomputable def tw6141154996560768570:=0
noncomputable def tw7253963572875807626:=0
noncomputable def tw12901673463493908064:=0
noncomputable def tw2950165914795256310:=0
noncomputable def tw7087795732804244197:=0
noncomputable def tw17564021603387889674:=0
noncomputable def tw1617136814864278528:=0
noncomputable def tw18304006546442167953:=0
noncomputable def tw15213504429758348280:=0
noncomputable def tw5734886472050806279:=0
noncomputable def tw1357902511673464091:=0
noncomputable def tw327185594582948498:=0
noncomputable def tw17046676778546070223:=0
noncomputable def tw4445142678750531158:=0
noncomputable def tw1123259923030173519:=0
noncomputable def tw903298476586848672:=0
noncomputable def tw15686649923268828736:=0
noncomputable def tw5455385264162975277:=0
noncomputable def tw10188539722719249320:=0
noncomputable def tw2334489672254995679:=0
noncomputable def tw1933232425656158630:=0
noncomputable def tw13581804847793952195:=0
noncomputable def tw15338059991484717744:=0
noncomputable def tw14247977247176183782:=0
noncomputable def tw498159263789794284:=0
noncomputable def tw4909290197835933112:=0
noncomputable def tw12167930651080148904:=0
noncomputable def tw6673110822721491616:=0
noncomputable def tw9264418606247012449:=0
noncomputable def tw4652872403976998412:=0
noncomputable def tw8005976502599423647:=0
noncomputable def tw12485031292608875386:=0
noncomputable def tw4742247594110214379:=0
noncomputable def tw16607318958386423631:=0
noncomputable def tw17439037754001515446:=0
noncomputable def tw10678574532914129125:=0
noncomputable def tw14583579137537331560:=0
noncomputable def tw2944686288654790030:=0
noncomputable def tw14822778418791456055:=0
noncomputable def tw1252541173629157565:=0
noncomputable def tw7333041850464680553:=0
noncomputable def tw14434822578870888236:=0
noncomputable def tw10349534603108308263:=0
noncomputable def tw8803860843617971561:=0
end PySem.W.Fast
open PySem PySem.W PyProof.Rows Lp.Law
open Lp (ModOf)
set_option maxHeartbeats 0 in
theorem PySem.Challenge.cw_lamprota_k26_flows_of_rotas_holds : PySem.Challenge.rw_lamprota_k26_flows_of_rotas.Holds := by
 w_on;o_law;k_head;(case hw=>w_witness2)
 k_fill
 refine Lp.Oa (l:=PySem.Challenge.rw_lamprota_k26_flows_of_rotas) (n:=8) ⟨rfl,by decide,by decide⟩ rfl rfl (λw h Y=>PySem.W.kIn_of Y) ?F
 case F =>
  intro w mg fa h KX G hmg
  have m0:ModOf (L2.KOf KX) mg e0:=by
   dsimp only[L2.KOf]
   refine' Lp.ck (e:=e0) KX G ?a ?l ?c ?k λ_ _ _ _ _ _=>ar2 λ_ _=>rfl
   all_goals try dsimp only[e0]
   (case a=>k_is);(case l=>k_is);(case c=>k_is);(case k=>k_is)
  have m1:ModOf (L2.KOf KX) mg e1:=by
   dsimp only[L2.KOf]
   refine' Lp.ck (e:=e1) KX G ?a ?l ?c ?k λ_ _ _ _ _ _=>ar1 λ_=>rfl
   all_goals try dsimp only[e1]
   (case a=>k_is);(case l=>k_is);(case c=>k_is);(case k=>k_is)
  have m2:ModOf (L2.KOf KX) mg e2:=by
   dsimp only[L2.KOf]
   refine' Lp.ck (e:=e2) KX G ?a ?l ?c ?k λ_ _ _ _ _ _=>ar3 λ_ _ _=>rfl
   all_goals try dsimp only[e2]
   (case a=>k_is);(case l=>k_is);(case c=>k_is);(case k=>k_is)
  have m3:ModOf (L2.KOf KX) mg e3:=by
   dsimp only[L2.KOf]
   refine' Lp.ck (e:=e3) KX G ?a ?l ?c ?k λ_ _ _ _ _ _=>ar2 λ_ _=>rfl
   all_goals try dsimp only[e3]
   (case a=>k_is);(case l=>k_is);(case c=>k_is);(case k=>k_is)
  have m4:ModOf (L2.KOf KX) mg e4:=by
   dsimp only[L2.KOf]
   refine' Lp.ck (e:=e4) KX G ?a ?l ?c ?k λ_ _ _ _ _ _=>ar2 λ_ _=>rfl
   all_goals try dsimp only[e4]
   (case a=>k_is);(case l=>k_is);(case c=>k_is);(case k=>k_is)
  have m5:ModOf (L2.KOf KX) mg e5:=by
   dsimp only[L2.KOf]
   refine' Lp.ck (e:=e5) KX G ?a ?l ?c ?k λ_ _ _ _ _ _=>ar2 λ_ _=>rfl
   all_goals try dsimp only[e5]
   (case a=>k_is);(case l=>k_is);(case c=>k_is);(case k=>k_is)
  have m6:ModOf (L2.KOf KX) mg e6:=by
   dsimp only[L2.KOf]
   refine' Lp.ck (e:=e6) KX G ?a ?l ?c ?k λ_ _ _ _ _ _=>ar3 λ_ _ _=>rfl
   all_goals try dsimp only[e6]
   (case a=>k_is);(case l=>k_is);(case c=>k_is);(case k=>k_is)
  have m7:ModOf (L2.KOf KX) mg e7:=by
   dsimp only[L2.KOf]
   refine' Lp.ck (e:=e7) KX G ?a ?l ?c ?k λ_ _ _ _ _ _=>ar3 λ_ _ _=>rfl
   all_goals try dsimp only[e7]
   (case a=>k_is);(case l=>k_is);(case c=>k_is);(case k=>k_is)
  have m8:ModOf (L2.KOf KX) mg e8:=by
   dsimp only[L2.KOf]
   refine' Lp.ck (e:=e8) KX G ?a ?l ?c ?k λ_ _ _ _ _ _=>ar2 λ_ _=>rfl
   all_goals try dsimp only[e8]
   (case a=>k_is);(case l=>k_is);(case c=>k_is);(case k=>k_is)
  have m9:ModOf (L2.KOf KX) mg e9:=by
   dsimp only[L2.KOf]
   refine' Lp.ck (e:=e9) KX G ?a ?l ?c ?k λ_ _ _ _ _ _=>ar1 λ_=>rfl
   all_goals try dsimp only[e9]
   (case a=>k_is);(case l=>k_is);(case c=>k_is);(case k=>k_is)
  have m10:ModOf (L2.KOf KX) mg e10:=by
   dsimp only[L2.KOf]
   refine' Lp.ck (e:=e10) KX G ?a ?l ?c ?k λ_ _ _ _ _ _=>ar2 λ_ _=>rfl
   all_goals try dsimp only[e10]
   (case a=>k_is);(case l=>k_is);(case c=>k_is);(case k=>k_is)
  have m11:ModOf (L2.KOf KX) mg e11:=by
   dsimp only[L2.KOf]
   refine' Lp.ck (e:=e11) KX G ?a ?l ?c ?k λ_ _ _ _ _ _=>ar2 λ_ _=>rfl
   all_goals try dsimp only[e11]
   (case a=>k_is);(case l=>k_is);(case c=>k_is);(case k=>k_is)
  have m12:ModOf (L2.KOf KX) mg e12:=by
   dsimp only[L2.KOf]
   refine' Lp.ck (e:=e12) KX G ?a ?l ?c ?k λ_ _ _ _ _ _=>ar3 λ_ _ _=>rfl
   all_goals try dsimp only[e12]
   (case a=>k_is);(case l=>k_is);(case c=>k_is);(case k=>k_is)
  have m13:ModOf (L2.KOf KX) mg e13:=by
   dsimp only[L2.KOf]
   refine' Lp.ck (e:=e13) KX G ?a ?l ?c ?k λ_ _ _ _ _ _=>ar1 λ_=>rfl
   all_goals try dsimp only[e13]
   (case a=>k_is);(case l=>k_is);(case c=>k_is);(case k=>k_is)
  have m14:ModOf (L2.KOf KX) mg e14:=by
   dsimp only[L2.KOf]
   refine' Lp.ck (e:=e14) KX G ?a ?l ?c ?k λ_ _ _ _ _ _=>ar4 λ_ _ _ _=>rfl
   all_goals try dsimp only[e14]
   (case a=>k_is);(case l=>k_is);(case c=>k_is);(case k=>k_is)
  have m15:ModOf (L2.KOf KX) mg e15:=by
   dsimp only[L2.KOf]
   refine' Lp.ck (e:=e15) KX G ?a ?l ?c ?k λ_ _ _ _ _ _=>ar3 λ_ _ _=>rfl
   all_goals try dsimp only[e15]
   (case a=>k_is);(case l=>k_is);(case c=>k_is);(case k=>k_is)
  have m16:ModOf (L2.KOf KX) mg e16:=by
   dsimp only[L2.KOf]
   refine' Lp.ck (e:=e16) KX G ?a ?l ?c ?k λ_ _ _ _ _ _=>ar2 λ_ _=>rfl
   all_goals try dsimp only[e16]
   (case a=>k_is);(case l=>k_is);(case c=>k_is);(case k=>k_is)
  have m17:ModOf (L2.KOf KX) mg e17:=by
   dsimp only[L2.KOf]
   refine' Lp.ck (e:=e17) KX G ?a ?l ?c ?k λ_ _ _ _ _ _=>ar2 λ_ _=>rfl
   all_goals try dsimp only[e17]
   (case a=>k_is);(case l=>k_is);(case c=>k_is);(case k=>k_is)
  have m18:ModOf (L2.KOf KX) mg e18:=by
   dsimp only[L2.KOf]
   refine' Lp.ck (e:=e18) KX G ?a ?l ?c ?k λ_ _ _ _ _ _=>ar1 λ_=>rfl
   all_goals try dsimp only[e18]
   (case a=>k_is);(case l=>k_is);(case c=>k_is);(case k=>k_is)
  have m19:ModOf (L2.KOf KX) mg e19:=by
   dsimp only[L2.KOf]
   refine' Lp.ck (e:=e19) KX G ?a ?l ?c ?k λ_ _ _ _ _ _=>ar2 λ_ _=>rfl
   all_goals try dsimp only[e19]
   (case a=>k_is);(case l=>k_is);(case c=>k_is);(case k=>k_is)
  have m20:ModOf (L2.KOf KX) mg e20:=by
   dsimp only[L2.KOf]
   refine' Lp.ck (e:=e20) KX G ?a ?l ?c ?k λ_ _ _ _ _ _=>ar3 λ_ _ _=>rfl
   all_goals try dsimp only[e20]
   (case a=>k_is);(case l=>k_is);(case c=>k_is);(case k=>k_is)
  have m21:ModOf (L2.KOf KX) mg e21:=by
   dsimp only[L2.KOf]
   refine' Lp.ck (e:=e21) KX G ?a ?l ?c ?k λ_ _ _ _ _ _=>ar2 λ_ _=>rfl
   all_goals try dsimp only[e21]
   (case a=>k_is);(case l=>k_is);(case c=>k_is);(case k=>k_is)
  have m22:ModOf (L2.KOf KX) mg e22:=by
   dsimp only[L2.KOf]
   refine' Lp.ck (e:=e22) KX G ?a ?l ?c ?k λ_ _ _ _ _ _=>ar2 λ_ _=>rfl
   all_goals try dsimp only[e22]
   (case a=>k_is);(case l=>k_is);(case c=>k_is);(case k=>k_is)
  have m23:ModOf (L2.KOf KX) mg e23:=by
   dsimp only[L2.KOf]
   refine' Lp.ck (e:=e23) KX G ?a ?l ?c ?k λ_ _ _ _ _ _=>ar3 λ_ _ _=>rfl
   all_goals try dsimp only[e23]
   (case a=>k_is);(case l=>k_is);(case c=>k_is);(case k=>k_is)
  have m24:ModOf (L2.KOf KX) mg e24:=by
   dsimp only[L2.KOf]
   refine' Lp.ck (e:=e24) KX G ?a ?l ?c ?k λ_ _ _ _ _ _=>ar3 λ_ _ _=>rfl
   all_goals try dsimp only[e24]
   (case a=>k_is);(case l=>k_is);(case c=>k_is);(case k=>k_is)
  have m25:ModOf (L2.KOf KX) mg e25:=by
   dsimp only[L2.KOf]
   refine' Lp.ck (e:=e25) KX G ?a ?l ?c ?k λ_ _ _ _ _ _=>ar3 λ_ _ _=>rfl
   all_goals try dsimp only[e25]
   (case a=>k_is);(case l=>k_is);(case c=>k_is);(case k=>k_is)
  have m26:ModOf (L2.KOf KX) mg e26:=by
   dsimp only[L2.KOf]
   refine' Lp.ck (e:=e26) KX G ?a ?l ?c ?k λ_ _ _ _ _ _=>ar2 λ_ _=>rfl
   all_goals try dsimp only[e26]
   (case a=>k_is);(case l=>k_is);(case c=>k_is);(case k=>k_is)
  have m27:ModOf (L2.KOf KX) mg e27:=by
   dsimp only[L2.KOf]
   refine' Lp.ck (e:=e27) KX G ?a ?l ?c ?k λ_ _ _ _ _ _=>ar1 λ_=>rfl
   all_goals try dsimp only[e27]
   (case a=>k_is);(case l=>k_is);(case c=>k_is);(case k=>k_is)
  have m28:ModOf (L2.KOf KX) mg e28:=by
   dsimp only[L2.KOf]
   refine' Lp.ck (e:=e28) KX G ?a ?l ?c ?k λ_ _ _ _ _ _=>ar1 λ_=>rfl
   all_goals try dsimp only[e28]
   (case a=>k_is);(case l=>k_is);(case c=>k_is);(case k=>k_is)
  have m29:ModOf (L2.KOf KX) mg e29:=by
   dsimp only[L2.KOf]
   refine' Lp.ck (e:=e29) KX G ?a ?l ?c ?k λ_ _ _ _ _ _=>ar1 λ_=>rfl
   all_goals try dsimp only[e29]
   (case a=>k_is);(case l=>k_is);(case c=>k_is);(case k=>k_is)
  have m30:ModOf (L2.KOf KX) mg e30:=by
   dsimp only[L2.KOf]
   refine' Lp.ck (e:=e30) KX G ?a ?l ?c ?k λ_ _ _ _ _ _=>ar3 λ_ _ _=>rfl
   all_goals try dsimp only[e30]
   (case a=>k_is);(case l=>k_is);(case c=>k_is);(case k=>k_is)
  have m31:ModOf (L2.KOf KX) mg e31:=by
   dsimp only[L2.KOf]
   refine' Lp.ck (e:=e31) KX G ?a ?l ?c ?k λ_ _ _ _ _ _=>ar2 λ_ _=>rfl
   all_goals try dsimp only[e31]
   (case a=>k_is);(case l=>k_is);(case c=>k_is);(case k=>k_is)
  have m32:ModOf (L2.KOf KX) mg e32:=by
   dsimp only[L2.KOf]
   refine' Lp.ck (e:=e32) KX G ?a ?l ?c ?k λ_ _ _ _ _ _=>ar1 λ_=>rfl
   all_goals try dsimp only[e32]
   (case a=>k_is);(case l=>k_is);(case c=>k_is);(case k=>k_is)
  have b0:mg "len"=none:=CF KX G (by k_is)
  have b1:mg "range"=none:=CF KX G (by k_is)
  have b2:mg "sum"=none:=CF KX G (by k_is)
  have b3:mg "tuple"=none:=CF KX G (by k_is)
  have b4:mg "enumerate"=none:=CF KX G (by k_is)
  have b5:mg "sorted"=none:=CF KX G (by k_is)
  have b6:mg "min"=none:=CF KX G (by k_is)
  have b7:mg "max"=none:=CF KX G (by k_is)
  have b8:mg "list"=none:=CF KX G (by k_is)
  have b9:mg "int"=none:=CF KX G (by k_is)
  have b10:mg "isinstance"=none:=CF KX G (by k_is)
  have b11:mg "bool"=none:=CF KX G (by k_is)
  have c0:∃t,mg "SEA"=some (.int 0 t):=⟨_,IW KX G (by k_is)⟩
  have c1:∃t,mg "LIGHT"=some (.int 1 t):=⟨_,IW KX G (by k_is)⟩
  exact Lp.Tj (T:=Lp.GL) (es:=ents) (n:=8) (j:=32) (e:=e32) (Lp.dj m0 (Lp.dj m1 (Lp.dj m2 (Lp.dj m3 (Lp.dj m4 (Lp.dj m5 (Lp.dj m6 (Lp.dj m7 (Lp.dj m8 (Lp.dj m9 (Lp.dj m10 (Lp.dj m11 (Lp.dj m12 (Lp.dj m13 (Lp.dj m14 (Lp.dj m15 (Lp.dj m16 (Lp.dj m17 (Lp.dj m18 (Lp.dj m19 (Lp.dj m20 (Lp.dj m21 (Lp.dj m22 (Lp.dj m23 (Lp.dj m24 (Lp.dj m25 (Lp.dj m26 (Lp.dj m27 (Lp.dj m28 (Lp.dj m29 (Lp.dj m30 (Lp.dj m31 (Lp.dj m32 Lp.Zv))))))))))))))))))))))))))))))))) (λbase=>dvs (Lp.dj b0 (Lp.dj b1 (Lp.dj b2 (Lp.dj b3 (Lp.dj b4 (Lp.dj b5 (Lp.dj b6 (Lp.dj b7 (Lp.dj b8 (Lp.dj b9 (Lp.dj b10 (Lp.dj b11 Lp.Zv)))))))))))) (Lp.dj c0 (Lp.dj c1 Lp.Zv))) rfl hmg rfl (λns hn=>Lr.acu ns hn)
