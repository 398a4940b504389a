import PyProof.Rows.All
import Wide.All
import OpenK.AllK
import Wide.FinOn
import Lean
import PyProof.EqAt
import PyProof.EqKinds
import PyProof.TupleCall
import PySem.Syntax
import KE.BitLaws
import PyProof.Rows.ZipGen
import PyProof.EnumMake
import PyProof.EnumFor
import PyProof.Rows.EnumRows
import PyProof.DictValues
import KE.KSortTup
import PyProof.Rows.SetFrom
import PyProof.WalksMore
import PyProof.FactsAll.set
import PyProof.ForAny
import PyProof.CollectWalk
import PyProof.ListRange
import PyProof.Rows.SortShell
import PyProof.TupleKey
import PyProof.IsRules
import PyProof.AttrMissHeap
import PyProof.ExcClass3
import PyProof.ExcInit
import PyProof.InstStoreFacts
import PyProof.InstLoad
import PyProof.ExcArgsOwn
import PyProof.ExcAttrAll.ValueError
import PyProof.StationsW
import KE.KDictList
import PyProof.MaxThree
import PyProof.Rows.SortRuns
import PyProof.Rows.SeqRoads
import PyProof.FactsAll.range_1
import PySem.Challenge.RW_lamprota_k16_ticks_and_lamps_lit
noncomputable section
local macro_rules | `(tactic| simp! [$ls,*] $[$l:location]?) => `(tactic| simp only [$ls,*] $[$l]?)
open PySem renaming wpAny_bind -> AA, wpAny_pure -> AC, wpAny_newObj_type -> BM, wpAny_setState_of -> BR, wpAny_holding -> BS, mem_of_lookup -> BV, wpAny_callSpecial?_slot -> CC, wpAny_call_entry -> CD, wpAny_truthy_bool -> CM, wpAny_mono -> Da, wpAny_setField_rec -> Do, sizeLine_eq -> DF, wpAny_setEntries_of -> DJ, wpAny_forIn_list -> DL, wpAny_askSetting -> DN, wpAny_Call_Name_kw -> DP, wpAny_loadPart' -> DR, codeAny_builtin -> DU, wpAny_passesOwn -> EK, tupleKind_room_in1 -> EN, codeAny_mono -> EV, richCompare_meets_room -> EW, wpAny_typeOf -> EY, isSubtype_type -> FC, wpAny_pyIter_tuple -> FW, wpAny_fieldsOf -> FZ, wpAny_seqItems -> Go, wpAny_pyIter_list -> GF, plainId_quiet -> GN, wpAny_attempt -> GO, noFill_tuple_add -> GQ, wpAny_isInstance -> GU, call_meets -> GZ
open PySem.Heap renaming get?_push_of_some -> AB, lt_size -> AM, get?_push_size -> AQ, size_push -> Db, get?_update_self -> DB, get?_update_ne -> DI, get?_update_other -> GX
open List renaming getElem?_eq_getElem -> AD, prefix_refl -> AE, size_toArray -> AG, mem_cons_of_mem -> AI, length_map -> AJ, getElem?_eq_some_iff -> AK, map_cons -> AL, mem_cons_self -> AN, mem_cons -> AS, length_cons -> AU, getElem?_append_left -> AW, length_append -> AX, all_eq_true -> AY, mem_append -> BA, getD_eq_getElem?_getD -> BB, mem_append_right -> BC, mem_singleton -> BF, all_cons -> BI, length_nil -> BK, getElem?_map -> BL, map_map -> BN, pairwise_cons -> BP, any_cons -> BU, mem_map -> BY, zip_cons_cons -> BZ, getElem?_set_ne -> CB, not_mem_nil -> CF, getElem?_append_right -> CI, map_nil -> CL, getElem?_replicate -> CN, nil_prefix -> CO, map_append -> CP, replicate_succ -> CQ, getElem_of_mem -> CS, map_congr_left -> CT, getElem?_set_self -> CV, getElem_mem -> CW, countP_cons -> CY, mem_range -> CZ, pairwise_iff_getElem -> DC, mem_append_left -> DE, length_take -> DK, lookup_cons -> DM, take_of_length_le -> DQ, find?_cons -> DS, length_singleton -> DW, getElem?_eq_none -> DX, take_append_drop -> DZ, flatten_cons -> EA, mem_of_getElem? -> EC, any_eq_true -> EE, filterMap_cons_some -> EJ, foldl_cons -> EL, zip_nil_right -> EM, lookup_append -> EO, length_eq_zero_iff -> ES, all_map -> EZ, ext_getElem? -> FB, pairwise_map -> FE, length_drop -> FH, mem_iff_getElem -> FJ, pairwise_append -> FK, nodup_cons -> FL, countP_eq_length_filter -> FN, filterMap_cons -> FO, toList_toArray -> FP, mem_filterMap -> FU, drop_eq_getElem_cons -> GA, zip_nil_left -> GB, append_assoc -> GC, length_range -> GH, take_add_one -> GJ, getElem?_take_of_lt -> GM, pairwise_lt_range -> HD, drop_eq_nil_of_le -> HE, mem_filter -> HF, append_nil -> HG, of_mem_zip -> HH, forIn_cons -> HI, length_replicate -> HN, getElem?_toArray -> HP, countP_mono_left -> HQ, perm_append_comm -> HU
open Bool renaming false_eq_true -> AF, and_eq_true -> AT, false_ne_true -> AV, beq_eq_decide_eq -> DY, not_true -> GP, eq_iff_iff -> HM, and_false -> HW, or_false -> HY
open Nat renaming le_refl -> AH, lt_of_lt_of_le -> AO, ne_of_lt -> AR, le_trans -> BQ, zero_le -> BW, lt_irrefl -> CG, ne_of_gt -> CH, le_of_lt -> CU, lt_succ_of_lt -> EB, lt_or_ge -> EF, le_of_lt_succ -> FD, lt_succ_self -> FI, mod_lt -> FY, eq_or_lt_of_le -> Gt, lt_trichotomy -> GI, le_add_right -> GS, succ_pos -> HC, not_lt -> IA
open Array renaming length_toList -> AZ, getElem?_eq_getElem -> BD, getElem?_eq_some_iff -> CK, getElem?_setIfInBounds -> FM, getD_eq_getD_getElem? -> FS, perm_iff_toList_perm -> FX, getElem?_eq_none -> HB
open PySem.W renaming mg_none_of -> BH, kia_one -> DT, cellsFrom_some -> GW
open Option.some renaming inj -> BJ, injEq -> CJ
open PyProof.Rows renaming slot_tuple_getitem -> BO, callWith_type1 -> Ev, callWith_builtin1 -> FG, get?_update_seq -> HK
open Int renaming toNat_natCast -> BX, emod_lt_of_pos -> DA, emod_nonneg -> DV, fdiv_eq_ediv_of_nonneg -> FV, le_refl -> GK
open PySem.F renaming called_set -> CA, args_tuple_add_2 -> EI, entry_tuple_add -> ER, slot_tuple_add -> EX, slot_dict_get -> FF, plainAttrs_list -> GG, args_dict_get_3 -> GR, plain_list_iadd -> GV, entry_dict_get -> HA, plain_set_new -> HR, slot_set_iter -> HS
open Classical renaming byContradiction -> DD
open PySem.Around renaming under_plainId -> DG
open PySem.Paired renaming length -> DH
open PySem.Calls renaming spliced_cons -> DO, spliced_nil -> EU, Name_function_global -> FT, callWith_builtin -> GY, evalArgs_plain -> HV
open Option renaming bind_some -> ED, isSome_iff_exists -> EG, map_eq_some_iff -> FA, bind_eq_bind -> FR, isSome_map -> GD, map_some -> HJ, pure_def -> HL
open PySem.AutoSeq1 renaming sub_tuple_tuple -> EH
open PyProof.Rows.F renaming plain_set_update_loop -> ET
open PySem.Heap.SameBut renaming update -> HX
open PySem.SeqAt.EqAt renaming int_str -> HZ, str_int -> If, int_int -> Ix
open PySem.IsTupleKey renaming typeIs -> IB
set_option Elab.async false
set_option linter.all false
set_option maxRecDepth 100000
namespace L2
open PySem PySem.Spec PyProof.Rows
noncomputable abbrev Key:=Sum Int Str
noncomputable def xm:Key->Value->Bool
 |.inl k,v=>Value.isInt k v
 |.inr x,v=>Value.isStrOf x v
noncomputable def Sq(w:World):Key->Int
 |.inl k=>hashInt k
 |.inr x=>hashStr w x
theorem ba:∀{k:Key} {v:Value},xm k v=true->(∃i t,k=Sum.inl i/\v=Value.int i t)\/(∃x t,k=Sum.inr x/\v=Value.str x t)
 |.inl i,v,h=>by
  obtain⟨t,e⟩:=Value.isInt_shape (k:=i) (v:=v) h
  exact .inl ⟨i,t,rfl,e⟩
 |.inr x,v,h=>by
  obtain⟨t,e⟩:=Value.isStrOf_shape (x:=x) (v:=v) h
  exact .inr ⟨x,t,rfl,e⟩
theorem y9(i:Int)(t:Tok):xm (.inl i) (.int i t)=true:=by simp[xm,Value.isInt]
theorem za(x:Str)(t:Tok):xm (.inr x) (.str x t)=true:=by simp[xm,Value.isStrOf]
theorem Ic(a b:Int):decide ((Sum.inl a:Key)=Sum.inl b)=(a==b):=by
 by_cases e:a=b
 ·subst e;simp
 ·have h:¬(Sum.inl a:Key)=Sum.inl b:=λq=>e (Sum.inl.inj q)
  rw[decide_eq_false h]
  exact(beq_eq_false_iff_ne.mpr e).symm
theorem Ie(a b:Str):decide ((Sum.inr a:Key)=Sum.inr b)=decide (a=b):=by
 by_cases e:a=b
 ·subst e;simp
 ·have h:¬(Sum.inr a:Key)=Sum.inr b:=λq=>e (Sum.inr.inj q)
  rw[decide_eq_false h,decide_eq_false e]
theorem Ig(a:Int)(b:Str):decide ((Sum.inl a:Key)=Sum.inr b)=false:=decide_eq_false (λq=>nomatch q)
theorem Ih(a:Str)(b:Int):decide ((Sum.inr a:Key)=Sum.inl b)=false:=decide_eq_false (λq=>nomatch q)
noncomputable def bw(prog:Program)(w:World):PySem.KeyKind prog w Key where
 is:=xm
 hash:=Sq w
 inj:=λv a b ha hb=>by
  rcases ba ha with⟨i,t,rfl,rfl⟩ | ⟨x,t,rfl,rfl⟩
  ·rcases ba hb with⟨j,u,rfl,e⟩ | ⟨y,u,rfl,e⟩
   ·injection e with e1 _;rw[e1]
   ·exact nomatch e
  ·rcases ba hb with⟨j,u,rfl,e⟩ | ⟨y,u,rfl,e⟩
   ·exact nomatch e
   ·injection e with e1 _;rw[e1]
 byValue:=λk v h=>by
  rcases ba h with⟨i,t,rfl,rfl⟩ | ⟨x,t,rfl,rfl⟩<;>rfl
 pyHash:=λhv h=>by
  rcases ba hv with⟨i,t,rfl,rfl⟩ | ⟨x,t,rfl,rfl⟩
  ·exact wpAny_pyHash_int h
  ·exact wpAny_pyHash_str h
 eqBool:=λhu hv h=>by
  rcases ba hu with⟨i,t,rfl,rfl⟩ | ⟨x,t,rfl,rfl⟩
  ·rcases ba hv with⟨j,u,rfl,rfl⟩ | ⟨y,u,rfl,rfl⟩
   ·rw[Ic]at h;exact wpAny_eqBool_int h
   ·rw[Ig]at h;exact HZ i t y u _ _ _ _ h
  ·rcases ba hv with⟨j,u,rfl,rfl⟩ | ⟨y,u,rfl,rfl⟩
   ·rw[Ih]at h;exact If x t j u _ _ _ _ h
   ·rw[Ie]at h;exact wpAny_eqBool_str h
 «strs»:=λk x t v h=>by
  rcases ba h with⟨i,u,rfl,e⟩ | ⟨y,u,rfl,e⟩
  ·exact nomatch e
  ·injection e with e1 _
   subst e1
   cases v<;>rfl
theorem tm(prog:Program)(w:World)(i:Int)(t:Tok):(bw prog w).is (.inl i) (.int i t)=true:=y9 i t
theorem tq(prog:Program)(w:World)(x:Str)(t:Tok):(bw prog w).is (.inr x) (.str x t)=true:=za x t
inductive V where
 |non | bl (b:Bool) | int (i:Int) | str (x:Str) | byt (b:Array UInt8) | flt (b:UInt64) | ref (a:Addr) | ty (n:String)
 deriving DecidableEq
noncomputable def RelV:V->Value->Prop
 |.non,u=>u=Value.none
 |.bl b,u=>u=Value.bool b
 |.int i,u=>∃t,u=Value.int i t
 |.str x,u=>∃t,u=Value.str x t
 |.byt b,u=>∃t,u=Value.bytes b t
 |.flt b,u=>∃t,u=Value.float b t
 |.ref a,u=>u=Value.ref a
 |.ty n,u=>u=Value.type n
noncomputable abbrev bc:List V->List Value->Prop:=Paired RelV
theorem bc.length{xs:List V}{us:List Value}(r:bc xs us):xs.length=us.length:=DH r
theorem bc.get:∀{xs:List V} {us:List Value} {i:Nat} {x:V},bc xs us->xs[i]? = some x->∃u,us[i]? = some u/\RelV x u
 |_,_,_,_,.nil,e=>by simp at e
 |_,_,0,_,.cons r _,e=>by simp at e;subst e;exact⟨_,rfl,r⟩
 |_,_,i+1,x,.cons _ t,e=>by
  obtain⟨u,h1,h2⟩:=bc.get (i:=i) (x:=x) t (by simpa using e)
  exact⟨u,by simpa using h1,h2⟩
theorem bc.set{x:V}{u:Value}(r:RelV x u):∀{xs:List V} {us:List Value} (i:Nat),bc xs us->bc (xs.set i x) (us.set i u)
 |_,_,_,.nil=>.nil
 |_,_,0,.cons _ t=>.cons r t
 |_,_,i+1,.cons q t=>.cons q (bc.set r i t)
theorem bc.append:∀{xs ys:List V} {us ws:List Value},bc xs us->bc ys ws->bc (xs++ys) (us++ws)
 |_,_,_,_,.nil,s=>s
 |_,_,_,_,.cons r t,s=>.cons r (bc.append t s)
theorem bc.take:∀{xs:List V} {us:List Value} (n:Nat),bc xs us->bc (xs.take n) (us.take n)
 |_,_,0,_=>.nil
 |_,_,_+1,.nil=>.nil
 |_,_,n+1,.cons r t=>.cons r (bc.take n t)
theorem bc.drop:∀{xs:List V} {us:List Value} (n:Nat),bc xs us->bc (xs.drop n) (us.drop n)
 |_,_,0,r=>r
 |_,_,_+1,.nil=>.nil
 |_,_,n+1,.cons _ t=>bc.drop n t
noncomputable def Ed:Option V->Option Value->Prop
 |some v,some u=>RelV v u
 |none,none=>True
 |_,_=>False
noncomputable def KV{κ:Type}:List (κ×V)->List (κ×Value)->Prop:=Paired fun(p:κ×V) (q:κ×Value)=>p.1=q.1/\RelV p.2 q.2
noncomputable def kV:Key->V
 |.inl i=>.int i
 |.inr x=>.str x
inductive HO where
 /-- a list -/
 |lst (xs:List V)
 /-- a tuple (never changes) -/
 |tup (xs:List V)
 /-- a dict whose keys are ints and texts;one whose keys are tuples of ints and texts (the empty one is both) -/
 |dK (kvs:List (Key×V)) | dT (kvs:List (List Key×V))
 /-- a set of ints: its members,its size -/
 |set (S:Int->Bool) (n:Nat)
 /-- an instance of the class at C,its dict at dx,its attributes -/
 |ins (C dx:Addr) (fs:List (Str×V))
 /-- the dict of the instance at x -/
 |own (x:Addr)
 /-- the dict of an exception -/
 |xd (fs:List (Str×V))
 /-- a bound method,f of x -/
 |met (f x:Addr)
 /-- a range object lo,lo+1,.. below hi -/
 |rng (lo hi:Int)
 /-- a thing that is known to the object (the script;a dict while a loop walks it): read,never written while it is so -/
 |frz (o:Obj) (u:HO)
 /-- a code object's table -/
 |tbl (ps:Array Value)
 /-- any other thing,by what is true of its one object (a def of one's own: SetO a S n:=HO.ext λh=>..) -/
 |ext (φ:Heap->Prop)
noncomputable abbrev Hp:=Addr->Option HO
noncomputable def upd(H:Hp)(a:Addr)(o:HO):Hp:=λb=>if b=a then some o else H b
theorem ak{H:Hp}{a:Addr}{o:HO}:upd H a o a=some o:=by unfold upd;rw[if_pos rfl]
theorem ai{H:Hp}{a b:Addr}{o:HO}(h:b≠a):upd H a o b=H b:=by unfold upd;rw[if_neg h]
theorem Fh{H:Hp}{a:Addr}{o u:HO}:upd (upd H a o) a u=upd H a u:=by
 funext b;unfold upd;split<;>rfl
theorem ki{H:Hp}{a b:Addr}{o u:HO}(h:H a=some o)(h':H b=some u)(d:o≠u):a≠b:=by
 intro e;subst e;rw[h]at h';exact d (BJ h')
theorem ay{H:Hp}{a b:Addr}{o:HO}(h:H a=some o)(h':H b=none):a≠b:=by
 intro e;subst e;rw[h]at h';cases h'
noncomputable def ke(h:Heap)(a:Addr)(items:Array Value):Prop:=∃o,h.get? a=some o/\o.cls=.type "tuple"/\o.dict=none/\∃n,o.data=.seq items n
theorem ke.tup{h:Heap}{a:Addr}{items:Array Value}(x:ke h a items):IsTup h a items:=let ⟨o,e,c,_,d⟩:=x;⟨o,e,c,d⟩
theorem ke.new(h:Heap)(items:Array Value):ke (h.push {cls:=.type "tuple",data:=.seq items}) h.objs.size items:=⟨_,AQ _ rfl,rfl,rfl,_,rfl⟩
section
variable(P:Program)(w:World)
noncomputable def eg(H:Hp)(h:Heap)(a:Addr):HO->Prop
 |.lst xs=>xs.length<=sizeLine/\∃(its:List Value) (n:Nat),bc xs its/\h.get? a=some {cls:=.type "list",data:=.seq its.toArray n}
 |.tup xs=>xs.length<=sizeLine/\∃its:List Value,bc xs its/\ke h a its.toArray
 |.dK kvs=>kvs.length<=sizeLine/\(a==sysModules)=false/\∃vs,KV kvs vs/\h.DictOf (bw P w) a vs
 |.dT kvs=>kvs.length<=sizeLine/\(a==sysModules)=false/\∃xs:List (List Key×Addr×Value),
   Paired (fun(p:List Key×V) (q:List Key×Addr×Value)=>p.1=q.1/\H q.2.1=some (.tup (p.1.map kV))/\RelV p.2 q.2.2) kvs xs /\
   ∃o es ep,h.get? a=some o/\o.ExactDict/\o.data=.dict es ep/\es.toList=xs.map (entryOfKey (tupleKind (bw P w)))/\(xs.map (·.1)).Nodup
 |.set S n=>h.SetOf (intKind P w) a S n
 |.ins C dx fs=>H dx=some (.own a)/\fs.length<=1000/\dx≠a/\h.get? a=some (PySem.W.instObj C dx) /\
   ∃mA,h.Ns1 dx mA/\(∀f,Ed (fs.lookup f) (mA f))/\PySem.Within mA (fs.map (·.1))
 |.own _=>∃o,h.get? a=some o
 |.xd fs=>∃mA,h.Ns1 a mA/\∀f,Ed (fs.lookup f) (mA f)
 |.rng lo hi=>∃t u v,h.get? a=some {cls:=.type "range",data:=.fields #[.int lo t,.int hi u,.int 1 v]}
 |.frz o u=>h.get? a=some o/\eg H h a u
 |.tbl ps=>h.get? a=some {cls:=.none,data:=.fields ps}
 |.met f x=>h.get? a=some (PySem.W.methodObj (.ref f) (.ref x))
 |.ext φ=>φ h/\(∃o,h.get? a=some o)/\∀h1 h2:Heap,φ h1->(∀o,h1.get? a=some o->h2.get? a=some o)->φ h2
noncomputable def HOk(H:Hp)(h:Heap):Prop:=∀a o,H a=some o->eg P w H h a o
end
section
variable{P:Program}{w:World}{H H' : Hp}{h h' : Heap}{a:Addr}{o:HO}
theorem eg.lt(x:eg P w H h a o):a<h.objs.size:=by
 cases o with
 |lst xs=>obtain⟨_,_,_,_,e⟩:=x;exact AM e
 |tup xs=>obtain⟨_,_,_,p⟩:=x;exact p.tup.lt
 |dK kvs=>obtain⟨_,_,_,_,o,_,_,e,_⟩:=x;exact AM e
 |dT kvs=>obtain⟨_,_,_,_,o,_,_,e,_⟩:=x;exact AM e
 |set S n=>obtain⟨o,_,_,_,e,_⟩:=x;exact AM e
 |ins C dx fs=>obtain⟨_,_,_,e,_⟩:=x;exact AM e
 |own y=>obtain⟨_,e⟩:=x;exact AM e
 |xd fs=>obtain⟨_,⟨_,_,_,e,_⟩,_⟩:=x;exact AM e
 |rng lo hi=>obtain⟨_,_,_,e⟩:=x;exact AM e
 |frz ob u=>obtain⟨e,_⟩:=x;exact AM e
 |tbl ps=>exact AM (show h.get? a=some _ from x)
 |met f y=>exact AM (show h.get? a=some _ from x)
 |ext φ=>obtain⟨_,⟨_,e⟩,_⟩:=x;exact AM e
theorem Paired.mapP{α β:Type}{F G:α->β->Prop}:∀{l₁:List α} {l₂:List β},Paired F l₁ l₂->(∀a b,F a b->G a b)->Paired G l₁ l₂
 |_,_,.nil,_=>.nil
 |_,_,.cons r t,f=>.cons (f _ _ r) (Paired.mapP t f)
theorem eg.stay (x:eg P w H h a o) (k:∀b u,(b=a\/H b=some (.own a))->h.get? b=some u->h'.get? b=some u)
  (ho:∀b,H b=some (.own a)->H' b=some (.own a)) (ht:∀b xs,H b=some (.tup xs)->H' b=some (.tup xs)):eg P w H' h' a o:=by
 induction o with
 |lst xs=>obtain⟨z,its,n,r,e⟩:=x;exact⟨z,its,n,r,k _ _ (.inl rfl) e⟩
 |tup xs=>obtain⟨z,its,r,ob,e,c⟩:=x;exact⟨z,its,r,ob,k _ _ (.inl rfl) e,c⟩
 |dK kvs=>obtain⟨z,y,vs,r,ob,es,ep,e,c⟩:=x;exact⟨z,y,vs,r,ob,es,ep,k _ _ (.inl rfl) e,c⟩
 |dT kvs =>
  obtain⟨z,y,xs,r,ob,es,ep,e,c⟩:=x
  exact⟨z,y,xs,Paired.mapP r λp q z=>⟨z.1,ht _ _ z.2.1,z.2.2⟩,ob,es,ep,k _ _ (.inl rfl) e,c⟩
 |set S n=>obtain⟨ob,es,ep,t,e,c⟩:=x;exact⟨ob,es,ep,t,k _ _ (.inl rfl) e,c⟩
 |ins C dx fs =>
  obtain⟨d,z,ne,e,mA,⟨od,es,ep,e2,c⟩,r⟩:=x
  exact⟨ho _ d,z,ne,k _ _ (.inl rfl) e,mA,⟨od,es,ep,k _ _ (.inr d) e2,c⟩,r⟩
 |own y=>obtain⟨ob,e⟩:=x;exact⟨ob,k _ _ (.inl rfl) e⟩
 |xd fs=>obtain⟨mA,⟨od,es,ep,e,c⟩,r⟩:=x;exact⟨mA,⟨od,es,ep,k _ _ (.inl rfl) e,c⟩,r⟩
 |rng lo hi=>obtain⟨t,u,v,e⟩:=x;exact⟨t,u,v,k _ _ (.inl rfl) e⟩
 |frz ob u ih=>obtain⟨e,q⟩:=x;exact⟨k _ _ (.inl rfl) e,ih q⟩
 |tbl ps =>
  have e:h.get? a=some {cls:=.none,data:=.fields ps}:=x
  show h'.get? a=some {cls:=.none,data:=.fields ps}
  exact k a _ (.inl rfl) e
 |met f y =>
  have e:h.get? a=some (PySem.W.methodObj (.ref f) (.ref y)):=x
  show h'.get? a=some (PySem.W.methodObj (.ref f) (.ref y))
  exact k a _ (.inl rfl) e
 |ext φ=>obtain⟨p,⟨o,e⟩,st⟩:=x;exact⟨st _ _ p λo q=>k _ _ (.inl rfl) q,⟨o,k _ _ (.inl rfl) e⟩,st⟩
theorem HOk.lt(x:HOk P w H h)(e:H a=some o):a<h.objs.size:=(x a o e).lt
theorem HOk.fresh(x:HOk P w H h)(e:h.objs.size<=a):H a=none:=by
 cases q:H a with
 |none=>rfl
 |some u=>exact absurd (AO (x.lt q) e) (CG _)
theorem HOk.kept(x:HOk P w H h)(k:∀b u,h.get? b=some u->h'.get? b=some u):HOk P w H h':=λa o e =>
 (x a o e).stay (λb u _ q=>k b u q) (λ_ q=>q) λ_ _ q=>q
theorem HOk.laid(x:HOk P w H h)(k:∀b u,h.get? b=some u->h'.get? b=some u)(hp:h.objs.size<=a)(new:eg P w (upd H a o) h' a o):HOk P w (upd H a o) h':=λb u e=>by
 have hn:=x.fresh hp
 by_cases hb:b=a
 ·subst hb;rw[ak]at e;cases e;exact new
 ·rw[ai hb]at e
  exact(x b u e).stay (λc v _ q=>k c v q) (λc q=>by rw[ai (ay q hn)];exact q) λc xs q=>by rw[ai (ay q hn)];exact q
end
noncomputable def Rd(H:Hp)(a:Addr)(u:HO):Prop:=H a=some u\/∃o,H a=some (.frz o u)
theorem Rd.ok{P:Program}{w:World}{H:Hp}{h:Heap}{a:Addr}{u:HO}(r:Rd H a u)(x:HOk P w H h):eg P w H h a u:=by
 rcases r with r | ⟨o,r⟩
 ·exact x a u r
 ·obtain⟨_,q⟩:=x a _ r
  exact q
noncomputable def Mut:Option HO->Prop
 |some (.lst _)=>True
 |some (.dK _)=>True
 |some (.dT _)=>True
 |some (.set _ _)=>True
 |some (.ins _ _ _)=>True
 |some (.ext _)=>True
 |_=>False
section
variable{P:Program}{w:World}{H:Hp}{h h' : Heap}{x e:Addr}{o' : HO}
theorem HOk.write (ok:HOk P w H h) (mu:Mut (H x)) (he:e=x\/H e=some (.own x)) (k:∀b u,b≠e->h.get? b=some u->h'.get? b=some u) (heo:∃u,h'.get? e=some u)
  (new:eg P w (upd H x o') h' x o'):HOk P w (upd H x o') h':=λb u q=>by
 have nown:∀c y,H c=some (.own y)->c≠x:=λc y r z=>by subst z;rw[r]at mu;exact mu
 have ntup:∀c xs,H c=some (.tup xs)->c≠x:=λc xs r z=>by subst z;rw[r]at mu;exact mu
 by_cases hb:b=x
 ·subst hb;rw[ak]at q;cases q;exact new
 ·rw[ai hb]at q
  by_cases hbe:b=e
  ·have q':H b=some (.own x):=by
    rcases he with z | z
    ·exact absurd (hbe.trans z) hb
    ·rw[hbe];exact z
   rw[q]at q';cases q'
   obtain⟨v,hv⟩:=heo
   exact⟨v,by rw[hbe];exact hv⟩
  ·refine(ok b u q).stay (λc v hc r=>k c v ?_ r) (λc r=>by rw[ai (nown c b r)];exact r) λc xs r=>by rw[ai (ntup c xs r)];exact r
   rcases hc with rfl | hc
   ·exact hbe
   ·rintro rfl
    rcases he with z | z
    ·exact nown c b hc z
    ·rw[hc]at z;cases z;exact hb rfl
end
structure Un (fs ex:List Addr) (H H':Hp) (h h':Heap):Prop where
 keep:∀b o,h.get? b=some o->H b=none->b∉fs->b∉ex->h'.get? b=some o
 slot:∀b o,h.get? b=some o->H b=none->b∈fs->b∉ex->∃sl,h'.get? b=some {o with slots:=sl}
 free:∀b o,h.get? b=some o->H b=none->b∉ex->H' b=none
 there:∀b o,h.get? b=some o->b∉ex->∃o',h'.get? b=some o'
 tups:∀b xs,H b=some (.tup xs)->H' b=some (.tup xs)
 frzs:∀b o u,H b=some (.frz o u)->H' b=some (.frz o u)
 tbls:∀b ps,H b=some (.tbl ps)->∃more,H' b=some (.tbl (ps++more))
section
variable{fs fs' ex ex' : List Addr}{H H1 H2:Hp}{h h1 h2 h' : Heap}{a x e:Addr}{o:HO}
theorem Un.any(u:Un fs ex H H1 h h1){b:Addr}{ob:Obj}(q:h.get? b=some ob)(n:H b=none)(hx:b∉ex):∃sl,h1.get? b=some {ob with slots:=sl}:=by
 by_cases hb:b∈fs
 ·exact u.slot b ob q n hb hx
 ·exact⟨ob.slots,u.keep b ob q n hb hx⟩
theorem Un.kept(k:∀b u,h.get? b=some u->h'.get? b=some u):Un fs ex H H h h' :=
 ⟨λb ob q _ _ _=>k b ob q,λb ob q _ _ _=>⟨ob.slots,k b ob q⟩,λ_ _ _ n _=>n,λb ob q _=>⟨ob,k b ob q⟩,λ_ _ q=>q,λ_ _ _ q=>q,λ_ ps q=>⟨#[],by rw[q];simp⟩⟩
theorem Un.refl:Un fs ex H H h h:=Un.kept λ_ _ q=>q
theorem Un.laid(k:∀b u,h.get? b=some u->h'.get? b=some u)(hp:h.objs.size<=a)(hn:H a=none):Un fs ex H (upd H a o) h h' where
 keep:=λb u q _ _ _=>k b u q
 slot:=λb u q _ _ _=>⟨u.slots,k b u q⟩
 free:=λb u q n _=>by rw[ai (AR (AO (AM q) hp))];exact n
 there:=λb u q _=>⟨u,k b u q⟩
 tups:=λb xs q=>by rw[ai (ay q hn)];exact q
 frzs:=λb u xs q=>by rw[ai (ay q hn)];exact q
 tbls:=λb ps q=>⟨#[],by rw[ai (ay q hn),q];simp⟩
theorem Un.write(mu:Mut (H x))(he:e=x\/H e=some (.own x))(k:∀b u,b≠e->h.get? b=some u->h'.get? b=some u)(heo:∃u,h'.get? e=some u):Un fs ex H (upd H x o) h h':=by
 have hx:∀b,H b=none->b≠x:=λb n z=>by subst z;rw[n]at mu;exact mu
 have hb:∀b,H b=none->b≠e:=λb n z=>by
  subst z
  rcases he with r | r
  ·exact hx b n r
  ·rw[n]at r;cases r
 have hm:∀b u,H b=some u->¬Mut (some u)->b≠x:=λb u q nm z=>by subst z;rw[q]at mu;exact nm mu
 refine⟨λb u q n _ _=>k b u (hb b n) q,λb u q n _ _=>⟨u.slots,k b u (hb b n) q⟩,λb u q n _=>by rw[ai (hx b n)];exact n,λb u q _=>?_,
  λb xs q=>by rw[ai (hm b _ q λz=>z)];exact q,λb u xs q=>by rw[ai (hm b _ q λz=>z)];exact q,λb ps q=>⟨#[],by rw[ai (hm b _ q λz=>z),q];simp⟩⟩
 by_cases hbe:b=e
 ·subst hbe;exact heo
 ·exact⟨u,k b u hbe q⟩
end
noncomputable def trk(h:Heap)(H:Hp):List Addr:=(List.range h.objs.size).filter λa=>(H a).isSome
noncomputable def Ca(h:Heap)(H:Hp):Heap:=PySem.W.hideAll h (trk h H)
theorem zc(h:Heap)(H:Hp):(Ca h H).objs.size=h.objs.size:=PySem.W.hideAll_size _ _
theorem Cb{h:Heap}{H:Hp}{b:Addr}{o:Obj}(e:h.get? b=some o)(n:H b=none):(Ca h H).get? b=some o :=
 PySem.W.hideAll_get _ e λhm=>by
  have q:(H b).isSome=true:=(HF.mp hm).2
  rw[n]at q;simp at q
theorem Fi{h:Heap}{H:Hp}{b:Addr}{o:Obj}(e:(Ca h H).get? b=some o):h.get? b=some o/\H b=none:=by
 have e':h.get? b=some o:=PySem.W.of_hideAll (trk h H) e
 refine⟨e',?_⟩
 cases q:H b with
 |none=>rfl
 |some x =>
  have hm:b∈trk h H:=HF.mpr ⟨CZ.mpr (AM e'),by simp[q]⟩
  have z:(Ca h H).get? b=none:=PySem.W.hideAll_none (trk h H) hm
  rw[z]at e;cases e
noncomputable def Fj(g h:Heap)(L:Addr):List (Addr×Obj):=(List.range h.objs.size).filterMap λa=>if a=L\/(g.get? a).isSome=true then none else(h.get? a).map λo=>(a,o)
noncomputable def rest(g h:Heap)(L d:Addr):List (Addr×Obj):=(Fj g h L).filter λp=>decide (p.1≠d)
structure Mod (K:PySem.W.Frag) (mg:Str->Option Value) (base:Heap):Prop where
 kin:K.In base
 glob:base.Ns mainGlobals mg
 blt:∃mb,base.Ns builtinsNs mb/\∀x:Str,x≠"__name__"->mb x=bootBuiltins x
 nolimit:base.NoLimit
structure Cx where
 prog:Program
 w:World
 K:PySem.W.Frag
 mg:Str->Option Value
 base:Heap
 A:Around
 N:List Str
 s₀:Shared
 H₀:Hp
 env:Env
 outer:List Env
 stack:List Env
 ex:List Addr
 fn:Str->Bool
 calm:Bool
 pn:List (Addr×Obj)
 xe:Value->Shared->Prop
noncomputable def frs(l:List Env):List Addr:=l.filterMap (·.frame)
noncomputable abbrev Cx.fs(X:Cx):List Addr:=frs X.outer
noncomputable def Vis(sc:Scope)(x:Str):Prop:=sc.names.lookup x=some .local\/sc.names.lookup x=some .cell\/sc.names.lookup x=some .free
noncomputable def Loc(sc:Scope)(x:Str):Prop:=sc.names.lookup x=some .local\/sc.names.lookup x=some .cell
noncomputable def Look(env:Env)(h:Heap)(m:Str->Option Value)(x:Str)(u:Value):Prop :=
 (env.kindOf x=some .local/\m x=some u)\/((env.kindOf x=some .cell\/env.kindOf x=some .free)/\∃c,env.cells.lookup x=some c/\h.IsCell c (some u))
structure Cx.Ok (X:Cx):Prop where
 mod:Mod X.K X.mg X.base
 kind:X.env.scope.kind=.function
 glob:X.env.globals=mainGlobals
 blt:X.env.builtins=builtinsNs
 above:X.s₀.heap.objs.size<=X.env.locals
 inj:∀x y c,X.env.cells.lookup x=some c->X.env.cells.lookup y=some c->x=y
 has:∀x,(X.env.kindOf x=some .cell\/X.env.kindOf x=some .free)->∃c,X.env.cells.lookup x=some c
 cab:∀x c,X.fn x=true->X.env.cells.lookup x=some c->X.s₀.heap.objs.size<=c
 hd:X.calm=true->X.A.handled=none
 frames:X.A.frames=some X.stack
 stk:X.stack=X.outer\/(X.stack=X.env::X.outer/\X.env.frame=some X.env.locals)
 exf:∀b∈X.ex,b≠X.env.locals/\∀x c,X.env.cells.lookup x=some c->c≠b
 bs:∀b o,X.base.get? b=some o->X.s₀.heap.get? b=some o/\X.H₀ b=none
 bsz:X.base.objs.size<=X.s₀.heap.objs.size
 noex:∀b o,X.base.get? b=some o->b∉X.ex
 exfs:∀b∈X.ex,b∉X.fs
 funs:X.s₀.heap.FunFrames X.base X.outer
 frf:∀b∈X.fs,X.H₀ b=none
structure Inv (X:Cx) (pins:List (Addr×Obj)) (σ:List (Option V)) (H:Hp) (s:Shared):Prop where
 ok:X.Ok
 os:s.os=X.s₀.os
 bare:AllBare s.gens
 base:Un X.fs X.ex X.H₀ H X.s₀.heap s.heap
 loc:∃m,s.heap.Ns X.env.locals m/\∀(i:Nat) (x:Str) (v:V),X.N[i]? = some x->σ[i]? = some (some v)->Vis X.env.scope x->∃u,RelV v u/\Look X.env s.heap m x u
 cell:∀x c,X.env.cells.lookup x=some c->∃v,s.heap.IsCell c v
 free:H X.env.locals=none
 freeC:∀x c,X.env.cells.lookup x=some c->H c=none
 pin:∀p∈X.pn++pins,s.heap.get? p.1=some p.2/\H p.1=none/\p.1≠X.env.locals/\p.1∉X.fs/\∀v,p.2.data≠.cell v
 hok:HOk X.prog X.w H s.heap
 len:σ.length=X.N.length
section
variable{X:Cx}{pins:List (Addr × Obj)}{σ:List (Option V)}{H H' : Hp}{s:Shared}{h' : Heap}
theorem Cx.Ok.nofr(ok:X.Ok){b:Addr}{o:Obj}(e:X.base.get? b=some o):b∉X.fs:=λhb=>by
 have:=(ok.funs.mem hb).1
 rw[e]at this;cases this
theorem Inv.bs(I:Inv X pins σ H s):∀b o,X.base.get? b=some o->s.heap.get? b=some o/\H b=none:=λb o e =>
 ⟨I.base.keep b o (I.ok.bs b o e).1 (I.ok.bs b o e).2 (I.ok.nofr e) (I.ok.noex b o e),I.base.free b o (I.ok.bs b o e).1 (I.ok.bs b o e).2 (I.ok.noex b o e)⟩
theorem Inv.bk(I:Inv X pins σ H s):∀b o,X.base.get? b=some o->s.heap.get? b=some o:=λb o e=>(I.bs b o e).1
theorem Inv.mod(I:Inv X pins σ H s):Mod X.K X.mg X.base:=I.ok.mod
theorem Inv.kIn(I:Inv X pins σ H s):X.K.In s.heap:=I.ok.mod.kin.keeps I.bk
theorem Inv.fr(I:Inv X pins σ H s):∃m,Fr X.base X.env.locals s.heap m :=
 let ⟨m,hn,_⟩:=I.loc
 ⟨m,hn,I.bk,BQ I.ok.bsz I.ok.above⟩
theorem Inv.lt(I:Inv X pins σ H s):X.env.locals<s.heap.objs.size:=let ⟨_,hn,_⟩:=I.loc;hn.lt
theorem Inv.sz(I:Inv X pins σ H s):X.s₀.heap.objs.size<=s.heap.objs.size:=BQ I.ok.above (CU I.lt)
theorem Inv.nofs(I:Inv X pins σ H s){a:Addr}(h:s.heap.objs.size<=a):a∉X.fs:=λhb=>by
 obtain⟨_,o,ho,_⟩:=I.ok.funs.mem hb
 exact absurd (AO (AM ho) (BQ I.sz h)) (CG _)
theorem Inv.cne(I:Inv X pins σ H s):∀x c,X.env.cells.lookup x=some c->c≠X.env.locals:=λx c e z=>by
 obtain⟨v,o,ho,hd⟩:=I.cell x c e
 obtain⟨m,⟨o',es,ep,ho',hd',_⟩,_⟩:=I.loc
 rw[z,ho']at ho;cases ho;rw[hd']at hd;cases hd
theorem Inv.funs(I:Inv X pins σ H s):s.heap.FunFrames X.base X.outer:=by
 have all:∀(l:List Env),(∀b∈frs l,b∈X.fs)->X.s₀.heap.FunFrames X.base l->s.heap.FunFrames X.base l:=by
  intro l
  induction l with
  |nil=>intro _ _;trivial
  |cons env r ih =>
   intro hs hl
   obtain⟨hk,⟨L,o,hf,hn,ho,hd⟩,hr⟩:=hl
   have hL:L∈X.fs:=hs L (by unfold frs;rw[FO,hf];exact AN)
   obtain⟨sl,e⟩:=I.base.slot L o ho (I.ok.frf L hL) hL λz=>I.ok.exfs L z hL
   exact⟨hk,⟨L,_,hf,hn,e,hd⟩,ih (λb hb=>hs b (by unfold frs;rw[FO,hf];exact AI _ hb)) hr⟩
 exact all X.outer (λ_ hb=>hb) I.ok.funs
theorem Inv.stack(I:Inv X pins σ H s):s.heap.FunFrames X.base X.stack:=by
 rcases I.ok.stk with e | ⟨e,hf⟩
 ·rw[e];exact I.funs
 ·rw[e]
  obtain⟨m,hn,_⟩:=I.loc
  refine .cons (by rw[I.ok.kind];decide) hf hn ?_ I.funs
  exact Heap.get?_none_of_le (BQ I.ok.bsz I.ok.above)
theorem Inv.stkSub(I:Inv X pins σ H s):∀b∈frs X.stack,b∈X.env.locals::X.fs:=λb hb=>by
 rcases I.ok.stk with e | ⟨e,hf⟩
 ·rw[e]at hb;exact AI _ hb
 ·rw[e]at hb
  unfold frs at hb
  rw[FO,hf]at hb
  exact hb
theorem Inv.stkFree(I:Inv X pins σ H s):∀b∈frs X.stack,H b=none:=λb hb=>by
 rcases AS.mp (I.stkSub b hb)with e | hb
 ·rw[e];exact I.free
 ·obtain⟨_,o,ho,_⟩:=I.ok.funs.mem hb
  exact I.base.free b o ho (I.ok.frf b hb) λz=>I.ok.exfs b z hb
theorem Inv.step {g':Array GenState} {t':Nat} {d':Drawn} {ch:List Addr} (I:Inv X pins σ H s)
  (hch:∀b∈ch,(b∈X.ex\/X.s₀.heap.objs.size<=b)/\b≠X.env.locals/\(∀x c,X.env.cells.lookup x=some c->c≠b)/\∀p∈X.pn++pins,p.1≠b)
  (keep:∀b o,b≠X.env.locals->b∉X.fs->b∉ch->s.heap.get? b=some o->H b=none->h'.get? b=some o)
  (slot:∀b o,b≠X.env.locals->b∈X.fs->b∉ch->s.heap.get? b=some o->H b=none->∃sl,h'.get? b=some {o with slots:=sl}) (free:∀b o,b∉ch->s.heap.get? b=some o->H b=none->H' b=none)
  (there:∀b o,b∉ch->s.heap.get? b=some o->∃o',h'.get? b=some o')
  (tups:∀b xs,H b=some (.tup xs)->H' b=some (.tup xs)) (frzs:∀b o u,H b=some (.frz o u)->H' b=some (.frz o u)) (tbls:∀b ps,H b=some (.tbl ps)->∃more,H' b=some (.tbl (ps++more)))
  (ns:∀m,s.heap.Ns X.env.locals m->h'.Ns X.env.locals m) (hok:HOk X.prog X.w H' h') (hg:AllBare g') :
  Inv X pins σ H' {s with heap:=h',gens:=g',drawn:=d',toks:=t'}:=by
 have neL:∀b o,X.s₀.heap.get? b=some o->b≠X.env.locals:=λb o e=>AR (AO (AM e) I.ok.above)
 have neC:∀b o,X.s₀.heap.get? b=some o->b∉X.ex->b∉ch:=λb o e hx hb=>by
  rcases(hch b hb).1 with z | z
  ·exact hx z
  ·exact absurd (AO (AM e) z) (CG _)
 have cellK:∀x c,X.env.cells.lookup x=some c->∀v,s.heap.IsCell c v->h'.IsCell c v:=λx c e v ⟨o,ho,hd⟩=>by
  have nch:c∉ch:=λz=>(hch c z).2.2.1 x c e rfl
  by_cases hc:c∈X.fs
  ·obtain⟨sl,q⟩:=slot c o (I.cne x c e) hc nch ho (I.freeC x c e)
   exact⟨_,q,hd⟩
  ·exact⟨o,keep c o (I.cne x c e) hc nch ho (I.freeC x c e),hd⟩
 refine⟨I.ok,I.os,hg,⟨λb o e n hb hx=>?_,λb o e n hb hx=>?_,λb o e n hx=>?_,λb o e hx=>?_,λb xs e=>tups b xs (I.base.tups b xs e),λb o xs e=>frzs b o xs (I.base.frzs b o xs e),λb ps e=>?_⟩,?_,λx c e=>?_,?_,λx c e=>?_,λp hp=>?_,hok,I.len⟩
 ·exact keep b o (neL b o e) hb (neC b o e hx) (I.base.keep b o e n hb hx) (I.base.free b o e n hx)
 ·obtain⟨sl,e1⟩:=I.base.slot b o e n hb hx
  obtain⟨sl',e2⟩:=slot b _ (neL b o e) hb (neC b o e hx) e1 (I.base.free b o e n hx)
  exact⟨sl',e2⟩
 ·obtain⟨o',e1⟩:=I.base.there b o e hx
  exact free b o' (neC b o e hx) e1 (I.base.free b o e n hx)
 ·obtain⟨o',e1⟩:=I.base.there b o e hx
  exact there b o' (neC b o e hx) e1
 ·obtain⟨m1,e1⟩:=I.base.tbls b ps e
  obtain⟨m2,e2⟩:=tbls b _ e1
  exact⟨m1++m2,by rw[e2,Array.append_assoc]⟩
 ·obtain⟨m,hn,hl⟩:=I.loc
  refine⟨m,ns m hn,λi x v e1 e2 e3=>?_⟩
  obtain⟨u,r,l⟩:=hl i x v e1 e2 e3
  refine⟨u,r,?_⟩
  rcases l with l | ⟨k,c,e,z⟩
  ·exact .inl l
  ·exact .inr ⟨k,c,e,cellK x c e _ z⟩
 ·obtain⟨v,z⟩:=I.cell x c e
  exact⟨v,cellK x c e v z⟩
 ·obtain⟨m,⟨o,_,_,ho,_⟩,_⟩:=I.loc
  exact free _ o (λz=>(hch _ z).2.1 rfl) ho I.free
 ·obtain⟨v,o,ho,hd⟩:=I.cell x c e
  exact free c o (λz=>(hch c z).2.2.1 x c e rfl) ho (I.freeC x c e)
 ·obtain⟨e,n,ne,nf,d⟩:=I.pin p hp
  have nch:p.1∉ch:=λz=>(hch p.1 z).2.2.2 p hp rfl
  exact⟨keep p.1 p.2 ne nf nch e n,free p.1 p.2 nch e n,ne,nf,d⟩
theorem Inv.un{t':Nat}(I:Inv X pins σ H s)(u:Un X.fs [] H H' s.heap h')(hok:HOk X.prog X.w H' h'):Inv X pins σ H' {s with heap:=h',toks:=t'}:=by
 obtain⟨m,⟨o,es,ep,ho,r⟩,_⟩:=id I.loc
 obtain⟨sl,hL⟩:=u.any ho I.free (by simp)
 exact I.step (g':=s.gens) (d':=s.drawn) (ch:=[]) (λ_ z=>nomatch z) (λb o _ hb _ e n=>u.keep b o e n hb (by simp)) (λb o _ hb _ e n=>u.slot b o e n hb (by simp)) (λb o _ e n=>u.free b o e n (by simp)) (λb o _ e=>u.there b o e (by simp)) u.tups u.frzs u.tbls (λm' hm=>by
  obtain⟨o',es',ep',ho',r'⟩:=hm
  rw[ho]at ho';cases ho'
  exact⟨_,es',ep',hL,r'⟩) hok I.bare
theorem Inv.call {g':Array GenState} {t':Nat} {d':Drawn} {ch:List Addr} (I:Inv X pins σ H s) (u:Un (frs X.stack) ch H H' s.heap h') (hok:HOk X.prog X.w H' h') (hg:AllBare g')
  (hch:∀b∈ch,(b∈X.ex\/X.s₀.heap.objs.size<=b)/\b≠X.env.locals/\(∀x c,X.env.cells.lookup x=some c->c≠b)/\∀p∈X.pn++pins,p.1≠b) :
  Inv X pins σ H' {s with heap:=h',gens:=g',drawn:=d',toks:=t'}:=by
 obtain⟨m,⟨o,es,ep,ho,r⟩,_⟩:=id I.loc
 obtain⟨sl,hL⟩:=u.any ho I.free λz=>(hch _ z).2.1 rfl
 exact I.step (ch:=ch) hch (λb o hL hb hc e n=>u.keep b o e n (λz=>(AS.mp (I.stkSub b z)).elim hL hb) hc) (λb o _ _ hc e n=>u.any e n hc) (λb o hc e n=>u.free b o e n hc) (λb o hc e=>u.there b o e hc) u.tups u.frzs u.tbls (λm' hm=>by
  obtain⟨o',es',ep',ho',r'⟩:=hm
  rw[ho]at ho';cases ho'
  exact⟨_,es',ep',hL,r'⟩) hok hg
theorem Inv.turned {t':Nat} {it:Addr} (I:Inv X pins σ H s) (k:∀b o,b≠it->s.heap.get? b=some o->h'.get? b=some o) (hn:H it=none) (hL:it≠X.env.locals)
  (h1:it∈X.ex\/X.s₀.heap.objs.size<=it) (h2:∀x c,X.env.cells.lookup x=some c->c≠it) (h3:∀p∈X.pn++pins,p.1≠it):Inv X pins σ H {s with heap:=h',toks:=t'}:=by
 have nit:∀b u,H b=some u->b≠it:=λb u e z=>by rw[z,hn]at e;cases e
 refine I.step (g':=s.gens) (d':=s.drawn) (ch:=[it]) (λb hb=>?_) (λb o _ _ hc e _=>k b o (λz=>hc (by simp[z])) e) (λb o _ _ hc e _=>⟨o.slots,k b o (λz=>hc (by simp[z])) e⟩) (λ_ _ _ _ n=>n)
  (λb o hc e=>⟨o,k b o (λz=>hc (by simp[z])) e⟩) (λ_ _ e=>e) (λ_ _ _ e=>e) (λb ps e=>⟨#[],by rw[e];simp⟩) (λm hm=>?_) (λb u e=>?_) I.bare
 ·have e:b=it:=by simpa using hb
  subst e
  exact⟨h1,hL,h2,h3⟩
 ·obtain⟨o,es,ep,ho,r⟩:=hm
  exact⟨o,es,ep,k _ o (Ne.symm hL) ho,r⟩
 ·refine(I.hok b u e).stay (λc v hc q=>k c v ?_ q) (λ_ q=>q) λ_ _ q=>q
  rcases hc with z | z
  ·rw[z];exact nit b u e
  ·exact nit c _ z
theorem Inv.tok(I:Inv X pins σ H s)(t:Nat):Inv X pins σ H {s with toks:=t}:=I.un (h':=s.heap) (t':=t) Un.refl I.hok
theorem Inv.kept{t':Nat}(I:Inv X pins σ H s)(k:∀b u,s.heap.get? b=some u->h'.get? b=some u):Inv X pins σ H {s with heap:=h',toks:=t'}:=I.un (Un.kept k) (I.hok.kept k)
theorem Inv.laid{a:Addr}{o:HO}{t':Nat}(I:Inv X pins σ H s)(k:∀b u,s.heap.get? b=some u->h'.get? b=some u)(hp:s.heap.objs.size<=a)(new:eg X.prog X.w (upd H a o) h' a o) :
  Inv X pins σ (upd H a o) {s with heap:=h',toks:=t'}:=I.un (Un.laid k hp (I.hok.fresh hp)) (I.hok.laid k hp new)
theorem Inv.write {x e:Addr} {o:HO} {t':Nat} (I:Inv X pins σ H s) (mu:Mut (H x)) (he:e=x\/H e=some (.own x)) (k:∀b u,b≠e->s.heap.get? b=some u->h'.get? b=some u) (heo:∃u,h'.get? e=some u)
  (new:eg X.prog X.w (upd H x o) h' x o):Inv X pins σ (upd H x o) {s with heap:=h',toks:=t'}:=I.un (Un.write mu he k heo) (I.hok.write mu he k heo new)
theorem Inv.weak{σ':List (Option V)}(I:Inv X pins σ H s)(hl:σ'.length=σ.length)(w:∀(i:Nat) v,σ'[i]? = some (some v)->σ[i]? = some (some v)):Inv X pins σ' H s :=
 ⟨I.ok,I.os,I.bare,I.base,let ⟨m,hn,hl'⟩:=I.loc;⟨m,hn,λi x v e1 e2 e3=>hl' i x v e1 (w i v e2) e3⟩,I.cell,I.free,I.freeC,I.pin,I.hok,hl.trans I.len⟩
theorem Inv.pins_of{pins':List (Addr×Obj)}(I:Inv X pins σ H s)(h:∀p∈pins',s.heap.get? p.1=some p.2/\H p.1=none/\p.1≠X.env.locals/\p.1∉X.fs/\∀v,p.2.data≠.cell v):Inv X pins' σ H s :=
 ⟨I.ok,I.os,I.bare,I.base,I.loc,I.cell,I.free,I.freeC,λp hp=>(BA.mp hp).elim (λz=>I.pin p (DE _ z)) (h p),I.hok,I.len⟩
theorem vg{N:List Str}(hN:N.Nodup){i j:Nat}{x:Str}(a:N[i]? = some x)(b:N[j]? = some x):i=j:=by
 obtain⟨h1,e1⟩:=AK.mp a
 obtain⟨h2,e2⟩:=AK.mp b
 exact(List.getElem_inj hN).mp (e1.trans e2.symm)
theorem qa {M:Model} {A:Around} {E:Value->Shared->Prop} {i:Nat} {x:Str} {v:V} {u:Value} {Q:Unit->Shared->Prop} (I:Inv X pins σ H s) (hN:X.N.Nodup) (hi:X.N[i]? = some x) (hx:Loc X.env.scope x) (r:RelV v u)
  (h:∀s',Inv X pins (σ.set i (some v)) H s'->(∃a,Heap.SameBut a s.heap s'.heap/\(a=X.env.locals\/X.env.cells.lookup x=some a))->Q () s') (hf:X.fn x=true\/X.env.scope.names.lookup x=some .local:=by first | exact .inl rfl | exact .inr rfl | assumption):wpAny M A (storeName X.env x u) Q E s:=by
 obtain⟨m,hn,hl⟩:=id I.loc
 have hcls:(X.env.scope.kind==.class || (X.env.scope.kind==.module&&X.env.locals != X.env.globals))=false:=by rw[I.ok.kind];rfl
 have hiσ:i<σ.length:=by rw[I.len];exact(AK.mp hi).1
 have cne:=I.cne
 have tracked:∀{a:Addr} {h':Heap},(∃o,s.heap.get? a=some o/\H a=none)->Heap.SameBut a s.heap h'->HOk X.prog X.w H h':=λ{a h'} ha hs b ob e=>by
  obtain⟨_,_,hfree⟩:=ha
  refine(I.hok b ob e).stay (λc w' hc q=>(hs.2 c ?_).trans q) (λ_ q=>q) λ_ _ q=>q
  rintro rfl
  rcases hc with rfl | hc
  ·rw[hfree]at e;cases e
  ·rw[hfree]at hc;cases hc
 rcases hx with hk | hk
 ·refine wpAny_storeName_local hk hn (λh' hn' hs=>?_) hcls
  obtain⟨oL,_,_,hoL,_⟩:=id hn
  refine h _ ⟨I.ok,I.os,I.bare,⟨λb o e n hb hx=>?_,λb o e n hb hx=>?_,I.base.free,λb o e hx=>?_,I.base.tups,I.base.frzs,I.base.tbls⟩,⟨_,hn',λj y v' e1 e2 e3=>?_⟩,λy c e=>?_,I.free,I.freeC,λp hp=>?_,tracked ⟨oL,hoL,I.free⟩ hs,by simpa using I.len⟩ ⟨_,hs,.inl rfl⟩
  ·exact(hs.2 b (AR (AO (AM e) I.ok.above))).trans (I.base.keep b o e n hb hx)
  ·obtain⟨sl,e1⟩:=I.base.slot b o e n hb hx
   exact⟨sl,(hs.2 b (AR (AO (AM e) I.ok.above))).trans e1⟩
  ·obtain⟨o',e1⟩:=I.base.there b o e hx
   exact⟨o',(hs.2 b (AR (AO (AM e) I.ok.above))).trans e1⟩
  ·by_cases hj:j=i
   ·subst hj
    rw[hi]at e1;cases e1
    rw[CV hiσ]at e2
    cases e2
    exact⟨u,r,.inl ⟨hk,by simp⟩⟩
   ·rw[CB (Ne.symm hj)]at e2
    obtain⟨u',r',q⟩:=hl j y v' e1 e2 e3
    refine⟨u',r',?_⟩
    rcases q with⟨k,e⟩ | ⟨k,c,e,z⟩
    ·refine .inl ⟨k,?_⟩
     have:y≠x:=λe=>hj (vg hN e1 (e ▸ hi))
     simp[this,e]
    ·exact .inr ⟨k,c,e,z.sameBut hs (cne y c e)⟩
  ·obtain⟨w',z⟩:=I.cell y c e
   exact⟨w',z.sameBut hs (cne y c e)⟩
  ·obtain⟨e,n,ne,nf,d⟩:=I.pin p hp
   exact⟨(hs.2 p.1 ne).trans e,n,ne,nf,d⟩
 ·have hfn:X.fn x=true:=by
   rcases hf with z | z
   ·exact z
   ·rw[z]at hk;cases hk
  obtain⟨c,hc⟩:=I.ok.has x (.inl hk)
  obtain⟨w',z⟩:=I.cell x c hc
  refine wpAny_storeName_cell I.ok.kind hk hc z (λh' hc' hs=>?_)
  obtain⟨oc,hoc,hocd⟩:=id z
  refine h {s with heap:=h'} ⟨I.ok,I.os,I.bare,⟨λb o e n hb hx=>?_,λb o e n hb hx=>?_,I.base.free,λb o e hx=>?_,I.base.tups,I.base.frzs,I.base.tbls⟩,⟨m,hn.sameBut hs (Ne.symm (cne x c hc)),λj y v' e1 e2 e3=>?_⟩,λy c' e=>?_,I.free,I.freeC,λp hp=>?_,tracked ⟨oc,hoc,I.freeC x c hc⟩ hs,by simpa using I.len⟩ ⟨c,hs,.inr hc⟩
  ·exact(hs.2 b (AR (AO (AM e) (I.ok.cab x c hfn hc)))).trans (I.base.keep b o e n hb hx)
  ·obtain⟨sl,e1⟩:=I.base.slot b o e n hb hx
   exact⟨sl,(hs.2 b (AR (AO (AM e) (I.ok.cab x c hfn hc)))).trans e1⟩
  ·obtain⟨o',e1⟩:=I.base.there b o e hx
   exact⟨o',(hs.2 b (AR (AO (AM e) (I.ok.cab x c hfn hc)))).trans e1⟩
  ·by_cases hj:j=i
   ·subst hj
    rw[hi]at e1;cases e1
    rw[CV hiσ]at e2
    cases e2
    exact⟨u,r,.inr ⟨.inl hk,c,hc,hc'⟩⟩
   ·rw[CB (Ne.symm hj)]at e2
    obtain⟨u',r',q⟩:=hl j y v' e1 e2 e3
    refine⟨u',r',?_⟩
    rcases q with q | ⟨k,c',e,z'⟩
    ·exact .inl q
    ·refine .inr ⟨k,c',e,z'.sameBut hs ?_⟩
     rintro rfl
     exact hj (vg hN e1 (I.ok.inj _ _ _ e hc ▸ hi))
  ·by_cases hcc:c'=c
   ·subst hcc;exact⟨_,hc'⟩
   ·obtain⟨w2,z2⟩:=I.cell y c' e
    exact⟨w2,z2.sameBut hs hcc⟩
  ·obtain⟨e,n,ne,nf,d⟩:=I.pin p hp
   refine⟨(hs.2 p.1 ?_).trans e,n,ne,nf,d⟩
   intro q
   rw[q,hoc]at e
   have q':oc=p.2:=BJ e
   exact d w' (by rw[<-q'];exact hocd)
theorem vh {M:Model} {A:Around} {E:Value->Shared->Prop} {i:Nat} {x:Str} {v:V} {u:Value} {Q:Unit->Shared->Prop} (I:Inv X pins σ H s) (hN:X.N.Nodup) (hi:X.N[i]? = some x) (hx:Loc X.env.scope x) (r:RelV v u)
  (h:∀s',Inv X pins (σ.set i (some v)) H s'->Q () s') (hf:X.fn x=true\/X.env.scope.names.lookup x=some .local:=by first | exact .inl rfl | exact .inr rfl | assumption):wpAny M A (storeName X.env x u) Q E s :=
 qa I hN hi hx r (λs' I' _=>h s' I') hf
theorem Inv.call' {s':Shared} {ch:List Addr} (I:Inv X pins σ H s) (ho:s'.os=s.os) (u:Un (frs X.stack) ch H H' s.heap s'.heap) (hok:HOk X.prog X.w H' s'.heap) (hg:AllBare s'.gens)
  (hch:∀b∈ch,(b∈X.ex\/X.s₀.heap.objs.size<=b)/\b≠X.env.locals/\(∀x c,X.env.cells.lookup x=some c->c≠b)/\∀p∈X.pn++pins,p.1≠b):Inv X pins σ H' s':=by
 obtain⟨h',g',d',t',o'⟩:=s'
 have e:o'=s.os:=ho
 subst e
 exact I.call (g':=g') (t':=t') (d':=d') u hok hg hch
end
noncomputable abbrev XK:=Value->Option Addr->Hp->Prop
noncomputable abbrev St:=List (Option V)
noncomputable abbrev VK:=V->Hp->Prop
noncomputable abbrev TE:=St->Hp->VK->Prop
noncomputable abbrev TT:=St->Hp->(Bool->Hp->Prop)->Prop
noncomputable abbrev TA:=St->Hp->(List V->Hp->Prop)->Prop
structure Ends where
 nx:St->Hp->Prop
 rt:VK
 bk:St->Hp->Prop:=λ_ _=>False
 ct:St->Hp->Prop:=λ_ _=>False
noncomputable abbrev TS:=Ends->St->Hp->Prop
noncomputable def EP(X:Cx)(pins:List (Addr×Obj))(σ:St)(Q:VK)(u:Value)(s':Shared):Prop:=∃v H',Inv X pins σ H' s'/\RelV v u/\Q v H'
noncomputable def TP(X:Cx)(pins:List (Addr×Obj))(σ:St)(Q:Bool->Hp->Prop)(b:Bool)(s':Shared):Prop:=∃H',Inv X pins σ H' s'/\Q b H'
noncomputable def AP(X:Cx)(pins:List (Addr×Obj))(σ:St)(Q:List V->Hp->Prop)(us:List Value)(s':Shared):Prop:=∃vs H',Inv X pins σ H' s'/\bc vs us/\Q vs H'
noncomputable def SP(X:Cx)(pins:List (Addr×Obj))(D:Ends)(f:Flow)(s':Shared):Prop :=
 match f with
 |.next=>∃σ' H',Inv X pins σ' H' s'/\D.nx σ' H'
 |.brk=>∃σ' H',Inv X pins σ' H' s'/\D.bk σ' H'
 |.cont=>∃σ' H',Inv X pins σ' H' s'/\D.ct σ' H'
 |.ret u=>∃v σ' H',Inv X pins σ' H' s'/\RelV v u/\D.rt v H'
noncomputable def PE(X:Cx)(e:Expr)(t:TE):Prop :=
 ∀(pins:List (Addr×Obj)) (s:Shared) (σ:St) (H:Hp) (Q:VK),Inv X pins σ H s->t σ H Q->wpAny (model X.prog X.w) X.A (eval e X.env) (EP X pins σ Q) X.xe s
noncomputable def PT(X:Cx)(e:Expr)(t:TT):Prop :=
 ∀(pins:List (Addr×Obj)) (s:Shared) (σ:St) (H:Hp) (Q:Bool->Hp->Prop),Inv X pins σ H s->t σ H Q->wpAny (model X.prog X.w) X.A (isTrue e X.env (eval e X.env)) (TP X pins σ Q) X.xe s
noncomputable def PW(X:Cx)(e:Expr)(t:TT):Prop :=
 ∀(whole:Sem Value) (pins:List (Addr×Obj)) (s:Shared) (σ:St) (H:Hp) (Q:Bool->Hp->Prop),Inv X pins σ H s->t σ H Q->wpAny (model X.prog X.w) X.A (isTrue e X.env whole) (TP X pins σ Q) X.xe s
theorem PW.pt{X:Cx}{e:Expr}{t:TT}(h:PW X e t):PT X e t:=h _
noncomputable def PA(X:Cx)(es:List Expr)(t:TA):Prop :=
 ∀(pos:Pos) (pins:List (Addr×Obj)) (s:Shared) (σ:St) (H:Hp) (Q:List V->Hp->Prop),Inv X pins σ H s->t σ H Q->wpAny (model X.prog X.w) X.A (spliced (backTo pos (starEach es X.env))) (AP X pins σ Q) X.xe s
noncomputable def PS(X:Cx)(st:Stmt)(t:TS):Prop :=
 ∀(pins:List (Addr×Obj)) (s:Shared) (σ:St) (H:Hp) (D:Ends),Inv X pins σ H s->t D σ H->wpAny (model X.prog X.w) X.A (exec st X.env) (SP X pins D) X.xe s
noncomputable def PSs(X:Cx)(st:List Stmt)(t:TS):Prop :=
 ∀(pins:List (Addr×Obj)) (s:Shared) (σ:St) (H:Hp) (D:Ends),Inv X pins σ H s->t D σ H->wpAny (model X.prog X.w) X.A (execs st X.env) (SP X pins D) X.xe s
theorem thn{α:Type}{t:Sem α}{Q Q':α->Shared->Prop}{M:Model}{A:Around}{E:Value->Shared->Prop}{s:Shared}(h:wpAny M A t Q E s)(hQ:∀a s,Q a s->Q' a s):wpAny M A t Q' E s:=Da h hQ λ_ _ x=>x
section
variable{X:Cx}
theorem bin {a b:Expr} {ta tb:TE} (ha:PE X a ta) (hb:PE X b tb) {pins:List (Addr×Obj)} {s:Shared} {σ:St} {H:Hp} {R:V->V->Hp->Prop} (I:Inv X pins σ H s) (h:ta σ H λx H1=>tb σ H1 λy H2=>R x y H2)
  {α:Type} {Q:α->Shared->Prop} {f:Value->Value->Sem α}
  (hf:∀v u s2 x y H2,Inv X pins σ H2 s2->RelV x v->RelV y u->R x y H2->wpAny (model X.prog X.w) X.A (f v u) Q X.xe s2) :
  wpAny (model X.prog X.w) X.A (eval a X.env) (λv s₁=>wpAny (model X.prog X.w) X.A (eval b X.env) (λu s₂=>wpAny (model X.prog X.w) X.A (f v u) Q X.xe s₂) X.xe s₁) X.xe s:=by
 refine thn (ha pins s σ H _ I h) λv s1 ⟨x,H1,I1,r1,q1⟩=>?_
 refine thn (hb pins s1 σ H1 _ I1 q1) λu s2 ⟨y,H2,I2,r2,q2⟩=>?_
 exact hf v u s2 x y H2 I2 r1 r2 q2
noncomputable def Qe(i:Nat):TE:=λσ H Q=>∃v,σ[i]? = some (some v)/\Q v H
noncomputable def tC(v:V):TE:=λ_ H Q=>Q v H
theorem zd{i:Nat}{x:Str}{pos:Pos}(hN:X.N[i]? = some x)(hv:Vis X.env.scope x)(hd:(x==("__debug__":Str))=false:=by decide)(hcd:(x==("__classdict__":Str))=false:=by decide):PE X (.Name x pos) (Qe i):=by
 intro pins s σ H Q I h
 obtain⟨v,e,h⟩:=h
 obtain⟨m,hn,hl⟩:=I.loc
 obtain⟨u,r,l⟩:=hl i x v hN e hv
 have fin:EP X pins σ Q u s:=⟨v,H,I,r,h⟩
 rcases l with⟨hk,hm⟩ | ⟨hk,c,hc,hcell⟩
 ·exact wpAny_Name (wpAny_loadName_local I.ok.kind hk hn hm fin) hd
 ·rcases hk with hk | hk
  ·exact wpAny_Name (wpAny_loadName_cell I.ok.kind hk hc hcell fin) hd
  ·exact wpAny_Name (wpAny_loadName_free I.ok.kind hk hc hcell fin hcd) hd
theorem Ii{i j pos}:PE X (.Constant (.int i) j pos) (tC (.int i)):=λ_ _ _ H _ I h=>wpAny_Constant_int ⟨.int i,H,I.tok _,⟨_,rfl⟩,h⟩
theorem Mu{b j pos}:PE X (.Constant (.bool b) j pos) (tC (.bl b)):=λ_ _ _ H _ I h=>Constant_bool ⟨.bl b,H,I,rfl,h⟩
theorem Ij{j pos}:PE X (.Constant .none j pos) (tC .non):=λ_ _ _ H _ I h=>Constant_none ⟨.non,H,I,rfl,h⟩
noncomputable def Gl(X:Cx)(x:Str):Prop:=X.env.kindOf x=some .globalImplicit
theorem Fk {E:Value->Shared->Prop} {pins:List (Addr×Obj)} {s:Shared} {σ:St} {H:Hp} {x:Str} {u:Value} {pos:Pos} {Q:Value->Shared->Prop} (I:Inv X pins σ H s) (hg:Gl X x) (hm:X.mg x=some u) (h:Q u s)
  (hd:(x==("__debug__":Str))=false:=by decide):wpAny (model X.prog X.w) X.A (eval (.Name x pos) X.env) Q E s :=
 FT I.ok.kind hg (Calls.loadGlobal_global (by rw[I.ok.glob];exact I.mod.glob.keeps I.bk) hm h) hd
theorem my {E:Value->Shared->Prop} {pins:List (Addr×Obj)} {s:Shared} {σ:St} {H:Hp} {x:Str} {u:Value} {pos:Pos} {Q:Value->Shared->Prop} (I:Inv X pins σ H s) (hg:Gl X x) (hm:X.mg x=none) (hv:bootBuiltins x=some u) (h:Q u s)
  (hn:x≠"__name__":=by decide) (hd:(x==("__debug__":Str))=false:=by decide):wpAny (model X.prog X.w) X.A (eval (.Name x pos) X.env) Q E s:=by
 obtain⟨mb,h1,h2⟩:=I.mod.blt
 exact FT I.ok.kind hg (Calls.loadGlobal_builtin (by rw[I.ok.glob];exact I.mod.glob.keeps I.bk) hm (by rw[I.ok.blt];exact h1.keeps I.bk) ((h2 x hn).trans hv) h) hd
theorem Fm{x:Str}{v:V}{u:Value}{pos:Pos}(hg:Gl X x)(hm:X.mg x=none)(hv:bootBuiltins x=some u)(r:RelV v u)(hn:x≠"__name__":=by decide)(hd:(x==("__debug__":Str))=false:=by decide):PE X (.Name x pos) (tC v) :=
 λ_ _ _ H _ I h=>my I hg hm hv ⟨v,H,I,r,h⟩ hn hd
variable{a b:Expr}{ta tb:TE}{pos:Pos}
noncomputable def PC(X:Cx)(op:CmpOp)(a b:Expr)(t:TE):Prop :=
 ∀(pins:List (Addr×Obj)) (s:Shared) (σ:St) (H:Hp) (Q:VK),Inv X pins σ H s->t σ H Q ->
  wpAny (model X.prog X.w) X.A (eval a X.env) (λv s₁=>wpAny (model X.prog X.w) X.A (eval b X.env) (λu s₂=>wpAny (model X.prog X.w) X.A (compareOp op v u) (EP X pins σ Q) X.xe s₂) X.xe s₁) X.xe s
theorem Cc(b:Expr){op:CmpOp}(h:op≠.In)(h2:op≠.NotIn):behindInMarks op b=false:=by
 have e1:(op==CmpOp.In)=false:=by cases op<;>first | rfl | exact absurd rfl h
 have e2:(op==CmpOp.NotIn)=false:=by cases op<;>first | rfl | exact absurd rfl h2
 cases b<;>simp[behindInMarks,e1,e2]
noncomputable def tB(t:TE):TT:=λσ H Q=>t σ H λx H1=>∃c,x=.bl c/\Q c H1
theorem Ik{op:CmpOp}{t:TE}(h:PC X op a b t)(h1:behindInMarks op b=false:=by first | exact Cc _ (by decide) (by decide) | rfl):PT X (.Compare a [op] [b] pos) (tB t):=by
 intro pins s σ H Q I hw
 refine wpAny_isTrue_Compare1 (thn (h pins s σ H _ I hw) λv s1 h1=>thn h1 λu s2 h2=>thn h2 λc s3 ⟨x,H1,I1,r1,q1⟩=>?_) h1
 obtain⟨d,rfl,q⟩:=q1
 cases r1
 exact CM ⟨H1,I1,q⟩
variable{tA tB' : TT}{rest:List Expr}
noncomputable def Sr(t u:TT):TT:=λσ H Q=>t σ H λc H1=>if c=true then u σ H1 Q else Q false H1
noncomputable def tOr(t u:TT):TT:=λσ H Q=>t σ H λc H1=>if c=true then Q true H1 else u σ H1 Q
noncomputable def Ss(t:TT):TT:=λσ H Q=>t σ H λc H1=>Q (!c) H1
theorem Fn(ha:PT X a tA):PW X (.BoolOp .And [a] pos) tA:=by
 intro wh pins s σ H Q I h
 refine isTrue_and (thn (ha pins s σ H Q I h) λc s1 e=>?_)
 cases c with
 |true=>exact isTrue_and_nil e
 |false=>exact e
theorem Il(ha:PT X a tA):PW X (.BoolOp .Or [a] pos) tA:=by
 intro wh pins s σ H Q I h
 refine isTrue_or (thn (ha pins s σ H Q I h) λc s1 e=>?_)
 cases c with
 |false=>exact isTrue_or_nil e
 |true=>exact e
theorem Im(ha:PT X a tA)(hb:PW X (.BoolOp .And (b::rest) pos) tB'):PW X (.BoolOp .And (a::b::rest) pos) (Sr tA tB'):=by
 intro wh pins s σ H Q I h
 refine isTrue_and (thn (ha pins s σ H _ I h) λc s1 ⟨H1,I1,q1⟩=>?_)
 cases c with
 |true=>exact hb wh pins s1 σ H1 Q I1 q1
 |false=>exact⟨H1,I1,q1⟩
theorem Mv(ha:PT X a tA)(hb:PW X (.BoolOp .Or (b::rest) pos) tB'):PW X (.BoolOp .Or (a::b::rest) pos) (tOr tA tB'):=by
 intro wh pins s σ H Q I h
 refine isTrue_or (thn (ha pins s σ H _ I h) λc s1 ⟨H1,I1,q1⟩=>?_)
 cases c with
 |true=>exact⟨H1,I1,q1⟩
 |false=>exact hb wh pins s1 σ H1 Q I1 q1
theorem Io(ha:PT X a tA):PT X (.UnaryOp .Not a pos) (Ss tA):=by
 intro pins s σ H Q I h
 exact isTrue_not (ha pins s σ H (λc H1=>Q (!c) H1) I h)
noncomputable def Mw(ta tb:TE):TE:=λσ H Q=>ta σ H λx H1=>∃c,x=.bl c/\if c=true then tb σ H1 Q else Q (.bl false) H1
noncomputable def Mx(ta:TE):TE:=λσ H Q=>ta σ H λx H1=>∃c,x=.bl c/\Q (.bl (!c)) H1
theorem Ip{op}{t:TE}(h:PE X a t):PE X (.BoolOp op [a] pos) t:=λpins s σ H Q I hw=>BoolOp_one (h pins s σ H Q I hw)
theorem Iq(ha:PE X a ta)(hb:PE X (.BoolOp .And (b::rest) pos) tb):PE X (.BoolOp .And (a::b::rest) pos) (Mw ta tb):=by
 intro pins s σ H Q I h
 refine BoolOp_and (thn (ha pins s σ H _ I h) λv s1 ⟨x,H1,I1,r1,q1⟩=>?_)
 obtain⟨c,rfl,q1⟩:=q1
 cases r1
 refine CM ?_
 cases c with
 |true=>exact hb pins s1 σ H1 Q I1 q1
 |false=>exact⟨.bl false,H1,I1,rfl,q1⟩
theorem Ir(ha:PE X a ta):PE X (.UnaryOp .Not a pos) (Mx ta):=by
 intro pins s σ H Q I h
 refine UnaryOp_ (thn (ha pins s σ H _ I h) λv s1 ⟨x,H1,I1,r1,q1⟩=>?_)
 obtain⟨c,rfl,q1⟩:=q1
 cases r1
 exact not_of (CM ⟨.bl (!c),H1,I1,rfl,q1⟩)
end
noncomputable def SqL(K:PySem.W.Frag)(H:Hp)(a:Addr)(xs:List V):Prop :=
 Rd H a (.lst xs) \/
  ∃(o:Obj) (its:Array Value) (n:Nat),K.lookup a=some o/\o.cls=.type "list"/\o.dict=none/\o.data=.seq its n/\its.size<=sizeLine/\bc xs its.toList
noncomputable def SqT(K:PySem.W.Frag)(H:Hp)(a:Addr)(xs:List V):Prop :=
 Rd H a (.tup xs) \/
  ∃(o:Obj) (its:Array Value) (n:Nat),K.lookup a=some o/\o.cls=.type "tuple"/\o.data=.seq its n/\its.size<=sizeLine/\bc xs its.toList/\o.dict=none
noncomputable def Su:Value->Option V
 |.none=>some .non
 |.bool b=>some (.bl b)
 |.int i _=>some (.int i)
 |.str x _=>some (.str x)
 |.bytes b _=>some (.byt b)
 |.float b _=>some (.flt b)
 |.ref a=>some (.ref a)
 |.type n=>some (.ty n)
 |_=>none
theorem RelV.abs{x:V}{u:Value}(r:RelV x u):Su u=some x:=by
 cases x with
 |non=>cases r;rfl
 |bl _=>cases r;rfl
 |int _=>obtain⟨t,rfl⟩:=r;rfl
 |str _=>obtain⟨t,rfl⟩:=r;rfl
 |byt _=>obtain⟨t,rfl⟩:=r;rfl
 |flt _=>obtain⟨t,rfl⟩:=r;rfl
 |ref _=>cases r;rfl
 |ty _=>cases r;rfl
theorem RelV.inj{x y:V}{u:Value}(r:RelV x u)(q:RelV y u):x=y:=BJ (r.abs.symm.trans q.abs)
theorem bc.inj:∀{xs ys:List V} {us:List Value},bc xs us->bc ys us->xs=ys
 |_,_,_,.nil,.nil=>rfl
 |_,_,_,.cons r t,.cons r' t'=>by rw[r.inj r',bc.inj t t']
section
variable{X:Cx}{pins:List (Addr × Obj)}{σ:St}{H:Hp}{s:Shared}{a:Addr}{xs ys:List V}
theorem SqL.of{K:PySem.W.Frag}(h:H a=some (.lst xs)):SqL K H a xs:=.inl (.inl h)
theorem SqT.of{K:PySem.W.Frag}(h:H a=some (.tup xs)):SqT K H a xs:=.inl (.inl h)
theorem Inv.list(I:Inv X pins σ H s)(h:SqL X.K H a xs):∃its:List Value,bc xs its/\PlainL s.heap a its.toArray/\xs.length<=sizeLine:=by
 rcases h with h | ⟨o,its,n,hk,hc,hd,hs,hz,r⟩
 ·obtain⟨z,its,n,r,e⟩:=h.ok I.hok
  exact⟨its,r,⟨_,n,e,rfl,rfl,rfl⟩,z⟩
 ·refine⟨its.toList,r,⟨o,n,I.kIn a o hk,hc,hd,by simpa using hs⟩,?_⟩
  have e:=r.length
  simp![AZ]at e
  lia
theorem Inv.tuple(I:Inv X pins σ H s)(h:SqT X.K H a xs):∃its:List Value,bc xs its/\IsTup s.heap a its.toArray/\xs.length<=sizeLine:=by
 rcases h with h | ⟨o,its,n,hk,hc,hs,hz,r,_⟩
 ·obtain⟨z,its,r,p⟩:=h.ok I.hok
  exact⟨its,r,p.tup,z⟩
 ·refine⟨its.toList,r,⟨o,I.kIn a o hk,hc,n,by simpa using hs⟩,?_⟩
  have e:=r.length
  simp![AZ]at e
  lia
theorem Inv.list_inj(I:Inv X pins σ H s)(h:SqL X.K H a xs)(h':SqL X.K H a ys):xs=ys:=by
 obtain⟨its,r,⟨o,n,e,_,_,d⟩,_⟩:=I.list h
 obtain⟨its',r',⟨o',n',e',_,_,d'⟩,_⟩:=I.list h'
 rw[e]at e';cases e'
 rw[d]at d'
 injection d' with d1 _
 have:its=its':=by simpa using congrArg Array.toList d1
 subst this
 exact r.inj r'
theorem Inv.tuple_inj(I:Inv X pins σ H s)(h:SqT X.K H a xs)(h':SqT X.K H a ys):xs=ys:=by
 obtain⟨its,r,⟨o,e,_,n,d⟩,_⟩:=I.tuple h
 obtain⟨its',r',⟨o',e',_,n',d'⟩,_⟩:=I.tuple h'
 rw[e]at e';cases e'
 rw[d]at d'
 injection d' with d1 _
 have:its=its':=by simpa using congrArg Array.toList d1
 subst this
 exact r.inj r'
end
noncomputable abbrev Cx.wish(X:Cx)(E:Value->Shared->Prop):Cx:={X with xe:=E}
noncomputable abbrev Cx.nox(X:Cx):Cx:=X.wish λ_ _=>False
theorem Cx.Ok.wish{X:Cx}(ok:X.Ok)(E:Value->Shared->Prop):(X.wish E).Ok :=
 ⟨ok.mod,ok.kind,ok.glob,ok.blt,ok.above,ok.inj,ok.has,ok.cab,ok.hd,ok.frames,ok.stk,ok.exf,ok.bs,ok.bsz,ok.noex,ok.exfs,ok.funs,ok.frf⟩
theorem Cx.Ok.unwish{X:Cx}{E:Value->Shared->Prop}(ok:(X.wish E).Ok):X.Ok :=
 ⟨ok.mod,ok.kind,ok.glob,ok.blt,ok.above,ok.inj,ok.has,ok.cab,ok.hd,ok.frames,ok.stk,ok.exf,ok.bs,ok.bsz,ok.noex,ok.exfs,ok.funs,ok.frf⟩
section
variable{X:Cx}{pins:List (Addr × Obj)}{σ:St}{H:Hp}{s:Shared}{E:Value -> Shared -> Prop}
theorem Inv.wish(I:Inv X pins σ H s)(E:Value->Shared->Prop):Inv (X.wish E) pins σ H s:=⟨I.ok.wish E,I.os,I.bare,I.base,I.loc,I.cell,I.free,I.freeC,I.pin,I.hok,I.len⟩
theorem Inv.unwish(I:Inv (X.wish E) pins σ H s):Inv X pins σ H s:=⟨I.ok.unwish,I.os,I.bare,I.base,I.loc,I.cell,I.free,I.freeC,I.pin,I.hok,I.len⟩
theorem SP.unwish{D:Ends}{f:Flow}{s':Shared}(h:SP (X.wish E) pins D f s'):SP X pins D f s':=by
 cases f with
 |next=>obtain⟨σ',H',I,q⟩:=h;exact⟨σ',H',I.unwish,q⟩
 |brk=>obtain⟨σ',H',I,q⟩:=h;exact⟨σ',H',I.unwish,q⟩
 |cont=>obtain⟨σ',H',I,q⟩:=h;exact⟨σ',H',I.unwish,q⟩
 |ret u=>obtain⟨v,σ',H',I,r,q⟩:=h;exact⟨v,σ',H',I.unwish,r,q⟩
theorem PSs.nox{st:List Stmt}{t:TS}(h:PSs X.nox st t):PSs X st t:=λpins s σ H D I hw =>
 Da (h pins s σ H D (I.wish _) hw) (λ_ _ q=>q.unwish) λ_ _ z=>False.elim z
end
section
variable{X:Cx}{st:Stmt}{rest:List Stmt}{t u:TS}{e:Expr}{te:TE}{pos:Pos}
noncomputable def tNext:TS:=λD σ H=>D.nx σ H
noncomputable def Sv(t u:TS):TS:=λD σ H=>t {D with nx:=u D} σ H
theorem Fo:PSs X [] tNext:=λ_ _ σ H _ I h=>wpAny_execs_nil ⟨σ,H,I,h⟩
theorem Cd(h1:PS X st t)(h2:PSs X rest u):PSs X (st::rest) (Sv t u):=by
 intro pins s σ H D I h
 refine wpAny_execs_cons (thn (h1 pins s σ H {D with nx:=u D} I h) λf s1 q=>?_)
 cases f with
 |next =>
  obtain⟨σ',H',I',q⟩:=q
  exact h2 pins s1 σ' H' D I' q
 |ret v=>exact q
 |brk=>exact q
 |cont=>exact q
theorem Inv.quiet{pins:List (Addr×Obj)}{σ:St}{H:Hp}{s:Shared}(I:Inv X pins σ H s):interactive X.env=false:=by simp[interactive,I.ok.kind]
noncomputable def My(te:TE):TS:=λD σ H=>te σ H λ_ H1=>D.nx σ H1
theorem Fp(he:PE X e te)(hs:swapsWith e none pos.line X.env=pure false:=by rfl):PS X (.Expr e pos) (My te):=by
 intro pins s σ H D I h
 exact wpAny_Expr_any (thn (he pins s σ H _ I h) λv s1 ⟨x,H1,I1,r1,q1⟩=>⟨σ,H1,I1,q1⟩) I.quiet hs
noncomputable def Sw(te:TE):TS:=λD σ H=>te σ H D.rt
theorem Iu(he:PE X e te):PS X (.Return (some e) pos) (Sw te):=by
 intro pins s σ H D I h
 exact wpAny_Return_some (thn (he pins s σ H _ I h) λv s1 ⟨x,H1,I1,r1,q1⟩=>⟨x,σ,H1,I1,r1,q1⟩)
noncomputable def Sx(c:TT)(t u:TS):TS:=λD σ H=>c σ H λb H1=>if b=true then t D σ H1 else u D σ H1
theorem Mz{c:Expr}{a b:List Stmt}{tc:TT}(hc:PT X c tc)(ha:PSs X a t)(hb:PSs X b u):PS X (.If c a b pos) (Sx tc t u):=by
 intro pins s σ H D I h
 refine wpAny_If (thn (hc pins s σ H _ I h) λd s1 ⟨H1,I1,q1⟩=>?_)
 cases d with
 |true=>exact ha pins s1 σ H1 D I1 q1
 |false=>exact hb pins s1 σ H1 D I1 q1
end
noncomputable abbrev TG:=V->St->Hp->(St->Hp->Prop)->Prop
noncomputable abbrev TGs:=List V->St->Hp->(St->Hp->Prop)->Prop
noncomputable def PG(X:Cx)(target:Expr)(t:TG):Prop :=
 ∀(pins:List (Addr×Obj)) (s:Shared) (σ:St) (H:Hp) (v:V) (u:Value) (Q:St->Hp->Prop),Inv X pins σ H s->RelV v u->t v σ H Q ->
  wpAny (model X.prog X.w) X.A (assign target X.env u) (λ_ s'=>∃σ' H',Inv X pins σ' H' s'/\Q σ' H') X.xe s
noncomputable def PGs(X:Cx)(ts:List Expr)(t:TGs):Prop :=
 ∀(pins:List (Addr×Obj)) (s:Shared) (σ:St) (H:Hp) (vs:List V) (us:List Value) (Q:St->Hp->Prop),Inv X pins σ H s->bc vs us->t vs σ H Q ->
  wpAny (model X.prog X.w) X.A (assignInOrder ((assignEach ts X.env).map (·.2)) us) (λ_ s'=>∃σ' H',Inv X pins σ' H' s'/\Q σ' H') X.xe s
noncomputable abbrev TSet:=V->V->V->Hp->(Hp->Prop)->Prop
noncomputable def L6(X:Cx)(t:TSet):Prop :=
 ∀(pins:List (Addr×Obj)) (s:Shared) (σ:St) (H:Hp) (o i v:V) (ov iv u:Value) (Q:Hp->Prop),Inv X pins σ H s->RelV o ov->RelV i iv->RelV v u->t o i v H Q ->
  wpAny (model X.prog X.w) X.A (setItem ov iv u) (λ_ s'=>∃H',Inv X pins σ H' s'/\Q H') X.xe s
section
variable{X:Cx}{pos:Pos}
noncomputable def Fq(i:Nat):TG:=λv σ H Q=>Q (σ.set i (some v)) H
theorem ze{i:Nat}{x:Str}(hN:X.N.Nodup)(hi:X.N[i]? = some x)(hx:Loc X.env.scope x)(hf:X.fn x=true\/X.env.scope.names.lookup x=some .local:=by first | exact .inl rfl | exact .inr rfl | assumption):PG X (.Name x pos) (Fq i):=by
 intro pins s σ H v u Q I r h
 exact wpAny_assign_Name (vh I hN hi hx r (λs' I'=>⟨_,H,I',h⟩) hf)
noncomputable def gNil:TGs:=λvs σ H Q=>vs=[]/\Q σ H
noncomputable def M0(t:TG)(u:TGs):TGs:=λvs σ H Q=>∃v r,vs=v::r/\t v σ H λσ' H'=>u r σ' H' Q
theorem Fs:PGs X [] gNil:=by
 intro pins s σ H vs us Q I r h
 obtain⟨e,h⟩:=h
 subst e
 cases r
 exact assignInOrder_nil ⟨σ,H,I,h⟩
theorem Ce {e:Expr} {es:List Expr} {t:TG} {u:TGs} (h1:PG X e t) (h2:PGs X es u)
  (hs:(assignEach (e::es) X.env).map (·.2)=assign e X.env::(assignEach es X.env).map (·.2):=by rfl):PGs X (e::es) (M0 t u):=by
 intro pins s σ H vs us Q I r h
 obtain⟨v,vr,e1,h⟩:=h
 subst e1
 cases r with
 |cons r rr =>
  rw[hs]
  refine assignInOrder_cons (thn (h1 pins s σ H _ _ _ I r h) λ_ s1 ⟨σ1,H1,I1,q1⟩=>?_)
  exact h2 pins s1 σ1 H1 _ _ Q I1 rr q1
noncomputable def Sy(K:PySem.W.Frag)(n:Nat)(t:TGs):TG:=λv σ H Q=>∃a xs,v=.ref a/\SqT K H a xs/\xs.length=n/\t xs σ H Q
theorem Iv {es:List Expr} {k:Nat} {t:TGs} {n:Nat} (hc:X.calm=true) (h:PGs X es t)
  (hn:(assignEach es X.env).length=n:=by rfl) (hst:(assignEach es X.env).findIdx? (·.1)=none:=by rfl):PG X (.Tuple es k pos) (Sy X.K n t):=by
 intro pins s σ H v u Q I r hw
 obtain⟨a,xs,e1,hq,hl,hw⟩:=hw
 subst e1
 cases r
 obtain⟨its,rv,ht,hz⟩:=I.tuple hq
 refine assign_Tuple_tuple (I.ok.hd hc) ht (by simp[hn,<-hl,rv.length]) hst λh' hx=>?_
 have I1:Inv X pins σ H {s with heap:=h'}:=I.kept (t':=s.toks) λb o e=>hx b o (AR (AM e)) e
 exact h pins _ σ H xs _ Q I1 (by simpa using rv) hw
noncomputable def Sz(to ti:TE)(t:TSet):TG:=λv σ H Q=>to σ H λo H1=>ti σ H1 λi H2=>t o i v H2 λH3=>Q σ H3
theorem Iw {o i:Expr} {to ti:TE} {t:TSet} (ho:PE X o to) (hi:PE X i ti) (hs:L6 X t)
  (ha:∀v,assign (.Subscript o i pos) X.env v=(do
   let ov <-holding [v] (eval o X.env)
   let iv <-holding [v,ov] (eval i X.env)
   standAt pos
   holding [v,ov,iv] (setItem ov iv v)
   release [v,ov,iv] []):=by intro _;rfl):PG X (.Subscript o i pos) (Sz to ti t):=by
 intro pins s σ H v u Q I r h
 rw[ha]
 refine AA (BS (thn (ho pins s σ H _ I h) λov s1 ⟨x,H1,I1,r1,q1⟩=>?_))
 refine AA (BS (thn (hi pins s1 σ H1 _ I1 q1) λiv s2 ⟨y,H2,I2,r2,q2⟩=>?_))
 refine AA (wpAny_standAt (AA (BS (thn (hs pins s2 σ H2 x y v ov iv u _ I2 r1 r2 r q2) λ_ s3 ⟨H3,I3,q3⟩=>?_))))
 exact wpAny_release ⟨σ,H3,I3,q3⟩
noncomputable def Qf(te:TE)(g:TG):TS:=λD σ H=>te σ H λx H1=>g x σ H1 D.nx
theorem Iy {tg e:Expr} {te:TE} {g:TG} (he:PE X e te) (hg:PG X tg g) (hs:swapsWithSole [tg] e pos.line X.env=pure false:=by rfl) (hw:swappedStores [tg] e X.env=pure none:=by rfl)
  (h1:(assignEach [tg] X.env).map (·.2)=[assign tg X.env]:=by rfl):PS X (.Assign [tg] e pos) (Qf te g):=by
 intro pins s σ H D I h
 refine wpAny_Assign_stores (thn (he pins s σ H _ I h) λv s1 ⟨x,H1,I1,r1,q1⟩=>?_) hs hw
 rw[h1]
 exact thn (hg pins s1 σ H1 x v _ I1 r1 q1) λ_ s2 q=>q
theorem Iz{i:Nat}{x:Str}{e:Expr}{te:TE}{pos':Pos}(hN:X.N.Nodup)(hi:X.N[i]? = some x)(hx:Loc X.env.scope x)(he:PE X e te)(hs:swapsWith e (some (.Name x pos')) pos.line X.env=pure false:=by rfl)(hf:X.fn x=true\/X.env.scope.names.lookup x=some .local:=by first | exact .inl rfl | exact .inr rfl | assumption) :
  PS X (.Assign [.Name x pos'] e pos) (Qf te (Fq i)):=by
 intro pins s σ H D I h
 refine wpAny_Assign_Name (thn (he pins s σ H _ I h) λv s1 ⟨y,H1,I1,r1,q1⟩=>?_) hs
 exact vh I1 hN hi hx r1 (λs2 I2=>⟨_,H1,I2,q1⟩) hf
end
structure It where
 go:Nat->Hp->Prop
 yld:Nat->Hp->V->Hp->Prop
 stop:Nat->Hp->Prop
noncomputable def B8(X:Cx)(pins:List (Addr×Obj))(H:Hp)(b:Addr):Prop :=
 H b=none/\b≠X.env.locals/\b∉X.fs/\(b∈X.ex\/X.s₀.heap.objs.size<=b)/\(∀x c,X.env.cells.lookup x=some c->c≠b)/\∀p∈X.pn++pins,p.1≠b
theorem Inv.fpOk{X:Cx}{pins:List (Addr×Obj)}{σ:St}{H H':Hp}{s:Shared}{b:Addr}(I:Inv X pins σ H s)(hb:s.heap.objs.size<=b)(hn:H' b=none):B8 X pins H' b:=by
 refine⟨hn,CH (AO I.lt hb),I.nofs hb,.inr (BQ I.sz hb),λx c e z=>?_,λp hp z=>?_⟩
 ·obtain⟨v,q⟩:=I.cell x c e
  exact absurd (AO q.lt (by rw[z];exact hb)) (CG _)
 ·exact absurd (AO (AM (I.pin p hp).1) (by rw[z];exact hb)) (CG _)
structure Turn (P:Program) (w:World) (K:PySem.W.Frag) (tg:Expr) (J:It) (fp:List Addr) (it:Addr) (tn:Nat->Heap->Prop):Prop where
 mem:it∈fp
 obj:∀i h,tn i h->∀b∈fp,∃o,h.get? b=some o/\∀v,o.data≠.cell v
 keep:∀i h h',tn i h->(∀b∈fp,∀o,h.get? b=some o->h'.get? b=some o)->tn i h'
 item:∀(X:Cx),X.prog=P->X.w=w->X.K=K->X.calm=true->∀(i:Nat) (pins:List (Addr×Obj)) (s:Shared) (σ:St) (H:Hp) (E:Value->Shared->Prop),Inv X pins σ H s->(∀b∈fp,B8 X pins H b)->tn i s.heap->J.go i H ->
  wpAny (model P w) X.A (pyNext (.ref it)) (λr s1=>∃u,r=some u /\
   wpAny (model P w) X.A (letOwnedTupleGo tg (.ref it) u) (λ_ s2=>∃x H',Inv X pins σ H' s2/\RelV x u/\J.yld i H x H'/\tn (i+1) s2.heap/\∀b∈fp,H' b=none) E s1) E s
 done:∀(X:Cx),X.prog=P->X.w=w->X.K=K->X.calm=true->∀(i:Nat) (pins:List (Addr×Obj)) (s:Shared) (σ:St) (H:Hp) (E:Value->Shared->Prop),Inv X pins σ H s->(∀b∈fp,B8 X pins H b)->tn i s.heap->J.stop i H ->
  wpAny (model P w) X.A (pyNext (.ref it)) (λr s1=>r=none/\Inv X pins σ H s1) E s
 self:∀(A:Around) (i:Nat) (s:Shared) (Q:Value->Shared->Prop) (E:Value->Shared->Prop),tn i s.heap->Q (.ref it) s->wpAny (model P w) A (pyIter (.ref it)) Q E s
noncomputable abbrev TI:=St->Hp->(It->Hp->Prop)->Prop
noncomputable def PIE(X:Cx)(pins:List (Addr×Obj))(σ:St)(tg:Expr)(R:It->Hp->Prop)(itv:Value)(s2:Shared):Prop :=
 ∃(it:Addr) (fp:List Addr) (tn:Nat->Heap->Prop) (J:It) (H':Hp),itv=.ref it/\Inv X pins σ H' s2/\Turn X.prog X.w X.K tg J fp it tn/\tn 0 s2.heap/\(∀b∈fp,B8 X pins H' b)/\R J H'
noncomputable def PI(X:Cx)(tg iter:Expr)(wi:TI):Prop :=
 ∀(pins:List (Addr×Obj)) (s:Shared) (σ:St) (H:Hp) (R:It->Hp->Prop),Inv X pins σ H s->wi σ H R ->
  wpAny (model X.prog X.w) X.A (eval iter X.env) (λv s1=>wpAny (model X.prog X.w) X.A (pyIter v) (PIE X pins σ tg R) X.xe s1) X.xe s
theorem Ft {M:Model} {A:Around} {E:Value->Shared->Prop} {s:Shared} {tg:Expr} {it:Addr} {u:Value} {o:Obj} {n:String} {vs:Array Value} {Q:Unit->Shared->Prop} (ho:s.heap.get? it=some o) (hc:o.cls=.type n) (hd:o.data=.fields vs)
  (hn:["enumerate","zip","dict_itemiterator","dict_reverseitemiterator","odict_iterator","itertools.zip_longest","itertools.pairwise"].contains n=false) (hQ:Q () s):wpAny M A (letOwnedTupleGo tg (.ref it) u) Q E s:=by
 unfold letOwnedTupleGo
 cases tg<;>first
  |exact AC hQ
  |(cases u<;>first
    |exact AC hQ
    |(
     refine AA (wpAny_load ho ?_)
     rw[hc,hd]
     show wpAny M A (if(["enumerate","zip","dict_itemiterator","dict_reverseitemiterator","odict_iterator","itertools.zip_longest","itertools.pairwise"].contains n&&vs[0]?==some (rawInt _))=true then _ else _) Q E s
     rw[if_neg (by intro h;rw[hn,Bool.false_and]at h;cases h)]
     exact AC hQ))
noncomputable def Itl(K:PySem.W.Frag)(a:Addr):It :=
 ⟨λi H=>∃xs x,SqL K H a xs/\xs[i]? = some x,λi H x H'=>H'=H/\∀xs,SqL K H a xs->xs[i]? = some x,λi H=>∃xs,SqL K H a xs/\xs.length<=i⟩
noncomputable def Itt(K:PySem.W.Frag)(a:Addr):It :=
 ⟨λi H=>∃xs x,SqT K H a xs/\xs[i]? = some x,λi H x H'=>H'=H/\∀xs,SqT K H a xs->xs[i]? = some x,λi H=>∃xs,SqT K H a xs/\xs.length<=i⟩
noncomputable def Itr(lo:Int)(n:Nat):It:=⟨λi _=>i<n,λi H x H'=>H'=H/\x=.int (lo+i),λi _=>n<=i⟩
theorem zf{P:Program}{w:World}{K:PySem.W.Frag}{tg:Expr}(a it:Addr):Turn P w K tg (Itl K a) [it] it (λi h=>h.IsListIter it a i) where
 mem:=by simp
 obj:=λi h st b hb=>by
  have e:b=it:=by simpa using hb
  subst e
  obtain⟨o,e,c,d⟩:=st
  exact⟨o,e,λv z=>by rw[d]at z;cases z⟩
 keep:=λi h h' st k=>st.at λo e=>k it (by simp) o e
 item:=by
  intro X hP hw hK hc i pins s σ H E I hf st hg
  subst hP hw hK
  obtain⟨xs,x,hq,hx⟩:=hg
  obtain⟨its,rv,p,hz⟩:=I.list hq
  obtain⟨u,hu,ru⟩:=rv.get hx
  obtain⟨f0,f1,f2,f3,f4,f5⟩:=hf it (by simp)
  refine wpAny_pyNext_list_item st p.isList (x:=u) (by simpa using hu) λh' st' sb=>?_
  have I1:Inv X pins σ H {s with heap:=h'}:=I.turned (t':=s.toks) (λb o hb e=>(sb.2 b hb).trans e) f0 f1 f3 f4 f5
  obtain⟨o,e,c,d⟩:=id st'
  exact⟨u,rfl,Ft (s:={s with heap:=h'}) e c d (by decide) ⟨x,H,I1,ru,⟨rfl,λys hy=>by rw[I.list_inj hy hq];exact hx⟩,st',λb hb=>(hf b hb).1⟩⟩
 done:=by
  intro X hP hw hK hc i pins s σ H E I hf st hg
  subst hP hw hK
  obtain⟨xs,hq,hx⟩:=hg
  obtain⟨its,rv,p,hz⟩:=I.list hq
  obtain⟨f0,f1,f2,f3,f4,f5⟩:=hf it (by simp)
  have hl:=rv.length
  exact wpAny_pyNext_list_end (I.ok.hd hc) st p.isList (by simp;lia) λh' eb=>⟨rfl,I.turned (t':=s.toks) (λb o hb e=>eb b o hb e) f0 f1 f3 f4 f5⟩
 self:=λ_ _ _ _ _ st h=>wpAny_pyIter_listiter st h
theorem xn{P:Program}{w:World}{K:PySem.W.Frag}{tg:Expr}(a it:Addr):Turn P w K tg (Itt K a) [it] it (λi h=>h.IsTupleIter it a i) where
 mem:=by simp
 obj:=λi h st b hb=>by
  have e:b=it:=by simpa using hb
  subst e
  obtain⟨o,e,c,d⟩:=st
  exact⟨o,e,λv z=>by rw[d]at z;cases z⟩
 keep:=λi h h' st k=>st.at λo e=>k it (by simp) o e
 item:=by
  intro X hP hw hK hc i pins s σ H E I hf st hg
  subst hP hw hK
  obtain⟨xs,x,hq,hx⟩:=hg
  obtain⟨its,rv,p,hz⟩:=I.tuple hq
  obtain⟨u,hu,ru⟩:=rv.get hx
  obtain⟨f0,f1,f2,f3,f4,f5⟩:=hf it (by simp)
  refine wpAny_pyNext_tuple_item st (show s.heap.IsTuple a its.toArray from p) (x:=u) (by simpa using hu) λh' st' sb=>?_
  have I1:Inv X pins σ H {s with heap:=h'}:=I.turned (t':=s.toks) (λb o hb e=>(sb.2 b hb).trans e) f0 f1 f3 f4 f5
  obtain⟨o,e,c,d⟩:=id st'
  exact⟨u,rfl,Ft (s:={s with heap:=h'}) e c d (by decide) ⟨x,H,I1,ru,⟨rfl,λys hy=>by rw[I.tuple_inj hy hq];exact hx⟩,st',λb hb=>(hf b hb).1⟩⟩
 done:=by
  intro X hP hw hK hc i pins s σ H E I hf st hg
  subst hP hw hK
  obtain⟨xs,hq,hx⟩:=hg
  obtain⟨its,rv,p,hz⟩:=I.tuple hq
  obtain⟨f0,f1,f2,f3,f4,f5⟩:=hf it (by simp)
  have hl:=rv.length
  exact wpAny_pyNext_tuple_end (I.ok.hd hc) st (show s.heap.IsTuple a its.toArray from p) (by simp;lia) λh' eb=>⟨rfl,I.turned (t':=s.toks) (λb o hb e=>eb b o hb e) f0 f1 f3 f4 f5⟩
 self:=λ_ _ _ _ _ st h=>wpAny_pyIter_tupleiter st h
theorem xp{P:Program}{w:World}{K:PySem.W.Frag}{tg:Expr}(it:Addr)(lo:Int)(n:Nat):Turn P w K tg (Itr lo n) [it] it (λi h=>IsRangeIter h it (lo+(i:Nat)*1) ((n:Int)-(i:Nat)) 1) where
 mem:=by simp
 obj:=λi h st b hb=>by
  have e:b=it:=by simpa using hb
  subst e
  exact⟨_,st,λv z=>by
   have z':Data.fields _=Data.cell v:=z
   cases z'⟩
 keep:=λi h h' st k=>k it (by simp) _ st
 item:=by
  intro X hP hw hK hc i pins s σ H E I hf st hg
  subst hP hw hK
  obtain⟨f0,f1,f2,f3,f4,f5⟩:=hf it (by simp)
  have W:=Walks.range (prog:=X.prog) (w:=X.w) (I.ok.hd hc) it lo 1 n
  refine W.item i s _ _ hg st λv h' tk hv st' kk=>?_
  obtain⟨t,rfl⟩:=hv
  have I1:Inv X pins σ H {s with heap:=h',toks:=tk}:=I.turned (λb o hb e=>kk b o (by simpa using hb) e) f0 f1 f3 f4 f5
  refine⟨_,rfl,Ft (s:={s with heap:=h',toks:=tk}) (n:="range_iterator") st' rfl rfl (by decide) ⟨.int (lo+i),H,I1,⟨t,?_⟩,⟨rfl,rfl⟩,st',λb hb=>(hf b hb).1⟩⟩
  rw[Int.mul_one]
 done:=by
  intro X hP hw hK hc i pins s σ H E I hf st hg
  subst hP hw hK
  obtain⟨f0,f1,f2,f3,f4,f5⟩:=hf it (by simp)
  exact wpAny_pyNext_range_end (I.ok.hd hc) st (by have:n<=i:=hg;lia) λh' eb=>⟨rfl,I.turned (t':=s.toks) (λb o hb e=>eb b o hb e) f0 f1 f3 f4 f5⟩
 self:=λ_ _ _ _ _ st h=>wpAny_pyIter_rangeiter st h
section
variable{X:Cx}{tg:Expr}
theorem Cf {pins:List (Addr×Obj)} {σ:St} {H:Hp} {s:Shared} {R:It->Hp->Prop} {E:Value->Shared->Prop} {lo hi:Int} {t u v:Tok} {tk:Nat} (I:Inv X pins σ H s) (h1:-(2 ^ 62)<=lo) (h2:lo<2 ^ 62) (h3:-(2 ^ 62)<=hi) (h4:hi<2 ^ 62)
  (q:R (Itr lo (hi-lo).toNat) H):wpAny (model X.prog X.w) X.A (pyIter (.ref s.heap.objs.size)) (PIE X pins σ tg R) E {s with heap:=s.heap.push {cls:=.type "range",data:=.fields #[.int lo t,.int hi u,.int 1 v]},toks:=tk}:=by
 refine wpAny_pyIter_range (IsRange.new ..) (small_one h1 h2 h3 h4) ?_
 have I1:Inv X pins σ H {s with heap:=s.heap.push {cls:=.type "range",data:=.fields #[.int lo t,.int hi u,.int 1 v]},toks:=tk}:=I.kept λb o e=>AB _ e
 refine⟨(s.heap.push {cls:=.type "range",data:=.fields #[.int lo t,.int hi u,.int 1 v]}).objs.size,[(s.heap.push {cls:=.type "range",data:=.fields #[.int lo t,.int hi u,.int 1 v]}).objs.size],_,_,H,rfl,
  I1.kept (t':=tk) λb o e=>AB _ e,xp _ lo (hi-lo).toNat,?_,λb hb=>?_,q⟩
 ·have e1:lo+((0:Nat):Int)*1=lo:=by simp
  have e2:(((hi-lo).toNat:Nat):Int)-((0:Nat):Int)=Builtin.Range.rangeSize lo hi 1:=by rw[rangeSize_one];split<;>lia
  show IsRangeIter _ _ (lo+((0:Nat):Int)*1) ((((hi-lo).toNat:Nat):Int)-((0:Nat):Int)) 1
  rw[e1,e2]
  exact AQ _ rfl
 ·have e:b=(s.heap.push {cls:=.type "range",data:=.fields #[.int lo t,.int hi u,.int 1 v]}).objs.size:=by simpa using hb
  subst e
  exact I1.fpOk (AH _) (I1.hok.fresh (AH _))
noncomputable def M1(ta:TA):TI:=λσ H R=>ta σ H λvs H1=>∃j:Int,vs=[.int j] /\ -(2 ^ 62)<=j/\j<2 ^ 62/\R (Itr 0 j.toNat) H1
theorem zg{a:Expr}{ta:TA}{p pos:Pos}(hg:Gl X "range")(hm:X.mg "range"=none)(ha:PA X [a] ta)(hs:starEach [a] X.env=[(false,eval a X.env)]:=by rfl):PI X tg (.Call (.Name "range" p) [a] [] pos) (M1 ta):=by
 intro pins s σ H R I h
 refine Call_ (my I hg hm boot_range (Ev (thn (ha pos pins s σ H _ I h) λus s1 ⟨vs,H1,I1,r1,q1⟩=>?_) hs rfl))
 obtain⟨j,e,q1,q2,q⟩:=q1
 subst e
 cases r1 with
 |cons r rr =>
  cases rr
  obtain⟨t,rfl⟩:=r
  exact call_range_1 (Cf I1 (by lia) (by lia) q1 q2 (by simpa using q))
noncomputable def S0(wi:TI)(g:TG)(tb:TS):TS:=λD σ H=>wi σ H λJ H1=>∃W:Nat->Nat->St->Hp->Prop,(∃m,W 0 m σ H1)/\∀i m σ H,W i m σ H ->
 (J.stop i H/\D.nx σ H)\/(J.go i H/\∃N:St->Hp->Prop,(∀σ' H',N σ' H'->∃m',m'<m/\W (i+1) m' σ' H')/\∀x H',J.yld i H x H'->g x σ H' λσ2 H2=>tb {D with nx:=N,ct:=N,bk:=D.nx} σ2 H2)
noncomputable def qb(fp:List Addr)(h:Heap):List (Addr×Obj):=fp.filterMap λb=>(h.get? b).map λo=>(b,o)
theorem iu{fp:List Addr}{h:Heap}{b:Addr}{o:Obj}(hb:b∈fp)(e:h.get? b=some o):(b,o)∈qb fp h:=FU.mpr ⟨b,hb,by rw[e];rfl⟩
theorem zh{fp:List Addr}{h:Heap}{p:Addr×Obj}(hp:p∈qb fp h):p.1∈fp/\h.get? p.1=some p.2:=by
 obtain⟨b,hb,e⟩:=FU.mp hp
 cases q:h.get? b with
 |none=>rw[q]at e;cases e
 |some o =>
  rw[q]at e
  have e':(b,o)=p:=BJ e
  subst e'
  exact⟨hb,q⟩
theorem Inv.pinned{pins:List (Addr×Obj)}{σ:St}{H:Hp}{s:Shared}{fp:List Addr}(I:Inv X pins σ H s)(hf:∀b∈fp,B8 X pins H b)(ho:∀b∈fp,∃o,s.heap.get? b=some o/\∀v,o.data≠.cell v):Inv X (pins++qb fp s.heap) σ H s :=
 I.pins_of λp hp=>(BA.mp hp).elim (λz=>I.pin p (BC _ z)) λz=>by
  obtain⟨hb,e⟩:=zh z
  obtain⟨f0,f1,f2,_⟩:=hf p.1 hb
  obtain⟨o,e',d⟩:=ho p.1 hb
  rw[e]at e';cases e'
  exact⟨e,f0,f1,f2,d⟩
theorem Inv.unpinned{pins pl:List (Addr×Obj)}{σ:St}{H:Hp}{s:Shared}(I:Inv X (pins++pl) σ H s):Inv X pins σ H s:=I.pins_of λp hp=>I.pin p (BC _ (DE _ hp))
theorem I0 {iter:Expr} {body:List Stmt} {wi:TI} {g:TG} {tb:TS} {pos:Pos} (hp:PassesOwn (model X.prog X.w) X.A X.env X.xe) (hc:X.calm=true) (hi:PI X tg iter wi) (hg:PG X tg g) (hb:PSs X body tb)
  (hs:∀x,foldedSetIterable iter X.env x=pure x:=by intro _;rfl):PS X (.For tg iter body [] pos) (S0 wi g tb):=by
 intro pins s σ H D I h
 refine wpAny_For (thn (hi pins s σ H _ I h) λv s1 h1=>thn h1 λitv s2 h2=>?_) hs
 obtain⟨it,fp,tn,J,H2,e,I2,T,st2,f2,W,⟨m0,w0⟩,turn⟩:=h2
 subst e
 -- what stays true of the iterator's objects through the loop
 have stat:∀{H':Hp},(∀b∈fp,H' b=none)->∀b∈fp,B8 X pins H' b:=λhn b hb=>⟨hn b hb,(f2 b hb).2⟩
 refine codeAny_forLoop_any (λn s'=>∃i σ' H',Inv X pins σ' H' s'/\tn i s'.heap/\(∀b∈fp,H' b=none)/\W i n σ' H') ?_ m0 ⟨0,σ,H2,I2,st2,λb hb=>(f2 b hb).1,w0⟩
 rintro n s3 ⟨i,σ3,H3,I3,st3,fr3,w3⟩
 rcases turn i n σ3 H3 w3 with⟨stop,qn⟩ | ⟨go,N,hN,step⟩
 ·refine EK hp (thn (T.done X rfl rfl rfl hc i pins s3 σ3 H3 X.xe I3 (stat fr3) st3 stop) λr s4 ⟨hr,I4⟩=>?_)
  subst hr
  exact wpAny_execs_nil ⟨σ3,H3,I4,qn⟩
 ·refine EK hp (thn (T.item X rfl rfl rfl hc i pins s3 σ3 H3 X.xe I3 (stat fr3) st3 go) λr s4 ⟨u,hr,h4⟩=>?_)
  subst hr
  refine EK hp (thn h4 λ_ s5 ⟨x,H5,I5,r5,y5,st5,fr5⟩=>?_)
  have I5':=I5.pinned (stat fr5) (T.obj _ _ st5)
  refine EK hp (thn (hg _ s5 σ3 H5 x u _ I5' r5 (step x H5 y5)) λ_ s6 ⟨σ6,H6,I6,q6⟩=>?_)
  refine EK hp (thn (hb _ s6 σ6 H6 _ I6 q6) λf s7 q7=>?_)
  have again:∀{σ7:St} {H7:Hp},Inv X (pins++qb fp s5.heap) σ7 H7 s7->N σ7 H7->∃m,m<n/\∃i σ' H',Inv X pins σ' H' s7/\tn i s7.heap/\(∀b∈fp,H' b=none)/\W i m σ' H':=λ{σ7 H7} I7 n7=>by
   obtain⟨m',hm,w7⟩:=hN σ7 H7 n7
   refine⟨m',hm,i+1,σ7,H7,I7.unpinned,T.keep _ _ _ st5 λb hb o e=>(I7.pin (b,o) (BC _ (BC _ (iu hb e)))).1,λb hb=>?_,w7⟩
   obtain⟨o,e,d⟩:=T.obj _ _ st5 b hb
   exact(I7.pin (b,o) (BC _ (BC _ (iu hb e)))).2.1
  cases f with
  |next=>obtain⟨σ7,H7,I7,n7⟩:=q7;exact again I7 n7
  |cont=>obtain⟨σ7,H7,I7,n7⟩:=q7;exact again I7 n7
  |brk=>obtain⟨σ7,H7,I7,q7⟩:=q7;exact⟨σ7,H7,I7.unpinned,q7⟩
  |ret v=>obtain⟨x7,σ7,H7,I7,r7,q7⟩:=q7;exact⟨x7,σ7,H7,I7.unpinned,r7,q7⟩
end
noncomputable abbrev R2:=V->V->Hp->VK->Prop
noncomputable def OpR(X:Cx)(f:Value->Value->Sem Value)(r:R2):Prop :=
 ∀(pins:List (Addr×Obj)) (s:Shared) (σ:St) (H:Hp) (x y:V) (v u:Value) (Q:VK),Inv X pins σ H s->RelV x v->RelV y u->r x y H Q ->
  wpAny (model X.prog X.w) X.A (f v u) (EP X pins σ Q) X.xe s
noncomputable def gr(X:Cx)(f:Value)(r:List V->Hp->VK->Prop):Prop :=
 ∀(pins:List (Addr×Obj)) (s:Shared) (σ:St) (H:Hp) (xs:List V) (us:List Value) (Q:VK),Inv X pins σ H s->bc xs us->r xs H Q ->
  wpAny (model X.prog X.w) X.A (call f us) (EP X pins σ Q) X.xe s
noncomputable def S2(X:Cx)(r:V->Hp->(Bool->Hp->Prop)->Prop):Prop :=
 ∀(pins:List (Addr×Obj)) (s:Shared) (σ:St) (H:Hp) (x:V) (v:Value) (Q:Bool->Hp->Prop),Inv X pins σ H s->RelV x v->r x H Q ->
  wpAny (model X.prog X.w) X.A (truthy v) (TP X pins σ Q) X.xe s
noncomputable def tOp(r:R2)(ta tb:TE):TE:=λσ H Q=>ta σ H λx H1=>tb σ H1 λy H2=>r x y H2 Q
noncomputable def rI(C:Int->Int->Prop)(g:Int->Int->V):R2:=λx y H Q=>∃i j,x=.int i/\y=.int j/\C i j/\Q (g i j) H
noncomputable def rI0(g:Int->Int->V):R2:=λx y H Q=>∃i j,x=.int i/\y=.int j/\Q (g i j) H
section
variable{X:Cx}{a b c:Expr}{ta tb tc:TE}{pos:Pos}
theorem Qg (ha:PE X a ta) (hb:PE X b tb) {pins:List (Addr×Obj)} {s:Shared} {σ:St} {H:Hp} {R:V->V->Hp->Prop} (I:Inv X pins σ H s)
  (h:ta σ H λx H1=>tb σ H1 λy H2=>R x y H2) {Q:Value->Shared->Prop} {f:Value->Value->Sem Value}
  (hf:∀v u s2 x y H2,Inv X pins σ H2 s2->RelV x v->RelV y u->R x y H2->wpAny (model X.prog X.w) X.A (f v u) Q X.xe s2) :
  wpAny (model X.prog X.w) X.A (eval a X.env) (λv s₁=>wpAny (model X.prog X.w) X.A (eval b X.env) (λu s₂=>wpAny (model X.prog X.w) X.A (f v u) Q X.xe s₂) X.xe s₁) X.xe s:=by
 refine thn (ha pins s σ H _ I h) λv s1 ⟨x,H1,I1,r1,q1⟩=>?_
 refine thn (hb pins s1 σ H1 _ I1 q1) λu s2 ⟨y,H2,I2,r2,q2⟩=>?_
 exact hf v u s2 x y H2 I2 r1 r2 q2
theorem M3{op:Operator}{r:R2}(ho:OpR X (binaryOp op) r)(ha:PE X a ta)(hb:PE X b tb):PE X (.BinOp a op b pos) (tOp r ta tb):=by
 intro pins s σ H Q I h
 exact wpAny_BinOp (Qg ha hb I h λv u s2 x y H2 I2 rx ry q=>ho pins s2 σ H2 x y v u Q I2 rx ry q)
theorem opI {f:Value->Value->Sem Value} {C:Int->Int->Prop} {g:Int->Int->Int}
  (rule:∀(i j:Int) (t u:Tok) (s:Shared) (Q:Value->Shared->Prop) (E:Value->Shared->Prop),C i j->Q (.int (g i j) s.toks) {s with toks:=s.toks+1}->wpAny (model X.prog X.w) X.A (f (.int i t) (.int j u)) Q E s) :
  OpR X f (rI C λi j=>.int (g i j)):=by
 intro pins s σ H x y v u Q I rx ry h
 obtain⟨i,j,rfl,rfl,hc,q⟩:=h
 obtain⟨t,rfl⟩:=rx
 obtain⟨t',rfl⟩:=ry
 exact rule i j t t' s _ _ hc ⟨.int (g i j),H,I.tok _,⟨_,rfl⟩,q⟩
theorem M4 {f:Value->Value->Sem Value} {g:Int->Int->Int}
  (rule:∀(i j:Int) (t u:Tok) (s:Shared) (Q:Value->Shared->Prop) (E:Value->Shared->Prop),Q (.int (g i j) s.toks) {s with toks:=s.toks+1}->wpAny (model X.prog X.w) X.A (f (.int i t) (.int j u)) Q E s) :
  OpR X f (rI0 λi j=>.int (g i j)):=by
 intro pins s σ H x y v u Q I rx ry h
 obtain⟨i,j,rfl,rfl,q⟩:=h
 obtain⟨t,rfl⟩:=rx
 obtain⟨t',rfl⟩:=ry
 exact rule i j t t' s _ _ ⟨.int (g i j),H,I.tok _,⟨_,rfl⟩,q⟩
theorem L7 {f:Value->Value->Sem Value} {g:Int->Int->Bool}
  (rule:∀(i j:Int) (t u:Tok) (s:Shared) (Q:Value->Shared->Prop) (E:Value->Shared->Prop),Q (.bool (g i j)) s->wpAny (model X.prog X.w) X.A (f (.int i t) (.int j u)) Q E s) :
  OpR X f (rI0 λi j=>.bl (g i j)):=by
 intro pins s σ H x y v u Q I rx ry h
 obtain⟨i,j,rfl,rfl,q⟩:=h
 obtain⟨t,rfl⟩:=rx
 obtain⟨t',rfl⟩:=ry
 exact rule i j t t' s _ _ ⟨.bl (g i j),H,I,rfl,q⟩
noncomputable def S3(i j:Int):Prop:=0<j/\j<1073741824
noncomputable def Qh(i j:Int):Prop:=0<=j/\j<=1000000/\i.natAbs<2 ^ 64
noncomputable def CMul(i j:Int):Prop:=(-(2 ^ 64)<i/\i<2 ^ 64)\/(-(2 ^ 64)<j/\j<2 ^ 64)
theorem CMul.ok{i j:Int}(h:CMul i j):IntMulOk i j:=by
 rcases h with⟨h1,h2⟩ | ⟨h1,h2⟩
 ·exact .of_left (intBits_le_64 h1 h2)
 ·exact .of_right (intBits_le_64 h1 h2)
theorem xq(k:Nat):(0:Int)<=2 ^ k:=by
 rw[two_pow_cast]
 exact Int.natCast_nonneg _
theorem op_add:OpR X (binaryOp .Add) (rI0 λi j=>.int (i+j)):=M4 λ_ _ _ _ _ _ _ q=>add_int q
theorem op_sub:OpR X (binaryOp .Sub) (rI0 λi j=>.int (i-j)):=M4 λ_ _ _ _ _ _ _ q=>sub_int q
theorem op_mul:OpR X (binaryOp .Mult) (rI CMul λi j=>.int (i*j)):=opI λ_ _ _ _ _ _ _ hc q=>mul_int q hc.ok
theorem Fu:OpR X (binaryOp .FloorDiv) (rI S3 λi j=>.int (i / j)):=opI λi j _ _ _ _ _ hc q=>by
 have h1:(0:Int)<j:=hc.1
 have h2:j<1073741824:=hc.2
 exact floordiv_int (by lia) (by rw[FV i (by lia)];exact q) (.inl (PyProof.noPylong_small (by lia)))
theorem op_mod:OpR X (binaryOp .Mod) (rI (λ_ j=>0<j) λi j=>.int (i % j)):=opI λi j _ _ _ _ _ hc q=>by
 have h1:(0:Int)<j:=hc
 exact mod_int' (by lia) (by rw[Int.fmod_eq_emod_of_nonneg i (by lia)];exact q)
theorem op_pow:OpR X (binaryOp .Pow) (rI Qh λi j=>.int (i ^ j.toNat)):=opI λ_ _ _ _ _ _ _ hc q=>pow_int_small hc.1 hc.2.1 hc.2.2 q
theorem Ja:OpR X (binaryOp .LShift) (rI Qh λi j=>.int (i*2 ^ j.toNat)):=opI λ_ _ _ _ _ _ _ hc q=>lshift_int_small hc.1 hc.2.1 hc.2.2 q
theorem op_shr:OpR X (binaryOp .RShift) (rI (λ_ j=>0<=j) λi j=>.int (i / 2 ^ j.toNat)):=opI λi j _ _ _ _ _ hc q =>
 rshift_int hc (by rw[FV i (xq _)];exact q)
theorem Jb:OpR X (binaryOp .BitXor) (rI0 λi j=>.int (Builtin.bitXor i j)):=M4 λ_ _ _ _ _ _ _ q=>xor_int q
theorem Ee{pins:List (Addr×Obj)}{σ:St}{H:Hp}{s:Shared}{Q:VK}{k k':Bool}(I:Inv X pins σ H s)(q:Q (.bl k) H)(e:k=k'):EP X pins σ Q (.bool k') s:=by
 subst e
 exact⟨.bl k,H,I,rfl,q⟩
theorem M5:OpR X (compareOp .Lt) (rI0 λi j=>.bl (decide (i<j))):=L7 λ_ _ _ _ _ _ _ q=>lt_int q
theorem M6:OpR X (compareOp .LtE) (rI0 λi j=>.bl (decide (i<=j))):=L7 λ_ _ _ _ _ _ _ q=>le_int q
theorem M7:OpR X (compareOp .Gt) (rI0 λi j=>.bl (decide (j<i))):=L7 λ_ _ _ _ _ _ _ q=>gt_int q
theorem M8:OpR X (compareOp .GtE) (rI0 λi j=>.bl (decide (j<=i))):=L7 λ_ _ _ _ _ _ _ q=>ge_int q
theorem Jc:OpR X (compareOp .Is) (λx y H Q=>y=.non/\Q (.bl (decide (x=.non))) H):=by
 intro pins s σ H x y v u Q I rx ry h
 obtain⟨rfl,q⟩:=h
 cases ry
 refine is_none_gen (Ee I q ?_)
 cases x<;>first
  |(cases rx;rfl)
  |(obtain⟨t,rfl⟩:=rx;rfl)
theorem Fv:OpR X (compareOp .IsNot) (λx y H Q=>y=.non/\Q (.bl (!decide (x=.non))) H):=by
 intro pins s σ H x y v u Q I rx ry h
 obtain⟨rfl,q⟩:=h
 cases ry
 refine isnot_none_gen (Ee I q ?_)
 cases x<;>first
  |(cases rx;rfl)
  |(obtain⟨t,rfl⟩:=rx;rfl)
noncomputable def isObj:HO->Bool
 |.lst _=>true
 |.ins _ _ _=>true
 |_=>false
noncomputable def Qi(K:PySem.W.Frag)(x:V)(H:Hp)(k:Bool):Prop :=
 match x with
 |.non=>k=false
 |.bl b=>k=b
 |.int i=>k=(i != 0)
 |.str y=>y.length<=sizeLine/\k=((y.length:Int) != 0)
 |.byt y=>y.size<=sizeLine/\k=((y.size:Int) != 0)
 |.ref p=>(∃xs,SqL K H p xs/\k=!xs.isEmpty)\/(∃xs,SqT K H p xs/\k=!xs.isEmpty)\/∃kvs,H p=some (.dK kvs)/\k=!kvs.isEmpty
 |_=>False
theorem xu{κ:Type}{kvs:List (κ×V)}{vs:List (κ×Value)}(r:KV kvs vs):(!vs.isEmpty)=!kvs.isEmpty:=by
 cases r<;>rfl
theorem mz{xs:List V}{its:List Value}(r:bc xs its):(!its.toArray.isEmpty)=!xs.isEmpty:=by
 cases r<;>simp
theorem nc:(sizeLine:Nat)<2 ^ 63:=by rw[DF];decide
theorem Jd:S2 X (λx H Q=>∃k,Qi X.K x H k/\Q k H):=by
 intro pins s σ H x v Q I rx h
 obtain⟨k,e,q⟩:=h
 have hl:=nc
 have hs:sizeLine=16777216:=DF
 cases x with
 |non =>
  cases rx
  have e':k=false:=e
  subst e'
  exact truthy_none ⟨H,I,q⟩
 |bl b =>
  cases rx
  have e':k=b:=e
  subst e'
  exact CM ⟨H,I,q⟩
 |int i =>
  obtain⟨t,rfl⟩:=rx
  have e':k=(i != 0):=e
  subst e'
  exact PySem.P.truthy_int ⟨H,I,q⟩
 |str y =>
  obtain⟨t,rfl⟩:=rx
  obtain⟨hy,e'⟩:y.length<=sizeLine/\k=((y.length:Int) != 0):=e
  subst e'
  exact PySem.P.truthy_str (by lia) ⟨H,I.tok _,q⟩
 |byt y =>
  obtain⟨t,rfl⟩:=rx
  obtain⟨hy,e'⟩:y.size<=sizeLine/\k=((y.size:Int) != 0):=e
  subst e'
  exact PySem.W.truthy_bytes (by lia) ⟨H,I.tok _,q⟩
 |ref p =>
  cases rx
  have e':(∃xs,SqL X.K H p xs/\k=!xs.isEmpty)\/(∃xs,SqT X.K H p xs/\k=!xs.isEmpty)\/∃kvs,H p=some (.dK kvs)/\k=!kvs.isEmpty:=e
  rcases e' with⟨xs,hx,e'⟩ | ⟨xs,hx,e'⟩ | ⟨kvs,hx,e'⟩
  ·subst e'
   obtain⟨its,r,pl,hz⟩:=I.list hx
   have hlen:=r.length
   exact wpAny_truthy_list pl.isList (by simp![AG];lia) ⟨H,I.tok _,by rw[mz r];exact q⟩
  ·subst e'
   obtain⟨its,r,pl,hz⟩:=I.tuple hx
   have hlen:=r.length
   exact truthy_tuple pl (by simp![AG];lia) ⟨H,I.tok _,by rw[mz r];exact q⟩
  ·subst e'
   obtain⟨hz,hS,vs,r,m⟩:kvs.length<=sizeLine/\(p==sysModules)=false/\∃vs,KV kvs vs/\s.heap.DictOf (bw X.prog X.w) p vs:=I.hok p _ hx
   have hlen:kvs.length=vs.length:=DH r
   exact wpAny_truthy_dict hS m (by lia) ⟨H,I.tok _,by rw[xu r];exact q⟩
 |_=>exact(show False from e).elim
theorem Cg(ha:PE X a ta)(he:∀whole,isTrue a X.env whole=(do let v <-whole;standAt a.pos;holding [v] (truthy v))) :
  PT X a (λσ H Q=>ta σ H λx H'=>∃k,Qi X.K x H' k/\Q k H'):=by
 intro pins s σ H Q I h
 exact isTrue_plain (thn (ha pins s σ H _ I h) λv s1 ⟨x,H1,I1,r1,q1⟩=>Jd pins s1 σ H1 x v Q I1 r1 q1) (he _)
theorem vals1{x:V}{us:List Value}(r:bc [x] us):∃u,us=[u]/\RelV x u:=by
 cases r with
 |cons r1 r2=>cases r2;exact⟨_,rfl,r1⟩
theorem vals2{x y:V}{us:List Value}(r:bc [x,y] us):∃u w',us=[u,w']/\RelV x u/\RelV y w':=by
 cases r with
 |cons r1 r2 =>
  cases r2 with
  |cons r3 r4=>cases r4;exact⟨_,_,rfl,r1,r3⟩
theorem zi(hc:X.calm=true):gr X (.builtin "max") (λxs H Q=>∃i j,xs=[.int i,.int j]/\Q (.int (if j > i then j else i)) H):=by
 intro pins s σ H xs us Q I r h
 obtain⟨i,j,rfl,q⟩:=h
 obtain⟨u,w',rfl,⟨t,rfl⟩,⟨t',rfl⟩⟩:=vals2 r
 refine max_two_ints (I.ok.hd hc) λh' tk k=>⟨_,H,I.kept k,?_,q⟩
 by_cases hj:j > i
 ·rw[if_pos hj,if_pos hj];exact⟨_,rfl⟩
 ·rw[if_neg hj,if_neg hj];exact⟨_,rfl⟩
theorem zj(hc:X.calm=true):gr X (.builtin "min") (λxs H Q=>∃i j,xs=[.int i,.int j]/\Q (.int (if j<i then j else i)) H):=by
 intro pins s σ H xs us Q I r h
 obtain⟨i,j,rfl,q⟩:=h
 obtain⟨u,w',rfl,⟨t,rfl⟩,⟨t',rfl⟩⟩:=vals2 r
 refine min_two_ints (I.ok.hd hc) λh' tk k=>⟨_,H,I.kept k,?_,q⟩
 by_cases hj:j<i
 ·rw[if_pos hj,if_pos hj];exact⟨_,rfl⟩
 ·rw[if_neg hj,if_neg hj];exact⟨_,rfl⟩
end
structure Room (k:Nat) (A:Around):Prop where
 hd:A.handled=none
 dp:A.depth+3*k+5<recursionLimit
 un:A.units+16*k+200<cLine
theorem Room.deeper{k:Nat}{A:Around}(r:Room (k+1) A)(env:Env):Room k (A.deeper env) :=
 ⟨r.hd,by have:=r.dp;show A.depth+1+3*k+5<_;lia,by have:=r.un;show A.units+3+16*k+200<_;lia⟩
theorem xw{A:Around}{C:Addr}{us:List Value}{kw:List (Str×Value)}:(A.under (.builtin "type.__call__" ⟨.ref C::us,kw⟩)).depth=A.depth+1:=by
 first | rfl | simp[Around.under,Code.weight,Code.isCreation,Code.isGuard,Code.isCaller,Code.frames,Code.isFrame,guardIds]
theorem x6{A:Around}{C:Addr}{us:List Value}{kw:List (Str×Value)}:(A.under (.builtin "type.__call__" ⟨.ref C::us,kw⟩)).units=A.units+1:=by
 first | rfl | simp[Around.under,Code.cUnits,Code.frames,Code.isFrame]
theorem Room.depth{k:Nat}{A:Around}(r:Room k A):A.depth<recursionLimit:=by have:=r.dp;lia
theorem Room.units{k:Nat}{A:Around}(r:Room k A):A.units+64<cLine:=by have:=r.un;lia
noncomputable def zk(k:Nat)(A:Around):Prop:=Room k A/\∀(C:Addr) (us:List Value) (kw:List (Str×Value)),Room k (A.under (.builtin "type.__call__" ⟨.ref C::us,kw⟩))
theorem Room.deeperX{k:Nat}{A:Around}(r:Room (k+1) A)(env:Env):zk k (A.deeper env) :=
 ⟨r.deeper env,λC us kw=>⟨r.hd,by have:=r.dp;rw[xw];show A.depth+1+1+3*k+5<_;lia,by have:=r.un;rw[x6];show A.units+3+1+16*k+200<_;lia⟩⟩
noncomputable def tNil:TA:=λ_ H Q=>Q [] H
noncomputable def M9(ta:TE)(tr:TA):TA:=λσ H Q=>ta σ H λx H1=>tr σ H1 λxs H2=>Q (x::xs) H2
section
variable{X:Cx}{e:Expr}{es:List Expr}{te:TE}{t:TA}{pos:Pos}
theorem Ef:PA X [] tNil:=λ_ _ _ _ H Q I h=>EU ⟨[],H,I,.nil,h⟩
theorem tu(ha:PE X e te)(hr:PA X es t)(hs:starEach (e::es) X.env=(false,eval e X.env)::starEach es X.env:=by rfl):PA X (e::es) (M9 te t):=by
 intro pos pins s σ H Q I h
 rw[hs]
 show wpAny _ _ (spliced ((false,eval e X.env)::backTo pos (starEach es X.env))) _ _ s
 refine DO (thn (ha pins s σ H _ I h) λu s1 ⟨x,H1,I1,r1,q1⟩=>?_)
 exact thn (hr pos pins s1 σ H1 _ I1 q1) λus s2 ⟨xs,H2,I2,r2,q2⟩=>⟨x::xs,H2,I2,.cons r1 r2,q2⟩
noncomputable def Qj(t:TA):TE:=λσ H Q=>t σ H λxs H1=>xs.length<=sizeLine/\∀p,H1 p=none->Q (.ref p) (upd H1 p (.tup xs))
noncomputable def S4(t:TA):TE:=λσ H Q=>t σ H λxs H1=>xs.length<=sizeLine/\∀p,H1 p=none->Q (.ref p) (upd H1 p (.lst xs))
theorem zl{x1}(h:PA X es t):PE X (.Tuple es x1 pos) (Qj t):=by
 intro pins s σ H Q I hq
 refine wpAny_Tuple_spliced (thn (h pos pins s σ H _ I hq) λus s1 ⟨xs,H1,I1,r,z,q⟩=>⟨by rw[<-r.length];exact z,?_⟩)
 have hf:H1 s1.heap.objs.size=none:=I1.hok.fresh (AH _)
 refine⟨.ref s1.heap.objs.size,upd H1 s1.heap.objs.size (.tup xs),I1.laid (t':=s1.toks) (λb u e=>AB _ e) (AH _) ?_,rfl,q _ hf⟩
 exact⟨z,us,r,⟨_,AQ _ rfl,rfl,rfl,_,rfl⟩⟩
theorem Je(h:PA X es t):PE X (.List es pos) (S4 t):=by
 intro pins s σ H Q I hq
 refine wpAny_List_spliced (thn (h pos pins s σ H _ I hq) λus s1 ⟨xs,H1,I1,r,z,q⟩=>⟨by rw[<-r.length];exact z,?_⟩)
 have hf:H1 s1.heap.objs.size=none:=I1.hok.fresh (AH _)
 refine⟨.ref s1.heap.objs.size,upd H1 s1.heap.objs.size (.lst xs),I1.laid (t':=s1.toks) (λb u e=>AB _ e) (AH _) ?_,rfl,q _ hf⟩
 exact⟨z,us,0,r,AQ _ rfl⟩
end
noncomputable abbrev Sp:=List V->Hp->VK->XK->Prop
noncomputable abbrev CXT:=List Env->Hp->Shared->XK->Value->Shared->Prop
structure Env0 (P:Program) (w:World) (K:PySem.W.Frag) (mg:Str->Option Value) (base:Heap) (A:Around) (outer:List Env) (s:Shared) (H:Hp):Prop where
 frames:A.frames=some outer
 mod:Mod K mg base
 bs:∀b o,base.get? b=some o->s.heap.get? b=some o/\H b=none
 bsz:base.objs.size<=s.heap.objs.size
 funs:s.heap.FunFrames base outer
 frf:∀b∈frs outer,H b=none
 hok:HOk P w H s.heap
 bare:AllBare s.gens
noncomputable def CE(outer:List Env)(P:Program)(w:World)(H:Hp)(s:Shared)(Q:VK)(u:Value)(s':Shared):Prop :=
 ∃v H',s'.os=s.os/\AllBare s'.gens/\Un (frs outer) [] H H' s.heap s'.heap/\HOk P w H' s'.heap/\RelV v u/\Q v H'
noncomputable def CR(CX:CXT)(outer:List Env)(P:Program)(w:World)(H:Hp)(s:Shared)(Q:VK)(E:XK)(r:Result)(s':Shared):Prop :=
 match r with
 |.ok (.ret u)=>CE outer P w H s Q u s'
 |.ok _=>False
 |.error e=>CX outer H s E e s'
structure FnOk (P:Program) (w:World) (K:PySem.W.Frag) (mg:Str->Option Value) (base:Heap) (CX:CXT) (k:Nat) (f:Addr) (fd:FuncData) (ps:List Str) (sp:Sp):Prop where
 len:∀vs H Q E,sp vs H Q E->vs.length=ps.length
 run:∀(A:Around) (outer:List Env) (s:Shared) (H:Hp) (args:Args) (us:List Value) (vs:List V) (Q:VK) (E:XK),Room k A->Env0 P w K mg base A outer s H->BindsTo s fd args (ps.zip us)->bc vs us->sp vs H Q E ->
  codeAny (model P w) A (.call (.ref f) args) (CR CX outer P w H s Q E) s
theorem FnOk.imp {P:Program} {w:World} {K:PySem.W.Frag} {mg:Str->Option Value} {base:Heap} {CX:CXT} {k:Nat} {f:Addr} {fd:FuncData} {ps:List Str} {sp sp':Sp} (F:FnOk P w K mg base CX k f fd ps sp)
  (h:∀vs H Q E,sp' vs H Q E->sp vs H Q E):FnOk P w K mg base CX k f fd ps sp' :=
 ⟨λvs H Q E q=>F.len vs H Q E (h _ _ _ _ q),λA outer s H args us vs Q E hr he hb hv hs=>F.run A outer s H args us vs Q E hr he hb hv (h _ _ _ _ hs)⟩
section
variable{X:Cx}{pins:List (Addr × Obj)}{σ:St}{H:Hp}{s s' : Shared}
theorem Inv.env0(I:Inv X pins σ H s):Env0 X.prog X.w X.K X.mg X.base X.A X.stack s H :=
 ⟨I.ok.frames,I.ok.mod,I.bs,BQ I.ok.bsz I.sz,I.stack,I.stkFree,I.hok,I.bare⟩
theorem Inv.after{Q:VK}{u:Value}(I:Inv X pins σ H s)(h:CE X.stack X.prog X.w H s Q u s'):EP X pins σ Q u s':=by
 obtain⟨v,H',os,bare,un,hok,r,q⟩:=h
 obtain⟨hh,g,d,t,os'⟩:=s'
 obtain rfl:os'=s.os:=os
 exact⟨v,H',I.call (h':=hh) (g':=g) (d':=d) (t':=t) (ch:=[]) un hok bare (λb z=>absurd z (by simp)),r,q⟩
end
noncomputable def Na(sp:Sp)(dvs:List V)(E:XK)(t:TA):TE:=λσ H Q=>t σ H λvs H1=>sp (vs++dvs) H1 Q E
noncomputable def Binds(K:PySem.W.Frag)(fd:FuncData)(ps:List Str)(ds:List Value):Prop :=
 ∀(s:Shared) (us:List Value),K.In s.heap->(us++ds).length=ps.length->BindsTo s fd ⟨us,[]⟩ (ps.zip (us++ds))
theorem Binds.all{K:PySem.W.Frag}{fd:FuncData}{ps:List Str}(h:∀us:List Value,us.length=ps.length->bindArgs fd ⟨us,[]⟩=pure (ps.zip us)):Binds K fd ps []:=λs us _ hl=>by
 rw[HG]at hl ⊢
 exact .of_eq (h us hl)
noncomputable def zm(CX:CXT)(X:Cx)(E:XK):Prop:=∀(pins:List (Addr×Obj)) (σ:St) (H:Hp) (s:Shared) (e:Value) (s':Shared),Inv X pins σ H s->CX X.stack H s E e s'->X.xe e s'
section
variable{X:Cx}{CX:CXT}{k:Nat}{f C:Addr}{fd:FuncData}{ps:List Str}{sp:Sp}{dvs:List V}{ds:List Value}{E:XK}{x m:Str}{p pos apos:Pos}{e o:Expr}{es:List Expr}{ta:TE}{t:TA}
theorem Jf {pins:List (Addr×Obj)} {σ:St} {H:Hp} {s:Shared} {Q:VK} {us:List Value} {vs:List V} (F:FnOk X.prog X.w X.K X.mg X.base CX k f fd ps sp) (hr:Room k X.A) (hb:Binds X.K fd ps ds) (hd:bc dvs ds) (hx:zm CX X E)
  (I:Inv X pins σ H s) (r:bc vs us) (h:sp (vs++dvs) H Q E):wpAny (model X.prog X.w) X.A (call (.ref f) us) (EP X pins σ Q) X.xe s:=by
 have r2:bc (vs++dvs) (us++ds):=r.append hd
 have hl:(us++ds).length=ps.length:=by rw[<-r2.length];exact F.len _ _ _ _ h
 refine wpAny_call (EV (F.run X.A X.stack s H ⟨us,[]⟩ (us++ds) (vs++dvs) Q E hr I.env0 (hb s us I.kIn hl) r2 h) λr s' hq=>?_)
 cases r with
 |error e=>exact hx pins σ H s e s' I hq
 |ok fl =>
  cases fl with
  |ret u=>exact I.after hq
  |next=>exact False.elim hq
  |brk=>exact False.elim hq
  |cont=>exact False.elim hq
theorem Fw (F:FnOk X.prog X.w X.K X.mg X.base CX k f fd ps sp) (hr:Room k X.A) (hg:Gl X x) (hm:X.mg x=some (.ref f)) (hk:PySem.W.keepIn X.K (.ref f)=true) (hb:Binds X.K fd ps ds) (hd:bc dvs ds) (hx:zm CX X E)
  (ha:PA X (e::es) t) (hdb:(x==("__debug__":Str))=false:=by decide) (he:starEach (e::es) X.env=(false,eval e X.env)::starEach es X.env:=by rfl) (hpl:(backTo pos (starEach es X.env)).any (·.1)=false:=by rfl) :
  PE X (.Call (.Name x p) (e::es) [] pos) (Na sp dvs E t):=by
 intro pins s σ H Q I h
 refine DP (Fk I hg hm ?_ hdb)
 refine PySem.W.callWith_K (h₀:=X.base) I.ok.mod.kin hk (thn (ha pos pins s σ H _ I h) λus s1 ⟨vs,H1,I1,r,q⟩=>⟨I1.kIn,?_⟩) he hpl
 exact Jf F hr hb hd hx I1 r q
structure Mk (K:PySem.W.Frag) (C f:Addr):Prop where
 makes:PySem.W.makesIn K C=true
 init:PySem.W.findIn K (.ref C) "__init__"=some (some (.ref f))
 fn:PySem.W.isFn K (.ref f)=true
 kp:PySem.W.keepIn K (.ref C)=true
end
structure FnScope (N P:List Str) (sc:Scope):Prop where
 kind:sc.kind=.function
 co:sc.isCoroutine=false
 gen:sc.isGenerator=false
 nd:N.Nodup
 pre:N.take P.length=P
 par:∀x∈P,sc.names.lookup x=some .local\/sc.names.lookup x=some .cell
 nofree:∀y∈sc.names,y.2≠.free
theorem qd{kindOf:Str->Option NameKind}{x:Str}:∀{binds:List (Str×Value)} {m:Str->Option Value},(∀v,(x,v)∉binds)->bindL kindOf binds m x=m x
 | [],_,_=>rfl
 |(n,v)::r,m,h=>by
  unfold bindL
  rw[qd λw hw=>h w (AI _ hw)]
  split
  ·have:x≠n:=by rintro rfl;exact h v AN
   simp[this]
  ·rfl
theorem qe{kindOf:Str->Option NameKind}{x:Str}:∀{binds:List (Str×Value)} {m:Str->Option Value},(∀v,(x,v)∉binds)->bindC kindOf binds m x=m x
 | [],_,_=>rfl
 |(n,v)::r,m,h=>by
  unfold bindC
  rw[qe λw hw=>h w (AI _ hw)]
  split
  ·rfl
  ·have:x≠n:=by rintro rfl;exact h v AN
   simp[this]
theorem qf{kindOf:Str->Option NameKind}{x:Str}{v:Value}:∀{P:List Str} {vs:List Value} {i:Nat} {m:Str->Option Value},P.Nodup->P[i]? = some x->vs[i]? = some v->kindOf x=some .local ->
  bindL kindOf (P.zip vs) m x=some v
 | [],_,_,_,_,h,_,_=>by simp at h
 |_::_,[],_,_,_,_,h,_=>by simp at h
 |p::P,w::vs,0,m,nd,h1,h2,hk=>by
  simp at h1 h2;subst h1;subst h2
  show bindL kindOf ((p,w)::P.zip vs) m p=_
  unfold bindL
  rw[qd λv hv=>(FL.mp nd).1 (HH hv).1,if_pos hk]
  simp
 |p::P,w::vs,i+1,m,nd,h1,h2,hk=>by
  show bindL kindOf ((p,w)::P.zip vs) m x=_
  unfold bindL
  exact qf (i:=i) (FL.mp nd).2 (by simpa using h1) (by simpa using h2) hk
theorem qg{kindOf:Str->Option NameKind}{x:Str}{v:Value}:∀{P:List Str} {vs:List Value} {i:Nat} {m:Str->Option Value},P.Nodup->P[i]? = some x->vs[i]? = some v->kindOf x≠some .local ->
  bindC kindOf (P.zip vs) m x=some v
 | [],_,_,_,_,h,_,_=>by simp at h
 |_::_,[],_,_,_,_,h,_=>by simp at h
 |p::P,w::vs,0,m,nd,h1,h2,hk=>by
  simp at h1 h2;subst h1;subst h2
  show bindC kindOf ((p,w)::P.zip vs) m p=_
  unfold bindC
  rw[qe λv hv=>(FL.mp nd).1 (HH hv).1,if_neg hk]
  simp
 |p::P,w::vs,i+1,m,nd,h1,h2,hk=>by
  show bindC kindOf ((p,w)::P.zip vs) m x=_
  unfold bindC
  exact qg (i:=i) (FL.mp nd).2 (by simpa using h1) (by simpa using h2) hk
noncomputable def start(N:List Str)(vs:List V):St:=vs.map some++List.replicate (N.length-vs.length) none
noncomputable def Ci(CX:CXT)(P:Program)(w:World)(K:PySem.W.Frag)(mg:Str->Option Value)(base:Heap)(N:List Str)(qual:Str)(scope:Scope)(f:Addr)(cd:Value)(A:Around)(outer:List Env)(s:Shared)(H:Hp)(E:XK):Cx where
 prog:=P
 w:=w
 K:=K
 mg:=mg
 base:=base
 A:=A.deeper (envOfC qual scope s.heap.objs.size f cd)
 N:=N
 s₀:=s
 H₀:=H
 env:=envOfC qual scope s.heap.objs.size f cd
 outer:=outer
 stack:=envOfC qual scope s.heap.objs.size f cd::outer
 ex:=[]
 calm:=true
 fn:=λ_=>true
 pn:=[]
 xe:=λe s'=>wpAny (model P w) (A.deeper (envOfC qual scope s.heap.objs.size f cd)) (leaving (envOfC qual scope s.heap.objs.size f cd) e) (λ_ s''=>CX outer H s E e s'') (λe' s''=>CX outer H s E e' s'') s'
theorem kr{sc:Scope}{n:Nat}{x:Str}(h:sc.names.lookup x=some .cell):∃c,(cellsFrom n sc.names []).lookup x=some c:=by
 have q:=GW sc.names n [] (.inl h)
 exact EG.mp q
theorem zo {CX:CXT} {P:Program} {w:World} {K:PySem.W.Frag} {mg:Str->Option Value} {base:Heap} {N ps:List Str} {qual:Str} {scope:Scope} {f:Addr} {cd:Value} {A:Around} {outer:List Env} {s s1:Shared} {H:Hp} {E:XK} {us:List Value} {vs:List V}
  (S:FnScope N ps scope) (hd:A.handled=none) (e0:Env0 P w K mg base A outer s H) (hl:vs.length=ps.length) (r:bc vs us)
  (x:InCallC s s.heap.objs.size (bindL (envOfC qual scope s.heap.objs.size f cd).kindOf (ps.zip us) λ_=>none) (cellsFrom (s.heap.objs.size+1) scope.names []) (bindC (envOfC qual scope s.heap.objs.size f cd).kindOf (ps.zip us) λ_=>none) s1) :
  Inv (Ci CX P w K mg base N qual scope f cd A outer s H E) [] (start N vs) H s1:=by
 have hpl:ps.length<=N.length:=by have:=congrArg List.length S.pre;rw[DK]at this;lia
 obtain⟨h1,tk,rfl,hk⟩:=x.done
 have noA:∀b:Addr,b∉(Ci CX P w K mg base N qual scope f cd A outer s H E).ex:=λb z=>absurd (show b∈([]:List Addr)from z) (by simp)
 refine⟨⟨e0.mod,S.kind,rfl,rfl,AH _,λy z c h1 h2=>?_,λy hy=>?_,λy c _ h=>?_,λ_=>hd,Around.frames_deeper e0.frames,.inr ⟨rfl,rfl⟩,λb z=>absurd z (noA b),e0.bs,e0.bsz,λb _ _=>noA b,λb z=>absurd z (noA b),e0.funs,e0.frf⟩,
  rfl,e0.bare,Un.kept hk,⟨_,x.toInCall.ns,λi y v h1 h2 h3=>?_⟩,λy c h=>⟨_,x.cell y c h⟩,e0.hok.fresh (AH _),λy c h=>?_,λp hp=>absurd (show p∈([]:List (Addr×Obj))from hp) (by simp),e0.hok.kept hk,?_⟩
 ·exact name_of_addr x.apart (BV h1) (BV h2)
 ·have hy:scope.names.lookup y=some .cell\/scope.names.lookup y=some .free:=hy
  rcases hy with hy | hy
  ·exact kr hy
  ·exact absurd rfl (S.nofree _ (BV hy))
 ·exact CU (x.above y c (BV h))
 ·have hi:i<vs.length:=by
   unfold start at h2
   by_cases hi:i<vs.length
   ·exact hi
   ·rw[CI (by simpa using hi)]at h2
    rw[CN]at h2
    split at h2<;>cases h2
  have ha:vs[i]? = some v:=by
   unfold start at h2
   rw[AW (by simpa using hi),BL]at h2
   cases e:vs[i]? with
   |none=>rw[e]at h2;cases h2
   |some a=>rw[e]at h2;cases h2;rfl
  obtain⟨u,hu,rv⟩:=r.get ha
  have hp:ps[i]? = some y:=by
   rw[<-S.pre,GM (by lia)];exact h1
  have ndP:ps.Nodup:=by rw[<-S.pre];exact S.nd.sublist (List.take_sublist _ _)
  refine⟨u,rv,?_⟩
  rcases S.par y (EC hp)with k | k
  ·exact .inl ⟨k,qf ndP hp hu k⟩
  ·obtain⟨c,e⟩:=kr (n:=s.heap.objs.size+1) k
   refine .inr ⟨.inl k,c,e,?_⟩
   have q:=x.cell y c e
   rw[qg ndP hp hu (by show scope.names.lookup y≠_;rw[k];decide)]at q
   exact q
 ·exact e0.hok.fresh (CU (x.above y c (BV h)))
 ·unfold start
  show _=N.length
  rw[AX,AJ,HN]
  lia
theorem Nc {CX:CXT} {P:Program} {w:World} {K:PySem.W.Frag} {mg:Str->Option Value} {base:Heap} {k:Nat} {f:Addr} {name qual:Str} {params:Arguments} {body:List Stmt} {scope:Scope} {dV kV doc pm cdv ct oc:Value} {an od:Option Addr}
  {osl:Array (Option Value)} {N ps:List Str} {sp:Sp} (lk:K.lookup f=some ⟨oc,od,.func (PySem.W.fnOf name qual params body scope dV kV doc pm an cdv ct),osl⟩) (hcd:PySem.W.codeIn K cdv qual=true) (S:FnScope N ps scope)
  (len:∀vs H Q E,sp vs H Q E->vs.length=ps.length)
  (hbody:∀(A:Around) (outer:List Env) (s:Shared) (H:Hp) (vs:List V) (Q:VK) (E:XK),zk k (A.deeper (envOfC qual scope s.heap.objs.size f cdv))->sp vs H Q E ->
   ∃t,PSs (Ci CX P w K mg base N qual scope f cdv A outer s H E) body t/\t {nx:=λ_ H'=>Q .non H',rt:=Q} (start N vs) H) :
  FnOk P w K mg base CX (k+1) f (PySem.W.fnOf name qual params body scope dV kV doc pm an cdv ct) ps sp:=by
 refine⟨len,λA outer s H args us vs Q E hr e0 hb r hsp=>?_⟩
 have hl:=len _ _ _ _ hsp
 have KX:K.In s.heap:=e0.mod.kin.keeps λb o e=>(e0.bs b o e).1
 have lim:s.heap.NoLimit:=e0.mod.nolimit.keeps λb o e=>(e0.bs b o e).1
 have hkind:∀y∈ps.zip us,scope.names.lookup y.1=some .local\/(scope.names.lookup y.1=some .cell/\((cellsFrom (s.heap.objs.size+1) scope.names []).lookup y.1).isSome=true):=fun⟨n,v⟩ hy=>by
  rcases S.par n (HH hy).1 with q | q
  ·exact .inl q
  ·exact .inr ⟨q,GW _ _ _ (.inl q)⟩
 refine codeAny_call_function hr.depth (KX _ _ lk) rfl S.co S.gen rfl (PySem.W.codeRec_of KX hcd) (hb _ _ _ _ ?_)
 refine wpAny_newFunctionEnv_cells S.kind hkind λenv he s1 x=>?_
 subst he
 refine⟨lim.keeps x.toInCall.keep,codeAny_func ?_⟩
 obtain⟨t,ht,hq⟩:=hbody A outer s H vs Q E (hr.deeperX _) hsp
 have I:Inv (Ci CX P w K mg base N qual scope f cdv A outer s H E) [] (start N vs) H s1:=zo S hr.hd e0 hl r x
 refine Da (ht [] s1 (start N vs) H _ I hq) (λfl s' hs=>?_) λe s' hs=>hs
 have fin:∀{σ':St} {H':Hp} {v:V} {u:Value},Inv (Ci CX P w K mg base N qual scope f cdv A outer s H E) [] σ' H' s'->RelV v u->Q v H'->CE outer P w H s Q u s' :=
  λ{σ' H' v u} J rv q=>⟨v,H',J.os,J.bare,J.base,J.hok,rv,q⟩
 cases fl with
 |ret u =>
  obtain⟨v,σ',H',J,rv,q⟩:=hs
  exact fin J rv q
 |next =>
  obtain⟨σ',H',J,q⟩:=hs
  exact fin (v:=V.non) (u:=Value.none) J rfl q
 |brk =>
  obtain⟨_,_,_,q⟩:=hs
  exact False.elim q
 |cont =>
  obtain⟨_,_,_,q⟩:=hs
  exact False.elim q
section
variable{X:Cx}{x:Str}{p pos:Pos}{e:Expr}{es:List Expr}{t:TA}{id T:String}{r:List V -> Hp -> VK -> Prop}
noncomputable def tCB(r:List V->Hp->VK->Prop)(t:TA):TE:=λσ H Q=>t σ H λvs H1=>r vs H1 Q
theorem je (hc:gr X (.builtin id) r) (hg:Gl X x) (hm:X.mg x=none) (hv:bootBuiltins x=some (.builtin id)) (ha:PA X (e::es) t) (hn:x≠"__name__":=by decide) (hdb:(x==("__debug__":Str))=false:=by decide)
  (he:starEach (e::es) X.env=(false,eval e X.env)::starEach es X.env:=by rfl) (hpl:(backTo pos (starEach es X.env)).any (·.1)=false:=by rfl):PE X (.Call (.Name x p) (e::es) [] pos) (tCB r t):=by
 intro pins s σ H Q I h
 refine DP (my I hg hm hv ?_ hn hdb)
 exact FG (thn (ha pos pins s σ H _ I h) λus s1 ⟨vs,H1,I1,r1,q1⟩=>hc pins s1 σ H1 vs us Q I1 r1 q1) he hpl
theorem zp (hc:gr X (.type T) r) (hg:Gl X x) (hm:X.mg x=none) (hv:bootBuiltins x=some (.type T)) (ha:PA X (e::es) t) (hn:x≠"__name__":=by decide) (hdb:(x==("__debug__":Str))=false:=by decide)
  (he:starEach (e::es) X.env=(false,eval e X.env)::starEach es X.env:=by rfl) (hpl:(backTo pos (starEach es X.env)).any (·.1)=false:=by rfl):PE X (.Call (.Name x p) (e::es) [] pos) (tCB r t):=by
 intro pins s σ H Q I h
 refine DP (my I hg hm hv ?_ hn hdb)
 exact Ev (thn (ha pos pins s σ H _ I h) λus s1 ⟨vs,H1,I1,r1,q1⟩=>hc pins s1 σ H1 vs us Q I1 r1 q1) he hpl
end
end L2
namespace HT
open PySem PyProof.Rows
noncomputable def lexLt:List Int->List Int->Bool
 | [],[]=>false
 | [],_::_=>true
 |_::_,[]=>false
 |x::xs,y::ys=>if x=y then lexLt xs ys else decide (x<y)
theorem dz(x y:Int)(xs ys:List Int):lexLt (x::xs) (y::ys)=if x=y then lexLt xs ys else decide (x<y):=rfl
theorem gs:lexLt [] []=false:=rfl
theorem fz(y:Int)(ys:List Int):lexLt [] (y::ys)=true:=rfl
theorem f9(x:Int)(xs:List Int):lexLt (x::xs) []=false:=rfl
theorem n9(A:Around)(s:Shared)(a:Int)(t:Tok)(c:Int)(u:Tok):∃e,SeqAt.EqAt A s (.int a t) (.int c u) e/\(e=true↔a=c) :=
 ⟨(a==c),Ix a t c u,by simp⟩
theorem Cj(A:Around)(s:Shared)(a:Int)(t:Tok)(c:Int)(u:Tok)(prog:Program)(w:World)(E:Value->Shared->Prop)(Q:Value->Shared->Prop)(h:Q (.bool (decide (a<c))) s) :
  wpAny (model prog w) A (richCompare .Lt (.int a t) (.int c u)) Q E s :=
 (PyProof.Rows.lt_int h:wpAny (model prog w) A (compareOp .Lt (.int a t) (.int c u)) Q E s)
section
open PySem.SeqAt
open PySem.AutoSeq1 (wpAny_loadPart')
open PySem.MeetsSeq PySem.MeetsSeq2 PySem.MeetsSeq3
theorem oa(l b:Addr)(items items2:Array Value)(n n2:Nat)(dd dd2:Option Addr)(sl sl2:Array (Option Value))(ns ms:List Int)(hi:IntsAre items.toList ns)(hj:IntsAre items2.toList ms) :
  Meets (Builtin.«tuple.__lt__» ⟨[.ref l,.ref b],[]⟩)
   (λ_ R s=>s.heap.get? l=some {cls:=.type "tuple",dict:=dd,data:=.seq items n,slots:=sl}/\s.heap.get? b=some {cls:=.type "tuple",dict:=dd2,data:=.seq items2 n2,slots:=sl2} /\
    R (.ok (.ret (.bool (lexLt ns ms)))) s) :=
 .of_wp λprog w A R s h=>by
  obtain⟨hp,g,d,tk,os⟩:=s;obtain⟨hl,hb,h⟩:=h
  have f2:=EH
  have z1:items.size=ns.length:=by rw[<-hi.length];simp
  have z2:items2.size=ms.length:=by rw[<-hj.length];simp
  wp_walk using DR hl,DR hb,DL _ (λrest b s'=>b.1=none/\s'=⟨hp,g,d,tk,os⟩/\∃(vs ws:List Value) (ns' ms':List Int),rest=vs.zip ws /\
   IntsAre vs ns'/\IntsAre ws ms'/\ns'.length+items2.size=ms'.length+items.size/\R (.ok (.ret (.bool (lexLt ns' ms')))) ⟨hp,g,d,tk,os⟩) _
  case turn =>
   rintro⟨y,x⟩ rest b s' ⟨hb',rfl,vs,ws,ns',ms',hz,hvi,hwi,hlen,hR⟩
   cases hvi with
   |nil=>rw[GB]at hz;cases hz
   |cons a t hvi' =>
    cases hwi with
    |nil=>rw[EM]at hz;cases hz
    |cons c u hwi' =>
     rw[BZ]at hz
     injection hz with hyx hrest
     injection hyx with hy hx
     subst hy hx
     rw[dz]at hR
     simp![AU]at hlen
     obtain⟨e,he,hiff⟩:=n9 A.in1 ⟨hp,g,d,tk,os⟩ a t c u
     refine AA (he prog w _ _ ?_)
     cases e with
     |true =>
      rw[if_pos (hiff.mp rfl)]at hR
      wp_walk
      exact⟨rfl,rfl,_,_,_,_,hrest,hvi',hwi',by lia,hR⟩
     |false =>
      rw[if_neg (λq=>absurd (hiff.mpr q) AV)]at hR
      have hri:=Cj A.in1 ⟨hp,g,d,tk,os⟩ a t c u prog w
      wp_walk using hri
      exact⟨_,rfl,by simpa using hR⟩
  case fin =>
   rintro⟨b1,b2⟩ s' ⟨hb',rfl,vs,ws,ns',ms',hz,hvi,hwi,hlen,hR⟩
   simp only at hb'
   subst hb'
   have hv:lexLt ns' ms'=decide (items.size<items2.size):=by
    cases hvi with
    |nil =>
     cases hwi with
     |nil =>
      simp![BK]at hlen
      rw[gs]
      exact(decide_eq_false (by lia)).symm
     |cons c u hw =>
      simp![BK,AU]at hlen
      rw[fz]
      exact(decide_eq_true (by lia)).symm
    |cons a t hv =>
     cases hwi with
     |nil =>
      simp![BK,AU]at hlen
      rw[f9]
      exact(decide_eq_false (by lia)).symm
     |cons c u hw =>
      rw[BZ]at hz
      cases hz
   rw[hv]at hR
   wp_walk
   exact⟨_,rfl,by simpa[Builtin.Tuple.tupleCompareSizes]using hR⟩
  case h =>
   exact⟨rfl,rfl,items.toList,items2.toList,ns,ms,rfl,hi,hj,by lia,h⟩
end
section
variable{prog:Program}{w:World}{A:Around}{E:Value -> Shared -> Prop}{s:Shared}
theorem x8 {l b:Addr} {items items2:Array Value} {ns ms:List Int} {Q:Value->Shared->Prop} (hl:IsTup s.heap l items) (hb:IsTup s.heap b items2) (hi:IntsAre items.toList ns) (hj:IntsAre items2.toList ms)
  (hu:A.units<cLine) (h:Q (.bool (lexLt ns ms)) s):wpAny (model prog w) A (compareOp .Lt (.ref l) (.ref b)) Q E s:=by
 obtain⟨⟨cls,dd,data,sl⟩,ho,hc,n,hd⟩:=id hl
 obtain⟨⟨cls2,dd2,data2,sl2⟩,ho2,hc2,n2,hd2⟩:=id hb
 simp only at hc hd hc2 hd2
 subst hc hd hc2 hd2
 exact EW (op:=.Lt) ⟨_,ho,rfl⟩ ⟨_,ho2,rfl⟩ PySem.F.slot_tuple_lt PySem.F.entry_tuple_lt (PySem.F.args_tuple_lt_2 _ _) (oa l b items items2 n n2 dd dd2 sl sl2 ns ms hi hj)
  ⟨ho,ho2,show Value.bool (lexLt ns ms)≠Value.notImplemented/\Q (.bool (lexLt ns ms)) s from⟨(λx=>nomatch x),h⟩⟩ hu
theorem Fx {t b:Addr} {vs ws:List Value} {Q:Value->Shared->Prop} (ht:IsTup s.heap t vs.toArray) (hb:IsTup s.heap b ws.toArray) (hv:vs≠[])
  (h1:ws=[]->Q (.ref t) s) (h2:ws≠[]->Q (.ref s.heap.objs.size) {s with heap:=s.heap.push {cls:=.type "tuple",data:=.seq (vs++ws).toArray}})
  (hsz:vs.length+ws.length<=sizeLine):wpAny (model prog w) A (binaryOp .Add (.ref t) (.ref b)) Q E s:=by
 obtain⟨⟨cls,dd,data,sl⟩,ho,hc,n,hd⟩:=id ht
 obtain⟨⟨cls2,dd2,data2,sl2⟩,ho2,hc2,n2,hd2⟩:=id hb
 simp only at hc hd hc2 hd2
 subst hc hd hc2 hd2
 have e:vs.toArray++ws.toArray=(vs++ws).toArray:=by simp
 by_cases hw:ws=[]
 ·exact concat_meets ⟨_,ho,rfl⟩ ⟨_,ho2,rfl⟩ GQ seq_tuple_add EX ER (EI _ _)
   (tuple_addW1 t b vs.toArray ws.toArray n n2 dd dd2 sl sl2 (by simpa using hv) (by simp[hw])) ⟨ho,ho2,h1 hw⟩
 ·refine concat_meets ⟨_,ho,rfl⟩ ⟨_,ho2,rfl⟩ GQ seq_tuple_add EX ER (EI _ _)
   (tuple_addW2 t b vs.toArray ws.toArray n n2 dd dd2 sl sl2 (by simpa using hv) (by simpa using hw) (by rw[AG,AG];exact hsz)) ⟨ho,ho2,?_⟩
  rw[e]
  exact h2 hw
noncomputable def sIx(n d:Nat):Option Int->Nat
 |none=>d
 |some v=>if v<0 then(v+(n:Int)).toNat else min v.toNat n
theorem Jg(n d:Nat)(hd:d<=n)(o:Option Int):sIx n d o<=n:=by
 cases o with
 |none=>exact hd
 |some v =>
  show(if v<0 then(v+(n:Int)).toNat else min v.toNat n)<=n
  by_cases hv:v<0
  ·rw[if_pos hv];lia
  ·rw[if_neg hv];exact Nat.min_le_right _ _
theorem zq(v:Int)(n d:Nat):(if v<0 then max (v+(n:Int)) 0 else min v (n:Int))=((sIx n d (some v):Nat):Int):=by
 show(if v<0 then max (v+(n:Int)) 0 else min v (n:Int))=(((if v<0 then(v+(n:Int)).toNat else min v.toNat n):Nat):Int)
 by_cases hv:v<0
 ·simp![if_pos hv];lia
 ·simp![if_neg hv];lia
theorem x9(lo hi:Option Int)(n:Nat):Builtin.Slice.sliceAdjust lo hi 1 (n:Int)=(((sIx n 0 lo:Nat):Int),((sIx n n hi:Nat):Int)):=by
 have h1:¬((1:Int)<0):=by lia
 unfold Builtin.Slice.sliceAdjust
 simp![h1,if_false]
 refine Prod.ext ?_ ?_
 ·cases lo with
  |none=>rfl
  |some v=>exact zq v n 0
 ·cases hi with
  |none=>rfl
  |some v=>exact zq v n n
theorem ya(i j:Nat):Builtin.Slice.slicePlaces (i:Int) (j:Int) 1=j-i:=by
 unfold Builtin.Slice.slicePlaces
 have h1:(1:Int) > 0:=by lia
 simp![h1,if_true,Int.ediv_one]
 split<;>lia
theorem ng{v:Value}{o:Option Int}{Q:Option Int->Shared->Prop}(p:IsPart v o)(h:Q o s):wpAny (model prog w) A (Builtin.Slice.slicePartIndex v) Q E s:=by
 cases p with
 |none=>exact slicePart_none h
 |int i t=>exact slicePart_int h
theorem g9 {sl:Addr} {vl vu:Value} {lo hi:Option Int} {n:Nat} {Q:Int×Int×Nat->Shared->Prop} (hs:s.heap.IsSliceOf sl vl vu .none) (pl:IsPart vl lo) (pu:IsPart vu hi)
  (h:Q (((sIx n 0 lo:Nat):Int),1,sIx n n hi-sIx n 0 lo) s):wpAny (model prog w) A (Builtin.Slice.sliceApplied (.ref sl) (pure (n:Int))) Q E s:=by
 obtain⟨os,hos,hcs,hds⟩:=id hs
 unfold Builtin.Slice.sliceApplied Builtin.Slice.sliceFields
 refine AA (AA (wpAny_field hos hds (x:=vl) rfl (AA (wpAny_field hos hds (x:=vu) rfl (AA (wpAny_field hos hds (x:=.none) rfl (AC ?_)))))))
 refine AA (slicePart_none ?_)
 show wpAny _ _ (if((1:Int)==0)=true then _ else _) _ _ s
 rw[if_neg (by decide)]
 refine AA (ng pl (AA (ng pu (AA (AC ?_)))))
 show wpAny _ _ (match Builtin.Slice.sliceAdjust lo hi 1 (n:Int)with | (lo,hi)=>pure (lo,(1:Int),Builtin.Slice.slicePlaces lo hi 1)) _ _ s
 rw[x9 lo hi n]
 show wpAny _ _ (pure (((sIx n 0 lo:Nat):Int),(1:Int),Builtin.Slice.slicePlaces ((sIx n 0 lo:Nat):Int) ((sIx n n hi:Nat):Int) 1)) _ _ s
 rw[ya]
 exact AC h
theorem Ck(xs:Array Value)(i k:Nat):((List.range k).filterMap fun(m:Nat)=>xs[((i:Int)+(m:Int)*1).toNat]?).toArray=((xs.toList.drop i).take k).toArray:=by
 have e:(fun(m:Nat)=>xs[((i:Int)+(m:Int)*1).toNat]?)=λm=>xs[i+m]?:=by
  funext m
  have:((i:Int)+(m:Int)*1).toNat=i+m:=by lia
  rw[this]
 rw[e]
 have:=pick_run xs i k
 rw[List.filterMap_map]at this
 have e2:((λx=>xs[x]?)∘λx=>i+x)=λm=>xs[i+m]?:=rfl
 rw[e2]at this
 rw[this]
theorem jz {t sl:Addr} {items:Array Value} {vl vu:Value} {lo hi:Option Int} {Q:Value->Shared->Prop} (ht:IsTup s.heap t items) (hs:s.heap.IsSliceOf sl vl vu .none) (pl:IsPart vl lo) (pu:IsPart vu hi)
  (hw:¬(sIx items.size 0 lo=0/\sIx items.size items.size hi=items.size))
  (h:Q (.ref s.heap.objs.size) {s with heap:=s.heap.push {cls:=.type "tuple",data:=.seq ((items.toList.drop (sIx items.size 0 lo)).take (sIx items.size items.size hi-sIx items.size 0 lo)).toArray}})
  (hsz:items.size<=sizeLine):wpAny (model prog w) A (getItem (.ref t) (.ref sl)) Q E s:=by
 have htake:sizeOk (.seq ((items.toList.drop (sIx items.size 0 lo)).take (sIx items.size items.size hi-sIx items.size 0 lo)).toArray):=by
  show((items.toList.drop (sIx items.size 0 lo)).take (sIx items.size items.size hi-sIx items.size 0 lo)).toArray.size<=sizeLine
  rw[AG,DK,FH,AZ]
  lia
 have hj:sIx items.size items.size hi<=items.size:=Jg _ _ (AH _) hi
 obtain⟨os,hos,hcs,hds⟩:=id hs
 have hTs:s.TypeIs (.ref sl) "slice":=⟨os,hos,hcs⟩
 unfold getItem
 try with_reducible refine BS ?_
 first | refine AA (AC ?_) | skip
 refine AA (wpAny_sequenceKey ht.typeIs (by decide) ?_)
 refine AA (CC (name:=Str.ofString "__getitem__") ht.typeIs BO
  (CD BO ht.typeIs entry_tuple_getitem ?_ (args_tuple_getitem _ _)))
 show wpAny _ _ (Builtin.Tuple.tupleItemsOf (.ref t)>>=_) _ _ s
 refine AA (tupleItemsOf_ ht ?_)
 refine AA (EY hTs ?_)
 rw[if_pos (by decide)]
 refine AA (g9 hs pl pu ?_)
 have hno:¬((((sIx items.size 0 lo:Nat):Int)==0&&(1:Int)==1&&(sIx items.size items.size hi-sIx items.size 0 lo)==items.size)=true):=by
  intro q
  rw[AT,AT]at q
  have q1:((sIx items.size 0 lo:Nat):Int)=0:=eq_of_beq q.1.1
  have q2:sIx items.size items.size hi-sIx items.size 0 lo=items.size:=eq_of_beq q.2
  exact hw ⟨by lia,by lia⟩
 show wpAny _ _ (if(((sIx items.size 0 lo:Nat):Int)==0&&(1:Int)==1&&(sIx items.size items.size hi-sIx items.size 0 lo)==items.size)=true then _ else _) _ _ s
 rw[if_neg hno,Ck]
 first
  |exact AA (m:=Builtin.Tuple.tupleExact _) (BM (AC ⟨_,rfl,AC h⟩) htake)
  |exact AA (m:=Builtin.Tuple.tupleExact _) (BM (AA (AC (AC ⟨_,rfl,AC h⟩))) htake)
  |exact AA (AA (m:=Builtin.Tuple.tupleExact _) (BM (AC (AC ⟨_,rfl,AC h⟩)) htake))
  |exact AA (AA (m:=Builtin.Tuple.tupleExact _) (BM (AC ⟨_,rfl,AC h⟩) htake))
end
end HT
namespace L2
open PySem PySem.Spec PyProof.Rows
noncomputable abbrev TO:=St->Hp->(Option Int->Hp->Prop)->Prop
noncomputable def PO(X:Cx)(e:Option Expr)(t:TO):Prop :=
 ∀(pins:List (Addr×Obj)) (s:Shared) (σ:St) (H:Hp) (Q:Option Int->Hp->Prop),Inv X pins σ H s->t σ H Q ->
  wpAny (model X.prog X.w) X.A (evalPart e X.env) (λu s'=>∃o H',Inv X pins σ H' s'/\IsPart u o/\Q o H') X.xe s
noncomputable def Nd(t:TE):TO:=λσ H Q=>t σ H λx H1=>∃i,x=.int i/\Q (some i) H1
theorem intsAre_of{ns:List Int}:∀{us:List Value},bc (ns.map V.int) us->IntsAre us ns:=by
 induction ns with
 |nil=>intro us r;rw[CL]at r;cases r;exact .nil
 |cons n ns ih =>
  intro us r
  rw[AL]at r
  cases r with
  |cons r1 r2 =>
   obtain⟨t,e⟩:=r1
   subst e
   exact .cons n t (ih r2)
section
variable{X:Cx}{e:Expr}{te:TE}{lo hi:Option Expr}{tl th:TO}{pos p2:Pos}
theorem Fy(h:PE X e te):PO X (some e) (Nd te):=by
 intro pins s σ H Q I hw
 rw[evalPart_some]
 refine thn (h pins s σ H _ I hw) λu s1 ⟨x,H1,I1,r1,q1⟩=>?_
 obtain⟨i,rfl,q⟩:=q1
 obtain⟨t,rfl⟩:=r1
 exact⟨some i,H1,I1,.int i t,q⟩
noncomputable def SlR(X:Cx)(r:V->Option Int->Option Int->Hp->VK->Prop):Prop :=
 ∀(pins:List (Addr×Obj)) (s:Shared) (σ:St) (H:Hp) (x:V) (v vl vu:Value) (lo hi:Option Int) (sl:Addr) (Q:VK),Inv X pins σ H s->RelV x v->s.heap.IsSliceOf sl vl vu .none->IsPart vl lo->IsPart vu hi->r x lo hi H Q ->
  ∃T id,typeLookup (.type T) "__getitem__"=pure (some (.builtin id))/\s.TypeIs v T/\wpAny (model X.prog X.w) X.A (getItem v (.ref sl)) (EP X pins σ Q) X.xe s
noncomputable def tSl(r:V->Option Int->Option Int->Hp->VK->Prop)(te:TE)(tl th:TO):TE:=λσ H Q=>te σ H λx H1=>tl σ H1 λl H2=>th σ H2 λu H3=>r x l u H3 Q
theorem Cm{r:V->Option Int->Option Int->Hp->VK->Prop}(hr:SlR X r)(he:PE X e te)(hl:PO X lo tl)(hu:PO X hi th):PE X (.Subscript e (.Slice lo hi none p2) pos) (tSl r te tl th):=by
 intro pins s σ H Q I h
 refine Subscript_ (thn (he pins s σ H _ I h) λv s1 ⟨x,H1,I1,r1,q1⟩=>?_)
 refine wpAny_Slice (thn (hl pins s1 σ H1 _ I1 q1) λvl s2 ⟨l,H2,I2,pl,q2⟩=>thn (hu pins s2 σ H2 _ I2 q2) λvu s3 ⟨u,H3,I3,pu,q3⟩=>?_)
 rw[evalPart_none]
 refine AC ?_
 have I4:Inv X pins σ H3 {s3 with heap:=s3.heap.push {cls:=.type "slice",data:=.fields #[vl,vu,.none]}}:=I3.kept (t':=s3.toks) λb ob q=>AB _ q
 obtain⟨T,id,hT,ht,hg⟩:=hr pins {s3 with heap:=s3.heap.push {cls:=.type "slice",data:=.fields #[vl,vu,.none]}} σ H3 x v vl vu l u s3.heap.objs.size Q I4 r1 (Heap.IsSliceOf.new ..) pl pu q3
 show wpAny (model X.prog X.w) X.A (subscriptTail e (.Slice lo hi none p2) v (.ref s3.heap.objs.size)) (EP X pins σ Q) X.xe {s3 with heap:=s3.heap.push {cls:=.type "slice",data:=.fields #[vl,vu,.none]}}
 exact tail_any (ops:=[.ref s3.heap.objs.size,v]) ht hT hg (by with_unfolding_all rfl)
noncomputable def Eg(xs:List V)(lo hi:Option Int):List V:=(xs.drop (HT.sIx xs.length 0 lo)).take (HT.sIx xs.length xs.length hi-HT.sIx xs.length 0 lo)
theorem k7(xs:List V)(lo hi:Option Int):(Eg xs lo hi).length<=xs.length:=by
 unfold Eg
 rw[DK,FH]
 lia
noncomputable def S5(K:PySem.W.Frag):V->Option Int->Option Int->Hp->VK->Prop:=λx lo hi H Q=>∃a xs,x=.ref a/\SqT K H a xs /\
 ¬(HT.sIx xs.length 0 lo=0/\HT.sIx xs.length xs.length hi=xs.length)/\∀p,H p=none->Q (.ref p) (upd H p (.tup (Eg xs lo hi)))
theorem Jh:SlR X (S5 X.K):=by
 intro pins s σ H x v vl vu lo hi sl Q I rx hs pl pu h
 obtain⟨a,xs,rfl,hx,hw,q⟩:=h
 cases rx
 obtain⟨its,r,ht,hz⟩:=I.tuple hx
 have hlen:its.toArray.size=xs.length:=by rw[AG];exact r.length.symm
 refine⟨"tuple",_,BO.lookup,ht.typeIs,?_⟩
 refine HT.jz ht hs pl pu (by rw[hlen];exact hw) ?_ (by rw[hlen];exact hz)
 rw[hlen]
 refine⟨.ref s.heap.objs.size,_,I.laid (t':=s.toks) (o:=.tup (Eg xs lo hi)) (λb ob q=>AB _ q) (AH _) ?_,rfl,q _ (I.hok.fresh (AH _))⟩
 exact⟨BQ (k7 xs lo hi) hz,_,(r.drop (HT.sIx xs.length 0 lo)).take (HT.sIx xs.length xs.length hi-HT.sIx xs.length 0 lo),ke.new _ _⟩
noncomputable def S6(K:PySem.W.Frag):R2:=λx y H Q=>∃a b ns ms,x=.ref a/\y=.ref b/\SqT K H a (ns.map V.int)/\SqT K H b (ms.map V.int)/\Q (.bl (HT.lexLt ns ms)) H
theorem Ji(hu:X.A.units<cLine):OpR X (compareOp .Lt) (S6 X.K):=by
 intro pins s σ H x y v u Q I rx ry h
 obtain⟨a,b,ns,ms,rfl,rfl,ha,hb,q⟩:=h
 cases rx
 cases ry
 obtain⟨its,r1,p1,_⟩:=I.tuple ha
 obtain⟨its2,r2,p2,_⟩:=I.tuple hb
 have i1:IntsAre its.toArray.toList ns:=intsAre_of r1
 have i2:IntsAre its2.toArray.toList ms:=intsAre_of r2
 exact HT.x8 p1 p2 i1 i2 hu ⟨.bl (HT.lexLt ns ms),H,I,rfl,q⟩
noncomputable def Nf(K:PySem.W.Frag):R2:=λx y H Q=>∃a b xs ys,x=.ref a/\y=.ref b/\SqT K H a xs/\SqT K H b ys/\xs≠[]/\xs.length+ys.length<=sizeLine /\
 (ys=[]->Q (.ref a) H)/\(ys≠[]->∀p,H p=none->Q (.ref p) (upd H p (.tup (xs++ys))))
theorem bc.nil_iff{xs:List V}{us:List Value}(r:bc xs us):us=[]↔xs=[]:=by
 cases r with
 |nil=>simp
 |cons _ _=>simp
theorem Fz:OpR X (binaryOp .Add) (Nf X.K):=by
 intro pins s σ H x y v u Q I rx ry h
 obtain⟨a,b,xs,ys,rfl,rfl,ha,hb,hx,hz,q1,q2⟩:=h
 cases rx
 cases ry
 obtain⟨its,r1,p1,_⟩:=I.tuple ha
 obtain⟨its2,r2,p2,_⟩:=I.tuple hb
 refine HT.Fx p1 p2 (λz=>hx (r1.nil_iff.mp z)) (λz=>⟨.ref a,H,I,rfl,q1 (r2.nil_iff.mp z)⟩) (λz=>?_) (by rw[<-r1.length,<-r2.length];exact hz)
 refine⟨.ref s.heap.objs.size,_,I.laid (t':=s.toks) (o:=.tup (xs++ys)) (λb ob q=>AB _ q) (AH _) ?_,rfl,q2 (λw=>z (r2.nil_iff.mpr w)) _ (I.hok.fresh (AH _))⟩
 exact⟨by rw[AX];exact hz,_,r1.append r2,ke.new _ _⟩
end
noncomputable def ixN(n:Nat)(i:Int):Option Nat:=if 0<=i then(if i<n then some i.toNat else none)else if -(n:Int)<=i then some (i+n).toNat else none
noncomputable def atI{α:Type}(xs:List α)(i:Int):Option α:=(ixN xs.length i).bind λj=>xs[j]?
theorem zr{n:Nat}{i:Int}{j:Nat}(h:ixN n i=some j):seqIndex? i n=some j/\j<n /\ -(n:Int)<=i/\i<n:=by
 unfold ixN at h
 by_cases h0:0<=i
 ·rw[if_pos h0]at h
  by_cases h1:i<n
  ·rw[if_pos h1]at h
   have e:i.toNat=j:=BJ h
   exact⟨by rw[seqIndex_of h0 h1,e],by lia,by lia,h1⟩
  ·rw[if_neg h1]at h;cases h
 ·rw[if_neg h0]at h
  by_cases h1:-(n:Int)<=i
  ·rw[if_pos h1]at h
   have e:(i+n).toNat=j:=BJ h
   exact⟨by rw[seqIndex_neg (by lia) h1,e],by lia,h1,by lia⟩
  ·rw[if_neg h1]at h;cases h
theorem tw{α:Type}{xs:List α}{i:Int}{v:α}(h:atI xs i=some v):∃j,seqIndex? i xs.length=some j/\xs[j]? = some v/\j<xs.length /\ -(xs.length:Int)<=i/\i<xs.length:=by
 unfold atI at h
 cases e:ixN xs.length i with
 |none=>rw[e]at h;cases h
 |some j =>
  rw[e]at h
  obtain⟨h1,h2,h3,h4⟩:=zr e
  exact⟨j,h1,h,h2,h3,h4⟩
noncomputable def t6(b:Expr):Prop:=∀o i,subscripted b false o i=operate [o,i] (getItem o i)
noncomputable def IxR(X:Cx)(r:R2):Prop :=
 ∀(value slice:Expr) (pins:List (Addr×Obj)) (s:Shared) (σ:St) (H:Hp) (x y:V) (v u:Value) (Q:VK),Inv X pins σ H s->RelV x v->RelV y u->r x y H Q ->
  subscripted slice false v u=operate [v,u] (getItem v u)->wpAny (model X.prog X.w) X.A (subscriptTail value slice v u) (EP X pins σ Q) X.xe s
noncomputable def MtR(X:Cx)(id:String)(r:V->List V->Hp->VK->Prop):Prop :=
 ∀(pins:List (Addr×Obj)) (s:Shared) (σ:St) (H:Hp) (x:V) (xs:List V) (v:Value) (us:List Value) (Q:VK),Inv X pins σ H s->RelV x v->bc xs us->r x xs H Q ->
  wpAny (model X.prog X.w) X.A (call (.builtin id) (v::us)) (EP X pins σ Q) X.xe s
section
variable{X:Cx}{a b:Expr}{ta tb:TE}{pos:Pos}
theorem IxR.or{r r':R2}(h:IxR X r)(h':IxR X r'):IxR X (λx y H Q=>r x y H Q\/r' x y H Q):=by
 intro value slice pins s σ H x y v u Q I rx ry q hs
 rcases q with q | q
 ·exact h value slice pins s σ H x y v u Q I rx ry q hs
 ·exact h' value slice pins s σ H x y v u Q I rx ry q hs
theorem Ng{r:R2}(hr:IxR X r)(ha:PE X a ta)(hb:PE X b tb)(hs:t6 b):PE X (.Subscript a b pos) (tOp r ta tb):=by
 intro pins s σ H Q I h
 exact Subscript_ (Qg ha hb I h λv u s2 x y H2 I2 rx ry q=>hr a b pins s2 σ H2 x y v u Q I2 rx ry q (hs _ _))
noncomputable def Qk(K:PySem.W.Frag):R2:=λx y H Q=>∃p xs i v,x=.ref p/\y=.int i/\SqL K H p xs/\atI xs i=some v/\Q v H
noncomputable def Ql(K:PySem.W.Frag):R2:=λx y H Q=>∃p xs i v,x=.ref p/\y=.int i/\SqT K H p xs/\atI xs i=some v/\Q v H
noncomputable def rIxS:R2:=λx y H Q=>∃z i c,x=.str z/\y=.int i/\z.length<=sizeLine/\atI z.cps.toList i=some c/\Q (.str ⟨#[c]⟩) H
theorem F0:IxR X (Qk X.K):=by
 intro value slice pins s σ H x y v u Q I rx ry h hs
 obtain⟨p,xs,i,z,rfl,rfl,hq,he,q⟩:=h
 cases rx
 obtain⟨t,rfl⟩:=ry
 obtain⟨its,r,pl,hz⟩:=I.list hq
 obtain⟨j,h1,h2,h3,h4,h5⟩:=tw he
 obtain⟨w,ew,rw'⟩:=r.get h2
 have hl:=r.length
 have hn:=nc
 have fin:EP X pins σ Q w s:=⟨z,H,I,rw',q⟩
 by_cases h0:0<=i
 ·have hj:i.toNat=j:=by
   rw[seqIndex_of h0 h5]at h1
   exact BJ h1
  exact item_listR pl.isList h0 (by lia) (by rw[hj];simpa using ew) fin hs
 ·have hj:(i+(its.toArray.size:Int)).toNat=j:=by
   rw[seqIndex_neg (by lia) h4]at h1
   rw[AG,<-hl]
   exact BJ h1
  exact subscriptTail_builtinR (x:=w) pl.isList.typeIs slot_list_getitem.lookup
   (wpAny_getItem_list_neg (Q:=λr s'=>r=w/\EP X pins σ Q r s') pl.isList (by lia) (by rw[AG]<;>lia) (by lia) (by rw[hj];simpa using ew) ⟨rfl,fin⟩) hs
theorem Jj:IxR X (Ql X.K):=by
 intro value slice pins s σ H x y v u Q I rx ry h hs
 obtain⟨p,xs,i,z,rfl,rfl,hq,he,q⟩:=h
 cases rx
 obtain⟨t,rfl⟩:=ry
 obtain⟨its,r,pl,hz⟩:=I.tuple hq
 obtain⟨j,h1,h2,h3,h4,h5⟩:=tw he
 obtain⟨w,ew,rw'⟩:=r.get h2
 have hl:=r.length
 have hn:=nc
 have fin:EP X pins σ Q w s:=⟨z,H,I,rw',q⟩
 exact subscriptTail_builtinR (x:=w) pl.typeIs slot_tuple_getitem.lookup
  (getItem_tuple (j:=j) (Q:=λr s'=>r=w/\EP X pins σ Q r s') pl (by lia) (by lia) (by rw[AG,<-hl];exact h1) (by simpa using ew) ⟨rfl,fin⟩) hs
theorem Jk:IxR X rIxS:=by
 intro value slice pins s σ H x y v u Q I rx ry h hs
 obtain⟨z,i,c,rfl,rfl,hz,he,q⟩:=h
 obtain⟨t,rfl⟩:=rx
 obtain⟨t',rfl⟩:=ry
 obtain⟨j,h1,h2,h3,h4,h5⟩:=tw he
 have hl:z.cps.toList.length=z.length:=by simp[Str.length]
 rw[hl]at h1 h4 h5
 have hn:=nc
 exact tail_any (typeIs_str s z t) slot_str_getitem.lookup (getItem_str (c:=c) (by
  have e1:decide (i < -(2 ^ 63:Int))=false:=decide_eq_false (by lia)
  have e2:decide (i≥2 ^ 63)=false:=decide_eq_false (by lia)
  rw[e1,e2,HY]) (by rw[h1];simpa using h2) ⟨.str ⟨#[c]⟩,H,I.tok _,⟨_,rfl⟩,q⟩) hs
noncomputable def rIx(K:PySem.W.Frag):R2:=λx y H Q=>Qk K x y H Q\/Ql K x y H Q\/rIxS x y H Q
theorem Jl:IxR X (rIx X.K):=F0.or (Jj.or Jk)
theorem yb(its:List Value)(n j:Nat)(u:Value):Obj.mapSeq (·.setIfInBounds j u) {cls:=.type "list",data:=.seq its.toArray n}={cls:=.type "list",data:=.seq (its.set j u).toArray n}:=by
 simp[Obj.mapSeq]
theorem Inv.lst{pins:List (Addr×Obj)}{σ:St}{H:Hp}{s:Shared}{p:Addr}{xs:List V}(I:Inv X pins σ H s)(h:H p=some (.lst xs)) :
  ∃(its:List Value) (n:Nat),bc xs its/\s.heap.get? p=some {cls:=.type "list",data:=.seq its.toArray n}/\xs.length<=sizeLine:=by
 obtain⟨z,its,n,r,e⟩:=I.hok p _ h
 exact⟨its,n,r,e,z⟩
theorem Inv.lstUpd {pins:List (Addr×Obj)} {σ:St} {H:Hp} {s:Shared} {p:Addr} {xs ys:List V} {its its':List Value} {n n':Nat} {f:Obj->Obj} (I:Inv X pins σ H s) (h:H p=some (.lst xs))
  (ho:s.heap.get? p=some {cls:=.type "list",data:=.seq its.toArray n}) (hf:f {cls:=.type "list",data:=.seq its.toArray n}={cls:=.type "list",data:=.seq its'.toArray n'}) (r:bc ys its') (hz:ys.length<=sizeLine) (t:Nat) :
  Inv X pins σ (upd H p (.lst ys)) {s with heap:=s.heap.update p f,toks:=t}:=by
 have e:(s.heap.update p f).get? p=some {cls:=.type "list",data:=.seq its'.toArray n'}:=by
  rw[DB f ho (by rw[hf]<;>rfl),hf]
 refine I.write (x:=p) (e:=p) (by rw[h];trivial) (.inl rfl) (λb u hb q=>(GX _ _ (Ne.symm hb)).trans q) ⟨_,e⟩ ?_
 exact⟨hz,its',n',r,e⟩
noncomputable def rSetL:V->V->V->Hp->(Hp->Prop)->Prop:=λo i v H Q=>∃p xs k j,o=.ref p/\i=.int k/\H p=some (.lst xs)/\ixN xs.length k=some j/\Q (upd H p (.lst (xs.set j v)))
theorem set_list:L6 X rSetL:=by
 intro pins s σ H o i v ov iv u Q I ro ri rv h
 obtain⟨p,xs,k,j,rfl,rfl,hp,hj,q⟩:=h
 cases ro
 obtain⟨t,rfl⟩:=ri
 obtain⟨its,n,r,ho,hz⟩:=I.lst hp
 obtain⟨h1,h2,h3,h4⟩:=zr hj
 have hl:=r.length
 have hn:=nc
 have I':Inv X pins σ (upd H p (.lst (xs.set j v))) {s with heap:=s.heap.update p (Obj.mapSeq (·.setIfInBounds j u))} :=
  I.lstUpd hp ho (yb its n j u) (r.set rv j) (by rw[List.length_set];exact hz) s.toks
 by_cases h0:0<=k
 ·have hk:k.toNat=j:=by
   rw[seqIndex_of h0 h4]at h1
   exact BJ h1
  exact PySem.W.ki_setAt ho h0 (by lia) (by rw[AG,<-hl];exact h4) (by rw[hk];exact⟨_,I',q⟩)
 ·have hk:(k+(its.toArray.size:Int)).toNat=j:=by
   rw[seqIndex_neg (by lia) h3]at h1
   rw[AG,<-hl]
   exact BJ h1
  exact PySem.W.ki_setBack ho (by lia) (by rw[AG,<-hl];exact h3) (by lia) (by rw[hk];exact⟨_,I',q⟩)
theorem qh(lo hi:Option Int)(n:Nat):(sliceBounds lo hi none n).1=((HT.sIx n 0 lo:Nat):Int)/\(sliceBounds lo hi none n).2.1=((HT.sIx n n hi:Nat):Int)/\(sliceBounds lo hi none n).2.2=1:=by
 refine⟨?_,?_,rfl⟩
 ·cases lo with
  |none=>simp[sliceBounds,HT.sIx]
  |some i =>
   simp![sliceBounds,HT.sIx,Option.getD_none,show(1:Int) > 0 by decide,if_true]
   by_cases h:i<0
   ·simp![h,if_true]<;>lia
   ·simp![h,if_false]<;>lia
 ·cases hi with
  |none=>simp[sliceBounds,HT.sIx]
  |some i =>
   simp![sliceBounds,HT.sIx,Option.getD_none,show(1:Int) > 0 by decide,if_true]
   by_cases h:i<0
   ·simp![h,if_true]<;>lia
   ·simp![h,if_false]<;>lia
theorem og(its:List Value)(lo hi:Option Int):slicePick its.toArray lo hi none=((its.drop (HT.sIx its.length 0 lo)).take (HT.sIx its.length its.length hi-HT.sIx its.length 0 lo)).toArray:=by
 obtain⟨h1,h2,h3⟩:=qh lo hi its.toArray.size
 unfold slicePick
 rw[h1,h2,h3]
 simp![sliceRange_one,pick_run,AG]<;>rfl
noncomputable def S7(K:PySem.W.Frag):V->Option Int->Option Int->Hp->VK->Prop:=λx lo hi H Q=>∃a xs,x=.ref a/\SqL K H a xs/\∀p,H p=none->Q (.ref p) (upd H p (.lst (Eg xs lo hi)))
theorem F2:SlR X (S7 X.K):=by
 intro pins s σ H x v vl vu lo hi sl Q I rx hs pl pu h
 obtain⟨a,xs,rfl,hx,q⟩:=h
 cases rx
 obtain⟨its,r,ht,hz⟩:=I.list hx
 have hlen:=r.length
 refine⟨"list",_,slot_list_getitem.lookup,ht.isList.typeIs,?_⟩
 refine wpAny_getItem_list_slice ht.isList hs pl pu .none (by simp) ?_ (by rw[AG]<;>lia)
 rw[og,<-hlen]
 refine⟨.ref s.heap.objs.size,_,I.laid (t':=s.toks) (o:=.lst (Eg xs lo hi)) (λb ob q=>AB _ q) (AH _) ?_,rfl,q _ (I.hok.fresh (AH _))⟩
 exact⟨BQ (k7 xs lo hi) hz,_,0,(r.drop (HT.sIx xs.length 0 lo)).take (HT.sIx xs.length xs.length hi-HT.sIx xs.length 0 lo),AQ _ rfl⟩
noncomputable def k8:V->Bool
 |.non=>true
 |.bl _=>true
 |.int _=>true
 |.str _=>true
 |_=>false
noncomputable def eqV:V->V->Bool
 |.non,.non=>true
 |.bl a,.bl b=>a==b
 |.bl a,.int b=>(if a then 1 else 0)==b
 |.int a,.bl b=>a==(if b then 1 else 0)
 |.int a,.int b=>a==b
 |.str a,.str b=>a==b
 |_,_=>false
theorem Jm{A:Around}{s:Shared}{y x:V}{u v:Value}(ry:RelV y u)(rx:RelV x v)(fy:k8 y=true)(fx:k8 x=true):SeqAt.EqAt A s u v (eqV y x):=by
 cases y with
 |non =>
  cases ry
  cases x with
  |non=>cases rx;exact SeqAt.EqAt.same _
  |bl b=>cases rx;exact SeqAt.EqAt.none_bool b
  |int b=>obtain⟨t,rfl⟩:=rx;exact SeqAt.EqAt.none_int b t
  |str b=>obtain⟨t,rfl⟩:=rx;exact SeqAt.EqAt.none_str b t
  |_=>exact absurd (show false=true from fx) AV
 |bl a =>
  cases ry
  cases x with
  |non=>cases rx;exact SeqAt.EqAt.bool_none a
  |bl b=>cases rx;exact SeqAt.EqAt.bool_bool a b
  |int b=>obtain⟨t,rfl⟩:=rx;exact SeqAt.EqAt.bool_int a b t
  |str b=>obtain⟨t,rfl⟩:=rx;exact SeqAt.EqAt.bool_str a b t
  |_=>exact absurd (show false=true from fx) AV
 |int a =>
  obtain⟨t',rfl⟩:=ry
  cases x with
  |non=>cases rx;exact SeqAt.EqAt.int_none a t'
  |bl b=>cases rx;exact SeqAt.EqAt.int_bool a t' b
  |int b=>obtain⟨t,rfl⟩:=rx;exact Ix a t' b t
  |str b=>obtain⟨t,rfl⟩:=rx;exact HZ a t' b t
  |_=>exact absurd (show false=true from fx) AV
 |str a =>
  obtain⟨t',rfl⟩:=ry
  cases x with
  |non=>cases rx;exact SeqAt.EqAt.str_none a t'
  |bl b=>cases rx;exact SeqAt.EqAt.str_bool a t' b
  |int b=>obtain⟨t,rfl⟩:=rx;exact If a t' b t
  |str b=>obtain⟨t,rfl⟩:=rx;exact SeqAt.EqAt.str_str a t' b t
  |_=>exact absurd (show false=true from fx) AV
 |_=>exact absurd (show false=true from fy) AV
noncomputable def eqU(x:V)(u:Value):Bool:=match u with
 |.none=>eqV .non x
 |.bool b=>eqV (.bl b) x
 |.int i _=>eqV (.int i) x
 |.str z _=>eqV (.str z) x
 |_=>false
theorem zt{x y:V}{u:Value}(r:RelV y u)(f:k8 y=true):eqU x u=eqV y x:=by
 cases y with
 |non=>cases r;rfl
 |bl b=>cases r;rfl
 |int i=>obtain⟨t,rfl⟩:=r;rfl
 |str z=>obtain⟨t,rfl⟩:=r;rfl
 |_=>exact absurd (show false=true from f) AV
theorem k9{x:V}:∀{xs:List V} {us:List Value},bc xs us->xs.all k8=true->us.any (eqU x)=xs.any λy=>eqV y x
 |_,_,.nil,_=>rfl
 |y::xs,u::us,.cons r t,f=>by
  rw[BI,AT]at f
  rw[BU,BU,zt r f.1,k9 t f.2]
theorem iw{A:Around}{s:Shared}{x:V}{v:Value}(rx:RelV x v)(fx:k8 x=true):∀{xs:List V} {us:List Value},bc xs us->xs.all k8=true->∀u∈us,SeqAt.EqAt A s u v (eqU x u)
 |_,_,.nil,_=>λu hu=>by cases hu
 |y::xs,u::us,.cons r t,f=>λu' hu=>by
  rw[BI,AT]at f
  rcases AS.mp hu with rfl | hu
  ·rw[zt r f.1];exact Jm r rx f.1 fx
  ·exact iw rx fx t f.2 u' hu
noncomputable def inV(x:V)(xs:List V):Bool:=xs.any λy=>eqV y x
noncomputable def rIn(K:PySem.W.Frag)(neg:Bool):R2:=λx y H Q=>∃p xs,y=.ref p/\(SqL K H p xs\/SqT K H p xs)/\k8 x=true/\xs.all k8=true/\Q (.bl (if neg then !inV x xs else inV x xs)) H
theorem zu:OpR X (compareOp .In) (rIn X.K false):=by
 intro pins s σ H x y v u Q I rx ry h
 obtain⟨p,xs,rfl,hq,fx,fs,q⟩:=h
 cases ry
 rcases hq with hq | hq
 ·obtain⟨its,r,pl,hz⟩:=I.list hq
  refine SeqAt.in_listAt (eqU x) pl.isList (λw hw=>iw rx fx r fs w (by simpa using hw)) ⟨.bl _,H,I,rfl,?_⟩
  rw[show its.toArray.any (eqU x)=its.any (eqU x)by simp,k9 r fs]
  exact q
 ·obtain⟨its,r,pl,hz⟩:=I.tuple hq
  refine SeqAt.in_tupleAt (eqU x) pl (λw hw=>iw rx fx r fs w (by simpa using hw)) ⟨.bl _,H,I,rfl,?_⟩
  rw[show its.toArray.any (eqU x)=its.any (eqU x)by simp,k9 r fs]
  exact q
theorem qi:OpR X (compareOp .NotIn) (rIn X.K true):=by
 intro pins s σ H x y v u Q I rx ry h
 obtain⟨p,xs,rfl,hq,fx,fs,q⟩:=h
 cases ry
 rcases hq with hq | hq
 ·obtain⟨its,r,pl,hz⟩:=I.list hq
  refine SeqAt.notIn_listAt (eqU x) pl.isList (λw hw=>iw rx fx r fs w (by simpa using hw)) ⟨.bl _,H,I,rfl,?_⟩
  rw[show its.toArray.any (eqU x)=its.any (eqU x)by simp,k9 r fs]
  exact q
 ·obtain⟨its,r,pl,hz⟩:=I.tuple hq
  refine SeqAt.notIn_tupleAt (eqU x) pl (λw hw=>iw rx fx r fs w (by simpa using hw)) ⟨.bl _,H,I,rfl,?_⟩
  rw[show its.toArray.any (eqU x)=its.any (eqU x)by simp,k9 r fs]
  exact q
theorem qj:gr X (.builtin "len") (λxs H Q=>∃p ys,xs=[.ref p]/\(SqL X.K H p ys\/SqT X.K H p ys)/\Q (.int ys.length) H):=by
 intro pins s σ H xs us Q I r h
 obtain⟨p,ys,rfl,hq,q⟩:=h
 obtain⟨u,rfl,rx⟩:=vals1 r
 cases rx
 have hn:=nc
 rcases hq with hq | hq
 ·obtain⟨its,r',pl,hz⟩:=I.list hq
  have hlen:=r'.length
  exact Calls.call_len_list pl.isList (by simp![AG]<;>lia) ⟨.int ys.length,H,I.tok _,⟨s.toks+1,by rw[AG,hlen]⟩,q⟩
 ·obtain⟨its,r',pl,hz⟩:=I.tuple hq
  have hlen:=r'.length
  exact len_tuple pl (by simp![AG]<;>lia) ⟨.int ys.length,H,I.tok _,⟨s.toks+1,by rw[AG,hlen]⟩,q⟩
theorem oh:gr X (.type "tuple") (λxs H Q=>∃p ys,xs=[.ref p]/\((SqL X.K H p ys/\∀l,H l=none->Q (.ref l) (upd H l (.tup ys)))\/(SqT X.K H p ys/\Q (.ref p) H))):=by
 intro pins s σ H xs us Q I r h
 obtain⟨p,ys,rfl,h⟩:=h
 obtain⟨u,rfl,rx⟩:=vals1 r
 cases rx
 rcases h with⟨hq,q⟩ | ⟨hq,q⟩
 ·obtain⟨its,r',pl,hz⟩:=I.list hq
  have hlen:=r'.length
  refine call_tuple_list pl.isList (λh' kp=>?_) (by simp![AG]<;>lia)
  have I1:Inv X pins σ H {s with heap:=h'}:=I.kept (t':=s.toks) kp
  have I2:Inv X pins σ (upd H h'.objs.size (.tup ys)) {s with heap:=h'.push {cls:=.type "tuple",data:=.seq its.toArray}} :=
   I1.laid (t':=s.toks) (λb o e=>AB _ e) (AH _) (show eg X.prog X.w _ _ _ (.tup ys)from⟨hz,its,r',ke.new _ _⟩)
  exact⟨.ref h'.objs.size,_,I2,rfl,q _ (I1.hok.fresh (AH _))⟩
 ·obtain⟨its,r',pl,hz⟩:=I.tuple hq
  exact call_tuple_same pl ⟨.ref p,H,I,rfl,q⟩
noncomputable def tyV(K:PySem.W.Frag)(T:String)(x:V)(H:Hp):Prop:=match x with
 |.str _=>T="str"
 |.int _=>T="int"
 |.ref p=>(T="list"/\∃xs,SqL K H p xs)\/(T="tuple"/\∃o,K.lookup p=some o/\o.cls=.type "tuple"/\o.dict=none) \/
   (T="dict"/\((∃kvs,H p=some (.dK kvs))\/∃kvs,H p=some (.dT kvs)))\/(T="set"/\∃S n,H p=some (.set S n))
 |_=>False
theorem Jn{pins:List (Addr×Obj)}{σ:St}{H:Hp}{s:Shared}{T:String}{x:V}{v:Value}(I:Inv X pins σ H s)(r:RelV x v)(ty:tyV X.K T x H) :
  s.TypeIs v T/\∀a,v=.ref a->∃ob,s.heap.get? a=some ob/\ob.dict=none:=by
 cases x with
 |str z =>
  obtain⟨t,rfl⟩:=r
  cases(show T="str" from ty)
  exact⟨typeIs_str s z t,λ_ e=>nomatch e⟩
 |int i =>
  obtain⟨t,rfl⟩:=r
  cases(show T="int" from ty)
  exact⟨typeIs_int s i t,λ_ e=>nomatch e⟩
 |ref p =>
  cases r
  rcases ty with⟨rfl,xs,hq⟩ | ⟨rfl,o,hk,hc,hd⟩ | ⟨rfl,hk⟩ | ⟨rfl,S,n,hk⟩
  ·obtain⟨its,_,pl,_⟩:=I.list hq
   refine⟨pl.isList.typeIs,λa e=>?_⟩
   cases e
   obtain⟨o,n,e,c,hd,_⟩:=pl
   exact⟨o,e,hd⟩
  ·refine⟨⟨o,I.kIn p o hk,hc⟩,λa e=>?_⟩
   cases e
   exact⟨o,I.kIn _ o hk,hd⟩
  ·have z:∃o,s.heap.get? p=some o/\o.ExactDict:=by
    rcases hk with⟨kvs,hk⟩ | ⟨kvs,hk⟩
    ·obtain⟨_,_,_,_,o,_,_,e,ex,_⟩:=I.hok p _ hk
     exact⟨o,e,ex⟩
    ·obtain⟨_,_,_,_,o,_,_,e,ex,_⟩:=I.hok p _ hk
     exact⟨o,e,ex⟩
   obtain⟨o,e,ex⟩:=z
   refine⟨⟨o,e,ex.1⟩,λa e2=>?_⟩
   cases e2
   exact⟨o,e,ex.2.1⟩
  ·obtain⟨o,_,_,_,e,ex,_⟩:=I.hok p _ hk
   refine⟨⟨o,e,ex.1⟩,λa e2=>?_⟩
   cases e2
   exact⟨o,e,ex.2.1⟩
 |_=>exact False.elim ty
noncomputable def tBM(K:PySem.W.Frag)(T:String)(r:V->List V->Hp->VK->Prop)(to:TE)(t:TA):TE:=λσ H Q=>to σ H λx H1=>tyV K T x H1/\t σ H1 λxs H2=>r x xs H2 Q
variable{o e:Expr}{es:List Expr}{to:TE}{t:TA}{name:Str}{apos cpos:Pos}{T id:String}{r:V -> List V -> Hp -> VK -> Prop}
theorem F3 (pa:PlainAttrs T) (slot:Slot T name id) (hty:typeOf (.builtin id)=pure (.type "method_descriptor")) (hm:MtR X id r) (ho:PE X o to) (ha:PA X (e::es) t)
  (hbase:attributeBase o name X.env (eval o X.env)=eval o X.env:=by rfl)
  (hfew:((backTo cpos (starEach (e::es) X.env)).all (λx=>!x.1)&&(backToKw cpos (keywordEach [] X.env)).all (λx=>x.1.isSome)
   && decide ((e::es).length+([]:List Keyword).length+(if([]:List Keyword).isEmpty then 0 else 1)<30))=true:=by rfl)
  (hline:(apos.endLine==cpos.line)=true:=by rfl) (hs:starEach (e::es) X.env=(false,eval e X.env)::starEach es X.env:=by rfl) (hplain:(backTo cpos (starEach es X.env)).any (·.1)=false:=by rfl) :
  PE X (.Call (.Attribute o name apos) (e::es) [] cpos) (tBM X.K T r to t):=by
 intro pins s σ H Q I h
 refine wpAny_Call_method_late hbase hfew hline rfl (thn (ho pins s σ H _ I h) λv s1 ⟨x,H1,I1,r1,ty,q1⟩=>?_)
 obtain⟨h1,h2⟩:=Jn I1 r1 ty
 refine⟨T,id,pa,slot,hty,h1,h2,?_⟩
 have hA:=ha cpos pins s1 σ H1 _ I1 q1
 rw[hs]at hA ⊢
 refine GY (by show(false || (backTo cpos (starEach es X.env)).any (·.1))=false;rw[hplain]<;>rfl) (HV ?_)
 exact thn hA λus s2 ⟨vs,H2,I2,r2,q2⟩=>hm pins s2 σ H2 x vs v us Q I2 r1 r2 q2
end
noncomputable def MtM(X:Cx)(id:String)(r:V->List V->Hp->VK->Prop):Prop :=
 ∀(pins:List (Addr×Obj)) (s:Shared) (σ:St) (H:Hp) (x:V) (xs:List V) (v:Value) (us:List Value) (Q:VK),Inv X pins σ H s->RelV x v->bc xs us->r x xs H Q ->
  wpAny (model X.prog X.w) X.A (call (.builtin id) (v::us)) (EP X pins σ Q) X.xe s
theorem bc.one:∀{x:V} {us:List Value},bc [x] us->∃u,us=[u]/\RelV x u
 |_,_,.cons r .nil=>⟨_,rfl,r⟩
theorem bc.rep{xs:List V}{us:List Value}(h:bc xs us):∀k:Nat,bc (List.replicate k xs).flatten (List.replicate k us).flatten
 |0=>.nil
 |k+1=>by
  rw[CQ,CQ,EA,EA]
  exact bc.append h (bc.rep h k)
theorem foldl_rep(its:List Value):∀(k:Nat) (acc:List Value),
  List.foldl (λx1 x2=>x1++x2) acc.toArray (List.replicate k its.toArray)=(acc++(List.replicate k its).flatten).toArray
 |0,acc=>by simp
 |k+1,acc=>by
  have e:acc.toArray++its.toArray=(acc++its).toArray:=by simp
  have e2:(acc++its)++(List.replicate k its).flatten=acc++(List.replicate (k+1) its).flatten:=by
   rw[CQ,EA,GC]
  rw[<-e2,<-foldl_rep its k (acc++its),<-e,CQ,EL]
section
variable{X:Cx}{pins:List (Addr × Obj)}{σ:St}{H:Hp}{s:Shared}{l b:Addr}{xs ys zs:List V}
theorem Inv.lset {its its':List Value} {n:Nat} {f:Array Value->Array Value} {t':Nat} (I:Inv X pins σ H s) (hH:H l=some (.lst xs))
  (e:s.heap.get? l=some {cls:=.type "list",data:=.seq its.toArray n}) (hf:f its.toArray=its'.toArray) (hv:bc ys its') (hz:ys.length<=sizeLine) :
  Inv X pins σ (upd H l (.lst ys)) {s with heap:=s.heap.update l (Obj.mapSeq f),toks:=t'}:=by
 have q:=PySem.IsL.update e f
 rw[hf]at q
 refine I.write (x:=l) (e:=l) (by rw[hH];exact trivial) (.inl rfl) (λb' u hb hu=>(GX s.heap (Obj.mapSeq f) (Ne.symm hb)).trans hu) ⟨_,q⟩ ?_
 exact⟨hz,its',_,hv,q⟩
theorem Inv.lnew{its:List Value}{t':Nat}(I:Inv X pins σ H s)(hv:bc ys its)(hz:ys.length<=sizeLine) :
  Inv X pins σ (upd H s.heap.objs.size (.lst ys)) {s with heap:=s.heap.push {cls:=.type "list",data:=.seq its.toArray},toks:=t'} :=
 I.laid (λ_ _ q=>AB _ q) (AH _) ⟨hz,its,0,hv,AQ _ rfl⟩
theorem Inv.fresh(I:Inv X pins σ H s):H s.heap.objs.size=none:=I.hok.fresh (AH _)
theorem Inv.lstM(I:Inv X pins σ H s)(hH:H l=some (.lst xs)):xs.length<=sizeLine/\∃(its:List Value) (n:Nat),bc xs its/\xs.length=its.length/\s.heap.get? l=some {cls:=.type "list",data:=.seq its.toArray n}:=by
 obtain⟨z,its,n,r,e⟩:=I.hok l _ hH
 exact⟨z,its,n,r,r.length,e⟩
theorem vi{n:Nat}(h:n<=sizeLine):Builtin.List.listTooLong n=false:=by
 unfold Builtin.List.listTooLong
 exact decide_eq_false (by lia)
end
section
variable{X:Cx}
noncomputable def rAppend:V->List V->Hp->VK->Prop:=λx vs H Q=>∃l xs y,x=.ref l/\vs=[y]/\H l=some (.lst xs)/\xs.length<sizeLine/\Q .non (upd H l (.lst (xs++[y])))
theorem zw:MtM X "list.append" rAppend:=by
 intro pins s σ H x vs v us Q I rx rv h
 obtain⟨l,xs,y,rfl,rfl,hH,hz,q⟩:=h
 cases rx
 obtain⟨u,rfl,ru⟩:=rv.one
 obtain⟨z,its,n,r,hl,e⟩:=I.lstM hH
 refine GZ F.slot_list_append ⟨_,e,rfl⟩ F.entry_list_append (F.args_list_append_2 _ _) (PySem.list_append l its.toArray n u (by rw[AG];lia)) ⟨e,?_⟩
 refine⟨.non,_,I.lset (its':=its++[u]) hH e (by simp) (r.append (.cons ru .nil)) ?_,rfl,q⟩
 rw[AX,DW]
 lia
theorem len_rep{α:Type}(xs:List α)(k:Nat):(List.replicate k xs).flatten.length=k*xs.length:=by
 induction k with
 |zero=>simp
 |succ k ih=>rw[CQ,EA,AX,ih,Nat.succ_mul,Nat.add_comm]
end
section
variable{κ:Type}[DecidableEq κ]
noncomputable def t8(kvs:List (κ×V))(k:κ):Option V:=(kvs.find? λkv=>decide (kv.1=k)).map (·.2)
noncomputable def putK(kvs:List (κ×V))(k:κ)(v:V):List (κ×V) :=
 if(kvs.any λkv=>decide (kv.1=k))=true then kvs.map (λkv=>if kv.1=k then(kv.1,v)else kv)else kvs++[(k,v)]
theorem jf{p:κ×V}{r:List (κ×V)}{k:κ}(e:p.1=k):t8 (p::r) k=some p.2:=by simp[t8,DS,e]
theorem jg{p:κ×V}{r:List (κ×V)}{k:κ}(e:¬p.1=k):t8 (p::r) k=t8 r k:=by simp[t8,DS,e]
theorem vj(k:κ):∀kvs:List (κ×V),(kvs.any λkv=>decide (kv.1=k))=(t8 kvs k).isSome
 | []=>rfl
 |p::r=>by
  rw[BU]
  by_cases e:p.1=k
  ·simp![jf e,decide_eq_true e,Bool.true_or,Option.isSome_some]
  ·rw[jg e,decide_eq_false e,Bool.false_or];exact vj k r
theorem lg(kvs:List (κ×V))(k:κ)(v:V):(putK kvs k v).length<=kvs.length+1:=by
 unfold putK
 split
 ·rw[AJ];lia
 ·rw[AX,AU,BK];lia
theorem Ed.isSome_eq{o:Option V}{u:Option Value}(r:Ed o u):o.isSome=u.isSome:=by
 cases o with
 |none=>cases u with
  |none=>rfl
  |some _=>exact(show False from r).elim
 |some _=>cases u with
  |none=>exact(show False from r).elim
  |some _=>rfl
theorem Ed.getD{o:Option V}{u:Option Value}{d:V}{d':Value}(r:Ed o u)(rd:RelV d d'):RelV (o.getD d) (u.getD d'):=by
 cases o with
 |none=>cases u with
  |none=>exact rd
  |some _=>exact(show False from r).elim
 |some _=>cases u with
  |none=>exact(show False from r).elim
  |some _=>exact r
theorem KV.val{kvs:List (κ×V)}{vs:List (κ×Value)}(r:KV kvs vs)(k:κ):Ed (t8 kvs k) (valueAt vs k):=by
 unfold KV at r
 induction r with
 |nil=>exact True.intro
 | @cons p q ps qs h t ih =>
  obtain⟨h1,h2⟩:=h
  by_cases e:p.1=k
  ·have e':q.1=k:=h1.symm.trans e
   have b:valueAt (q::qs) k=some q.2:=by simp[valueAt,DS,e']
   rw[jf e,b];exact h2
  ·have e':¬q.1=k:=λz=>e (h1.trans z)
   have b:valueAt (q::qs) k=valueAt qs k:=by simp[valueAt,DS,e']
   rw[jg e,b];exact ih
theorem KV.any{kvs:List (κ×V)}{vs:List (κ×Value)}(r:KV kvs vs)(k:κ):(kvs.any λkv=>decide (kv.1=k))=vs.any λkv=>decide (kv.1=k):=by
 unfold KV at r
 induction r with
 |nil=>rfl
 |cons h t ih=>rw[BU,BU,ih,h.1]
theorem KV.repl{kvs:List (κ×V)}{vs:List (κ×Value)}(r:KV kvs vs)(k:κ){y:V}{u:Value}(ry:RelV y u) :
  KV (kvs.map λkv=>if kv.1=k then(kv.1,y)else kv) (vs.map λkv=>if kv.1=k then(kv.1,u)else kv):=by
 unfold KV at r ⊢
 induction r with
 |nil=>exact .nil
 | @cons p q ps qs h t ih =>
  rw[AL,AL]
  refine .cons ?_ ih
  obtain⟨h1,h2⟩:=h
  by_cases e:p.1=k
  ·rw[if_pos e,if_pos (h1.symm.trans e)];exact⟨h1,ry⟩
  ·rw[if_neg e,if_neg (λz=>e (h1.trans z))];exact⟨h1,h2⟩
theorem KV.put{kvs:List (κ×V)}{vs:List (κ×Value)}(r:KV kvs vs)(k:κ){y:V}{u:Value}(ry:RelV y u):KV (putK kvs k y) (stored vs k u):=by
 unfold putK stored
 rw[r.any k]
 by_cases e:(vs.any λkv=>decide (kv.1=k))=true
 ·rw[if_pos e,if_pos e];exact r.repl k ry
 ·rw[if_neg e,if_neg e];exact Paired.snoc r ⟨rfl,ry⟩
theorem KV.length{kvs:List (κ×V)}{vs:List (κ×Value)}(r:KV kvs vs):kvs.length=vs.length:=DH r
end
theorem zx{P:Program}{w:World}{k:Key}{u:Value}(r:RelV (kV k) u):(bw P w).is k u=true:=by
 cases k with
 |inl i=>obtain⟨t,e⟩:=(show ∃t,u=Value.int i t from r);subst e;exact tm P w i t
 |inr x=>obtain⟨t,e⟩:=(show ∃t,u=Value.str x t from r);subst e;exact tq P w x t
theorem qk{P:Program}{w:World}:∀{ks:List Key} {us:List Value},bc (ks.map kV) us->ItemsAre (bw P w) ks us
 | [],_,r=>by rw[CL]at r;cases r;exact .nil
 |k::ks,_,r=>by
  rw[AL]at r
  cases r with
  |cons h t=>exact .cons (zx h) (qk t)
noncomputable abbrev KT(H:Hp):List (List Key×V)->List (List Key×Addr×Value)->Prop:=Paired λp q=>p.1=q.1/\H q.2.1=some (.tup (p.1.map kV))/\RelV p.2 q.2.2
theorem KT.val{H:Hp}{kvs:List (List Key×V)}{xs:List (List Key×Addr×Value)}(r:KT H kvs xs)(k:List Key):Ed (t8 kvs k) ((atKey xs k).map (·.2)):=by
 induction r with
 |nil=>exact True.intro
 | @cons p q ps qs h t ih =>
  obtain⟨h1,_,h2⟩:=h
  by_cases e:p.1=k
  ·have e':q.1=k:=h1.symm.trans e
   have b:atKey (q::qs) k=some q.2:=by simp[atKey,DS,e']
   rw[jf e,b];exact h2
  ·have e':¬q.1=k:=λz=>e (h1.trans z)
   have b:atKey (q::qs) k=atKey qs k:=by simp[atKey,DS,e']
   rw[jg e,b];exact ih
theorem KT.repl{H:Hp}{kvs:List (List Key×V)}{xs:List (List Key×Addr×Value)}(r:KT H kvs xs)(k:List Key){y:V}{u:Value}(ry:RelV y u) :
  KT H (kvs.map λkv=>if kv.1=k then(kv.1,y)else kv) (xs.map (putAt k u)):=by
 induction r with
 |nil=>exact .nil
 | @cons p q ps qs h t ih =>
  rw[AL,AL]
  refine .cons ?_ ih
  obtain⟨h1,h2,h3⟩:=h
  unfold putAt
  by_cases e:p.1=k
  ·rw[if_pos e,if_pos (h1.symm.trans e)];exact⟨h1,h2,ry⟩
  ·rw[if_neg e,if_neg (λz=>e (h1.trans z))];exact⟨h1,h2,h3⟩
theorem KT.put{H:Hp}{kvs:List (List Key×V)}{xs:List (List Key×Addr×Value)}(r:KT H kvs xs)(k:List Key){b:Addr}{y:V}{u:Value}(hb:H b=some (.tup (k.map kV)))(ry:RelV y u) :
  KT H (putK kvs k y) (storedH xs k b u):=by
 have e:(kvs.any λkv=>decide (kv.1=k))=(atKey xs k).isSome:=by
  rw[vj,(r.val k).isSome_eq,GD]
 unfold putK storedH
 rw[e]
 by_cases q:(atKey xs k).isSome=true
 ·rw[if_pos q,if_pos q];exact r.repl k ry
 ·rw[if_neg q,if_neg q];exact Paired.snoc r ⟨rfl,hb,ry⟩
theorem KT.keeps{H H':Hp}{kvs:List (List Key×V)}{xs:List (List Key×Addr×Value)}(r:KT H kvs xs)(ht:∀b ys,H b=some (.tup ys)->H' b=some (.tup ys)):KT H' kvs xs :=
 Paired.mapP r λ_ _ z=>⟨z.1,ht _ _ z.2.1,z.2.2⟩
section
variable{P:Program}{w:World}{H:Hp}{h:Heap}{a:Addr}
theorem Jo{u:HO}(ok:HOk P w H h)(e:Rd H a u):eg P w H h a u:=e.ok ok
theorem zy{kvs:List (Key×V)}(ok:HOk P w H h)(e:Rd H a (.dK kvs)):kvs.length<=sizeLine/\(a==sysModules)=false/\∃vs,KV kvs vs/\h.DictOf (bw P w) a vs :=
 show eg P w H h a (.dK kvs)from Jo ok e
theorem Nh{kvs:List (Key×V)}(ok:HOk P w H h)(e:H a=some (.dK kvs)):kvs.length<=sizeLine/\(a==sysModules)=false/\∃vs,KV kvs vs/\h.DictOf (bw P w) a vs:=zy ok (.inl e)
theorem qm{ks:List Key}(ok:HOk P w H h)(e:H a=some (.tup (ks.map kV))):(tupleKind (bw P w)).is h ks a:=by
 obtain⟨_,its,r,o,h1,h2,_,n,h3⟩:=(show eg P w H h a (.tup (ks.map kV))from ok a _ e)
 exact⟨o,its.toArray,n,h1,h2,h3,by simpa using qk r⟩
theorem z0{kvs:List (List Key×V)}(ok:HOk P w H h)(e:Rd H a (.dT kvs)):kvs.length<=sizeLine/\(a==sysModules)=false /\
  ∃xs,KT H kvs xs/\h.DictOfH (tupleKind (bw P w)) a xs:=by
 obtain⟨z,y,xs,r,o,es,ep,h1,h2,h3,h4,h5⟩:=(show eg P w H h a (.dT kvs)from Jo ok e)
 refine⟨z,y,xs,r,o,es,ep,h1,h2,h3,h4,λx hx=>?_,h5⟩
 have all:∀{l:List (List Key×V)} {m:List (List Key×Addr×Value)},KT H l m->∀x∈m,(tupleKind (bw P w)).is h x.1 x.2.1:=by
  intro l m q
  induction q with
  |nil=>intro x hx;exact nomatch hx
  | @cons p q ps qs hq t ih =>
   intro x hx
   rcases AS.mp hx with e | hx
   ·subst e
    exact qm ok (by rw[<-hq.1];exact hq.2.1)
   ·exact ih x hx
 exact all r x hx
theorem Ni{kvs:List (List Key×V)}(ok:HOk P w H h)(e:H a=some (.dT kvs)):kvs.length<=sizeLine/\(a==sysModules)=false /\
  ∃xs,KT H kvs xs/\h.DictOfH (tupleKind (bw P w)) a xs:=z0 ok (.inl e)
end
noncomputable def Hu(H:Hp)(a:Addr)(y:V)(r:Option V):Prop :=
 (∃kvs k,Rd H a (.dK kvs)/\y=kV k/\r=t8 kvs k)\/∃kvs k b,Rd H a (.dT kvs)/\y=.ref b/\H b=some (.tup (k.map kV))/\r=t8 kvs k
noncomputable def Hv(H:Hp)(a:Addr)(y v:V)(H':Hp):Prop :=
 (∃kvs k,H a=some (.dK kvs)/\y=kV k/\kvs.length<sizeLine/\H'=upd H a (.dK (putK kvs k v))) \/
 ∃kvs k b,H a=some (.dT kvs)/\y=.ref b/\H b=some (.tup (k.map kV))/\kvs.length<sizeLine/\H'=upd H a (.dT (putK kvs k v))
theorem Hv.k{H:Hp}{a:Addr}{kvs:List (Key×V)}{k:Key}{v:V}(e:H a=some (.dK kvs))(hl:kvs.length<sizeLine):Hv H a (kV k) v (upd H a (.dK (putK kvs k v))):=.inl ⟨kvs,k,e,rfl,hl,rfl⟩
section
variable{X:Cx}{pins:List (Addr × Obj)}{σ:St}{H:Hp}{s:Shared}{a:Addr}{y v:V}{u r:Value}{o:Option V}{A:Around}{E:Value -> Shared -> Prop}
theorem Inv.big(I:Inv X pins σ H s):sysModules<s.heap.objs.size:=by
 have h:mainGlobals<s.heap.objs.size:=(I.mod.glob.keeps I.bk).lt
 exact Nat.lt_trans (by decide) h
theorem S8{Q:Value->Shared->Prop}(hu:A.units+1<cLine)(I:Inv X pins σ H s)(g:Hu H a y o)(ry:RelV y u)(h:∀s',Inv X pins σ H s'->Q (.bool o.isSome) s') :
  wpAny (model X.prog X.w) A (compareOp .In u (.ref a)) Q E s:=by
 rcases g with⟨kvs,k,e,ey,l⟩ | ⟨kvs,k,b,e,ey,eb,l⟩
 ·subst ey
  obtain⟨z,hd,vs,rel,dd⟩:=zy I.hok e
  refine wpAny_in_of (zx ry) hd dd.mapOf ?_
  rw[<-(rel.val k).isSome_eq,<-l]
  exact h _ (I.tok _)
 ·subst ey
  cases(show u=Value.ref b from ry)
  obtain⟨z,hd,xs,rel,dd⟩:=z0 I.hok e
  refine wpAny_in_heap (EN hu) (qm I.hok eb) hd dd ?_
  have q:=(rel.val k).isSome_eq
  rw[GD]at q
  rw[<-q,<-l]
  exact h _ (I.tok _)
theorem z4{Q:Value->Shared->Prop}(hu:A.units+1<cLine)(I:Inv X pins σ H s)(g:Hu H a y o)(ry:RelV y u)(h:∀s',Inv X pins σ H s'->Q (.bool (!o.isSome)) s') :
  wpAny (model X.prog X.w) A (compareOp .NotIn u (.ref a)) Q E s:=by
 rcases g with⟨kvs,k,e,ey,l⟩ | ⟨kvs,k,b,e,ey,eb,l⟩
 ·subst ey
  obtain⟨z,hd,vs,rel,dd⟩:=zy I.hok e
  refine wpAny_notIn_of (zx ry) hd dd.mapOf ?_
  rw[<-(rel.val k).isSome_eq,<-l]
  exact h _ (I.tok _)
 ·subst ey
  cases(show u=Value.ref b from ry)
  obtain⟨z,hd,xs,rel,dd⟩:=z0 I.hok e
  refine wpAny_notIn_heap (EN hu) (qm I.hok eb) hd dd ?_
  have q:=(rel.val k).isSome_eq
  rw[GD]at q
  rw[<-q,<-l]
  exact h _ (I.tok _)
theorem z5{h':Heap}{t':Nat}{ob:HO}(I:Inv X pins σ H s)(mu:Mut (H a))(hs:Heap.SameBut a s.heap h')(he:∃q,h'.get? a=some q)(new:eg X.prog X.w (upd H a ob) h' a ob) :
  Inv X pins σ (upd H a ob) {s with heap:=h',toks:=t'} :=
 I.write (x:=a) (e:=a) mu (.inl rfl) (λb q hb z=>(hs.2 b hb).trans z) he new
theorem Jp{P:Program}{w:World}{H':Hp}{h':Heap}{kvs:List (Key×V)}{vs:List (Key×Value)}(z:kvs.length<=sizeLine)(hd:(a==sysModules)=false)(rel:KV kvs vs)(dd:h'.DictOf (bw P w) a vs) :
  eg P w H' h' a (.dK kvs):=⟨z,hd,vs,rel,dd⟩
theorem lh{H':Hp}{Q:Unit->Shared->Prop}(hu:A.units+1<cLine)(I:Inv X pins σ H s)(g:Hv H a y v H')(ry:RelV y u)(rv:RelV v r)(h:∀s',Inv X pins σ H' s'->Q () s') :
  wpAny (model X.prog X.w) A (setItem (.ref a) u r) Q E s:=by
 rcases g with⟨kvs,k,e,ey,l,eH⟩ | ⟨kvs,k,b,e,ey,eb,l,eH⟩
 ·subst ey eH
  obtain⟨z,hd,vs,rel,dd⟩:=Nh I.hok e
  have hz:vs.length<=sizeLine:=by rw[<-rel.length];exact z
  have hl:(putK kvs k v).length<=sizeLine:=by have:=lg kvs k v;lia
  refine wpAny_setItem_pairs (hsz:=hz) (zx ry) dd λh' dd' hs=>h _ ?_
  have he:∃q,h'.get? a=some q:=let ⟨q,_,_,hq,_⟩:=dd';⟨q,hq⟩
  exact z5 I (by rw[e];exact True.intro) hs he (Jp hl hd (rel.put k rv) dd')
 ·subst ey eH
  cases(show u=Value.ref b from ry)
  obtain⟨z,hd,xs,rel,dd⟩:=Ni I.hok e
  have hz:xs.length<=sizeLine:=by rw[<-DH rel];exact z
  have hl:(putK kvs k v).length<=sizeLine:=by have:=lg kvs k v;lia
  refine wpAny_setItem_heap (hsz:=hz) (EN hu) (qm I.hok eb) dd λh' dd' hs=>h _ ?_
  obtain⟨q,es,ep,hq,h2,h3,h4,_,h5⟩:=dd'
  refine z5 I (by rw[e];exact True.intro) hs ⟨q,hq⟩ ⟨hl,hd,_,(rel.put k eb rv).keeps λc ys ec=>?_,q,es,ep,hq,h2,h3,h4,h5⟩
  rw[ai (ki ec e (λz=>nomatch z))]
  exact ec
end
noncomputable def z6(ty td:TE):TE:=λσ H Q=>ty σ H λy H1=>td σ H1 λx H2=>∃a o,x=.ref a/\Hu H2 a y o/\Q (.bl (!o.isSome)) H2
noncomputable def Nj(td ty tv:TE):TS:=λD σ H=>tv σ H λv H1=>td σ H1 λx H2=>ty σ H2 λy H3=>∃a H4,x=.ref a/\Hv H3 a y v H4/\D.nx σ H4
section
variable{X:Cx}{o i e value:Expr}{pos pos' tpos:Pos}{td ty tv:TE}
theorem z7(hu:X.A.units+1<cLine)(hi:PE X i ty)(ho:PE X o td):PC X .NotIn i o (z6 ty td):=by
 intro pins s σ H Q I h
 refine thn (hi pins s σ H _ I h) λiv s1 ⟨y,H1,I1,ry,q1⟩=>thn (ho pins s1 σ H1 _ I1 q1) λu s2 ⟨x,H2,I2,rx,a,ov,ex,g,q2⟩=>?_
 subst ex
 obtain rfl:u=Value.ref a:=rx
 exact z4 hu I2 g ry λs3 I3=>⟨.bl (!ov.isSome),H2,I3,rfl,q2⟩
theorem F4(hu:X.A.units+1<cLine)(ho:PE X o td)(hi:PE X i ty)(hv:PE X value tv)(hs:swapsWith value (some (.Subscript o i pos')) pos.line X.env=pure false) :
  PS X (.Assign [.Subscript o i pos'] value pos) (Nj td ty tv):=by
 intro pins s σ H D I h
 refine wpAny_Assign_Subscript (thn (hv pins s σ H _ I h) λr s1 ⟨v,H1,I1,rv,q1⟩=>thn (ho pins s1 σ H1 _ I1 q1) λu s2 ⟨x,H2,I2,rx,q2⟩=>thn (hi pins s2 σ H2 _ I2 q2) λiv s3 ⟨y,H3,I3,ry,a,H4,ex,g,q3⟩=>?_) hs
 subst ex
 obtain rfl:u=Value.ref a:=rx
 exact lh hu I3 g ry rv λs4 I4=>⟨σ,H4,I4,q3⟩
end
theorem Co{P:Program}{w:World}{H:Hp}(h:Heap)(hb:sysModules<h.objs.size):eg P w H (h.push {cls:=.type "dict",data:=.dict #[]}) h.objs.size (.dK []) :=
 ⟨BW _,beq_eq_false_iff_ne.mpr (Ne.symm (AR hb)),[],.nil,Heap.DictOf.new h⟩
theorem Cq{P:Program}{w:World}{H:Hp}(h:Heap)(hb:sysModules<h.objs.size):eg P w H (h.push {cls:=.type "dict",data:=.dict #[]}) h.objs.size (.dT []) :=
 ⟨BW _,beq_eq_false_iff_ne.mpr (Ne.symm (AR hb)),[],.nil,_,#[],0,AQ _ rfl,⟨rfl,rfl,rfl⟩,rfl,rfl,List.nodup_nil⟩
noncomputable def tDNewK:TE:=λ_ H Q=>∀p,H p=none->Q (.ref p) (upd H p (.dK []))
noncomputable def tDNewT:TE:=λ_ H Q=>∀p,H p=none->Q (.ref p) (upd H p (.dT []))
section
variable{X:Cx}{pos:Pos}
theorem Cr:PE X (.Dict [] [] pos) tDNewK:=λpins s σ H Q I h =>
 wpAny_Dict_empty ⟨.ref s.heap.objs.size,_,I.laid (a:=s.heap.objs.size) (o:=.dK []) (t':=s.toks) (λ_ _ q=>AB _ q) (AH _) (Co s.heap I.big),rfl,h _ (I.hok.fresh (AH _))⟩
theorem Cs:PE X (.Dict [] [] pos) tDNewT:=λpins s σ H Q I h =>
 wpAny_Dict_empty ⟨.ref s.heap.objs.size,_,I.laid (a:=s.heap.objs.size) (o:=.dT []) (t':=s.toks) (λ_ _ q=>AB _ q) (AH _) (Cq s.heap I.big),rfl,h _ (I.hok.fresh (AH _))⟩
end
structure M2 (X:Cx) (o:Expr) (m:Str) (apos:Pos) (e f:Expr) (cpos:Pos):Prop where
 base:attributeBase o m X.env (eval o X.env)=eval o X.env
 few:((backTo cpos (starEach [e,f] X.env)).all (λx=>!x.1)&&(backToKw cpos (keywordEach [] X.env)).all (λx=>x.1.isSome)
  && decide (([e,f]:List Expr).length+([]:List Keyword).length+(if([]:List Keyword).isEmpty then 0 else 1)<30))=true
 line:(apos.endLine==cpos.line)=true
 trees:backTo cpos (starEach [e,f] X.env)=[(false,eval e X.env),(false,eval f X.env)]
noncomputable def IsD(H:Hp)(a:Addr):Prop:=(∃kvs,Rd H a (.dK kvs))\/∃kvs,Rd H a (.dT kvs)
theorem Jq{X:Cx}{pins:List (Addr×Obj)}{σ:St}{H:Hp}{s:Shared}{a:Addr}(I:Inv X pins σ H s)(d:IsD H a) :
  s.TypeIs (.ref a) "dict"/\(∀b,Value.ref a=.ref b->∃ob,s.heap.get? b=some ob/\ob.dict=none)/\(a==sysModules)=false:=by
 rcases d with⟨kvs,e⟩ | ⟨kvs,e⟩
 ·obtain⟨_,hd,vs,_,dd⟩:=zy I.hok e
  refine⟨dd.typeIs,λb q=>?_,hd⟩
  cases q
  obtain⟨ob,_,_,h1,h2,_⟩:=dd
  exact⟨ob,h1,h2.2.1⟩
 ·obtain⟨_,hd,xs,_,dd⟩:=z0 I.hok e
  refine⟨dd.typeIs,λb q=>?_,hd⟩
  cases q
  obtain⟨ob,_,_,h1,h2,_⟩:=dd
  exact⟨ob,h1,h2.2.1⟩
section
variable{X:Cx}{pins:List (Addr × Obj)}{σ:St}{H:Hp}{s:Shared}{a:Addr}{y d:V}{u r:Value}{o:Option V}{A:Around}{E:Value -> Shared -> Prop}
theorem Jr{Q:Value->Shared->Prop}(hu:A.units+1<cLine)(I:Inv X pins σ H s)(g:Hu H a y o)(ry:RelV y u)(rd:RelV d r)(h:∀w' s',Inv X pins σ H s'->RelV (o.getD d) w'->Q w' s') :
  wpAny (model X.prog X.w) A (call (.builtin "dict.get") [.ref a,u,r]) Q E s:=by
 rcases g with⟨kvs,k,e,ey,l⟩ | ⟨kvs,k,b,e,ey,eb,l⟩
 ·subst ey
  obtain⟨z,hd,vs,rel,dd⟩:=zy I.hok e
  refine call_meetsIn FF dd.typeIs HA (GR _ _ _) (meets_dict_get_default (bw X.prog X.w) a (zx ry) hd r) ⟨_,dd.mapOf,h _ _ (I.tok _) ?_⟩
  rw[l]
  exact(rel.val k).getD rd
 ·subst ey
  cases(show u=Value.ref b from ry)
  obtain⟨z,hd,xs,rel,dd⟩:=z0 I.hok e
  refine call_meetsIn FF dd.typeIs HA (GR _ _ _) (meetsH_dict_get_default (tupleKind (bw X.prog X.w)) a b hd r) ⟨EN hu,k,xs,qm I.hok eb,dd,h _ _ (I.tok _) ?_⟩
  rw[l]
  exact(rel.val k).getD rd
end
noncomputable def Js(td ty tx:TE):TE:=λσ H Q=>td σ H λx H1=>∃a,x=.ref a/\IsD H1 a/\ty σ H1 λy H2=>tx σ H2 λz H3=>∃o,Hu H3 a y o/\Q (o.getD z) H3
section
variable{X:Cx}{o e f:Expr}{apos cpos:Pos}{td ty tx:TE}
theorem Ct(hu:X.A.units+1<cLine)(ho:PE X o td)(he:PE X e ty)(hf:PE X f tx)(m:M2 X o "get" apos e f cpos):PE X (.Call (.Attribute o "get" apos) [e,f] [] cpos) (Js td ty tx):=by
 intro pins s σ H Q I h
 refine wpAny_Call_method m.base m.few m.line PySem.F.plainAttrs_dict FF PySem.F.type_dict_get (thn (ho pins s σ H _ I h) λu s1 ⟨x,H1,I1,rx,a,ex,d,q1⟩=>?_)
 subst ex
 obtain rfl:u=Value.ref a:=rx
 obtain⟨t1,t2,_⟩:=Jq I1 d
 refine⟨t1,t2,?_⟩
 rw[m.trees]
 refine GY rfl (HV (DO (thn (he pins s1 σ H1 _ I1 q1) λiv s2 ⟨y,H2,I2,ry,q2⟩ =>
  DO (thn (hf pins s2 σ H2 _ I2 q2) λfv s3 ⟨z,H3,I3,rz,ov,g,q3⟩=>EU ?_))))
 exact Jr hu I3 g ry rz λw' s4 I4 rw'=>⟨_,H3,I4,rw',q3⟩
end
end L2
namespace Att
open PySem PySem.W PySem.Calls PyProof.Rows
theorem lj{P:Params}{h:Heap}:∀(ns:List Int) (vs:List Value),WellAll P h vs (ns.map WData.int)->IntsAre vs ns:=by
 intro ns
 induction ns with
 |nil =>
  intro vs w
  rw[CL]at w
  cases w
  exact .nil
 |cons n ns ih =>
  intro vs w
  rw[AL]at w
  cases w with
  |cons a b =>
   cases a
   exact .cons _ _ (ih _ b)
theorem z8 {l:OpenLaw} {n:Nat} (hn:l.most=some n) {P:Params} {h:Heap} {args:List WData} {vals:List Value}
  (hpre:l.row.toRowW.claim.pre args=true) (hwl:WellAll P h vals args) :
  ∃a vs ns,vals=[Value.ref a]/\args=[WData.list (ns.map WData.int)]/\h.get? a=some {cls:=.type "list",data:=.seq vs.toArray}/\IntsAre vs ns/\ns.length<=n:=by
 have hsh:WShape.hasAll [] args [.list .int]=true:=(pre_splitW hpre).1
 have hc:l.pre.holds [] {args:=args}=true:=(pre_splitW hpre).2
 obtain⟨d,r,rfl,h1,h2⟩:=hasAllW_cons hsh
 obtain rfl:=hasAllW_nil h2
 obtain⟨xs,rfl,h3⟩:=hasW_list h1
 obtain⟨ns,rfl⟩:=items_int h3
 have hlen:ns.length<=n:=by
  unfold OpenLaw.pre at hc
  have h4:(WTm.not (.lt (.lit (.int (n:Int))) (.len (.arg 0)))).holds [] {args:=[.list (ns.map .int)]}=true:=by
   have h4:=(holds_andW hc).1
   rw[hn]at h4
   exact h4
  have h5:=condW_of h4 (w_not (w_lt w_lit (w_len_list (w_arg rfl))))
  rw[AJ]at h5
  refine Nat.le_of_not_lt λq=>?_
  have q':(n:Int)<((ns.length:Nat):Int):=by lia
  first
   |(rw[decide_eq_true q']at h5;exact absurd h5 (by decide))
   |(simp at h5;lia)
 cases hwl with
 |cons w1 w2 =>
  cases w2
  cases w1 with
  |list ho hall=>exact⟨_,_,ns,rfl,rfl,ho,lj ns _ hall,hlen⟩
theorem z9(l:OpenLaw)(args:List WData):l.row.toRowW.claim.post args (.bool true) args=true :=
 postW_of (r:=l.row.toRowW) (X:=(true==true))
  (show WShape.has [] (.bool true) .bool=true by first | rfl | decide | simp[WShape.has,WShape.arms,WShape.armsAll])
  (show(WTm.eq .res (.lit (.bool true))).value [] {args:=args,res:=some (.bool true),after:=args}=some (.bool (true==true))from w_eq_bool (w_res rfl) w_lit) rfl
theorem t9 {l:OpenLaw} {n:Nat} {q:Program} {loose:List Str} {XP:(Str->Option Value)->Heap->Prop} {YP:World->Heap->Prop} {d:DefRec}
  (hn:l.most=some n) (hdf:d.params.defaults=[])
  (call:∀(w:World) (s₀ s₁:Shared) (mg mb:Str->Option Value) (fa:Addr) (o:Obj) (pm cd doc:Value) (a:Addr) (vs:List Value) (ns:List Int),
   Ground q loose [] XP w s₀ mg mb s₁.heap->YP w s₁.heap ->
   s₁.heap.get? fa=some o->o.data=.func (docDef d.name d.params d.body d.scope pm cd doc)->s₁.heap.CodeRec cd d.name->mg d.name=some (.ref fa) ->
   s₁.heap.get? a=some {cls:=.type "list",data:=.seq vs.toArray}->IntsAre vs ns->ns.length<=n->s₁.gens=#[] ->
   codeAny (model l.prog w) callerA (.call (.ref fa) ⟨[.ref a],[]⟩) (λr s'=>r=.ok (.ret (.bool true))/\OldK s₁.heap s'.heap/\s'.os=s₁.os/\AllBare s'.gens) s₁) :
  WalkO q loose XP YP l.row.toRowW d [] (λf vs=>PySem.call f vs):=by
 intro w s₀ s₁ mg mb G Y fa o pm cd doc dV kV ho hd hcd hD hmg hg args vals as hpre hlay hrd hwl hlo
 obtain rfl:dV=.none:=Dflts.none hD hdf
 obtain rfl:kV=.none:=Dflts.noKw hD
 obtain⟨a,vs,ns,rfl,rfl,hobj,hints,hlen⟩:=z8 hn hpre hwl
 refine enter_call (EV (call w s₀ s₁ mg mb fa o pm cd doc a vs ns G Y ho (fd_plain hd) hcd hmg hobj hints hlen hg) λr s' hq=>?_)
 obtain⟨rfl,h2,h3,h4⟩:=hq
 exact⟨.inl ⟨.bool true,.bool true,[],rfl,λ_=>rfl,.bool true,z9 l _,λ_=>⟨List.Pairwise.nil,λ_ hm=>(nomatch hm)⟩⟩,h2,h3,h4⟩
end Att
namespace L2
open PySem PySem.Spec PyProof.Rows
noncomputable def FzL(K:PySem.W.Frag)(H:Hp)(a:Addr)(xs:List V):Prop :=
 (∃o,H a=some (.frz o (.lst xs))) \/
  ∃(its:List Value) (n:Nat),K.lookup a=some {cls:=.type "list",data:=.seq its.toArray n}/\xs.length<=sizeLine/\bc xs its
theorem vals_ints:∀{vs:List Value} {ns:List Int},IntsAre vs ns->bc (ns.map V.int) vs
 |_,_,.nil=>.nil
 |_,_,.cons n t h=>.cons ⟨t,rfl⟩ (vals_ints h)
noncomputable def Nk(H:Hp):Prop:=∀b,H b=none\/∃o xs,H b=some (.frz o (.lst xs))
theorem Cu {P:Program} {w:World} {K:PySem.W.Frag} {mg mb:Str->Option Value} {CX:CXT} {k:Nat} {fa a:Addr} {fd:FuncData} {x:Str} {sp:Sp} {s₁:Shared} {vs:List Value} {ns:List Int}
  (KX:K.In s₁.heap) (hns:s₁.heap.Ns mainGlobals mg) (hb:s₁.heap.Ns builtinsNs mb) (hbb:∀x:Str,x≠"__name__"->mb x=bootBuiltins x) (hlim:s₁.heap.NoLimit) (hg:s₁.gens=#[])
  (ha:s₁.heap.get? a=some {cls:=.type "list",data:=.seq vs.toArray}) (hi:IntsAre vs ns) (hl:ns.length<=sizeLine) (hr:Room k callerA)
  (F:∀base:Heap,K.In base->base.Ns mainGlobals mg->FnOk P w K mg base CX k fa fd [x] sp) (hbind:∀(s:Shared) (u:Value),BindsTo s fd ⟨[u],[]⟩ [(x,u)])
  (hsp:∀H:Hp,Nk H->FzL K H a (ns.map V.int)->sp [.ref a] H (λv _=>v=.bl true) λ_ _ _=>False)
  (hCX:∀H e s',CX [] H s₁ (λ_ _ _=>False) e s'->False) :
  codeAny (model P w) callerA (.call (.ref fa) ⟨[.ref a],[]⟩) (λr s'=>r=.ok (.ret (.bool true))/\OldK s₁.heap s'.heap/\s'.os=s₁.os/\AllBare s'.gens) s₁:=by
 have rv:=vals_ints hi
 have lenV:=hi.length
 -- from an abstract heap in which nothing but the script may be tracked
 have core:∀H:Hp,Nk H->FzL K H a (ns.map V.int)->HOk P w H s₁.heap->(∀b,H b≠none->b=a)->(H a≠none->K.lookup a=none) ->
   codeAny (model P w) callerA (.call (.ref fa) ⟨[.ref a],[]⟩) (λr s'=>r=.ok (.ret (.bool true))/\OldK s₁.heap s'.heap/\s'.os=s₁.os/\AllBare s'.gens) s₁:=by
  intro H hO hS hok hA hK
  have base_of:∀{b:Addr} {o:Obj},s₁.heap.get? b=some o->H b=none->(Ca s₁.heap H).get? b=some o:=λe n=>Cb e n
  have noA:∀{b:Addr} {o:Obj} {es:Array DictEntry} {ep:Nat},s₁.heap.get? b=some o->o.data=.dict es ep->H b=none:=λ{b o es ep} e d=>by
   cases q:H b with
   |none=>rfl
   |some u =>
    have e':b=a:=hA b (by rw[q];simp)
    subst e'
    rw[ha]at e;cases e
    have d':Data.seq vs.toArray _=Data.dict es ep:=d
    cases d'
  have nsK:∀{b:Addr} {m:Str->Option Value},s₁.heap.Ns b m->(Ca s₁.heap H).Ns b m:=λ{b m} ⟨o,es,ep,e,d,r⟩=>⟨o,es,ep,base_of e (noA e d),d,r⟩
  have hKb:K.In (Ca s₁.heap H):=λb o e=>base_of (KX b o e) (by
   cases q:H b with
   |none=>rfl
   |some u =>
    have e':b=a:=hA b (by rw[q];simp)
    subst e'
    rw[hK (by rw[q];simp)]at e;cases e)
  have hM:Mod K mg (Ca s₁.heap H):=⟨hKb,nsK hns,⟨mb,nsK hb,hbb⟩,let ⟨mc,h1,h2⟩:=hlim;⟨mc,nsK h1,h2⟩⟩
  have e0:Env0 P w K mg (Ca s₁.heap H) callerA [] s₁ H:=⟨rfl,hM,λb o e=>Fi e,Nat.le_of_eq (zc _ _),trivial,λb hb=>absurd (show b∈([]:List Addr)from hb) (by simp),hok,.of_eq hg⟩
  refine EV ((F _ hKb (nsK hns)).run callerA [] s₁ H ⟨[.ref a],[]⟩ [.ref a] [.ref a] _ _ hr e0 (hbind s₁ (.ref a)) (.cons rfl .nil) (hsp H hO hS)) λr s' h=>?_
  cases r with
  |error e=>exact(hCX H e s' h).elim
  |ok fl =>
   cases fl with
   |next=>exact False.elim h
   |brk=>exact False.elim h
   |cont=>exact False.elim h
   |ret u =>
    obtain⟨v,H',os,bare,un,hok',r',q⟩:=h
    have q':v=.bl true:=q
    subst q'
    obtain rfl:u=Value.bool true:=r'
    refine⟨rfl,OldK.of_keep λb o e=>?_,os,bare⟩
    cases q:H b with
    |none=>exact un.keep b o e q (by intro z;exact absurd (show b∈([]:List Addr)from z) (by simp)) (by simp)
    |some u =>
     rcases hO b with z | ⟨ob,xs,z⟩
     ·rw[q]at z;cases z
     ·have z2:=un.frzs b ob _ z
      obtain⟨e1,_⟩:=hok b _ z
      obtain⟨e2,_⟩:=hok' b _ z2
      rw[e]at e1;cases e1
      exact e2
 cases hk:K.lookup a with
 |some o =>
  -- the script is one of the module's own objects
  have e:=KX a o hk
  rw[ha]at e
  cases e
  refine core (λ_=>none) (λ_=>.inl rfl) (.inr ⟨vs,_,hk,by rw[AJ];exact hl,rv⟩) (λb u z=>by have z':(none:Option HO)=some u:=z;cases z') (λb z=>absurd rfl z) λz=>absurd rfl z
 |none =>
  refine core (λb=>if b=a then some (.frz {cls:=.type "list",data:=.seq vs.toArray} (.lst (ns.map V.int)))else none) (λb=>?_) (.inl ⟨{cls:=.type "list",data:=.seq vs.toArray},if_pos rfl⟩) (λb u z=>?_) (λb z=>?_) λ_=>hk
  ·by_cases hb:b=a
   ·exact .inr ⟨_,_,if_pos hb⟩
   ·exact .inl (if_neg hb)
  ·by_cases hb:b=a
   ·have z':=(if_pos hb).symm.trans z
    cases z'
    subst hb
    exact⟨ha,by rw[AJ];exact hl,vs,_,rv,ha⟩
   ·have z':=(if_neg hb).symm.trans z
    cases z'
  ·by_cases hb:b=a
   ·exact hb
   ·exact absurd (if_neg hb) z
noncomputable abbrev KOf{K:PySem.W.Frag}{h:Heap}(_:K.In h):PySem.W.Frag:=K
theorem F5 {l:PySem.W.OpenLaw} {n k:Nat} {q:Program} {loose:List Str} {XP:(Str->Option Value)->Heap->Prop} {YP:World->Heap->Prop} {d:DefRec} {K:Params->PySem.W.Frag} {CX:World->CXT} {sp:World->Sp} {x:Str}
  (hn:l.most=some n) (hn2:n<=sizeLine) (hdf:d.params.defaults=[]) (hr:Room k callerA)
  (hY:∀(w:World) (h:Heap),YP w h->(K w.params).In h)
  (F:∀(w:World) (mg:Str->Option Value) (fa:Addr) (h:Heap),(K w.params).In h->h.Ns mainGlobals mg->mg d.name=some (.ref fa) ->
   ∃fd:FuncData,(∀(s:Shared) (u:Value),BindsTo s fd ⟨[u],[]⟩ [(x,u)]) /\
    ∀base:Heap,(K w.params).In base->base.Ns mainGlobals mg->FnOk l.prog w (K w.params) mg base (CX w) k fa fd [x] (sp w))
  (hsp:∀(w:World) (H:Hp) (a:Addr) (ns:List Int),ns.length<=n->Nk H->FzL (K w.params) H a (ns.map V.int)->sp w [.ref a] H (λv _=>v=.bl true) λ_ _ _=>False)
  (hCX:∀(w:World) (H:Hp) (s:Shared) (e:Value) (s':Shared),CX w [] H s (λ_ _ _=>False) e s'->False) :
  PySem.W.WalkO q loose XP YP l.row.toRowW d [] (λf vs=>PySem.call f vs):=by
 refine Att.t9 hn hdf λw s₀ s₁ mg mb fa o pm cd doc a vs ns G Y ho hd hcd hmg hobj hints hlen hg=>?_
 have KX:=hY w _ Y
 obtain⟨fd,hb,hF⟩:=F w mg fa _ KX G.T.g hmg
 exact Cu KX G.T.g G.T.b G.T.builtins G.T.nolimit hg hobj hints (BQ hlen hn2) hr hF hb (λH hO hS=>hsp w H a ns hlen hO hS) λH e s'=>hCX w H s₁ e s'
noncomputable def ll(s:Stmt):Arguments:=match s with
 |.FunctionDef _ a _ _ _ _ _ _ _ _=>a
 |_=>{posonlyargs:=[],args:=[],vararg:=none,kwonlyargs:=[],kw_defaults:=[],kwarg:=none,defaults:=[]}
noncomputable def gv(s:Stmt):List Stmt:=match s with
 |.FunctionDef _ _ b _ _ _ _ _ _ _=>b
 |_=>[]
noncomputable def av(s:Stmt):Scope:=match s with
 |.FunctionDef _ _ _ _ _ _ sc _ _ _=>sc
 |_=>{kind:=.function,names:=[],isGenerator:=false,isCoroutine:=false}
noncomputable abbrev CX0:CXT:=λ_ _ _ _ _ _=>False
noncomputable abbrev E0:XK:=λ_ _ _=>False
theorem Nl{X:Cx}:zm CX0 X E0:=λ_ _ _ _ _ _ _ h=>h.elim
structure Fun (K:PySem.W.Frag) (x qual:Str) (st:Stmt) (f:Addr) (fd:FuncData):Prop where
 ex:∃(oc:Value) (od:Option Addr) (kV doc pm:Value) (an:Option Addr) (cdv ct:Value) (osl:Array (Option Value)),
  fd=PySem.W.fnOf x qual (ll st) (gv st) (av st) .none kV doc pm an cdv ct/\K.lookup f=some ⟨oc,od,.func fd,osl⟩/\PySem.W.codeIn K cdv qual=true
 kp:PySem.W.keepIn K (.ref f)=true
section
variable{P:Program}{w:World}{K:PySem.W.Frag}{mg:Str -> Option Value}{base:Heap}
theorem Fun.ok {x qual:Str} {st:Stmt} {f:Addr} {fd:FuncData} {N ps:List Str} {k:Nat} {sp:Sp} (F:Fun K x qual st f fd) (S:FnScope N ps (av st)) (len:∀vs H Q E,sp vs H Q E->vs.length=ps.length)
  (hbody:∀(cdv:Value) (A:Around) (outer:List Env) (s:Shared) (H:Hp) (vs:List V) (Q:VK) (E:XK),zk k (A.deeper (envOfC qual (av st) s.heap.objs.size f cdv))->sp vs H Q E ->
   ∃t,PSs (Ci CX0 P w K mg base N qual (av st) f cdv A outer s H E).nox (gv st) t/\t {nx:=λ_ H'=>Q .non H',rt:=Q} (start N vs) H):FnOk P w K mg base CX0 (k+1) f fd ps sp:=by
 obtain⟨oc,od,kV,doc,pm,an,cdv,ct,osl,rfl,lk,hcd⟩:=F.ex
 refine Nc lk hcd S len λA outer s H vs Q E hr hsp=>?_
 obtain⟨t,h,q⟩:=hbody cdv A outer s H vs Q E hr hsp
 exact⟨t,h.nox,q⟩
theorem Jt {x qual:Str} {st:Stmt} {f:Addr} {oc:Value} {od an:Option Addr} {osl:Array (Option Value)} {kV doc pm cdv ct:Value} (l:K.lookup f=some ⟨oc,od,.func (PySem.W.fnOf x qual (ll st) (gv st) (av st) .none kV doc pm an cdv ct),osl⟩)
  (c:PySem.W.codeIn K cdv qual=true) (k:PySem.W.keepIn K (.ref f)=true):Fun K x qual st f (PySem.W.fnOf x qual (ll st) (gv st) (av st) .none kV doc pm an cdv ct):=⟨⟨oc,od,kV,doc,pm,an,cdv,ct,osl,rfl,l,c⟩,k⟩
end
theorem jh{n:Nat}(h:n<=1000):n<sizeLine:=Nat.lt_of_le_of_lt h (by decide)
section
variable{X:Cx}
theorem pv (i:Nat) {x:Str} {pos:Pos} (hN:X.N[i]? = some x:=by rfl) (hv:Vis X.env.scope x:=by first | exact Or.inl rfl | exact Or.inr (Or.inl rfl) | exact Or.inr (Or.inr rfl)) (hd:(x==("__debug__":Str))=false:=by decide)
  (hcd:(x==("__classdict__":Str))=false:=by decide):PE X (.Name x pos) (Qe i):=zd hN hv hd hcd
end
end L2
set_option maxHeartbeats 4000000
namespace L2
open PySem PySem.Spec PyProof.Rows
noncomputable def S9(h0:Heap)(H:Hp)(h:Heap)(e:Addr)(cls:Value):Prop:=∃oe vs T oT ts a0,h.get? e=some oe/\(oe.cls=cls/\vs[0]? = some a0)/\oe.data=.fields vs/\vs[1]? = some (.ref T)/\(h0.get? T=none/\H T=none)/\T≠e/\h.get? T=some oT/\oT.data=.fields ts/\ts[3]? = some Value.none
section
variable{X:Cx}{pins:List (Addr × Obj)}{σ:St}{H H' : Hp}{s:Shared}{e:Addr}{cls:Value}
structure Fl (X:Cx) (H0:Hp) (s0:Shared) (H':Hp) (e:Addr) (cls:Value) (s:Shared):Prop where
 os:s.os=s0.os
 bare:AllBare s.gens
 un:Un (frs X.stack) [] H0 H' s0.heap s.heap
 hok:HOk X.prog X.w H' s.heap
 new:s0.heap.get? e=none
 free:H' e=none
 fly:S9 s0.heap H' s.heap e cls
section
variable{H0:Hp}{s0:Shared}
noncomputable def Ta(e:Addr)(cls:Value):HO:=.ext λh=>∃o vs,h.get? e=some o/\o.cls=cls/\o.data=.fields vs
end
end
end L2
namespace Lp
open PySem
inductive D where
 |non | bl (b:Bool) | int (i:Int) | str (x:Str)
 |tup (ds:List D) | lst (ds:List D) | loc (n:Nat)
 deriving Inhabited
noncomputable def D.pureN:Nat->D->Bool
 |0,d=>match d with | .tup _=>false | .lst _=>false | .loc _=>false | _=>true
 |k+1,d=>match d with | .tup ds=>ds.all (D.pureN k) | .lst ds=>ds.all (D.pureN k) | .loc _=>false | _=>true
noncomputable abbrev D.pure(d:D):Bool:=D.pureN 8 d
inductive O where
 |l (ds:List D)
 |r (ds:List D)
 |d (kvs:List (D×D))
 |dt (kvs:List (D×D))
 |x (c:Str)
 |o (c:Str) (fs:List (Str×D))
 |dr (kvs:List (D×D))
 |fd (kvs:List (D×D))
 |dead
 deriving Inhabited
noncomputable abbrev Sto:=List O
noncomputable abbrev Sl:=List (Option D)
inductive Res (α:Type) where
 |ok (a:α) (μ:Sto)
 |exc (c:Nat) (ds:List D) (μ:Sto)
 |stuck
namespace Res
variable{α β:Type}
noncomputable def bind(x:Res α)(f:α->Sto->Res β):Res β:=match x with
 |.ok a μ=>f a μ
 |.exc c ds μ=>.exc c ds μ
 |.stuck=>.stuck
@[simp] theorem bg (a:α) (μ:Sto) (f:α->Sto->Res β):(Res.ok a μ).bind f=f a μ:=rfl
@[simp] theorem L8 (c:Nat) (ds:List D) (μ:Sto) (f:α->Sto->Res β):(Res.exc c ds μ:Res α).bind f=.exc c ds μ:=rfl
@[simp] theorem Hw (f:α->Sto->Res β):(Res.stuck:Res α).bind f=.stuck:=rfl
theorem bind_assoc{γ:Type}(x:Res α)(f:α->Sto->Res β)(g:β->Sto->Res γ):(x.bind f).bind g=x.bind λa μ=>(f a μ).bind g:=by
 cases x<;>rfl
end Res
inductive Mk where | z | l | r
 deriving DecidableEq,Inhabited
inductive Bt where
 |len | tuple | list | sum | min | min1 | max | all | any | sorted | sortedSet | sortedL | int | listRev | listRange | tupleRange | dictP | sortedI | sortedD | odds | min3 | max1 | sortedN | sortedT | inR3 | sortedST
 deriving DecidableEq,Inhabited
inductive Mt where
 |append | pop | extend | extendT | insert | remove | reverse | clear | count | countL | get
 deriving DecidableEq,Inhabited
inductive Cl where
 |int | bool | tuple | list | str | own (c:Str)
 deriving DecidableEq,Inhabited
inductive Tg where
 |one (i:Nat) | many (is:List Nat)
 deriving DecidableEq,Inhabited
inductive Cp where
 |eq | ne | eqM | neM | lt | le | gt | ge | is | isnot | in_ | notin
 deriving DecidableEq,Inhabited
mutual
inductive Ex where
 |var (i:Nat)
 |frz (i:Nat)
 |cst (d:D)
 |bin (op:Operator) (m:Mk) (a b:Ex)
 |neg (a:Ex)
 |not (a:Ex)
 |and (a b:Ex)
 |or (a b:Ex)
 |ite (c a b:Ex)
 |cmp (a:Ex) (r:Cps)
 |call (keep:Bool) (f:Nat) (es:Exs)
 |blt (b:Bt) (m:Mk) (es:Exs)
 |isi (a:Ex) (c:Cl)
 |meth (mt:Mt) (o:Ex) (es:Exs)
 |ix (a b:Ex)
 |dix (a b:Ex)
 |sl (m:Mk) (a:Ex) (lo hi:ExO)
 |tup (es:Exs)
 |lst (m:Mk) (es:Exs)
 |dic (t:Bool) (es:Exs)
 |inT (neg:Bool) (es:Exs) (d:Ex)
 |ixT (d:Ex) (es:Exs)
 |getT (d:Ex) (es:Exs) (x:Ex)
 |ixV (d k:Ex)
 |att (e:Ex) (f:Str)
 |mcall (k1:Bool) (c m:Str) (f:Nat) (o:Ex) (es:Exs)
 |make (c:Str) (f:Nat) (es:Exs)
 |callK (f:Nat) (es:Exs)
 |tru (e:Ex)
 |drp (e:Ex)
 |gix (a b:Ex)
 |dicr
 |comp (m:Mk) (cap:List Nat) (nl:Nat) (tg:Tg) (it:It) (cs:Exs) (elt:Ex)
inductive Exs where
 |nil
 |cons (e:Ex) (es:Exs)
inductive Cps where
 |nil
 |cons (op:Cp) (e:Ex) (r:Cps)
inductive ExO where
 |no
 |so (e:Ex)
inductive It where
 |seq (e:Ex)
 |rng (a:Ex)
 |rng2 (a b:Ex)
 |rng3 (a b c:Ex)
 |rngD (a b c:Ex)
 |zip (a b:Ex)
 |enum (a:Ex)
 |rev (a:Ex)
 |vals (a:Ex)
 |keys (a:Ex)
end
mutual
inductive Sm where
 |set (i:Nat) (e:Ex)
 |unp (is:List Nat) (e:Ex)
 |setx (o i v:Ex)
 |augx (op:Operator) (o i v:Ex)
 |setxT (o:Ex) (i:Exs) (v:Ex)
 |ex (e:Ex)
 |ite (c:Ex) (a b:Sms)
 |loop (tg:Tg) (it:It) (b:Sms)
 |ret (e:Ex)
 |raise (c:Str) (es:Exs)
 |pl (s:Sm)
 |callx (f:Nat) (es:Exs)
 |tryc (f:Nat) (es:Exs) (ei:Nat) (h:Sms)
 |mapx (i:Nat) (cap:List Nat) (nl:Nat) (tg:Tg) (it:It) (f:Nat) (es:Exs)
 |tryi (i j:Nat) (e:Ex)
 |seta (o:Ex) (f:Str) (e:Ex)
 |whl (c:Ex) (b:Sms)
 |pass | brk | cont
 |never
inductive Sms where
 |nil
 |cons (s:Sm) (r:Sms)
end
@[irreducible] def lim:Nat:=2 ^ 24
theorem Eh:lim=2 ^ 24:=by with_unfolding_all rfl
theorem j3:1000000<=lim:=by rw[Eh];decide
noncomputable def d5(μ:Sto):D->Option (List D)
 |.tup ds=>some ds
 |.lst ds=>some ds
 |.loc n=>match μ[n]? with
  |some (.l ds)=>some ds
  |some (.r ds)=>some ds
  |_=>none
 |_=>none
noncomputable def listOf(μ:Sto):D->Option (List D)
 |.lst ds=>some ds
 |.loc n=>match μ[n]? with
  |some (.l ds)=>some ds
  |some (.r ds)=>some ds
  |_=>none
 |_=>none
noncomputable def ib{α β:Type}(o:Option α)(k:α->Res β):Res β:=match o with
 |some a=>k a
 |none=>.stuck
@[simp] theorem ua {α β:Type} (a:α) (k:α->Res β):ib (some a) k=k a:=rfl
@[simp] theorem F6 {α β:Type} (k:α->Res β):ib none k=.stuck:=rfl
noncomputable def mkL(m:Mk)(ds:List D)(μ:Sto):Res D:=match m with
 |.z=>.ok (.lst ds) μ
 |.l=>if ds.all (D.pureN 8)=true then .ok (.loc μ.length) (μ++[.l ds])else .stuck
 |.r=>.ok (.loc μ.length) (μ++[.r ds])
mutual
noncomputable def deq:D->D->Bool
 |.non,.non=>true
 |.bl a,.bl b=>a==b
 |.int a,.int b=>decide (a=b)
 |.bl a,.int b=>decide ((if a then 1 else 0:Int)=b)
 |.int a,.bl b=>decide (a=(if b then 1 else 0:Int))
 |.str a,.str b=>decide (a=b)
 |.tup a,.tup b=>ub a b
 |.lst a,.lst b=>ub a b
 |_,_=>false
noncomputable def ub:List D->List D->Bool
 | [],[]=>true
 |a::r,b::q=>deq a b&&ub r q
 |_,_=>false
end
noncomputable def rs1(μ:Sto):Nat->D->D
 |0,d=>d
 |_,.loc n=>match μ[n]? with
  |some (.l ds)=>.lst ds
  |some (.r ds)=>.lst ds
  |_=>.loc n
 |k+1,.tup ds=>.tup (ds.map (rs1 μ k))
 |k+1,.lst ds=>.lst (ds.map (rs1 μ k))
 |_,d=>d
noncomputable def rs(μ:Sto)(d:D):D:=rs1 μ 8 (rs1 μ 8 (rs1 μ 8 d))
noncomputable def bo:List D->Option (List Int)
 | []=>some []
 |.int i::r=>(bo r).map (i::·)
 |_=>none
noncomputable def Ei:List D->Option (List Bool)
 | []=>some []
 |.bl i::r=>(Ei r).map (i::·)
 |_=>none
noncomputable def lexLt:List Int->List Int->Bool
 |_,[]=>false
 | [],_::_=>true
 |x::xs,y::ys=>if x=y then lexLt xs ys else decide (x<y)
noncomputable def rowsOf:List D->Option (List (List Int))
 | []=>some []
 |.tup ds::r=>(bo ds).bind λx=>(rowsOf r).map (x::·)
 |_=>none
noncomputable def ixN(n:Nat)(i:Int):Option Nat:=if 0<=i then(if i<n then some i.toNat else none)else if -(n:Int)<=i then some (i+n).toNat else none
noncomputable def sIx(n d:Nat):Option Int->Nat
 |none=>d
 |some v=>if v<0 then(v+(n:Int)).toNat else min v.toNat n
noncomputable def cut(ds:List D)(lo hi:Option Int):List D:=(ds.drop (sIx ds.length 0 lo)).take (sIx ds.length ds.length hi-sIx ds.length 0 lo)
noncomputable def CMul(i j:Int):Prop:=(-(2 ^ 64)<i/\i<2 ^ 64)\/(-(2 ^ 64)<j/\j<2 ^ 64)
instance (i j:Int):Decidable (CMul i j):=by unfold CMul;infer_instance
noncomputable def opI(op:Operator)(i j:Int)(μ:Sto):Res D:=match op with
 |.Add=>.ok (.int (i+j)) μ
 |.Sub=>.ok (.int (i-j)) μ
 |.Mult=>if CMul i j then .ok (.int (i*j)) μ else .stuck
 |.FloorDiv=>if 0<j/\j<1073741824 then .ok (.int (i / j)) μ else .stuck
 |.Mod=>if 0<j then .ok (.int (i % j)) μ else .stuck
 |.Pow=>if 0<=j/\j<=1000000/\i.natAbs<2 ^ 64 then .ok (.int (i ^ j.toNat)) μ else .stuck
 |.RShift=>if 0<=j then .ok (.int (i / 2 ^ j.toNat)) μ else .stuck
 |.LShift=>if 0<=j/\j<=1000000/\i.natAbs<2 ^ 64 then .ok (.int (i*2 ^ j.toNat)) μ else .stuck
 |.BitXor=>if 0<=i/\j=1 then .ok (.int (if i % 2=0 then i+1 else i-1)) μ else .stuck
 |_=>.stuck
noncomputable def opD(op:Operator)(m:Mk)(a b:D)(μ:Sto):Res D:=match a,b with
 |.int i,.int j=>opI op i j μ
 |.tup xs,.tup ys=>match op with
  |.Add=>if xs.length+ys.length<=lim then .ok (.tup (xs++ys)) μ else .stuck
  |_=>.stuck
 |x,.int j=>match op,listOf μ x with
  |.Mult,some xs=>if xs.length*j.toNat<=lim /\ -(2 ^ 63)<=j/\j<2 ^ 63 then mkL m (List.replicate j.toNat xs).flatten μ else .stuck
  |_,_=>.stuck
 |x,y=>match op,listOf μ x,listOf μ y with
  |.Add,some xs,some ys=>if xs.length+ys.length<=lim then mkL m (xs++ys) μ else .stuck
  |_,_,_=>.stuck
noncomputable def flat:D->Bool
 |.tup _=>false
 |.lst _=>false
 |.loc _=>false
 |_=>true
noncomputable def h7(μ:Sto)(x:D):Option (List D×Option (Nat×O)):=match x with
 |.tup ds=>some (ds,none)
 |.lst ds=>some (ds,none)
 |.loc n=>match μ[n]? with
  |some (.l ds)=>some (ds,some (n,.l ds))
  |some (.r ds)=>some (ds,some (n,.r ds))
  |_=>none
 |_=>none
noncomputable def qo:D->Bool
 |.int _=>true
 |.str _=>true
 |_=>false
noncomputable def Tb:D->Bool
 |.tup ds=>ds.all qo
 |_=>false
noncomputable def p9(k:D):List (D×D)->Option D
 | []=>none
 |(x,v)::r=>if deq x k then some v else p9 k r
noncomputable def dput(k v:D)(kvs:List (D×D)):List (D×D) :=
 if(kvs.any λp=>deq p.1 k)=true then kvs.map (λp=>if deq p.1 k=true then(p.1,v)else p)else kvs++[(k,v)]
noncomputable def dictAt(μ:Sto)(o k:D):Option (List (D×D)):=match o with
 |.loc n=>match μ[n]? with
  |some (.d kvs)=>if qo k=true then some kvs else none
  |some (.dr kvs)=>if qo k=true then some kvs else none
  |some (.fd kvs)=>if qo k=true then some kvs else none
  |_=>none
 |_=>none
noncomputable def gb(μ:Sto)(o:D)(ks:List D):Option (List (D×D)):=match o with
 |.loc n=>match μ[n]? with
  |some (.dt kvs)=>if ks.all qo=true then some kvs else none
  |_=>none
 |_=>none
noncomputable def bp:List (Option D)->Option (List D)
 | []=>some []
 |none::_=>none
 |some d::r=>match bp r with
  |some ds=>some (d::ds)
  |none=>none
noncomputable def aq(μ:Sto):Nat->D->Option D
 |0,d=>if flat d=true then some d else none
 |k+1,d=>match d with
  |.tup ds=>(bp (ds.map (aq μ k))).map .tup
  |.lst ds=>(bp (ds.map (aq μ k))).map .lst
  |.loc n=>match μ[n]? with
   |some (.l ds)=>(bp (ds.map (aq μ k))).map .lst
   |some (.r ds)=>(bp (ds.map (aq μ k))).map .lst
   |_=>none
  |d=>some d
noncomputable def cpD(op:Cp)(a b:D)(μ:Sto):Res D:=match op with
 |.eq=>if a.pure=true/\b.pure=true then .ok (.bl (deq a b)) μ else .stuck
 |.ne=>if a.pure=true/\b.pure=true then .ok (.bl (!deq a b)) μ else .stuck
 |.eqM=>match aq μ 8 a,aq μ 8 b with
  |some x,some y=>.ok (.bl (deq x y)) μ
  |_,_=>.stuck
 |.neM=>match aq μ 8 a,aq μ 8 b with
  |some x,some y=>.ok (.bl (!deq x y)) μ
  |_,_=>.stuck
 |.lt=>match a,b with
  |.int i,.int j=>.ok (.bl (decide (i<j))) μ
  |.tup x,.tup y=>match bo x,bo y with
   |some xs,some ys=>.ok (.bl (lexLt xs ys)) μ
   |_,_=>.stuck
  |_,_=>.stuck
 |.le=>match a,b with
  |.int i,.int j=>.ok (.bl (decide (i<=j))) μ
  |.tup x,.tup y=>match bo x,bo y with
   |some xs,some ys=>.ok (.bl (!lexLt ys xs)) μ
   |_,_=>.stuck
  |_,_=>.stuck
 |.gt=>match a,b with
  |.int i,.int j=>.ok (.bl (decide (j<i))) μ
  |_,_=>.stuck
 |.ge=>match a,b with
  |.int i,.int j=>.ok (.bl (decide (j<=i))) μ
  |.tup x,.tup y=>match bo x,bo y with
   |some xs,some ys=>.ok (.bl (!lexLt xs ys)) μ
   |_,_=>.stuck
  |_,_=>.stuck
 |.is=>match b with
  |.non=>.ok (.bl (match a with | .non=>true | _=>false)) μ
  |.bl k=>match a with
   |.bl j=>.ok (.bl (j==k)) μ
   |.non=>.ok (.bl false) μ
   |_=>.stuck
  |_=>.stuck
 |.isnot=>match b with
  |.non=>.ok (.bl (match a with | .non=>false | _=>true)) μ
  |.bl k=>match a with
   |.bl j=>.ok (.bl (!(j==k))) μ
   |.non=>.ok (.bl true) μ
   |_=>.stuck
  |_=>.stuck
 |.in_=>match d5 μ b with
  |some ds=>if flat a=true/\ds.all flat=true then .ok (.bl (ds.any λy=>deq y a)) μ else .stuck
  |none=>match dictAt μ b a with
   |some kvs=>.ok (.bl (p9 a kvs).isSome) μ
   |none=>.stuck
 |.notin=>match d5 μ b with
  |some ds=>if flat a=true/\ds.all flat=true then .ok (.bl (!ds.any λy=>deq y a)) μ else .stuck
  |none=>match dictAt μ b a with
   |some kvs=>.ok (.bl (!(p9 a kvs).isSome)) μ
   |none=>.stuck
noncomputable def insI(x:Int):List Int->List Int
 | []=>[x]
 |y::r=>if x<=y then x::y::r else y::insI x r
noncomputable def sortI:List Int->List Int
 | []=>[]
 |x::r=>insI x (sortI r)
noncomputable def F7(x:List Int):List (List Int)->List (List Int)
 | []=>[x]
 |y::r=>if lexLt y x=true then y::F7 x r else x::y::r
noncomputable def i9:List (List Int)->List (List Int)
 | []=>[]
 |x::r=>F7 x (i9 r)
noncomputable def Qm:Int->List Int->Int
 |x,[]=>x
 |x,y::r=>Qm (if y<x then y else x) r
noncomputable def Qn:Int->List Int->Int
 |x,[]=>x
 |x,y::r=>Qn (if y > x then y else x) r
noncomputable def jd(f:D->Sto->Res D)(ds:List D)(μ:Sto):Res D:=match ds with
 | [x]=>f x μ
 |_=>.stuck
@[simp] theorem iy (f:D->Sto->Res D) (x:D) (μ:Sto):jd f [x] μ=f x μ:=rfl
noncomputable def seq1(f:List D->Sto->Res D)(x:D)(μ:Sto):Res D:=match d5 μ x with
 |some xs=>f xs μ
 |none=>.stuck
noncomputable def F8(f:List Int->Sto->Res D)(x:D)(μ:Sto):Res D:=match(d5 μ x).bind bo with
 |some ns=>f ns μ
 |none=>.stuck
noncomputable def Ju(f:List Bool->Sto->Res D)(x:D)(μ:Sto):Res D:=match(d5 μ x).bind Ei with
 |some ns=>f ns μ
 |none=>.stuck
noncomputable def Cv(m:Mk)(x:D)(μ:Sto):Res D:=match listOf μ x with
 |some xs=>mkL m xs.reverse μ
 |none=>.stuck
noncomputable def minD(ds:List D)(μ:Sto):Res D:=match ds with
 | [.int i,.int j]=>.ok (.int (if j<i then j else i)) μ
 |_=>.stuck
noncomputable def Nm(ds:List D)(μ:Sto):Res D:=match ds with
 | [.int i,.int j,.int k]=>.ok (.int (if k<(if j<i then j else i)then k else(if j<i then j else i))) μ
 |_=>.stuck
noncomputable def maxD(ds:List D)(μ:Sto):Res D:=match ds with
 | [.int i,.int j]=>.ok (.int (if j > i then j else i)) μ
 |_=>.stuck
noncomputable def F9(m:Mk)(xs:List D)(μ:Sto):Res D:=match rowsOf xs with
 |some rs=>if rs.all (λr=>!r.isEmpty)=true then mkL m ((i9 rs).map λr=>.tup (r.map .int)) μ else .stuck
 |none=>.stuck
noncomputable def Tc(ns:List Int):List Int:=ns.foldl (λσ k=>if σ.any (·==k)then σ else σ++[k]) []
noncomputable def Jv(m:Mk):D->Sto->Res D:=F8 λns μ=>if ns.length<64 then mkL m ((sortI (Tc ns)).map .int) μ else .stuck
noncomputable def y6(rs:List (List Int)):List (List Int):=rs.foldl (λσ k=>if k∈σ then σ else σ++[k]) []
noncomputable def uc(m:Mk)(x:D)(μ:Sto):Res D:=match(listOf μ x).bind rowsOf with
 |some rs=>if rs.length<60/\(rs.all λr=>!r.isEmpty)=true then mkL m ((i9 (y6 rs)).map λr=>.tup (r.map .int)) μ else .stuck
 |none=>.stuck
noncomputable def Jw(m:Mk)(x:D)(μ:Sto):Res D:=match listOf μ x with
 |some xs=>if xs.length<64 then F9 m xs μ else .stuck
 |none=>.stuck
noncomputable def Nn(ds:List D)(μ:Sto):Res D:=match ds with
 | [.int x,.int i,.int j,.int k]=>if 0<=i/\i<2 ^ 32/\0<=j/\j<2 ^ 32/\1<=k/\k<=1000 then .ok (.bl (decide (i<=x/\x<j/\(x-i) % k=0))) μ else .stuck
 |_=>.stuck
noncomputable def Qo{R:Type}(lt:R->R->Bool)(x:R):List R->List R
 | []=>[x]
 |y::r=>if lt y x=true then y::Qo lt x r else x::y::r
noncomputable def Ga{R:Type}(lt:R->R->Bool):List R->List R
 | []=>[]
 |x::r=>Qo lt x (Ga lt r)
noncomputable abbrev NR:=List Int×Str×List Int
noncomputable abbrev Td(x:NR):D:=.tup [.tup (x.1.map .int),.tup (.str x.2.1::x.2.2.map .int)]
noncomputable def ltN(x y:NR):Bool:=if x.1=y.1 then(if x.2.1=y.2.1 then lexLt x.2.2 y.2.2 else decide (x.2.1.cps.toList<y.2.1.cps.toList))else lexLt x.1 y.1
noncomputable def Jx:List D->Option (List NR)
 | []=>some []
 |.tup [.tup ds,.tup (.str t::es)]::r=>(bo ds).bind λx=>(bo es).bind λy=>(Jx r).map ((x,t,y)::·)
 |_=>none
noncomputable def Jy(m:Mk)(x:D)(μ:Sto):Res D:=match(listOf μ x).bind Jx with
 |some rs=>if rs.length<=1000 then mkL m ((Ga ltN rs).map Td) μ else .stuck
 |none=>.stuck
noncomputable def Jz(m:Mk)(x:D)(μ:Sto):Res D:=match(listOf μ x).bind rowsOf with
 |some rs=>if rs.length<=1000/\(rs.all λr=>!r.isEmpty)=true then mkL m ((Ga lexLt rs).map λr=>.tup (r.map .int)) μ else .stuck
 |none=>.stuck
noncomputable def J0(m:Mk)(x:D)(μ:Sto):Res D:=match(listOf μ x).bind bo with
 |some ns=>if ns.length<64 then mkL m ((sortI ns).map .int) μ else .stuck
 |none=>.stuck
noncomputable def keysOf(μ:Sto):D->Option (List (D×D))
 |.loc n=>match μ[n]? with
  |some (.d kvs)=>some kvs
  |some (.dr kvs)=>some kvs
  |some (.fd kvs)=>some kvs
  |_=>none
 |_=>none
noncomputable def J1(m:Mk)(x:D)(μ:Sto):Res D:=match(keysOf μ x).bind λkvs=>bo (kvs.map (·.1))with
 |some ns=>if ns.length<64 then mkL m ((sortI ns).map .int) μ else .stuck
 |none=>.stuck
noncomputable def Np(xs:List D):List D:=(List.range (xs.length / 2)).filterMap λi=>xs[2*i+1]?
noncomputable def Nq(m:Mk)(x:D)(μ:Sto):Res D:=match listOf μ x with
 |some xs=>mkL m (Np xs) μ
 |none=>.stuck
noncomputable def J2:List D->Sto->Option (List (List Int)×Sto)
 | [],μ=>some ([],μ)
 |.loc n::r,μ=>match μ[n]? with
  |some (.l ds)=>match bo ds,J2 r (μ.set n .dead)with
   |some x,some p=>some (x::p.1,p.2)
   |_,_=>none
  |_=>none
 |_,_=>none
noncomputable def Gb(m:Mk)(x:D)(μ:Sto):Res D:=match listOf μ x with
 |some xs=>if xs.length<64 then(match J2 xs μ with
  |some p=>mkL m ((i9 p.1).map λr=>.lst (r.map .int)) p.2
  |none=>.stuck)else .stuck
 |none=>.stuck
noncomputable def Nr:D->Sto->Res D:=F8 λns μ=>match ns with
 |n::r=>.ok (.int (Qm n r)) μ
 | []=>.stuck
noncomputable def Nt:D->Sto->Res D:=F8 λns μ=>match ns with
 |n::r=>.ok (.int (Qn n r)) μ
 | []=>.stuck
noncomputable def J3(x:D)(μ:Sto):Res D:=match x with
 |.bl b=>.ok (.int (if b then 1 else 0)) μ
 |.int i=>.ok (.int i) μ
 |_=>.stuck
noncomputable def Ej(f:List D->Sto->Res D)(x:D)(μ:Sto):Res D:=match x with
 |.int j=>if -(lim:Int)<=j/\j<=lim then f ((List.range j.toNat).map fun(i:Nat)=>D.int i) μ else .stuck
 |_=>.stuck
noncomputable def Ek:List D->Option (List (D×D))
 | []=>some []
 |.tup [k,v]::r=>if qo k=true/\v.pure=true then(Ek r).map ((k,v)::·)else none
 |_=>none
noncomputable def J4(x:D)(μ:Sto):Res D:=match(listOf μ x).bind Ek with
 |some ps=>if ps.length<1000 then .ok (.loc μ.length) (μ++[.d (ps.foldl (λm p=>dput p.1 p.2 m) [])])else .stuck
 |none=>.stuck
noncomputable def btD(b:Bt)(m:Mk)(ds:List D)(μ:Sto):Res D:=match b with
 |.len=>jd (seq1 λxs μ=>.ok (.int xs.length) μ) ds μ
 |.tuple=>jd (seq1 λxs μ=>.ok (.tup xs) μ) ds μ
 |.list=>jd (seq1 λxs μ=>mkL m xs μ) ds μ
 |.listRev=>jd (Cv m) ds μ
 |.sum=>jd (F8 λns μ=>.ok (.int ns.sum) μ) ds μ
 |.min=>minD ds μ
 |.max=>maxD ds μ
 |.all=>jd (Ju λbs μ=>.ok (.bl (bs.all id)) μ) ds μ
 |.any=>jd (Ju λbs μ=>.ok (.bl (bs.any id)) μ) ds μ
 |.sorted=>jd (Jw m) ds μ
 |.min1=>jd Nr ds μ
 |.max1=>jd Nt ds μ
 |.sortedN=>jd (Jy m) ds μ
 |.sortedT=>jd (Jz m) ds μ
 |.sortedST=>jd (uc m) ds μ
 |.inR3=>Nn ds μ
 |.sortedSet=>jd (Jv m) ds μ
 |.sortedL=>jd (Gb m) ds μ
 |.int=>jd J3 ds μ
 |.listRange=>jd (Ej λxs μ=>mkL m xs μ) ds μ
 |.tupleRange=>jd (Ej λxs μ=>.ok (.tup xs) μ) ds μ
 |.dictP=>jd J4 ds μ
 |.sortedI=>jd (J0 m) ds μ
 |.sortedD=>jd (J1 m) ds μ
 |.odds=>jd (Nq m) ds μ
 |.min3=>Nm ds μ
noncomputable def Qp:List Str:=["BadBook","BadTicks","NoDeed","NoRest","BadRow"]
noncomputable def Te(k c:Str):Bool:=decide (c=k) || decide (c="LampError") || decide (c="ValueError")
noncomputable def Cw(c:Cl)(d:D)(μ:Sto):Res D:=match d,c with
 |.int _,.int=>.ok (.bl true) μ
 |.bl _,.int=>.ok (.bl true) μ
 |.bl _,.bool=>.ok (.bl true) μ
 |.tup _,.tuple=>.ok (.bl true) μ
 |.lst _,.list=>.ok (.bl true) μ
 |.str _,.str=>.ok (.bl true) μ
 |.loc n,.list=>match μ[n]? with
  |some (.l _)=>.ok (.bl true) μ
  |some (.r _)=>.ok (.bl true) μ
  |_=>.stuck
 |.loc n,.own c=>match μ[n]? with
  |some (.x k)=>if Qp.contains k=true then .ok (.bl (Te k c)) μ else .stuck
  |_=>.stuck
 |.loc _,_=>.stuck
 |_,.own _=>.stuck
 |_,_=>.ok (.bl false) μ
noncomputable def putL(n:Nat)(o:O)(ds:List D)(d:D)(μ:Sto):Res D:=match o with
 |.l _=>.ok d (μ.set n (.l ds))
 |.r _=>.ok d (μ.set n (.r ds))
 |_=>.stuck
noncomputable def fits(o:O)(d:D):Bool:=match o with
 |.l _=>d.pure
 |.r _=>true
 |_=>false
noncomputable def gh:O->Option (List D)
 |.l ds=>some ds
 |.r ds=>some ds
 |_=>none
noncomputable def mtL(mt:Mt)(n:Nat)(ob:O)(xs:List D)(ds:List D)(μ:Sto):Res D:=match mt with
 |.append=>jd (λd μ=>if fits ob d=true/\xs.length<lim then putL n ob (xs++[d]) .non μ else .stuck) ds μ
 |.pop=>match ds with
  | []=>match xs.getLast? with
   |some d=>putL n ob xs.dropLast d μ
   |none=>.stuck
  | [.int i]=>if 0<=i/\i<lim then(match xs[i.toNat]? with
   |some d=>putL n ob (xs.eraseIdx i.toNat) d μ
   |none=>.stuck)else .stuck
  |_=>.stuck
 |.extend=>jd (λy μ=>match listOf μ y with
  |some ys=>if ys.all (fits ob)=true/\xs.length+ys.length<=lim then putL n ob (xs++ys) .non μ else .stuck
  |none=>.stuck) ds μ
 |.extendT=>jd (λy μ=>match y with
  |.tup ys=>if ys.all (fits ob)=true/\xs.length+ys.length<=lim then putL n ob (xs++ys) .non μ else .stuck
  |_=>.stuck) ds μ
 |.insert=>match ds with
  | [.int i,d]=>if 0<=i/\i<=(xs.length:Int)/\fits ob d=true/\xs.length<lim then putL n ob (xs.take i.toNat++d::xs.drop i.toNat) .non μ else .stuck
  |_=>.stuck
 |.remove=>jd (λd μ=>match bp (xs.map (aq μ 8)),aq μ 8 d with
  |some es,some e=>match es.findIdx? (λx=>deq x e)with
   |some j=>putL n ob (xs.eraseIdx j) .non μ
   |none=>.stuck
  |_,_=>.stuck) ds μ
 |.reverse=>match ds with
  | []=>putL n ob xs.reverse .non μ
  |_=>.stuck
 |.clear=>match ds with
  | []=>putL n ob [] .non μ
  |_=>.stuck
 |_=>.stuck
noncomputable def Nu(xs ds:List D)(μ:Sto):Res D:=jd (λx μ=>if flat x=true/\xs.all flat=true then .ok (.int (xs.countP λy=>deq y x)) μ else .stuck) ds μ
noncomputable def Tf(o:D)(ds:List D)(μ:Sto):Res D:=match o with
 |.tup xs=>Nu xs ds μ
 |_=>.stuck
noncomputable def Nv(o:D)(ds:List D)(μ:Sto):Res D:=match listOf μ o with
 |some xs=>Nu xs ds μ
 |none=>.stuck
noncomputable def fb(mt:Mt)(x:D)(μ:Sto):Bool:=match mt with
 |.get=>match x with
  |.loc n=>match μ[n]? with
   |some (.d _)=>true
   |_=>false
  |_=>false
 |.count=>match x with
  |.tup _=>true
  |_=>false
 |_=>(listOf μ x).isSome
noncomputable def Gc(o:D)(ds:List D)(μ:Sto):Res D:=match ds with
 | [k,x]=>match dictAt μ o k with
  |some kvs=>.ok ((p9 k kvs).getD x) μ
  |none=>.stuck
 |_=>.stuck
noncomputable def yc(mt:Mt)(o:D)(ds:List D)(μ:Sto):Res D:=match o with
 |.loc n=>match μ[n]? with
  |none=>.stuck
  |some ob=>match gh ob with
   |none=>.stuck
   |some xs=>mtL mt n ob xs ds μ
 |_=>.stuck
noncomputable def mtD(mt:Mt)(o:D)(ds:List D)(μ:Sto):Res D:=match mt with
 |.count=>Tf o ds μ
 |.countL=>Nv o ds μ
 |.get=>Gc o ds μ
 |mt=>yc mt o ds μ
noncomputable def qq(a:D)(ks:List D)(v:D)(μ:Sto):Res Unit:=match a with
 |.loc n=>match μ[n]? with
  |some (.dt kvs)=>if ks.all qo=true/\v.pure=true/\kvs.length<lim then .ok () (μ.set n (.dt (dput (.tup ks) v kvs)))else .stuck
  |_=>.stuck
 |_=>.stuck
noncomputable def Qq(a:D)(ks:List D)(μ:Sto):Res D:=match gb μ a ks with
 |some kvs=>match p9 (.tup ks) kvs with
  |some v=>.ok v μ
  |none=>.stuck
 |none=>.stuck
noncomputable def Nw(a:D)(ks:List D)(v:D)(μ:Sto):Res D:=match gb μ a ks with
 |some kvs=>.ok ((p9 (.tup ks) kvs).getD v) μ
 |none=>.stuck
noncomputable def Th(a k:D)(μ:Sto):Res D:=match k with
 |.tup ks=>Qq a ks μ
 |_=>.stuck
noncomputable def Ti(a:D)(μ:Sto):Bool:=match a with
 |.loc n=>match μ[n]? with
  |some (.dt _)=>true
  |_=>false
 |_=>false
noncomputable def J5(neg:Bool)(ks:List D)(a:D)(μ:Sto):Res D:=match gb μ a ks with
 |some kvs=>.ok (.bl (neg ^^ (p9 (.tup ks) kvs).isSome)) μ
 |none=>.stuck
noncomputable def ixD(a b:D)(μ:Sto):Res D:=match b with
 |.int i=>match d5 μ a with
  |some xs=>match ixN xs.length i with
   |some j=>match xs[j]? with
    |some d=>.ok d μ
    |none=>.stuck
   |none=>.stuck
  |none=>.stuck
 |_=>.stuck
noncomputable def ixL(a b:D)(μ:Sto):Res D:=match a with
 |.loc n=>ixD (.loc n) b μ
 |_=>.stuck
noncomputable def L9(a b:D)(μ:Sto):Res D:=match dictAt μ a b with
 |some kvs=>match p9 b kvs with
  |some v=>.ok v μ
  |none=>.stuck
 |none=>.stuck
noncomputable def Nx(a b:D)(μ:Sto):Res D:=match keysOf μ a with
 |some _=>L9 a b μ
 |none=>ixD a b μ
noncomputable def objOf(μ:Sto):D->Option (Nat×Str×List (Str×D))
 |.loc n=>match μ[n]? with
  |some (.o c fs)=>some (n,c,fs)
  |_=>none
 |_=>none
noncomputable def J6(c f:Str):Bool :=
 if c="Residue" then decide (f="heads") || decide (f="rooms") || decide (f="leaving") || decide (f="surplus")
 else if c="Slope" then decide (f="residue") || decide (f="scale") || decide (f="costs") || decide (f="worths")
 else if c="Watch" then decide (f="rests")else false
noncomputable def Qr(f:Str)(x:D)(μ:Sto):Res D:=match objOf μ x with
 |some (_,c,fs)=>if J6 c f=true then(match fs.lookup f with
  |some v=>.ok v μ
  |none=>.stuck)else .stuck
 |none=>.stuck
noncomputable def Qs(f:Str)(v:D):List (Str×D)->List (Str×D)
 | []=>[(f,v)]
 |(g,x)::r=>if g=f then(g,v)::r else(g,x)::Qs f v r
noncomputable def Ge(f:Str)(x v:D)(μ:Sto):Res Unit:=match objOf μ x with
 |some (n,c,fs)=>if J6 c f=true/\fs.length<100 then .ok () (μ.set n (.o c (Qs f v fs)))else .stuck
 |none=>.stuck
noncomputable def isObj(c m:Str)(x:D)(μ:Sto):Bool:=match objOf μ x with
 |some (_,c',fs)=>decide (c'=c)&&(fs.lookup m).isNone
 |none=>false
noncomputable def truD(x:D)(μ:Sto):Res D:=match x with
 |.bl b=>.ok (.bl b) μ
 |x=>match d5 μ x with
  |some xs=>.ok (.bl (!xs.isEmpty)) μ
  |none=>.stuck
noncomputable def Qt(op:Operator)(a b:D)(μ:Sto):Res D:=match a,b with
 |.int i,.int j=>match op with
  |.Add=>.ok (.int (i+j)) μ
  |.Sub=>.ok (.int (i-j)) μ
  |_=>.stuck
 |_,_=>.stuck
noncomputable def slD(m:Mk)(a:D)(lo hi:Option Int)(μ:Sto):Res D:=match a with
 |.tup xs=>.ok (.tup (cut xs lo hi)) μ
 |x=>match listOf μ x with
  |some xs=>mkL m (cut xs lo hi) μ
  |none=>.stuck
noncomputable def B9(a b v:D)(μ:Sto):Res Unit:=match a with
 |.loc n=>match μ[n]? with
  |none=>.stuck
  |some (.d kvs)=>if qo b=true/\v.pure=true/\kvs.length<lim then .ok () (μ.set n (.d (dput b v kvs)))else .stuck
  |some (.dr kvs)=>if qo b=true/\kvs.length<lim then .ok () (μ.set n (.dr (dput b v kvs)))else .stuck
  |some ob=>match gh ob,b with
   |some xs,.int i=>match ixN xs.length i with
    |some j=>if fits ob v=true then(putL n ob (xs.set j v) .non μ).bind λ_ μ=>.ok () μ else .stuck
    |none=>.stuck
   |_,_=>.stuck
 |_=>.stuck
noncomputable def eu(tg:Tg)(d:D)(σ:Sl):Option Sl:=match tg with
 |.one i=>some (σ.set i (some d))
 |.many is=>match d with
  |.tup ds=>if ds.length=is.length then some ((is.zip ds).foldl (λs p=>s.set p.1 (some p.2)) σ)else none
  |_=>none
noncomputable abbrev Gd:=Option (Nat×O)
noncomputable def gd(g:Gd)(μ:Sto):Prop:=match g with
 |none=>True
 |some (n,o)=>μ[n]? = some o
@[simp] theorem ud (μ:Sto):gd none μ=True:=rfl
open Classical in
noncomputable def mapR(g:Gd)(f:D->Sto->Res (List D)):List D->Sto->Res (List D)
 | [],μ=>if gd g μ then .ok [] μ else .stuck
 |d::ds,μ=>if gd g μ then(f d μ).bind λxs μ1=>(mapR g f ds μ1).bind λys μ2=>.ok (xs++ys) μ2 else .stuck
inductive Fl where
 |nx (σ:Sl) | rt (d:D) | bk (σ:Sl) | ct (σ:Sl)
open Classical in
noncomputable def ic(g:Gd)(f:D->Sl->Sto->Res Fl):List D->Sl->Sto->Res Fl
 | [],σ,μ=>if gd g μ then .ok (.nx σ) μ else .stuck
 |d::ds,σ,μ=>if gd g μ then(f d σ μ).bind λfl μ1=>match fl with
  |.nx σ1=>ic g f ds σ1 μ1
  |.ct σ1=>ic g f ds σ1 μ1
  |.bk σ1=>.ok (.nx σ1) μ1
  |.rt v=>.ok (.rt v) μ1 else .stuck
noncomputable def Hx(t:Bool)(ds:List D)(μ:Sto):Res D:=match ds with
 | []=>.ok (.loc μ.length) (μ++[if t then .dt []else .d []])
 | [.int a,x]=>if t=false/\x.pure=true then .ok (.loc μ.length) (μ++[.d [(.int a,x)]])else .stuck
 | [.int a,x,.int b,y]=>if t=false/\x.pure=true/\y.pure=true then .ok (.loc μ.length) (μ++[.d (dput (.int b) y [(.int a,x)])])else .stuck
 |_=>.stuck
noncomputable abbrev Phi:=Nat->List D->Sto->Res D
noncomputable def D.belowN(b:Nat):Nat->D->Bool
 |0,d=>match d with | .tup _=>false | .lst _=>false | .loc n=>decide (n<b) | _=>true
 |k+1,d=>match d with | .tup ds=>ds.all (D.belowN b k) | .lst ds=>ds.all (D.belowN b k) | .loc n=>decide (n<b) | _=>true
noncomputable def di(b:Nat):O->Bool
 |.r ds=>ds.all (D.belowN b 8)
 |.o _ fs=>fs.all λp=>D.belowN b 8 p.2
 |.dr kvs=>kvs.all λp=>D.belowN b 8 p.2
 |_=>true
noncomputable def noR:O->Bool
 |.r _=>false
 |.o _ _=>false
 |.dr _=>false
 |_=>true
noncomputable def j4(keep:Bool)(base:Nat)(r:Res D):Res D:=match r with
 |.ok d μ'=>if keep=true then .ok d μ' else if D.belowN base 8 d=true/\(μ'.take base).all (di base)=true then .ok d (μ'.take base)else .stuck
 |x=>x
noncomputable def Tj:O->Bool
 |.l _=>true
 |.d _=>true
 |.dt _=>true
 |.fd _=>true
 |_=>false
noncomputable def Gf(base:Nat)(r:Res D):Res D:=match r with
 |.ok d μ'=>if(μ'.take base).all (di base)=true then(if D.belowN base 8 d=true then .ok d (μ'.take base)else match d with
  |.loc n=>match μ'[n]? with
   |some o=>if Tj o=true then .ok (.loc base) (μ'.take base++[o])else .stuck
   |none=>.stuck
  |_=>.stuck)else .stuck
 |x=>x
noncomputable def J7(k1:Bool)(base:Nat)(r:Res D):Res D:=if k1=true then Gf base r else j4 false base r
noncomputable def J8(base:Nat)(r:Res D):Res D:=match r with
 |.ok .non μ'=>.ok (.loc base) μ'
 |_=>.stuck
noncomputable def Qu:D->Option (Sum D Str)
 |.non=>some (.inl .non)
 |.tup [.bl true,d]=>some (.inl d)
 |.tup [.bl false,.str c]=>some (.inr c)
 |_=>none
noncomputable def J9(base:Nat)(r:Res D):Res (Option Str):=match r with
 |.ok d μ'=>if(μ'.take base).all (di base)=true then(match Qu d with
  |some (.inl _)=>.ok none (μ'.take base)
  |some (.inr c)=>.ok (some c) (μ'.take base)
  |none=>.stuck)else .stuck
 |.exc c ds μ'=>.exc c ds μ'
 |.stuck=>.stuck
noncomputable def kTh(σ:Sl)(r:Option Str)(μ:Sto):Res Fl:=match r with
 |none=>.ok (.nx σ) μ
 |some c=>.ok (.rt (.tup [.bl false,.str c])) μ
noncomputable def kPl(fl:Fl)(μ:Sto):Res Fl:=match fl with
 |.nx σ=>.ok (.nx σ) μ
 |_=>.stuck
noncomputable def kGo(ei:Nat)(fl:Fl)(μ:Sto):Res Fl:=match fl with
 |.nx σ=>.ok (.nx (σ.set ei none)) μ
 |_=>.stuck
noncomputable def kTi(σ:Sl)(i j:Nat)(d:D)(μ:Sto):Res Fl:=match d with
 |.int n=>if i=j then .stuck else .ok (.nx ((σ.set j (some (.int n))).set i none)) μ
 |_=>.stuck
noncomputable def Tn(σ:Sl)(ei:Nat)(h:Sl->Sto->Res Fl)(r:Option Str)(μ:Sto):Res Fl:=match r with
 |none=>.ok (.nx σ) μ
 |some c=>if Qp.contains c=true then(h (σ.set ei (some (.loc μ.length))) (μ++[.x c])).bind (kGo ei)else .stuck
noncomputable def Ny(base:Nat)(r:Res D):Res (Sum D Str):=match r with
 |.ok d μ'=>if(μ'.take base).all (di base)=true then(match Qu d with
  |some (.inl d')=>if D.belowN base 8 d'=true then .ok (.inl d') (μ'.take base)else .stuck
  |some (.inr c)=>.ok (.inr c) (μ'.take base)
  |none=>.stuck)else .stuck
 |.exc c ds μ'=>.exc c ds μ'
 |.stuck=>.stuck
noncomputable def kMd(x:D)(q:Sum (List D) Str)(μ:Sto):Res (Sum (List D) Str):=match q with
 |.inl xs=>.ok (.inl (x::xs)) μ
 |.inr c=>.ok (.inr c) μ
noncomputable def kMc(rest:Sto->Res (Sum (List D) Str))(r:Sum D Str)(μ:Sto):Res (Sum (List D) Str):=match r with
 |.inl x=>(rest μ).bind (kMd x)
 |.inr c=>.ok (.inr c) μ
open Classical in
noncomputable def Qv(g:Gd)(f:D->Sto->Res (Sum D Str)):List D->Sto->Res (Sum (List D) Str)
 | [],μ=>if gd g μ then .ok (.inl []) μ else .stuck
 |d::ds,μ=>if gd g μ then(f d μ).bind (kMc λμ=>Qv g f ds μ)else .stuck
noncomputable def kMx(σ:Sl)(i:Nat)(ys:List D)(r:Sum (List D) Str)(μ:Sto):Res Fl:=match r with
 |.inl xs=>.ok (.nx (σ.set i (some (.tup (ys++xs))))) μ
 |.inr c=>.ok (.rt (.tup [.bl false,.str c])) μ
noncomputable def Mb(d:D)(μ:Sto):Res Bool:=match d with
 |.bl b=>.ok b μ
 |_=>.stuck
section
variable(φ:Phi)
mutual
noncomputable def evE:Ex->Sl->Sto->Res D
 |.var i,σ,μ=>match σ[i]? with
  |some (some d)=>.ok d μ
  |_=>.stuck
 |.frz i,σ,μ=>match σ[i]? with
  |some (some (.loc n))=>match μ[n]? with
   |some (.l ds)=>.ok (.lst ds) (μ.set n .dead)
   |some (.r ds)=>.ok (.lst ds) (μ.set n .dead)
   |_=>.stuck
  |_=>.stuck
 |.cst d,_,μ=>.ok d μ
 |.bin op m a b,σ,μ=>(evE a σ μ).bind λx μ=>(evE b σ μ).bind λy μ=>opD op m x y μ
 |.neg a,σ,μ=>(evE a σ μ).bind λx μ=>match x with
  |.int i=>.ok (.int (-i)) μ
  |_=>.stuck
 |.not a,σ,μ=>(evE a σ μ).bind λx μ=>match x with
  |.bl b=>.ok (.bl (!b)) μ
  |_=>.stuck
 |.and a b,σ,μ=>(evE a σ μ).bind λx μ=>match x with
  |.bl c=>if c=true then evE b σ μ else .ok (.bl false) μ
  |_=>.stuck
 |.or a b,σ,μ=>(evE a σ μ).bind λx μ=>match x with
  |.bl c=>if c=true then .ok (.bl true) μ else evE b σ μ
  |_=>.stuck
 |.ite c a b,σ,μ=>(evE c σ μ).bind λx μ=>match x with
  |.bl c=>if c=true then evE a σ μ else evE b σ μ
  |_=>.stuck
 |.cmp a r,σ,μ=>(evE a σ μ).bind λx μ=>evC r x σ μ
 |.call keep f es,σ,μ=>(c5 es σ μ).bind λds μ=>j4 keep μ.length (φ f ds μ)
 |.blt b m es,σ,μ=>(c5 es σ μ).bind λds μ=>btD b m ds μ
 |.isi a c,σ,μ=>(evE a σ μ).bind λx μ=>Cw c x μ
 |.meth mt o es,σ,μ=>(evE o σ μ).bind λx μ=>if fb mt x μ=true then(c5 es σ μ).bind λds μ=>mtD mt x ds μ else .stuck
 |.ix a b,σ,μ=>(evE a σ μ).bind λx μ=>(evE b σ μ).bind λy μ=>ixD x y μ
 |.dix a b,σ,μ=>(evE a σ μ).bind λx μ=>(evE b σ μ).bind λy μ=>L9 x y μ
 |.sl m a lo hi,σ,μ=>(evE a σ μ).bind λx μ=>(evO lo σ μ).bind λl μ=>(evO hi σ μ).bind λh μ=>slD m x l h μ
 |.tup es,σ,μ=>(c5 es σ μ).bind λds μ=>.ok (.tup ds) μ
 |.lst m es,σ,μ=>(c5 es σ μ).bind λds μ=>mkL m ds μ
 |.dic t es,σ,μ=>(c5 es σ μ).bind λds μ=>Hx t ds μ
 |.ixT d es,σ,μ=>(evE d σ μ).bind λx μ=>(c5 es σ μ).bind λks μ=>Qq x ks μ
 |.ixV d k,σ,μ=>(evE d σ μ).bind λx μ=>(evE k σ μ).bind λy μ=>Th x y μ
 |.getT d es e,σ,μ=>(evE d σ μ).bind λx μ=>if Ti x μ=true then(c5 es σ μ).bind λks μ=>(evE e σ μ).bind λv μ=>Nw x ks v μ else .stuck
 |.inT neg es d,σ,μ=>(c5 es σ μ).bind λds μ=>(evE d σ μ).bind λx μ=>J5 neg ds x μ
 |.att e f,σ,μ=>(evE e σ μ).bind λx μ=>Qr f x μ
 |.mcall k1 c m f o es,σ,μ=>(evE o σ μ).bind λx μ=>if isObj c m x μ=true then(c5 es σ μ).bind λds μ=>J7 k1 μ.length (φ f (x::ds) μ)else .stuck
 |.make c f es,σ,μ=>(c5 es σ μ).bind λds μ=>J8 μ.length (φ f (.loc μ.length::ds) (μ++[.o c []]))
 |.callK f es,σ,μ=>(c5 es σ μ).bind λds μ=>Gf μ.length (φ f ds μ)
 |.tru e,σ,μ=>(evE e σ μ).bind λx μ=>truD x μ
 |.drp e,σ,μ=>j4 false μ.length (evE e σ μ)
 |.dicr,_,μ=>.ok (.loc μ.length) (μ++[.dr []])
 |.gix a b,σ,μ=>(evE a σ μ).bind λx μ=>(evE b σ μ).bind λy μ=>Nx x y μ
 |.comp m cap nl tg it cs elt,σ,μ=>(evI it σ μ).bind λds μ =>
   (mapR ds.2 (λd μ=>ib (eu tg d (cap.map (λi=>(σ[i]?).getD none)++List.replicate nl none)) λσ' =>
    (yd cs σ' μ).bind λb μ=>if b=true then(evE elt σ' μ).bind λx μ=>.ok [x] μ else .ok [] μ) ds.1 μ).bind λxs μ=>mkL m xs μ
noncomputable def c5:Exs->Sl->Sto->Res (List D)
 |.nil,_,μ=>.ok [] μ
 |.cons e es,σ,μ=>(evE e σ μ).bind λd μ=>(c5 es σ μ).bind λds μ=>.ok (d::ds) μ
noncomputable def evC:Cps->D->Sl->Sto->Res D
 |.nil,_,_,_=>.stuck
 |.cons op e r,x,σ,μ=>(evE e σ μ).bind λy μ=>(cpD op x y μ).bind λz μ=>match r with
  |.nil=>.ok z μ
  |r=>match z with
   |.bl b=>if b=true then evC r y σ μ else .ok (.bl false) μ
   |_=>.stuck
noncomputable def evO:ExO->Sl->Sto->Res (Option Int)
 |.no,_,μ=>.ok none μ
 |.so e,σ,μ=>(evE e σ μ).bind λx μ=>match x with
  |.int i=>.ok (some i) μ
  |_=>.stuck
noncomputable def yd:Exs->Sl->Sto->Res Bool
 |.nil,_,μ=>.ok true μ
 |.cons e es,σ,μ=>(evE e σ μ).bind λx μ=>match x with
  |.bl b=>if b=true then yd es σ μ else .ok false μ
  |_=>.stuck
noncomputable def evI:It->Sl->Sto->Res (List D×Gd)
 |.seq e,σ,μ=>(evE e σ μ).bind λx μ=>match h7 μ x with
  |some w=>.ok w μ
  |none=>.stuck
 |.rng a,σ,μ=>(evE a σ μ).bind λx μ=>match x with
  |.int j=>if -(lim:Int)<=j/\j<=lim then .ok ((List.range j.toNat).map fun(i:Nat)=>D.int i,none) μ else .stuck
  |_=>.stuck
 |.rng2 a b,σ,μ=>(evE a σ μ).bind λx μ=>(evE b σ μ).bind λy μ=>match x,y with
  |.int i,.int j=>if -(lim:Int)<=i/\i<=lim/\j<=lim /\ -(lim:Int)<=j/\(j-i)<=lim then .ok ((List.range (j-i).toNat).map fun(k:Nat)=>D.int (i+k),none) μ else .stuck
  |_,_=>.stuck
 |.rng3 a b c,σ,μ=>(evE a σ μ).bind λx μ=>(evE b σ μ).bind λy μ=>(evE c σ μ).bind λz μ=>match x,y,z with
  |.int i,.int j,.int k=>if 0<=i/\i<=lim/\j<=lim/\0<=j/\1<=k/\k<=1000 then .ok ((List.range (if i<j then((j-i-1) / k+1).toNat else 0)).map fun(n:Nat)=>D.int (i+n*k),none) μ else .stuck
  |_,_,_=>.stuck
 |.rngD a b c,σ,μ=>(evE a σ μ).bind λx μ=>(evE b σ μ).bind λy μ=>(evE c σ μ).bind λz μ=>match x,y,z with
  |.int i,.int j,.int k=>if -1<=i/\i<lim/\j = -1/\k = -1 then .ok ((List.range (i+1).toNat).map fun(n:Nat)=>D.int (i-n),none) μ else .stuck
  |_,_,_=>.stuck
 |.zip a b,σ,μ=>(evE a σ μ).bind λx μ=>(evE b σ μ).bind λy μ=>match h7 μ x,d5 [] y with
  |some w,some ys=>.ok ((w.1.zip ys).map λp=>.tup [p.1,p.2],w.2) μ
  |_,_=>.stuck
 |.enum a,σ,μ=>(evE a σ μ).bind λx μ=>match h7 μ x with
  |some w=>.ok ((List.range w.1.length |>.zip w.1).map fun(p:Nat×D)=>.tup [.int p.1,p.2],w.2) μ
  |none=>.stuck
 |.rev _,_,_=>.stuck
 |.vals a,σ,μ=>(evE a σ μ).bind λx μ=>match x with
  |.loc n=>match μ[n]? with
   |some (.d kvs)=>.ok (kvs.map (·.2),none) (μ.set n .dead)
   |_=>.stuck
  |_=>.stuck
 |.keys a,σ,μ=>(evE a σ μ).bind λx μ=>match x with
  |.loc n=>match μ[n]? with
   |some (.d kvs)=>.ok (kvs.map (·.1),none) (μ.set n (.fd kvs))
   |_=>.stuck
  |_=>.stuck
end
noncomputable def whN(c:Sl->Sto->Res Bool)(b:Sl->Sto->Res Fl):Nat->Sl->Sto->Res Fl
 |0,_,_=>.stuck
 |n+1,σ,μ=>(c σ μ).bind λk μ1=>if k=true then(b σ μ1).bind λfl μ2=>match fl with
  |.nx σ1=>whN c b n σ1 μ2
  |.ct σ1=>whN c b n σ1 μ2
  |.bk σ1=>.ok (.nx σ1) μ2
  |.rt v=>.ok (.rt v) μ2 else .ok (.nx σ) μ1
open Classical in
noncomputable def whR(c:Sl->Sto->Res Bool)(b:Sl->Sto->Res Fl)(σ:Sl)(μ:Sto):Res Fl :=
 if h:∃n,whN c b n σ μ≠.stuck then whN c b h.choose σ μ else .stuck
mutual
noncomputable def evS:Sm->Sl->Sto->Res Fl
 |.set i e,σ,μ=>(evE φ e σ μ).bind λd μ=>.ok (.nx (σ.set i (some d))) μ
 |.unp is e,σ,μ=>(evE φ e σ μ).bind λd μ=>match eu (.many is) d σ with
  |some σ'=>.ok (.nx σ') μ
  |none=>.stuck
 |.setx o i v,σ,μ=>(evE φ v σ μ).bind λd μ=>(evE φ o σ μ).bind λx μ=>(evE φ i σ μ).bind λy μ=>(B9 x y d μ).bind λ_ μ=>.ok (.nx σ) μ
 |.augx op o i v,σ,μ=>(evE φ o σ μ).bind λx μ=>(evE φ i σ μ).bind λy μ=>(ixL x y μ).bind λold μ=>(evE φ v σ μ).bind λd μ=>(Qt op old d μ).bind λz μ=>(B9 x y z μ).bind λ_ μ=>.ok (.nx σ) μ
 |.setxT o i v,σ,μ=>(evE φ v σ μ).bind λd μ=>(evE φ o σ μ).bind λx μ=>(c5 φ i σ μ).bind λy μ=>(qq x y d μ).bind λ_ μ=>.ok (.nx σ) μ
 |.ex e,σ,μ=>(evE φ e σ μ).bind λ_ μ=>.ok (.nx σ) μ
 |.ite c a b,σ,μ=>(evE φ c σ μ).bind λx μ=>match x with
  |.bl k=>if k=true then ji a σ μ else ji b σ μ
  |_=>.stuck
 |.loop tg it b,σ,μ=>(evI φ it σ μ).bind λds μ=>ic ds.2 (λd σ μ=>ib (eu tg d σ) λσ'=>ji b σ' μ) ds.1 σ μ
 |.ret e,σ,μ=>(evE φ e σ μ).bind λd μ=>.ok (.rt d) μ
 |.raise c es,σ,μ=>(c5 φ es σ μ).bind λ_ μ=>.ok (.rt (.tup [.bl false,.str c])) μ
 |.pl s,σ,μ=>(evS s σ μ).bind kPl
 |.callx f es,σ,μ=>(c5 φ es σ μ).bind λds μ=>(J9 μ.length (φ f ds μ)).bind (kTh σ)
 |.mapx i cap nl tg it f es,σ,μ=>(evI φ it σ μ).bind λds μ =>
   (Qv ds.2 (λd μ=>ib (eu tg d (cap.map (λi=>(σ[i]?).getD none)++List.replicate nl none)) λσ'=>(c5 φ es σ' μ).bind λas μ=>Ny μ.length (φ f as μ)) ds.1 μ).bind (kMx σ i [])
 |.tryi i j e,σ,μ=>(evE φ e σ μ).bind (kTi σ i j)
 |.tryc f es ei h,σ,μ=>(c5 φ es σ μ).bind λds μ=>(J9 μ.length (φ f ds μ)).bind (Tn σ ei λσ μ=>ji h σ μ)
 |.seta o f e,σ,μ=>(evE φ e σ μ).bind λd μ=>(evE φ o σ μ).bind λx μ=>(Ge f x d μ).bind λ_ μ=>.ok (.nx σ) μ
 |.whl c b,σ,μ=>whR (λσ μ=>(evE φ c σ μ).bind λd μ=>Mb d μ) (λσ μ=>ji b σ μ) σ μ
 |.pass,σ,μ=>.ok (.nx σ) μ
 |.brk,σ,μ=>.ok (.bk σ) μ
 |.cont,σ,μ=>.ok (.ct σ) μ
 |.never,_,_=>.stuck
noncomputable def ji:Sms->Sl->Sto->Res Fl
 |.nil,σ,μ=>.ok (.nx σ) μ
 |.cons s r,σ,μ=>(evS s σ μ).bind λfl μ=>match fl with
  |.nx σ'=>ji r σ' μ
  |fl=>.ok fl μ
end
end
structure Df where
 np:Nat
 nn:Nat
 body:Sms
noncomputable def Hy(φ:Phi)(f:Df)(ds:List D)(μ:Sto):Res D :=
 if ds.length=f.np then(ji φ f.body (ds.map some++List.replicate (f.nn-f.np) none) μ).bind λfl μ=>match fl with
  |.nx _=>.ok .non μ
  |.rt d=>.ok d μ
  |_=>.stuck
 else .stuck
noncomputable def ao(T:List Df):Nat->Phi
 |0=>λ_ _ _=>.stuck
 |n+1=>λf ds μ=>match T[f]? with
  |some d=>Hy (ao T n) d ds μ
  |none=>.stuck
open PySem PySem.Spec PyProof.Rows L2
noncomputable abbrev St:=L2.St
theorem _root_.L2.FzL.sq{K:PySem.W.Frag}{H:Hp}{a:Addr}{xs:List V}(h:FzL K H a xs):SqL K H a xs:=by
 rcases h with⟨o,h⟩ | ⟨its,n,h,hz,hv⟩
 ·exact .inl (.inr ⟨o,h⟩)
 ·exact .inr ⟨_,its.toArray,n,h,rfl,rfl,rfl,by rw[AG,<-hv.length];exact hz,by simpa using hv⟩
noncomputable def LsL(K:PySem.W.Frag)(H:Hp)(a:Addr)(xs:List V):Prop:=H a=some (.lst xs)\/FzL K H a xs
theorem LsL.sq{K:PySem.W.Frag}{H:Hp}{a:Addr}{xs:List V}(h:LsL K H a xs):SqL K H a xs:=by
 rcases h with h | h
 ·exact .of h
 ·exact h.sq
theorem _root_.L2.Inv.ls{X:Cx}{pins:List (Addr×Obj)}{σ:St}{H:Hp}{s:Shared}{a:Addr}{xs:List V}(I:Inv X pins σ H s)(h:LsL X.K H a xs) :
  xs.length<=sizeLine/\∃(its:List Value) (n:Nat),bc xs its/\xs.length=its.length/\s.heap.get? a=some {cls:=.type "list",data:=.seq its.toArray n}:=by
 rcases h with h | ⟨o,h⟩ | ⟨its,n,h,hz,hv⟩
 ·obtain⟨z,its,n,hv,e⟩:=I.hok a _ h
  exact⟨z,its,n,hv,hv.length,e⟩
 ·obtain⟨_,z,its,n,hv,e⟩:=I.hok a _ h
  exact⟨z,its,n,hv,hv.length,e⟩
 ·exact⟨hz,its,n,hv,hv.length,I.kIn a _ h⟩
structure Ext (H H':Hp):Prop where
 tups:∀b xs,H b=some (.tup xs)->H' b=some (.tup xs)
 frzs:∀b o u,H b=some (.frz o u)->H' b=some (.frz o u)
theorem Ext.refl(H:Hp):Ext H H:=⟨λ_ _ h=>h,λ_ _ _ h=>h⟩
theorem Ext.trans{H H1 H2:Hp}(a:Ext H H1)(b:Ext H1 H2):Ext H H2:=⟨λc xs h=>b.tups c xs (a.tups c xs h),λc o u h=>b.frzs c o u (a.frzs c o u h)⟩
theorem Ext.new{H:Hp}{p:Addr}{o:HO}(h:H p=none):Ext H (upd H p o) :=
 ⟨λb xs e=>by rw[ai (ay e h)];exact e,λb o u e=>by rw[ai (ay e h)];exact e⟩
theorem Ext.lst{H:Hp}{p:Addr}{xs:List V}{o:HO}(h:H p=some (.lst xs)):Ext H (upd H p o) :=
 ⟨λb ys e=>by rw[ai (ki e h (by intro z;cases z))];exact e,λb o u e=>by rw[ai (ki e h (by intro z;cases z))];exact e⟩
theorem Ext.dK{H:Hp}{p:Addr}{xs:List (Key×V)}{o:HO}(h:H p=some (.dK xs)):Ext H (upd H p o) :=
 ⟨λb ys e=>by rw[ai (ki e h (by intro z;cases z))];exact e,λb o u e=>by rw[ai (ki e h (by intro z;cases z))];exact e⟩
theorem Ext.dT{H:Hp}{p:Addr}{xs:List (List Key×V)}{o:HO}(h:H p=some (.dT xs)):Ext H (upd H p o) :=
 ⟨λb ys e=>by rw[ai (ki e h (by intro z;cases z))];exact e,λb o u e=>by rw[ai (ki e h (by intro z;cases z))];exact e⟩
theorem _root_.L2.SqT.ext{K:PySem.W.Frag}{H H':Hp}{a:Addr}{xs:List V}(h:SqT K H a xs)(e:Ext H H'):SqT K H' a xs:=by
 rcases h with(h | ⟨o,h⟩) | h
 ·exact .inl (.inl (e.tups _ _ h))
 ·exact .inl (.inr ⟨o,e.frzs _ _ _ h⟩)
 ·exact .inr h
theorem _root_.L2.FzL.ext{K:PySem.W.Frag}{H H':Hp}{a:Addr}{xs:List V}(h:FzL K H a xs)(e:Ext H H'):FzL K H' a xs:=by
 rcases h with⟨o,h⟩ | h
 ·exact .inl ⟨o,e.frzs _ _ _ h⟩
 ·exact .inr h
section
variable(K:PySem.W.Frag)(ι:List Addr)(H:Hp)
mutual
noncomputable def IsD:D->V->Prop
 |.non,v=>v=.non
 |.bl b,v=>v=.bl b
 |.int i,v=>v=.int i
 |.str x,v=>v=.str x
 |.tup ds,v=>∃a xs,v=.ref a/\SqT K H a xs/\ag ds xs
 |.lst ds,v=>∃a xs,v=.ref a/\FzL K H a xs/\ag ds xs
 |.loc n,v=>∃a,v=.ref a/\ι[n]? = some a
noncomputable def ag:List D->List V->Prop
 | [],xs=>xs=[]
 |d::ds,xs=>∃v r,xs=v::r/\IsD d v/\ag ds r
end
end
section
variable{K:PySem.W.Frag}{ι ι' : List Addr}{H H' : Hp}
mutual
theorem IsD.mono(hp:ι <+: ι')(he:Ext H H'):∀(d:D) (v:V),IsD K ι H d v->IsD K ι' H' d v
 |.non,_,h=>by simpa[IsD]using h
 |.bl b,_,h=>by simpa[IsD]using h
 |.int i,_,h=>by simpa[IsD]using h
 |.str x,_,h=>by simpa[IsD]using h
 |.tup ds,v,h=>by
  simp![IsD]at h ⊢
  obtain⟨a,xs,e,q,r⟩:=h
  exact⟨a,xs,e,q.ext he,ag.mono hp he ds xs r⟩
 |.lst ds,v,h=>by
  simp![IsD]at h ⊢
  obtain⟨a,xs,e,q,r⟩:=h
  exact⟨a,xs,e,q.ext he,ag.mono hp he ds xs r⟩
 |.loc n,v,h=>by
  simp![IsD]at h ⊢
  obtain⟨a,e,q⟩:=h
  obtain⟨t,rfl⟩:=hp
  exact⟨a,e,by rw[AW (AK.mp q).1];exact q⟩
theorem ag.mono(hp:ι <+: ι')(he:Ext H H'):∀(ds:List D) (xs:List V),ag K ι H ds xs->ag K ι' H' ds xs
 | [],xs,h=>by simpa[ag]using h
 |d::ds,xs,h=>by
  simp![ag]at h ⊢
  obtain⟨v,r,e,q,t⟩:=h
  exact⟨v,r,e,IsD.mono hp he d v q,ag.mono hp he ds r t⟩
end
theorem ag.length:∀{ds:List D} {xs:List V},ag K ι H ds xs->xs.length=ds.length
 | [],xs,h=>by simp![ag]at h;subst h;rfl
 |d::ds,xs,h=>by
  simp![ag]at h
  obtain⟨v,r,rfl,_,t⟩:=h
  simp[ag.length t]
theorem ag.get:∀{ds:List D} {xs:List V} {i:Nat} {d:D},ag K ι H ds xs->ds[i]? = some d->∃v,xs[i]? = some v/\IsD K ι H d v
 | [],_,_,_,_,e=>by simp at e
 |d::ds,xs,0,_,h,e=>by
  simp![ag]at h
  obtain⟨v,r,rfl,q,_⟩:=h
  simp at e;subst e
  exact⟨v,rfl,q⟩
 |d::ds,xs,i+1,x,h,e=>by
  simp![ag]at h
  obtain⟨v,r,rfl,_,t⟩:=h
  obtain⟨w,h1,h2⟩:=ag.get (i:=i) (d:=x) t (by simpa using e)
  exact⟨w,by simpa using h1,h2⟩
theorem ag.append:∀{ds es:List D} {xs ys:List V},ag K ι H ds xs->ag K ι H es ys->ag K ι H (ds++es) (xs++ys)
 | [],_,_,_,h,g=>by simp![ag]at h;subst h;exact g
 |d::ds,es,xs,ys,h,g=>by
  simp![ag]at h
  obtain⟨v,r,rfl,q,t⟩:=h
  simp![List.cons_append,ag]
  exact⟨v,r++ys,rfl,q,ag.append t g⟩
theorem ag.one{d:D}{v:V}(h:IsD K ι H d v):ag K ι H [d] [v]:=by
 simp![ag];exact⟨v,[],rfl,h,rfl⟩
theorem ag.take:∀{ds:List D} {xs:List V} (n:Nat),ag K ι H ds xs->ag K ι H (ds.take n) (xs.take n)
 |_,_,0,_=>by simp[ag]
 | [],_,n+1,h=>by simp![ag]at h;subst h;simp[ag]
 |d::ds,xs,n+1,h=>by
  simp![ag]at h
  obtain⟨v,r,rfl,q,t⟩:=h
  simp![List.take_succ_cons,ag]
  exact⟨v,_,rfl,q,ag.take n t⟩
theorem ag.drop:∀{ds:List D} {xs:List V} (n:Nat),ag K ι H ds xs->ag K ι H (ds.drop n) (xs.drop n)
 |_,_,0,h=>by simpa using h
 | [],_,n+1,h=>by simp![ag]at h;subst h;simp[ag]
 |d::ds,xs,n+1,h=>by
  simp![ag]at h
  obtain⟨v,r,rfl,q,t⟩:=h
  simpa using ag.drop n t
theorem ag.set{d:D}{v:V}(hd:IsD K ι H d v):∀{ds:List D} {xs:List V} (n:Nat),ag K ι H ds xs->ag K ι H (ds.set n d) (xs.set n v)
 | [],_,n,h=>by simp![ag]at h;subst h;simp[ag]
 |e::ds,xs,0,h=>by
  simp![ag]at h
  obtain⟨w,r,rfl,q,t⟩:=h
  simp![List.set_cons_zero,ag]
  exact⟨v,r,rfl,hd,t⟩
 |e::ds,xs,n+1,h=>by
  simp![ag]at h
  obtain⟨w,r,rfl,q,t⟩:=h
  simp![List.set_cons_succ,ag]
  exact⟨w,_,rfl,q,ag.set hd n t⟩
theorem ag.rep{ds:List D}{xs:List V}(h:ag K ι H ds xs):∀k:Nat,ag K ι H (List.replicate k ds).flatten (List.replicate k xs).flatten
 |0=>by simp[ag]
 |k+1=>by
  simp![CQ,EA]
  exact h.append (ag.rep h k)
theorem ag.ints:∀(ns:List Int),ag K ι H (ns.map D.int) (ns.map V.int)
 | []=>by simp[ag]
 |n::r=>by
  simp![AL,ag]
  exact⟨_,_,rfl,by simp[IsD],ag.ints r⟩
theorem IsD.puren:∀(k:Nat) (d:D) (v:V),D.pureN k d=true->IsD K ι H d v->IsD K ι' H d v:=by
 have list:∀(k:Nat),(∀(d:D) (v:V),D.pureN k d=true->IsD K ι H d v->IsD K ι' H d v) ->
   ∀(ds:List D) (xs:List V),ds.all (D.pureN k)=true->ag K ι H ds xs->ag K ι' H ds xs:=by
  intro k ih ds
  induction ds with
  |nil=>intro xs _ h;simpa[ag]using h
  |cons d ds ihd =>
   intro xs hp h
   simp![ag]at h ⊢
   simp![BI,AT]at hp
   obtain⟨v,r,e,q,t⟩:=h
   exact⟨v,r,e,ih d v hp.1 q,ihd r hp.2 t⟩
 intro k
 induction k with
 |zero =>
  intro d v hp h
  cases d<;>simp_all[D.pureN,IsD]
 |succ k ih =>
  intro d v hp h
  cases d with
  |tup ds =>
   simp![D.pureN]at hp
   simp![IsD]at h ⊢
   obtain⟨a,xs,e,q,r⟩:=h
   exact⟨a,xs,e,q,list k ih ds xs hp r⟩
  |lst ds =>
   simp![D.pureN]at hp
   simp![IsD]at h ⊢
   obtain⟨a,xs,e,q,r⟩:=h
   exact⟨a,xs,e,q,list k ih ds xs hp r⟩
  |loc n=>simp[D.pureN]at hp
  |_=>simpa[IsD]using h
theorem IsD.pur{d:D}{v:V}(hp:d.pure=true)(h:IsD K ι H d v):IsD K ι' H d v:=IsD.puren 8 d v hp h
theorem ag.pur{ds:List D}{xs:List V}(hp:ds.all (D.pureN 8)=true)(h:ag K ι H ds xs):ag K ι' H ds xs:=by
 induction ds generalizing xs with
 |nil=>simpa[ag]using h
 |cons d ds ih =>
  simp![ag]at h ⊢
  simp![BI,AT]at hp
  obtain⟨v,r,e,q,t⟩:=h
  exact⟨v,r,e,IsD.pur hp.1 q,ih hp.2 t⟩
end
section
variable(K:PySem.W.Frag)(ι:List Addr)(H:Hp)
noncomputable def El(kvs:List (D×D))(xs:List (List Key×V)):Prop :=
 Paired (fun(p:D×D) (q:List Key×V)=>(∃ds,p.1=.tup ds/\ag K [] H ds (q.1.map kV))/\IsD K [] H p.2 q.2) kvs xs
noncomputable def ue(kvs:List (D×D))(xs:List (Key×V)):Prop :=
 Paired (fun(p:D×D) (q:Key×V)=>IsD K [] H p.1 (kV q.1)/\IsD K ι H p.2 q.2) kvs xs
noncomputable abbrev Qw(kvs:List (D×D))(xs:List (Key×V)):Prop:=ue K [] H kvs xs
noncomputable def FsD(fs:List (Str×D))(xs:List (Str×V)):Prop:=Paired (fun(p:Str×D) (q:Str×V)=>p.1=q.1/\IsD K ι H p.2 q.2) fs xs
noncomputable def OIs(a:Addr):O->Prop
 |.l ds=>∃xs,H a=some (.lst xs)/\ag K [] H ds xs
 |.r ds=>∃xs,H a=some (.lst xs)/\ag K ι H ds xs
 |.d kvs=>∃xs,H a=some (.dK xs)/\Qw K H kvs xs
 |.dt kvs=>∃xs,H a=some (.dT xs)/\El K H kvs xs
 |.x c=>∃cls,PySem.W.nsIn K mainGlobals c=some (some cls)/\H a=some (Ta a cls)
 |.o c fs=>∃C dx xs,PySem.W.nsIn K mainGlobals c=some (some (.ref C))/\H a=some (.ins C dx xs)/\FsD K ι H fs xs
 |.dr kvs=>∃xs,H a=some (.dK xs)/\ue K ι H kvs xs
 |.fd kvs=>∃o xs,H a=some (.frz o (.dK xs))/\Qw K H kvs xs
 |.dead=>∃u,H a=some u
structure Sim (μ:Sto):Prop where
 len:ι.length=μ.length
 nd:ι.Nodup
 obj:∀(n:Nat) a o,ι[n]? = some a->μ[n]? = some o->OIs K ι H a o
noncomputable def jy(σ:Sl)(σv:St):Prop:=∀(i:Nat) d,σ[i]? = some (some d)->∃v,σv[i]? = some (some v)/\IsD K ι H d v
end
section
variable{K:PySem.W.Frag}{ι ι' : List Addr}{H H' : Hp}{μ:Sto}{σ:Sl}{σv:St}
theorem jy.mono(h:jy K ι H σ σv)(hp:ι <+: ι')(he:Ext H H'):jy K ι' H' σ σv:=λi d e=>by
 obtain⟨v,q,r⟩:=h i d e
 exact⟨v,q,IsD.mono hp he d v r⟩
theorem jy.set(h:jy K ι H σ σv)(hl:σ.length=σv.length){i:Nat}{d:D}{v:V}(hd:IsD K ι H d v):jy K ι H (σ.set i (some d)) (σv.set i (some v)):=λj e q=>by
 by_cases hj:i=j
 ·subst hj
  by_cases hi:i<σ.length
  ·rw[CV hi]at q
   cases q
   exact⟨v,by rw[CV (by lia)],hd⟩
  ·rw[DX (by simp;lia)]at q;cases q
 ·rw[CB hj]at q
  obtain⟨w,q1,q2⟩:=h j e q
  exact⟨w,by rw[CB hj];exact q1,q2⟩
theorem OIs.ne(h:OIs K ι H a o):∃u,H a=some u:=by
 cases o with
 |l ds=>obtain⟨xs,e,_⟩:=h;exact⟨_,e⟩
 |r ds=>obtain⟨xs,e,_⟩:=h;exact⟨_,e⟩
 |d kvs=>obtain⟨xs,e,_⟩:=h;exact⟨_,e⟩
 |dt kvs=>obtain⟨xs,e,_⟩:=h;exact⟨_,e⟩
 |x c=>obtain⟨_,_,e⟩:=h;exact⟨_,e⟩
 |o c fs=>obtain⟨_,_,_,_,e,_⟩:=h;exact⟨_,e⟩
 |dr kvs=>obtain⟨xs,e,_⟩:=h;exact⟨_,e⟩
 |fd kvs=>obtain⟨_,xs,e,_⟩:=h;exact⟨_,e⟩
 |dead=>exact h
theorem OIs.mono{a:Addr}{o:O}(h:OIs K ι H a o)(hp:ι <+: ι')(he:Ext H H')(ha:H' a=H a):OIs K ι' H' a o:=by
 cases o with
 |l ds=>obtain⟨xs,e,q⟩:=h;exact⟨xs,ha.trans e,ag.mono (AE _) he ds xs q⟩
 |r ds=>obtain⟨xs,e,q⟩:=h;exact⟨xs,ha.trans e,ag.mono hp he ds xs q⟩
 |d kvs =>
  obtain⟨xs,e,q⟩:=h
  exact⟨xs,ha.trans e,Paired.mapP q λp r z=>⟨IsD.mono (AE _) he _ _ z.1,IsD.mono (AE _) he _ _ z.2⟩⟩
 |dt kvs =>
  obtain⟨xs,e,q⟩:=h
  exact⟨xs,ha.trans e,Paired.mapP q λp r z=>⟨let ⟨ds,e,t⟩:=z.1;⟨ds,e,ag.mono (AE _) he _ _ t⟩,IsD.mono (AE _) he _ _ z.2⟩⟩
 |x c=>obtain⟨k,q,e⟩:=h;exact⟨k,q,ha.trans e⟩
 |o c fs=>obtain⟨C,dx,xs,n,e,q⟩:=h;exact⟨C,dx,xs,n,ha.trans e,Paired.mapP q λp r z=>⟨z.1,IsD.mono hp he _ _ z.2⟩⟩
 |dr kvs =>
  obtain⟨xs,e,q⟩:=h
  exact⟨xs,ha.trans e,Paired.mapP q λp r z=>⟨IsD.mono (AE _) he _ _ z.1,IsD.mono hp he _ _ z.2⟩⟩
 |fd kvs =>
  obtain⟨o,xs,e,q⟩:=h
  exact⟨o,xs,ha.trans e,Paired.mapP q λp r z=>⟨IsD.mono (AE _) he _ _ z.1,IsD.mono (AE _) he _ _ z.2⟩⟩
 |dead=>obtain⟨u,e⟩:=h;exact⟨u,ha.trans e⟩
theorem Sim.at(h:Sim K ι H μ){n:Nat}{o:O}(e:μ[n]? = some o):∃a,ι[n]? = some a/\OIs K ι H a o:=by
 have hn:n<ι.length:=by rw[h.len];exact(AK.mp e).1
 exact⟨ι[n],AD hn,h.obj n _ o (AD hn) e⟩
theorem Sim.used(h:Sim K ι H μ){n:Nat}{a:Addr}(e:ι[n]? = some a):∃u,H a=some u:=by
 have hn:n<μ.length:=by rw[<-h.len];exact(AK.mp e).1
 exact(h.obj n a _ e (AD hn)).ne
theorem Sim.new(h:Sim K ι H μ){p:Addr}{o:HO}(hp:H p=none):Sim K ι (upd H p o) μ :=
 ⟨h.len,h.nd,λn a ob e1 e2=>by
  obtain⟨u,hu⟩:=h.used e1
  exact(h.obj n a ob e1 e2).mono (AE _) (.new hp) (ai (ay hu hp))⟩
theorem Sim.push(h:Sim K ι H μ){p:Addr}{u:HO}{o:O}(hp:H p=none)(ho:OIs K (ι++[p]) (upd H p u) p o):Sim K (ι++[p]) (upd H p u) (μ++[o]):=by
 have hne:∀a∈ι,a≠p:=λa ha z=>by
  obtain⟨n,hn,e⟩:=FJ.mp ha
  obtain⟨u,hu⟩:=h.used (n:=n) (by rw[AD hn,e])
  rw[z,hp]at hu;cases hu
 refine⟨by simp[h.len],?_,λn a ob e1 e2=>?_⟩
 ·refine List.nodup_append.mpr ⟨h.nd,by simp,?_⟩
  intro a ha b hb
  have:b=p:=by simpa using hb
  subst this
  exact hne a ha
 ·by_cases hn:n<ι.length
  ·rw[AW hn]at e1
   rw[AW (by rw[<-h.len];exact hn)]at e2
   exact(h.obj n a ob e1 e2).mono ⟨[p],rfl⟩ (.new hp) (ai (hne a (EC e1)))
  ·have hm:n=ι.length:=by
    have:=(AK.mp e1).1
    simp at this;lia
   subst hm
   simp at e1
   rw[h.len]at e2
   simp at e2
   subst e1;subst e2
   exact ho
theorem Sim.put(h:Sim K ι H μ){n:Nat}{p:Addr}{u:HO}{o:O}(hn:ι[n]? = some p)(he:Ext H (upd H p u))(ho:OIs K ι (upd H p u) p o):Sim K ι (upd H p u) (μ.set n o):=by
 refine⟨by simp[h.len],h.nd,λk a ob e1 e2=>?_⟩
 by_cases hk:n=k
 ·subst hk
  rw[hn]at e1;cases e1
  have:n<μ.length:=by rw[<-h.len];exact(AK.mp hn).1
  rw[CV this]at e2;cases e2
  exact ho
 ·rw[CB hk]at e2
  refine(h.obj k a ob e1 e2).mono (AE _) he (ai λz=>hk ?_)
  subst z
  obtain⟨h1,e1'⟩:=AK.mp e1
  obtain⟨h2,e2'⟩:=AK.mp hn
  exact(List.getElem_inj h.nd).mp (e2'.trans e1'.symm)
end
noncomputable def dj{α β:Type}(K:PySem.W.Frag)(R:List Addr->Hp->α->β->Prop)(ι:List Addr)(H:Hp)(r:Res α)(Q:β->Hp->Prop):Prop:=match r with
 |.ok d μ'=>∀ι' v H',ι <+: ι'->Ext H H'->Sim K ι' H' μ'->R ι' H' d v->Q v H'
 |.exc _ _ _=>False
 |.stuck=>False
noncomputable abbrev RD(K:PySem.W.Frag):List Addr->Hp->D->V->Prop:=λι H d v=>IsD K ι H d v
noncomputable abbrev RDs(K:PySem.W.Frag):List Addr->Hp->List D->List V->Prop:=λι H d v=>ag K ι H d v
noncomputable abbrev RB:List Addr->Hp->Bool->Bool->Prop:=λ_ _ d v=>d=v
noncomputable abbrev RO:List Addr->Hp->Option Int->Option Int->Prop:=λ_ _ d v=>d=v
section
variable{α β γ δ:Type}{K:PySem.W.Frag}{R:List Addr -> Hp -> α -> β -> Prop}{S:List Addr -> Hp -> γ -> δ -> Prop}{ι ι' : List Addr}{H H' : Hp}
theorem dj.mono{r:Res α}{Q:β->Hp->Prop}(h:dj K R ι H r Q)(hp:ι <+: ι')(he:Ext H H'):dj K R ι' H' r Q:=by
 cases r with
 |ok d μ=>exact λι2 v H2 p e s q=>h ι2 v H2 (hp.trans p) (he.trans e) s q
 |exc _ _ _=>exact h
 |stuck=>exact h
theorem dj.imp{r:Res α}{Q Q':β->Hp->Prop}(h:dj K R ι H r Q)(hq:∀v H',Q v H'->Q' v H'):dj K R ι H r Q':=by
 cases r with
 |ok d μ=>exact λι2 v H2 p e s q=>hq _ _ (h ι2 v H2 p e s q)
 |exc _ _ _=>exact h
 |stuck=>exact h
theorem dj.ok{d:α}{μ:Sto}{v:β}{Q:β->Hp->Prop}(h:dj K R ι H (.ok d μ) Q)(hs:Sim K ι H μ)(hr:R ι H d v):Q v H:=h ι v H (AE _) (.refl _) hs hr
theorem dj.bind{x:Res α}{f:α->Sto->Res γ}{Q:δ->Hp->Prop}(h:dj K S ι H (x.bind f) Q) :
  ∃d μ1,x=.ok d μ1/\dj K S ι H (f d μ1) Q:=by
 cases x with
 |ok d μ=>exact⟨d,μ,rfl,h⟩
 |exc _ _ _=>exact h.elim
 |stuck=>exact h.elim
end
noncomputable def tE(K:PySem.W.Frag)(φ:Phi)(x:Ex):TE:=λσv H Q=>∃ι σ μ,Sim K ι H μ/\jy K ι H σ σv/\dj K (RD K) ι H (evE φ x σ μ) Q
noncomputable def tEs(K:PySem.W.Frag)(φ:Phi)(x:Exs):TA:=λσv H Q=>∃ι σ μ,Sim K ι H μ/\jy K ι H σ σv/\dj K (RDs K) ι H (c5 φ x σ μ) Q
noncomputable def tEo(K:PySem.W.Frag)(φ:Phi)(x:ExO):TO:=λσv H Q=>∃ι σ μ,Sim K ι H μ/\jy K ι H σ σv/\dj K RO ι H (evO φ x σ μ) Q
noncomputable def tT(K:PySem.W.Frag)(φ:Phi)(x:Ex):TT:=λσv H Q=>∃ι σ μ,Sim K ι H μ/\jy K ι H σ σv/\dj K RB ι H ((evE φ x σ μ).bind λd μ=>Mb d μ) Q
theorem PE.imp{X:Cx}{e:Expr}{t t':TE}(h:PE X e t)(i:∀σ H Q,t' σ H Q->t σ H Q):PE X e t':=λpins s σ H Q I q=>h pins s σ H Q I (i σ H Q q)
theorem PA.imp{X:Cx}{e:List Expr}{t t':TA}(h:PA X e t)(i:∀σ H Q,t' σ H Q->t σ H Q):PA X e t':=λpos pins s σ H Q I q=>h pos pins s σ H Q I (i σ H Q q)
theorem PT.imp{X:Cx}{e:Expr}{t t':TT}(h:PT X e t)(i:∀σ H Q,t' σ H Q->t σ H Q):PT X e t':=λpins s σ H Q I q=>h pins s σ H Q I (i σ H Q q)
theorem PW.imp{X:Cx}{e:Expr}{t t':TT}(h:PW X e t)(i:∀σ H Q,t' σ H Q->t σ H Q):PW X e t':=λwh pins s σ H Q I q=>h wh pins s σ H Q I (i σ H Q q)
section
variable{X:Cx}{φ:Phi}{a b c:Expr}{xa xb xc:Ex}{pos:Pos}
theorem Nz{i:Nat}{x:Str}(hN:X.N[i]? = some x)(hv:Vis X.env.scope x)(hd:(x==("__debug__":Str))=false)(hcd:(x==("__classdict__":Str))=false):PE X (.Name x pos) (tE X.K φ (.var i)) :=
 PE.imp (zd hN hv hd hcd) λσv H Q ⟨ι,σ,μ,hS,hL,h⟩=>by
  simp![evE]at h
  split at h
  ·rename_i d e
   obtain⟨v,e1,e2⟩:=hL i d e
   exact⟨v,e1,h.ok hS e2⟩
  ·exact h.elim
theorem N0{i:Int}{j:Nat}:PE X (.Constant (.int i) j pos) (tE X.K φ (.cst (.int i))) :=
 PE.imp Ii λσv H Q ⟨ι,σ,μ,hS,hL,h⟩=>by simp![evE]at h;exact h.ok hS (by simp[IsD])
theorem To{i:Bool}{j:Nat}:PE X (.Constant (.bool i) j pos) (tE X.K φ (.cst (.bl i))) :=
 PE.imp Mu λσv H Q ⟨ι,σ,μ,hS,hL,h⟩=>by simp![evE]at h;exact h.ok hS (by simp[IsD])
theorem N1{j:Nat}:PE X (.Constant .none j pos) (tE X.K φ (.cst .non)) :=
 PE.imp Ij λσv H Q ⟨ι,σ,μ,hS,hL,h⟩=>by simp![evE]at h;exact h.ok hS (by simp[IsD])
theorem two {σv:St} {H:Hp} {ι:List Addr} {σ:Sl} {μ:Sto} {f:D->D->Sto->Res D} {Q:VK} {R:V->V->Hp->Prop} (hS:Sim X.K ι H μ) (hL:jy X.K ι H σ σv)
  (h:dj X.K (RD X.K) ι H ((evE φ xa σ μ).bind λx μ=>(evE φ xb σ μ).bind λy μ=>f x y μ) Q)
  (k:∀ι' H' d e x y μ',Sim X.K ι' H' μ'->IsD X.K ι' H' d x->IsD X.K ι' H' e y->dj X.K (RD X.K) ι' H' (f d e μ') Q->R x y H') :
  tE X.K φ xa σv H λx H1=>tE X.K φ xb σv H1 λy H2=>R x y H2:=by
 obtain⟨d,μ1,e1,h⟩:=h.bind
 refine⟨ι,σ,μ,hS,hL,?_⟩
 rw[e1]
 intro ι1 x H1 p1 x1 s1 d1
 obtain⟨e,μ2,e2,h⟩:=h.bind
 refine⟨ι1,σ,μ1,s1,hL.mono p1 x1,?_⟩
 rw[e2]
 intro ι2 y H2 p2 x2 s2 d2
 exact k ι2 H2 d e x y μ2 s2 (IsD.mono p2 x2 d x d1) d2 (h.mono (p1.trans p2) (x1.trans x2))
noncomputable def rOp(K:PySem.W.Frag)(f:D->D->Sto->Res D):R2:=λx y H Q=>∃ι d e μ,Sim K ι H μ/\IsD K ι H d x/\IsD K ι H e y/\dj K (RD K) ι H (f d e μ) Q
theorem N2{op:Operator}{m:Mk}(ho:OpR X (binaryOp op) (rOp X.K (opD op m)))(ha:PE X a (tE X.K φ xa))(hb:PE X b (tE X.K φ xb)):PE X (.BinOp a op b pos) (tE X.K φ (.bin op m xa xb)) :=
 PE.imp (M3 ho ha hb) λσv H Q ⟨ι,σ,μ,hS,hL,h⟩=>by
  simp![evE]at h
  exact two hS hL h λι' H' d e x y μ' s d1 d2 p=>⟨ι',d,e,μ',s,d1,d2,p⟩
theorem Tp(ho:IxR X (rOp X.K ixD))(ha:PE X a (tE X.K φ xa))(hb:PE X b (tE X.K φ xb))(hs:t6 b):PE X (.Subscript a b pos) (tE X.K φ (.ix xa xb)) :=
 PE.imp (Ng ho ha hb hs) λσv H Q ⟨ι,σ,μ,hS,hL,h⟩=>by
  simp![evE]at h
  exact two hS hL h λι' H' d e x y μ' s d1 d2 p=>⟨ι',d,e,μ',s,d1,d2,p⟩
theorem Ka:PA X [] (tEs X.K φ .nil) :=
 PA.imp Ef λσv H Q ⟨ι,σ,μ,hS,hL,h⟩=>by simp![c5]at h;exact h.ok hS (by simp[ag])
theorem Em{es:List Expr}{xs:Exs}(ha:PE X a (tE X.K φ xa))(hb:PA X es (tEs X.K φ xs))(hs:starEach (a::es) X.env=(false,eval a X.env)::starEach es X.env):PA X (a::es) (tEs X.K φ (.cons xa xs)) :=
 PA.imp (tu ha hb hs) λσv H Q ⟨ι,σ,μ,hS,hL,h⟩=>by
  simp![c5]at h
  obtain⟨d,μ1,e1,h⟩:=h.bind
  refine⟨ι,σ,μ,hS,hL,?_⟩
  rw[e1]
  intro ι1 x H1 p1 x1 s1 d1
  obtain⟨e,μ2,e2,h⟩:=h.bind
  refine⟨ι1,σ,μ1,s1,hL.mono p1 x1,?_⟩
  rw[e2]
  intro ι2 y H2 p2 x2 s2 d2
  refine h ι2 (x::y) H2 (p1.trans p2) (x1.trans x2) s2 ?_
  show ag _ _ _ _ _
  simp![ag]
  exact⟨x,y,rfl,IsD.mono p2 x2 d x d1,d2⟩
theorem N3{es:List Expr}{xs:Exs}{k:Nat}(h:PA X es (tEs X.K φ xs))(hl:∀σ μ ds μ',c5 φ xs σ μ=.ok ds μ'->ds.length<=sizeLine):PE X (.Tuple es k pos) (tE X.K φ (.tup xs)) :=
 PE.imp (zl h) λσv H Q ⟨ι,σ,μ,hS,hL,h⟩=>by
  simp![evE]at h
  obtain⟨ds,μ1,e1,h⟩:=h.bind
  refine⟨ι,σ,μ,hS,hL,?_⟩
  rw[e1]
  intro ι1 vs H1 p1 x1 s1 d1
  have hd:ag X.K ι1 H1 ds vs:=d1
  refine⟨by rw[hd.length];exact hl σ μ ds μ1 e1,λp hp=>?_⟩
  refine h ι1 (.ref p) (upd H1 p (.tup vs)) p1 (x1.trans (.new hp)) (s1.new hp) ?_
  show IsD _ _ _ _ _
  simp![IsD]
  exact⟨p,vs,rfl,.of ak,ag.mono (AE _) (.new hp) ds vs d1⟩
theorem N4{x:Ex}{σv:St}{H:Hp}{Q:Bool->Hp->Prop}(h:tT X.K φ x σv H Q):tE X.K φ x σv H λv H'=>∃k,v=.bl k/\Q k H':=by
 obtain⟨ι,σ,μ,hS,hL,h⟩:=h
 obtain⟨d,μ1,e1,h⟩:=h.bind
 refine⟨ι,σ,μ,hS,hL,?_⟩
 rw[e1]
 intro ι1 x H1 p1 x1 s1 d1
 cases d with
 |bl k=>exact⟨k,by simpa[IsD]using d1,h ι1 k H1 p1 x1 s1 rfl⟩
 |_=>exact h.elim
theorem Gg{x:Ex}(ha:PE X a (tE X.K φ x))(he:∀whole,isTrue a X.env whole=(do let v <-whole;standAt a.pos;holding [v] (truthy v))):PT X a (tT X.K φ x) :=
 PT.imp (Cg ha he) λσv H Q h=>by
  have q:=N4 h
  obtain⟨ι,σ,μ,hS,hL,q⟩:=q
  exact⟨ι,σ,μ,hS,hL,q.imp λv H' ⟨k,e,z⟩=>⟨k,by subst e;exact rfl,z⟩⟩
theorem Kb(ha:PT X a (tT X.K φ xa)):PT X (.UnaryOp .Not a pos) (tT X.K φ (.not xa)) :=
 PT.imp (Io ha) λσv H Q ⟨ι,σ,μ,hS,hL,h⟩=>by
  simp![evE]at h
  rw[Res.bind_assoc]at h
  obtain⟨d,μ1,e1,h⟩:=h.bind
  refine⟨ι,σ,μ,hS,hL,?_⟩
  rw[e1]
  cases d with
  |bl k=>exact λι1 x H1 p1 x1 s1 d1=>h ι1 (!x) H1 p1 x1 s1 (by cases d1;rfl)
  |_=>exact h.elim
theorem Kc(ha:PE X a (tE X.K φ xa)):PE X (.UnaryOp .Not a pos) (tE X.K φ (.not xa)) :=
 PE.imp (Ir ha) λσv H Q ⟨ι,σ,μ,hS,hL,h⟩=>by
  simp![evE]at h
  obtain⟨d,μ1,e1,h⟩:=h.bind
  refine⟨ι,σ,μ,hS,hL,?_⟩
  rw[e1]
  intro ι1 x H1 p1 x1 s1 d1
  cases d with
  |bl k=>exact⟨k,by simpa[IsD]using d1,h ι1 (.bl !k) H1 p1 x1 s1 (by simp[IsD])⟩
  |_=>exact h.elim
theorem Kd{rest:List Expr}(ha:PE X a (tE X.K φ xa))(hb:PE X (.BoolOp .And (b::rest) pos) (tE X.K φ xb)):PE X (.BoolOp .And (a::b::rest) pos) (tE X.K φ (.and xa xb)) :=
 PE.imp (Iq ha hb) λσv H Q ⟨ι,σ,μ,hS,hL,h⟩=>by
  simp![evE]at h
  obtain⟨d,μ1,e1,h⟩:=h.bind
  refine⟨ι,σ,μ,hS,hL,?_⟩
  rw[e1]
  intro ι1 x H1 p1 x1 s1 d1
  cases d with
  |bl k =>
   refine⟨k,by simpa[IsD]using d1,?_⟩
   cases k with
   |true=>exact⟨ι1,σ,μ1,s1,hL.mono p1 x1,(show dj _ _ _ _ (evE φ xb σ μ1) _ from h).mono p1 x1⟩
   |false=>exact h ι1 (.bl false) H1 p1 x1 s1 (by simp[IsD])
  |_=>exact h.elim
theorem Ke{rest:List Expr}(ha:PT X a (tT X.K φ xa))(hb:PW X (.BoolOp .And (b::rest) pos) (tT X.K φ xb)):PW X (.BoolOp .And (a::b::rest) pos) (tT X.K φ (.and xa xb)) :=
 PW.imp (Im ha hb) λσv H Q ⟨ι,σ,μ,hS,hL,h⟩=>by
  simp![evE]at h
  rw[Res.bind_assoc]at h
  obtain⟨d,μ1,e1,h⟩:=h.bind
  refine⟨ι,σ,μ,hS,hL,?_⟩
  rw[e1]
  cases d with
  |bl k =>
   intro ι1 x H1 p1 x1 s1 d1
   cases d1
   cases k with
   |true=>exact⟨ι1,σ,μ1,s1,hL.mono p1 x1,(show dj _ _ _ _ ((evE φ xb σ μ1).bind _) _ from h).mono p1 x1⟩
   |false=>exact h ι1 false H1 p1 x1 s1 rfl
  |_=>exact h.elim
theorem N5{rest:List Expr}(ha:PT X a (tT X.K φ xa))(hb:PW X (.BoolOp .Or (b::rest) pos) (tT X.K φ xb)):PW X (.BoolOp .Or (a::b::rest) pos) (tT X.K φ (.or xa xb)) :=
 PW.imp (Mv ha hb) λσv H Q ⟨ι,σ,μ,hS,hL,h⟩=>by
  simp![evE]at h
  rw[Res.bind_assoc]at h
  obtain⟨d,μ1,e1,h⟩:=h.bind
  refine⟨ι,σ,μ,hS,hL,?_⟩
  rw[e1]
  cases d with
  |bl k =>
   intro ι1 x H1 p1 x1 s1 d1
   cases d1
   cases k with
   |true=>exact h ι1 true H1 p1 x1 s1 rfl
   |false=>exact⟨ι1,σ,μ1,s1,hL.mono p1 x1,(show dj _ _ _ _ ((evE φ xb σ μ1).bind _) _ from h).mono p1 x1⟩
  |_=>exact h.elim
end
noncomputable def h9(K:PySem.W.Frag)(ι:List Addr)(H:Hp)(r:Res Fl)(E:Ends):Prop:=match r with
 |.ok (.nx σ') μ'=>∀ι' σv H',ι <+: ι'->Ext H H'->Sim K ι' H' μ'->jy K ι' H' σ' σv->σ'.length=σv.length->E.nx σv H'
 |.ok (.bk σ') μ'=>∀ι' σv H',ι <+: ι'->Ext H H'->Sim K ι' H' μ'->jy K ι' H' σ' σv->σ'.length=σv.length->E.bk σv H'
 |.ok (.ct σ') μ'=>∀ι' σv H',ι <+: ι'->Ext H H'->Sim K ι' H' μ'->jy K ι' H' σ' σv->σ'.length=σv.length->E.ct σv H'
 |.ok (.rt d) μ'=>∀ι' v H',ι <+: ι'->Ext H H'->Sim K ι' H' μ'->IsD K ι' H' d v->E.rt v H'
 |.exc _ _ _=>False
 |.stuck=>False
theorem h9.mono{K:PySem.W.Frag}{ι ι':List Addr}{H H':Hp}{r:Res Fl}{E:Ends}(h:h9 K ι H r E)(hp:ι <+: ι')(he:Ext H H'):h9 K ι' H' r E:=by
 cases r with
 |ok f μ=>cases f<;>exact λι2 v H2 p e=>h ι2 v H2 (hp.trans p) (he.trans e)
 |exc _ _ _=>exact h
 |stuck=>exact h
theorem h9.bind{α:Type}{K:PySem.W.Frag}{ι:List Addr}{H:Hp}{E:Ends}{x:Res α}{f:α->Sto->Res Fl}(h:h9 K ι H (x.bind f) E):∃d μ1,x=.ok d μ1/\h9 K ι H (f d μ1) E:=by
 cases x with
 |ok d μ=>exact⟨d,μ,rfl,h⟩
 |exc _ _ _=>exact h.elim
 |stuck=>exact h.elim
noncomputable def tS(K:PySem.W.Frag)(φ:Phi)(x:Sm):TS:=λE σv H=>∃ι σ μ,Sim K ι H μ/\jy K ι H σ σv/\σ.length=σv.length/\h9 K ι H (evS φ x σ μ) E
noncomputable def tSs(K:PySem.W.Frag)(φ:Phi)(x:Sms):TS:=λE σv H=>∃ι σ μ,Sim K ι H μ/\jy K ι H σ σv/\σ.length=σv.length/\h9 K ι H (ji φ x σ μ) E
theorem PS.imp{X:Cx}{e:Stmt}{t t':TS}(h:PS X e t)(i:∀E σ H,t' E σ H->t E σ H):PS X e t':=λpins s σ H E I q=>h pins s σ H E I (i E σ H q)
theorem PSs.imp{X:Cx}{e:List Stmt}{t t':TS}(h:PSs X e t)(i:∀E σ H,t' E σ H->t E σ H):PSs X e t':=λpins s σ H E I q=>h pins s σ H E I (i E σ H q)
section
variable{X:Cx}{φ:Phi}{e:Expr}{x:Ex}{pos:Pos}{s:Stmt}{ss:List Stmt}{xs:Sm}{xss:Sms}
theorem N6:PSs X [] (tSs X.K φ .nil) :=
 PSs.imp Fo λE σv H ⟨ι,σ,μ,hS,hL,hl,h⟩=>by
  simp![ji]at h
  exact h ι σv H (AE _) (.refl _) hS hL hl
theorem Kf(h1:PS X s (tS X.K φ xs))(h2:PSs X ss (tSs X.K φ xss)):PSs X (s::ss) (tSs X.K φ (.cons xs xss)) :=
 PSs.imp (Cd h1 h2) λE σv H ⟨ι,σ,μ,hS,hL,hl,h⟩=>by
  simp![ji]at h
  refine⟨ι,σ,μ,hS,hL,hl,?_⟩
  obtain⟨f,μ1,e1,h⟩:=h.bind
  rw[e1]
  cases f with
  |nx σ'=>exact λι1 σ1 H1 p1 x1 s1 l1 z1=>⟨ι1,σ',μ1,s1,l1,z1,(show h9 _ _ _ (ji φ xss σ' μ1) _ from h).mono p1 x1⟩
  |rt d=>exact h
  |bk σ'=>exact h
  |ct σ'=>exact h
theorem Kg(he:PE X e (tE X.K φ x))(hs:swapsWith e none pos.line X.env=pure false):PS X (.Expr e pos) (tS X.K φ (.ex x)) :=
 PS.imp (Fp he hs) λE σv H ⟨ι,σ,μ,hS,hL,hl,h⟩=>by
  simp![evS]at h
  obtain⟨d,μ1,e1,h⟩:=h.bind
  refine⟨ι,σ,μ,hS,hL,?_⟩
  rw[e1]
  exact λι1 v H1 p1 x1 s1 d1=>h ι1 σv H1 p1 x1 s1 (hL.mono p1 x1) hl
theorem N7(he:PE X e (tE X.K φ x)):PS X (.Return (some e) pos) (tS X.K φ (.ret x)) :=
 PS.imp (Iu he) λE σv H ⟨ι,σ,μ,hS,hL,hl,h⟩=>by
  simp![evS]at h
  obtain⟨d,μ1,e1,h⟩:=h.bind
  refine⟨ι,σ,μ,hS,hL,?_⟩
  rw[e1]
  exact h
theorem Tq{c:Expr}{xc:Ex}{a b:List Stmt}{xa xb:Sms}(hc:PT X c (tT X.K φ xc))(ha:PSs X a (tSs X.K φ xa))(hb:PSs X b (tSs X.K φ xb)):PS X (.If c a b pos) (tS X.K φ (.ite xc xa xb)) :=
 PS.imp (Mz hc ha hb) λE σv H ⟨ι,σ,μ,hS,hL,hl,h⟩=>by
  simp![evS]at h
  obtain⟨d,μ1,e1,h⟩:=h.bind
  refine⟨ι,σ,μ,hS,hL,?_⟩
  rw[e1]
  cases d with
  |bl k =>
   intro ι1 x H1 p1 x1 s1 d1
   cases d1
   cases k with
   |true=>exact⟨ι1,σ,μ1,s1,hL.mono p1 x1,hl,(show h9 _ _ _ (ji φ xa σ μ1) _ from h).mono p1 x1⟩
   |false=>exact⟨ι1,σ,μ1,s1,hL.mono p1 x1,hl,(show h9 _ _ _ (ji φ xb σ μ1) _ from h).mono p1 x1⟩
  |_=>exact h.elim
noncomputable def slots:Tg->List Nat
 |.one i=>[i]
 |.many is=>is
noncomputable def tG(K:PySem.W.Frag)(tg:Tg):TG:=λv σv H Q=>∃ι σ d σ',jy K ι H σ σv/\σ.length=σv.length/\IsD K ι H d v/\eu tg d σ=some σ' /\
 ∀σv',jy K ι H σ' σv'->σ'.length=σv'.length->σv'.length=σv.length->(∀j,j∉slots tg->σv'[j]? = σv[j]?)->Q σv' H
theorem PG.imp{e:Expr}{t t':TG}(h:PG X e t)(i:∀v σ H Q,t' v σ H Q->t v σ H Q):PG X e t':=by
 intro pins s σ H x u Q I r q
 exact h pins s σ H x u Q I r (i _ _ _ _ q)
theorem Kh{i:Nat}{y:Str}(hN:X.N.Nodup)(hi:X.N[i]? = some y)(hx:Loc X.env.scope y)(hf:X.fn y=true\/X.env.scope.names.lookup y=some .local):PG X (.Name y pos) (tG X.K (.one i)) :=
 PG.imp (ze hN hi hx hf) λv σv H Q ⟨ι,σ,d,σ',hL,hl,hd,hb,q⟩=>by
  simp![eu,CJ]at hb
  subst hb
  exact q _ (hL.set hl hd) (by simp[hl]) (by simp) λj hj=>CB (λz=>hj (by simp[slots,z]))
noncomputable def tGs(K:PySem.W.Frag)(is:List Nat):TGs:=λvs σv H Q=>∃ι σ ds,jy K ι H σ σv/\σ.length=σv.length/\ag K ι H ds vs/\ds.length=is.length /\
 ∀σv',jy K ι H ((is.zip ds).foldl (λs p=>s.set p.1 (some p.2)) σ) σv'->((is.zip ds).foldl (λs p=>s.set p.1 (some p.2)) σ).length=σv'.length->σv'.length=σv.length->(∀j,j∉is->σv'[j]? = σv[j]?)->Q σv' H
theorem PGs.imp{es:List Expr}{t t':TGs}(h:PGs X es t)(i:∀v σ H Q,t' v σ H Q->t v σ H Q):PGs X es t':=by
 intro pins s σ H vs us Q I r q
 exact h pins s σ H vs us Q I r (i _ _ _ _ q)
theorem Ki:PGs X [] (tGs X.K []) :=
 PGs.imp Fs λvs σv H Q ⟨ι,σ,ds,hL,hl,hd,hn,q⟩=>by
  have e:ds=[]:=ES.mp hn
  subst e
  exact⟨by simpa[ag]using hd,q σv (by simpa using hL) (by simpa using hl) rfl λ_ _=>rfl⟩
theorem Gh{i:Nat}{is:List Nat}{es:List Expr}(h1:PG X e (Fq i))(h2:PGs X es (tGs X.K is))(hs:(assignEach (e::es) X.env).map (·.2)=assign e X.env::(assignEach es X.env).map (·.2)):PGs X (e::es) (tGs X.K (i::is)) :=
 PGs.imp (Ce h1 h2 hs) λvs σv H Q ⟨ι,σ,ds,hL,hl,hd,hn,q⟩=>by
  cases ds with
  |nil=>simp at hn
  |cons d ds =>
   simp![ag]at hd
   obtain⟨v,r,e,hd1,hd2⟩:=hd
   refine⟨v,r,e,ι,σ.set i (some d),ds,hL.set hl hd1,by simp[hl],hd2,by simpa using hn,λσv' l z z2 ks=>q σv' (by simpa using l) (by simpa using z) (by simpa using z2) λj hj=>?_⟩
   have hj':j≠i/\j∉is:=by simpa using hj
   rw[ks j hj'.2,CB (Ne.symm hj'.1)]
theorem N8{is:List Nat}{es:List Expr}{k:Nat}(hc:X.calm=true)(h:PGs X es (tGs X.K is))(hn:(assignEach es X.env).length=is.length)(hst:(assignEach es X.env).findIdx? (·.1)=none) :
  PG X (.Tuple es k pos) (tG X.K (.many is)) :=
 PG.imp (Iv hc h hn hst) λv σv H Q ⟨ι,σ,d,σ',hL,hl,hd,hb,q⟩=>by
  cases d with
  |tup ds =>
   simp![eu]at hb
   split at hb
   ·rename_i hlen
    cases hb
    simp![IsD]at hd
    obtain⟨a,xs,e,hq,hds⟩:=hd
    exact⟨a,xs,e,hq,hds.length.trans hlen,ι,σ,ds,hL,hl,hds,hlen,q⟩
   ·cases hb
  |_=>simp[eu]at hb
theorem N9{i:Nat}{y:Str}{pos':Pos}(hN:X.N.Nodup)(hi:X.N[i]? = some y)(hx:Loc X.env.scope y)(hf:X.fn y=true\/X.env.scope.names.lookup y=some .local)(he:PE X e (tE X.K φ x))(hs:swapsWith e (some (.Name y pos')) pos.line X.env=pure false) :
  PS X (.Assign [.Name y pos'] e pos) (tS X.K φ (.set i x)) :=
 PS.imp (Iz hN hi hx he hs hf) λE σv H ⟨ι,σ,μ,hS,hL,hl,h⟩=>by
  simp![evS]at h
  obtain⟨d,μ1,e1,h⟩:=h.bind
  refine⟨ι,σ,μ,hS,hL,?_⟩
  rw[e1]
  exact λι1 v H1 p1 x1 s1 d1=>h ι1 _ H1 p1 x1 s1 ((hL.mono p1 x1).set hl d1) (by simp[hl])
noncomputable def Qx(K:PySem.W.Frag):TSet:=λo i v H Q=>∃ι a b d μ,Sim K ι H μ/\IsD K ι H a o/\IsD K ι H b i/\IsD K ι H d v/\dj K (λ_ _ _ (_:Unit)=>True) ι H (B9 a b d μ) λ_ H'=>Q H'
theorem Kj {o i:Expr} {xo xi:Ex} {tp:Pos} (hset:L6 X (Qx X.K)) (ho:PE X o (tE X.K φ xo)) (hi:PE X i (tE X.K φ xi)) (he:PE X e (tE X.K φ x))
  (ha:∀v,assign (.Subscript o i tp) X.env v=(do
   let ov <-holding [v] (eval o X.env)
   let iv <-holding [v,ov] (eval i X.env)
   standAt tp
   holding [v,ov,iv] (setItem ov iv v)
   release [v,ov,iv] [])) (hs:swapsWithSole [.Subscript o i tp] e pos.line X.env=pure false) (hw:swappedStores [.Subscript o i tp] e X.env=pure none)
  (h1:(assignEach [.Subscript o i tp] X.env).map (·.2)=[assign (.Subscript o i tp) X.env]):PS X (.Assign [.Subscript o i tp] e pos) (tS X.K φ (.setx xo xi x)) :=
 PS.imp (Iy he (Iw ho hi hset ha) hs hw h1) λE σv H ⟨ι,σ,μ,hS,hL,hl,h⟩=>by
  simp![evS]at h
  obtain⟨d,μ1,e1,h⟩:=h.bind
  refine⟨ι,σ,μ,hS,hL,?_⟩
  rw[e1]
  intro ι1 v H1 p1 x1 s1 d1
  obtain⟨a,μ2,e2,h⟩:=h.bind
  refine⟨ι1,σ,μ1,s1,hL.mono p1 x1,?_⟩
  rw[e2]
  intro ι2 va H2 p2 x2 s2 d2
  obtain⟨b,μ3,e3,h⟩:=h.bind
  refine⟨ι2,σ,μ2,s2,(hL.mono p1 x1).mono p2 x2,?_⟩
  rw[e3]
  intro ι3 vb H3 p3 x3 s3 d3
  obtain⟨_,μ4,e4,h⟩:=h.bind
  refine⟨ι3,a,b,d,μ3,s3,IsD.mono p3 x3 _ _ d2,d3,IsD.mono p3 x3 _ _ (IsD.mono p2 x2 _ _ d1),?_⟩
  rw[e4]
  exact λι4 _ H4 p4 x4 s4 _=>h ι4 σv H4 (((p1.trans p2).trans p3).trans p4) (((x1.trans x2).trans x3).trans x4) s4 ((((hL.mono p1 x1).mono p2 x2).mono p3 x3).mono p4 x4) hl
structure Walk (K:PySem.W.Frag) (ι0:List Addr) (H0:Hp) (J:L2.It) (ds:List D) (g:Gd):Prop where
 len:ds.length<=sizeLine
 go:∀(i:Nat) ι H μ,ι0 <+: ι->Ext H0 H->Sim K ι H μ->gd g μ->i<ds.length->J.go i H
 yld:∀(i:Nat) ι H μ x H',ι0 <+: ι->Ext H0 H->Sim K ι H μ->gd g μ->i<ds.length->J.yld i H x H'->Ext H H'/\Sim K ι H' μ/\∃d,ds[i]? = some d/\IsD K ι H' d x
 stop:∀ι H μ,ι0 <+: ι->Ext H0 H->Sim K ι H μ->gd g μ->J.stop ds.length H
noncomputable def tI(K:PySem.W.Frag)(φ:Phi)(it:It):TI:=λσv H R=>∃ι σ μ,Sim K ι H μ/\jy K ι H σ σv /\
 match evI φ it σ μ with
 |.ok (ds,g) μ'=>∀ι' H' J,ι <+: ι'->Ext H H'->Sim K ι' H' μ'->Walk K ι' H' J ds g->R J H'
 |_=>False
theorem PI.imp{tg it:Expr}{t t':TI}(h:PI X tg it t)(i:∀σ H R,t' σ H R->t σ H R):PI X tg it t':=λpins s σ H R I q=>h pins s σ H R I (i _ _ _ q)
theorem Oa {tg it:Expr} {body:List Stmt} {xt:Tg} {xi:It} {xb:Sms} (hp:PassesOwn (model X.prog X.w) X.A X.env X.xe) (hc:X.calm=true) (hi:PI X tg it (tI X.K φ xi)) (hg:PG X tg (tG X.K xt)) (hb:PSs X body (tSs X.K φ xb))
  (hs:∀x,foldedSetIterable it X.env x=pure x):PS X (.For tg it body [] pos) (tS X.K φ (.loop xt xi xb)) :=
 PS.imp (I0 hp hc hi hg hb hs) λE σv H ⟨ι,σ,μ,hS,hL,hl,h⟩=>by
  simp![evS]at h
  obtain⟨⟨ds,g⟩,μ1,e1,h⟩:=h.bind
  refine⟨ι,σ,μ,hS,hL,?_⟩
  rw[e1]
  intro ι1 H1 J p1 x1 s1 wk
  refine⟨λi m σv' H'=>m=ds.length-i/\i<=ds.length/\∃ι' σ' μ',ι1 <+: ι'/\Ext H1 H'/\Sim X.K ι' H' μ'/\jy X.K ι' H' σ' σv'/\σ'.length=σv'.length /\
   h9 X.K ι' H' (ic g (λd σ μ=>ib (eu xt d σ) λσ'=>ji φ xb σ' μ) (ds.drop i) σ' μ') E,⟨ds.length,by simp,BW _,ι1,σ,μ1,AE _,.refl _,s1,hL.mono p1 x1,hl,?_⟩,?_⟩
  ·simpa using(show h9 _ _ _ (ic g _ ds σ μ1) _ from h).mono p1 x1
  ·rintro i m σv' H' ⟨rfl,hi,ι',σ',μ',p',x',s',l',z',h'⟩
   by_cases hlt:i<ds.length
   ·obtain⟨d,ed⟩:∃d,ds[i]? = some d:=⟨ds[i],AD hlt⟩
    have edrop:ds.drop i=d::ds.drop (i+1):=by
     rw[GA hlt]
     rw[AD hlt]at ed
     cases ed;rfl
    rw[edrop]at h'
    simp![ic]at h'
    split at h'
    ·rename_i hgd
     right
     refine⟨wk.go i ι' H' μ' p' x' s' hgd hlt,?_⟩
     obtain⟨fl,μ2,e2,h2⟩:=h'.bind
     refine⟨λσ2 H2=>ds.length-(i+1)<ds.length-i/\∃ι2 σs,ι1 <+: ι2/\Ext H1 H2/\Sim X.K ι2 H2 μ2/\jy X.K ι2 H2 σs σ2/\σs.length=σ2.length /\
      h9 X.K ι2 H2 (ic g (λd σ μ=>ib (eu xt d σ) λσ'=>ji φ xb σ' μ) (ds.drop (i+1)) σs μ2) E,?_,?_⟩
     ·rintro σ2 H2 ⟨_,ι2,σs,q1,q2,q3,q4,q5,q6⟩
      exact⟨ds.length-(i+1),by lia,rfl,hlt,ι2,σs,μ2,q1,q2,q3,q4,q5,q6⟩
     ·intro v H2 hy
      obtain⟨x2,s2,d',ed',hd'⟩:=wk.yld i ι' H' μ' v H2 p' x' s' hgd hlt hy
      rw[ed]at ed';cases ed'
      cases eb:eu xt d σ' with
      |none=>rw[eb]at e2;cases e2
      |some σb =>
       rw[eb]at e2
       refine⟨ι',σ',d,σb,l'.mono (AE _) x2,z',hd',eb,λσv2 l2 z2 _ _=>⟨ι',σb,μ',s2,l2,z2,?_⟩⟩
       have e2':ji φ xb σb μ'=.ok fl μ2:=e2
       rw[e2']
       cases fl with
       |nx σ3=>exact λι3 σv3 H3 p3 x3 s3 l3 z3=>⟨by lia,ι3,σ3,p'.trans p3,(x'.trans x2).trans x3,s3,l3,z3,(show h9 _ _ _ (ic g _ (ds.drop (i+1)) σ3 μ2) _ from h2).mono p3 (x2.trans x3)⟩
       |ct σ3=>exact λι3 σv3 H3 p3 x3 s3 l3 z3=>⟨by lia,ι3,σ3,p'.trans p3,(x'.trans x2).trans x3,s3,l3,z3,(show h9 _ _ _ (ic g _ (ds.drop (i+1)) σ3 μ2) _ from h2).mono p3 (x2.trans x3)⟩
       |bk σ3=>exact(show h9 _ _ _ (.ok (.nx σ3) μ2) _ from h2).mono (AE _) x2
       |rt w=>exact(show h9 _ _ _ (.ok (.rt w) μ2) _ from h2).mono (AE _) x2
    ·exact h'.elim
   ·have ei:i=ds.length:=by lia
    subst ei
    simp![List.drop_length,ic]at h'
    split at h'
    ·rename_i hgd
     exact .inl ⟨wk.stop ι' H' μ' p' x' s' hgd,h' ι' σv' H' (AE _) (.refl _) s' l' z'⟩
    ·exact h'.elim
end
theorem du:lim=sizeLine:=by rw[Eh];rfl
section
variable{X:Cx}{pins:List (Addr × Obj)}{σ:St}{H:Hp}{s:Shared}{φ:Phi}
theorem _root_.L2.Inv.freeze{p:Addr}{xs:List V}(I:Inv X pins σ H s)(h:H p=some (.lst xs)):∃o,Inv X pins σ (upd H p (.frz o (.lst xs))) s:=by
 have hp:=I.hok p _ h
 obtain⟨hz,its,n,hv,hget⟩:=id hp
 refine⟨{cls:=.type "list",data:=.seq its.toArray n},I.ok,I.os,I.bare,⟨I.base.keep,I.base.slot,λb o e hn hx=>?_,I.base.there,λb ys e=>?_,λb o u e=>?_,λb ps e=>?_⟩,I.loc,I.cell,?_,λx c e=>?_,λq hq=>?_,λb u e=>?_,I.len⟩
 ·have q:=I.base.free b o e hn hx
  rw[ai (λz=>by subst z;rw[h]at q;cases q)]
  exact q
 ·have q:=I.base.tups b ys e
  rw[ai (ki q h (by intro z;cases z))];exact q
 ·have q:=I.base.frzs b o u e
  rw[ai (ki q h (by intro z;cases z))];exact q
 ·obtain⟨more,q⟩:=I.base.tbls b ps e
  exact⟨more,by rw[ai (ki q h (by intro z;cases z))];exact q⟩
 ·rw[ai (λz=>by rw[<-z,I.free]at h;cases h)];exact I.free
 ·rw[ai (λz=>by rw[<-z,I.freeC x c e]at h;cases h)];exact I.freeC x c e
 ·obtain⟨e1,e2,e3⟩:=I.pin q hq
  refine⟨e1,?_,e3⟩
  rw[ai (λz=>by rw[<-z,e2]at h;cases h)];exact e2
 ·by_cases hb:b=p
  ·subst hb
   rw[ak]at e;cases e
   exact⟨hget,hz,its,n,hv,hget⟩
  ·rw[ai hb]at e
   refine(I.hok b u e).stay (λc v _ q=>q) (λc q=>?_) (λc ys q=>?_)
   ·rw[ai (ki q h (by intro z;cases z))];exact q
   ·rw[ai (ki q h (by intro z;cases z))];exact q
noncomputable def FQ(Q:VK):VK:=λv H=>Q v H\/∃p xs,v=.ref p/\H p=some (.lst xs)/\∀o,Q v (upd H p (.frz o (.lst xs)))
theorem Gi{Q:VK}{u:Value}(h:EP X pins σ (FQ Q) u s):EP X pins σ Q u s:=by
 obtain⟨v,H',I,r,q⟩:=h
 rcases q with q | ⟨p,xs,rfl,e,q⟩
 ·exact⟨v,H',I,r,q⟩
 ·obtain⟨o,I'⟩:=L2.Inv.freeze I e
  exact⟨_,_,I',r,q o⟩
theorem Aa{A:Around}{E:Value->Shared->Prop}{M:Model}{t:Sem Value}{Q:VK}(h:wpAny M A t (EP X pins σ (FQ Q)) E s):wpAny M A t (EP X pins σ Q) E s:=thn h λ_ _ z=>Gi z
theorem PE.fq{e:Expr}{t:TE}(h:PE X e t):PE X e (λσ H Q=>t σ H (FQ Q)):=λpins s σ H Q I q=>thn (h pins s σ H _ I q) λ_ _ z=>Gi z
theorem SlR.fq{r:V->Option Int->Option Int->Hp->VK->Prop}(h:SlR X r):SlR X (λx l u H Q=>r x l u H (FQ Q)):=by
 intro pins s σ H x v vl vu lo hi sl Q I rx h1 h2 h3 q
 obtain⟨T,id,e1,e2,e3⟩:=h pins s σ H x v vl vu lo hi sl _ I rx h1 h2 h3 q
 exact⟨T,id,e1,e2,thn e3 λ_ _ z=>Gi z⟩
theorem j5{K:PySem.W.Frag}{ι:List Addr}{μ:Sto}{ds:List D}{xs:List V}{m:Mk}{Q:VK}{p:Addr}(hS:Sim K ι H μ)(hd:ag K ι H ds xs)(h:dj K (RD K) ι H (mkL m ds μ) Q)(hp:H p=none) :
  FQ Q (.ref p) (upd H p (.lst xs)):=by
 cases m with
 |z =>
  refine .inr ⟨p,xs,rfl,ak,λo=>?_⟩
  rw[Fh]
  refine h ι (.ref p) _ (AE _) (.new hp) (hS.new hp) ?_
  show IsD _ _ _ _ _
  simp![IsD]
  exact⟨p,xs,rfl,.inl ⟨o,ak⟩,ag.mono (AE _) (.new hp) ds xs hd⟩
 |l =>
  simp![mkL]at h
  split at h
  ·rename_i hpure
   refine .inl (h (ι++[p]) (.ref p) _ ⟨[p],rfl⟩ (.new hp) (hS.push hp ⟨xs,ak,ag.pur hpure (ag.mono (AE _) (.new hp) ds xs hd)⟩) ?_)
   show IsD _ _ _ _ _
   simp![IsD]
   exact⟨p,rfl,by rw[<-hS.len];simp⟩
  ·exact h.elim
 |r =>
  simp![mkL]at h
  refine .inl (h (ι++[p]) (.ref p) _ ⟨[p],rfl⟩ (.new hp) (hS.push hp ⟨xs,ak,ag.mono ⟨[p],rfl⟩ (.new hp) ds xs hd⟩) ?_)
  show IsD _ _ _ _ _
  simp![IsD]
  exact⟨p,rfl,by rw[<-hS.len];simp⟩
theorem Ob{es:List Expr}{xs:Exs}{m:Mk}{pos:Pos}(h:PA X es (tEs X.K φ xs))(hl:∀σ μ ds μ',c5 φ xs σ μ=.ok ds μ'->ds.length<=sizeLine):PE X (.List es pos) (tE X.K φ (.lst m xs)) :=
 PE.imp (PE.fq (Je h)) λσv H Q ⟨ι,σ,μ,hS,hL,h⟩=>by
  simp![evE]at h
  obtain⟨ds,μ1,e1,h⟩:=h.bind
  refine⟨ι,σ,μ,hS,hL,?_⟩
  rw[e1]
  intro ι1 vs H1 p1 x1 s1 d1
  have hd:ag X.K ι1 H1 ds vs:=d1
  exact⟨by rw[hd.length];exact hl σ μ ds μ1 e1,λp hp=>j5 s1 hd (h.mono p1 x1) hp⟩
theorem qr{K:PySem.W.Frag}{ι:List Addr}{μ:Sto}{d:D}{v:V}{ds:List D}(hS:Sim K ι H μ)(hd:IsD K ι H d v)(h:d5 μ d=some ds) :
  ∃a xs,v=.ref a/\(LsL K H a xs\/SqT K H a xs)/\ag K ι H ds xs:=by
 cases d with
 |tup es =>
  cases h
  simp![IsD]at hd
  obtain⟨a,xs,e,q,r⟩:=hd
  exact⟨a,xs,e,.inr q,r⟩
 |lst es =>
  cases h
  simp![IsD]at hd
  obtain⟨a,xs,e,q,r⟩:=hd
  exact⟨a,xs,e,.inl (.inr q),r⟩
 |loc n =>
  simp![IsD]at hd
  obtain⟨a,e,q⟩:=hd
  simp![d5]at h
  split at h
  ·rename_i es em
   cases h
   obtain⟨a',q',ho⟩:=hS.at em
   rw[q]at q';cases q'
   obtain⟨xs,e1,e2⟩:=ho
   exact⟨a,xs,e,.inl (.inl e1),ag.mono (CO) (.refl _) _ _ e2⟩
  ·rename_i es em
   cases h
   obtain⟨a',q',ho⟩:=hS.at em
   rw[q]at q';cases q'
   obtain⟨xs,e1,e2⟩:=ho
   exact⟨a,xs,e,.inl (.inl e1),e2⟩
  ·cases h
 |_=>simp[d5]at h
theorem gc{K:PySem.W.Frag}{ι:List Addr}{μ:Sto}{d:D}{v:V}{ds:List D}(hS:Sim K ι H μ)(hd:IsD K ι H d v)(h:listOf μ d=some ds) :
  ∃a xs,v=.ref a/\LsL K H a xs/\ag K ι H ds xs:=by
 cases d with
 |lst es =>
  cases h
  simp![IsD]at hd
  obtain⟨a,xs,e,q,r⟩:=hd
  exact⟨a,xs,e,.inr q,r⟩
 |loc n =>
  simp![IsD]at hd
  obtain⟨a,e,q⟩:=hd
  simp![listOf]at h
  split at h
  ·rename_i es em
   cases h
   obtain⟨a',q',ho⟩:=hS.at em
   rw[q]at q';cases q'
   obtain⟨xs,e1,e2⟩:=ho
   exact⟨a,xs,e,.inl e1,ag.mono (CO) (.refl _) _ _ e2⟩
  ·rename_i es em
   cases h
   obtain⟨a',q',ho⟩:=hS.at em
   rw[q]at q';cases q'
   obtain⟨xs,e1,e2⟩:=ho
   exact⟨a,xs,e,.inl e1,e2⟩
  ·cases h
 |_=>simp[listOf]at h
theorem Oc{i:Nat}{x:Str}{pos:Pos}(hN:X.N[i]? = some x)(hv:Vis X.env.scope x)(hd:(x==("__debug__":Str))=false)(hcd:(x==("__classdict__":Str))=false):PE X (.Name x pos) (tE X.K φ (.frz i)) :=
 PE.imp (PE.fq (zd hN hv hd hcd)) λσv H Q ⟨ι,σ,μ,hS,hL,h⟩=>by
  simp![evE]at h
  split at h
  ·rename_i n e
   obtain⟨v,e1,e2⟩:=hL i _ e
   refine⟨v,e1,?_⟩
   simp![IsD]at e2
   obtain⟨a,rfl,ha⟩:=e2
   split at h
   ·rename_i ds em
    obtain⟨a',q',ho⟩:=hS.at em
    rw[ha]at q';cases q'
    obtain⟨xs,f1,f2⟩:=ho
    refine .inr ⟨a,xs,rfl,f1,λo=>?_⟩
    refine h ι (.ref a) _ (AE _) (.lst f1) (hS.put ha (.lst f1) ⟨_,ak⟩) ?_
    show IsD _ _ _ _ _
    simp![IsD]
    exact⟨a,xs,rfl,.inl ⟨o,ak⟩,ag.mono (CO) (.lst f1) ds xs f2⟩
   ·rename_i ds em
    obtain⟨a',q',ho⟩:=hS.at em
    rw[ha]at q';cases q'
    obtain⟨xs,f1,f2⟩:=ho
    refine .inr ⟨a,xs,rfl,f1,λo=>?_⟩
    refine h ι (.ref a) _ (AE _) (.lst f1) (hS.put ha (.lst f1) ⟨_,ak⟩) ?_
    show IsD _ _ _ _ _
    simp![IsD]
    exact⟨a,xs,rfl,.inl ⟨o,ak⟩,ag.mono (AE _) (.lst f1) ds xs f2⟩
   ·exact h.elim
  ·exact h.elim
theorem OpR.imp{f:Value->Value->Sem Value}{r r':R2}(h:OpR X f r)(i:∀x y H Q,r' x y H Q->r x y H Q):OpR X f r':=λpins s σ H x y v u Q I rx ry q=>h pins s σ H x y v u Q I rx ry (i _ _ _ _ q)
theorem IxR.imp{r r':R2}(h:IxR X r)(i:∀x y H Q,r' x y H Q->r x y H Q):IxR X r':=λe1 e2 pins s σ H x y v u Q I rx ry q=>h e1 e2 pins s σ H x y v u Q I rx ry (i _ _ _ _ q)
theorem gr.imp{f:Value}{r r':List V->Hp->VK->Prop}(h:gr X f r)(i:∀xs H Q,r' xs H Q->r xs H Q):gr X f r':=λpins s σ H xs us Q I rx q=>h pins s σ H xs us Q I rx (i _ _ _ q)
theorem MtR.imp{id:String}{r r':V->List V->Hp->VK->Prop}(h:MtR X id r)(i:∀x xs H Q,r' x xs H Q->r x xs H Q):MtR X id r':=λpins s σ H x xs v us Q I rx rr q=>h pins s σ H x xs v us Q I rx rr (i _ _ _ _ q)
theorem Kk{K:PySem.W.Frag}{ι:List Addr}{ds:List D}{xs:List V}{i:Int}{j:Nat}{d:D}(h:ag K ι H ds xs)(hi:Lp.ixN ds.length i=some j)(hj:ds[j]? = some d):∃v,atI xs i=some v/\IsD K ι H d v:=by
 obtain⟨v,e,q⟩:=h.get hj
 refine⟨v,?_,q⟩
 unfold atI
 rw[h.length,show L2.ixN ds.length i=some j from hi]
 exact e
theorem Od:IxR X (rOp X.K ixD):=IxR.imp Jl λx y H Q ⟨ι,d,e,μ,hS,hd,he,h⟩=>by
 unfold ixD at h
 split at h
 ·rename_i i
  have hy:y=.int i:=by simpa[IsD]using he
  subst hy
  split at h
  ·rename_i ds es
   obtain⟨a,xs,rfl,hq,hds⟩:=qr hS hd es
   split at h
   ·rename_i j ej
    split at h
    ·rename_i d' ed
     obtain⟨v,ev,hv⟩:=Kk hds ej ed
     have qv:=h.ok hS hv
     rcases hq with hq | hq
     ·exact .inl ⟨a,xs,i,v,rfl,rfl,hq.sq,ev,qv⟩
     ·exact .inr (.inl ⟨a,xs,i,v,rfl,rfl,hq,ev,qv⟩)
    ·exact h.elim
   ·exact h.elim
  ·exact h.elim
 ·exact h.elim
theorem En{K:PySem.W.Frag}{ι:List Addr}{ds:List D}{xs:List V}(h:ag K ι H ds xs)(lo hi:Option Int):ag K ι H (cut ds lo hi) (Eg xs lo hi):=by
 have e1:∀n d o,Lp.sIx n d o=HT.sIx n d o:=λn d o=>by cases o<;>rfl
 unfold cut Eg
 rw[h.length,e1,e1]
 exact(h.drop _).take _
end
noncomputable def vk(env:Env):List (Str×NameKind)->List (Str×Addr)->List (Str×Addr)
 | [],acc=>acc
 |(n,k)::r,acc=>vk env r (if k==.free then(n,(env.cells.lookup n).getD 0)::acc else acc)
noncomputable def kf(env:Env)(x:Str×NameKind)(cs:List (Str×Addr)):Sem (ForInStep (List (Str×Addr))):=match x with
 |(name,kind)=>if kind==.free then(do let a <-cellOf env name;pure (ForInStep.yield ((name,a)::cs)))else pure (ForInStep.yield cs)
theorem j6{env:Env}:∀(names:List (Str×NameKind)) (acc:List (Str×Addr)),(∀n,(n,NameKind.free)∈names->∃c,env.cells.lookup n=some c) ->
  forIn names acc (kf env)=pure (vk env names acc)
 | [],acc,_=>rfl
 |(n,k)::r,acc,h=>by
  rw[HI]
  by_cases hk:k=.free
  ·subst hk
   obtain⟨c,hc⟩:=h n AN
   have e:kf env (n,.free) acc=pure (ForInStep.yield ((n,c)::acc)):=by
    simp![kf,cellOf,hc,beq_self_eq_true,if_true]
    rfl
   rw[e]
   refine Eq.trans (b:=forIn r ((n,c)::acc) (kf env)) rfl ?_
   rw[j6 r ((n,c)::acc) λm hm=>h m (AI _ hm)]
   simp[vk,hc]
  ·have hb:(k==NameKind.free)=false:=by simpa using hk
   have e:kf env (n,k) acc=pure (ForInStep.yield acc):=by
    unfold kf
    simp![hb,AF,if_false]
   rw[e]
   refine Eq.trans (b:=forIn r acc (kf env)) rfl ?_
   rw[j6 r acc λm hm=>h m (AI _ hm)]
   simp[vk,hb]
theorem nh{env:Env}{scope:Scope}(h:∀n,(n,NameKind.free)∈scope.names->∃c,env.cells.lookup n=some c):closureFor scope env=pure (vk env scope.names []):=by
 have e:=j6 (env:=env) scope.names [] h
 have e2:closureFor scope env=(forIn scope.names [] (kf env)>>=λcs=>pure cs):=rfl
 rw[e2,e]
 rfl
theorem vm{env:Env}:∀(names:List (Str×NameKind)) (acc:List (Str×Addr)) (x:Str) (c:Addr),(∀n,(n,NameKind.free)∈names->∃c,env.cells.lookup n=some c)->(vk env names acc).lookup x=some c->acc.lookup x=some c\/env.cells.lookup x=some c
 | [],acc,x,c,_,h=>.inl h
 |(n,k)::r,acc,x,c,hh,h=>by
  rcases vm r _ x c (λm hm=>hh m (AI _ hm)) h with q | q
  ·by_cases hk:k=.free
   ·subst hk
    obtain⟨c',hc⟩:=hh n AN
    simp![beq_self_eq_true,if_true,DM]at q
    by_cases hx:x=n
    ·subst hx
     simp![beq_self_eq_true,hc,Option.getD_some,CJ]at q
     subst q
     exact .inr hc
    ·have hb:(x==n)=false:=beq_eq_false_iff_ne.mpr hx
     rw[hb]at q
     exact .inl q
   ·have hb:(k==NameKind.free)=false:=by simpa using hk
    simp![hb,AF,if_false]at q
    exact .inl q
  ·exact .inr q
theorem qu{env:Env}:∀(names:List (Str×NameKind)) (acc:List (Str×Addr)) (x:Str),(∃c,acc.lookup x=some c)->∃c,(vk env names acc).lookup x=some c
 | [],acc,x,h=>h
 |(n,k)::r,acc,x,h=>by
  refine qu r _ x ?_
  by_cases hk:(k==NameKind.free)=true
  ·rw[if_pos hk,DM]
   cases hx:x==n with
   |true=>exact⟨_,rfl⟩
   |false=>exact h
  ·rw[if_neg hk];exact h
theorem vn{env:Env}:∀(names:List (Str×NameKind)) (acc:List (Str×Addr)) (x:Str),(x,NameKind.free)∈names->∃c,(vk env names acc).lookup x=some c
 | [],acc,x,h=>by cases h
 |(n,k)::r,acc,x,h=>by
  rcases AS.mp h with e | e
  ·cases e
   refine qu r _ n ?_
   exact⟨(env.cells.lookup n).getD 0,by simp⟩
  ·exact vn r _ x e
noncomputable abbrev Ab(env:Env)(scope:Scope)(C:Addr):List (Str×Addr):=cellsFrom (C+1) scope.names []++vk env scope.names []
theorem cw:∀(names:List (Str×NameKind)) (n:Nat) (acc:List (Str×Addr)),cellsFrom n names acc=cellsFrom n names []++acc
 | [],_,_=>rfl
 |(a,k)::r,n,acc=>by
  unfold cellsFrom
  split
  ·rw[cw r (n+1) ((a,n)::acc),cw r (n+1) [(a,n)],GC];rfl
  ·exact cw r n acc
theorem gf:∀(names:List (Str×NameKind)) (n:Nat) (x:Str) (c:Addr),(x,c)∈cellsFrom n names []->(x,NameKind.cell)∈names
 | [],_,_,_,h=>nomatch h
 |(a,k)::r,n,x,c,h=>by
  unfold cellsFrom at h
  split at h
  ·rename_i hk
   rw[cw]at h
   rcases BA.mp h with h | h
   ·exact AI _ (gf r _ x c h)
   ·cases BF.mp h
    have:k=.cell:=by simpa using hk
    subst this
    exact AN
  ·exact AI _ (gf r _ x c h)
theorem uf{env:Env}{scope:Scope}{C:Addr}{x:Str}{c:Addr}(hc:∀n,(n,NameKind.free)∈scope.names->∃c,env.cells.lookup n=some c)(e:(Ab env scope C).lookup x=some c) :
  (x,c)∈cellsFrom (C+1) scope.names []\/env.cells.lookup x=some c:=by
 rcases BA.mp (BV e)with h | h
 ·exact .inl h
 ·cases q:(cellsFrom (C+1) scope.names []).lookup x with
  |some d =>
   have e2:(cellsFrom (C+1) scope.names []++vk env scope.names []).lookup x=some c:=e
   rw[EO,q]at e2
   cases e2
   exact .inl (BV q)
  |none =>
   have e2:(cellsFrom (C+1) scope.names []++vk env scope.names []).lookup x=some c:=e
   rw[EO,q]at e2
   rcases vm scope.names [] x c hc (by simpa using e2)with z | z
   ·cases z
   ·exact .inr z
theorem Ac {M:Model} {A:Around} {E:Value->Shared->Prop} {s:Shared} {scope:Scope} {cl:List (Str×Addr)} {globals builtins:Addr} {qual:Str} {func:Option Addr} {code:Value} {env:Env} {Q:Env->Shared->Prop}
  (hQ:∀h',h'.Ns s.heap.objs.size (λ_=>none)->(∀b o,s.heap.get? b=some o->h'.get? b=some o)->CellsOk h' (s.heap.objs.size+1) (cellsFrom (s.heap.objs.size+1) scope.names []) ->
   Q (newEnv scope s.heap.objs.size globals (cellsFrom (s.heap.objs.size+1) scope.names []++cl) qual func code (some env) builtins) {s with heap:=h'}) :
  wpAny M A (newFunctionEnv scope globals cl [] qual func code (some env) builtins) Q E s:=by
 simp![newFunctionEnv,Option.isSome_some,if_true]
 refine AA (wpAny_alloc ?_)
 refine AA (wpAny_layCells _ (λname kind cells=>by cases hkc:kind==NameKind.cell<;>simp[hkc]) _ _ _ _ ?_)
 have ok:=cellsFrom_ok scope.names (s.heap.push {cls:=.type "dict",data:=.dict #[]}) (s.heap.objs.size+1) [] ⟨λ_ _ hm=>(nomatch hm),List.Pairwise.nil⟩ (by rw[Db];exact AH _)
 rw[Db]at ok
 rw[show({s with heap:=s.heap.push {cls:=.type "dict",data:=.dict #[]}}:Shared).heap.objs.size=s.heap.objs.size+1 from Db ..]
 rw[List.forIn_nil,cw]
 exact AA (AC (AC (hQ _ ((Heap.Ns.new s.heap (.type "dict")).keeps (pushCells_keeps _ _)) (λb o e=>pushCells_keeps _ _ b o (AB _ e)) ok)))
noncomputable def ja(X:Cx)(scope:Scope)(Nb:List Str)(C:Addr)(s:Shared)(H:Hp)(fp:List Addr):Cx :=
 {X with N:=Nb,s₀:=s,H₀:=H,env:=compEnvC scope (Ab X.env scope C) C X.env,outer:=X.stack,stack:=X.stack,ex:=fp,fn:=λx=>scope.names.lookup x==some .cell,pn:=[],xe:=λ_ _=>False}
structure CompScope (sc scope:Scope) (N Nb:List Str) (cap:List Nat) (nl:Nat):Prop where
 kind:scope.kind=.function
 uniq:∀y∈scope.names,scope.names.lookup y.1=some y.2
 free:∀n,(n,NameKind.free)∈scope.names->sc.names.lookup n=some .cell\/sc.names.lookup n=some .free
 fnames:∀n,(relabel scope {scope:=sc,locals:=0,globals:=0,cells:=[]}).names.lookup n=some .cell\/(relabel scope {scope:=sc,locals:=0,globals:=0,cells:=[]}).names.lookup n=some .free->(n,NameKind.free)∈scope.names\/(n,NameKind.cell)∈scope.names
 nd:Nb.Nodup
 len:Nb.length=cap.length+nl
 capt:∀(j:Nat) i,cap[j]? = some i->∃x,Nb[j]? = some x/\N[i]? = some x/\(x,NameKind.free)∈scope.names
theorem ye(scope:Scope)(env env':Env)(h:env.scope=env'.scope):relabel scope env=relabel scope env':=by
 unfold relabel Env.kindOf
 rw[h]
section
variable{X:Cx}{pins:List (Addr × Obj)}{σ:St}{H:Hp}{s:Shared}{scope:Scope}{Nb:List Str}{cap:List Nat}{nl:Nat}
noncomputable def gi(cap:List Nat)(nl:Nat)(σ:St):St:=cap.map (λi=>(σ[i]?).getD none)++List.replicate nl none
theorem Ad {fp:List Addr} {h':Heap} {tk:Nat} {C:Addr} {m:Str->Option Value} {D:Addr} {n0:Nat} (I:Inv X pins σ H s) (S:CompScope X.env.scope scope X.N Nb cap nl)
  (hf:∀b∈fp,B8 X pins H b) (hfp:∀b∈fp,∃o,s.heap.get? b=some o) (hk:∀b o,s.heap.get? b=some o->h'.get? b=some o) (hC:s.heap.objs.size<=C) (hD:s.heap.objs.size<=D) (hDC:D≠C)
  (hns:h'.Ns C m) (hDo:h'.get? D=some {cls:=.type "list",data:=.seq #[] n0}) (ok:CellsOk h' (C+1) (cellsFrom (C+1) scope.names [])) :
  Inv (ja X scope Nb C s H fp) [(D,{cls:=.type "list",data:=.seq #[] n0})] (gi cap nl σ) H {s with heap:=h',toks:=tk}:=by
 have hcells:∀n,(n,NameKind.free)∈scope.names->∃c,X.env.cells.lookup n=some c:=λn hn=>by
  rcases S.free n hn with e | e
  ·exact I.ok.has n (.inl e)
  ·exact I.ok.has n (.inr e)
 have sub:∀x c,(Ab X.env scope C).lookup x=some c->(x,c)∈cellsFrom (C+1) scope.names []\/X.env.cells.lookup x=some c:=λx c e=>uf hcells e
 have up:∀x c,(x,c)∈cellsFrom (C+1) scope.names []->s.heap.objs.size<=c:=λx c e=>BQ hC (Nat.le_of_succ_le (ok.empty x c e).2)
 have hasB:∀x,(x,NameKind.free)∈scope.names\/(x,NameKind.cell)∈scope.names->∃c,(Ab X.env scope C).lookup x=some c:=λx hx=>by
  show ∃c,(cellsFrom (C+1) scope.names []++vk X.env scope.names []).lookup x=some c
  rw[EO]
  cases q:(cellsFrom (C+1) scope.names []).lookup x with
  |some d=>exact⟨d,rfl⟩
  |none =>
   rcases hx with hx | hx
   ·obtain⟨c,e⟩:=vn (env:=X.env) scope.names [] x hx
    exact⟨c,by rw[e];rfl⟩
   ·obtain⟨c,e⟩:=kr (n:=C+1) (S.uniq _ hx)
    rw[q]at e;cases e
 have hlt:∀b∈fp,b<s.heap.objs.size:=λb hb=>let ⟨o,e⟩:=hfp b hb;AM e
 have hrel:relabel scope X.env=relabel scope {scope:=X.env.scope,locals:=0,globals:=0,cells:=[]}:=ye _ _ _ rfl
 have hcm:∀x c,X.env.cells.lookup x=some c->c<s.heap.objs.size:=λx c e=>let ⟨v,q⟩:=I.cell x c e;q.lt
 refine⟨⟨I.ok.mod,by show(relabel scope X.env).kind=_;unfold relabel;exact S.kind,I.ok.glob,I.ok.blt,hC,λx y c e1 e2=>?_,λx hx=>?_,λx c hfn e=>?_,I.ok.hd,I.ok.frames,.inl rfl,
  λb hb=>⟨AR (AO (hlt b hb) hC),λx c e=>(sub x c e).elim (λq=>CH (AO (hlt b hb) (up x c q))) λq=>(hf b hb).2.2.2.2.1 x c q⟩,I.bs,BQ I.ok.bsz I.sz,λb o e hb=>?_,λb hb hb2=>?_,I.stack,I.stkFree⟩,
  rfl,I.bare,Un.kept hk,⟨m,hns,λi x v e1 e2 e3=>?_⟩,λx c e=>?_,I.hok.fresh hC,λx c e=>(sub x c e).elim (λq=>I.hok.fresh (up x c q)) λq=>I.freeC x c q,λp hp=>?_,I.hok.kept hk,?_⟩
 ·rcases sub x c e1 with q1 | q1<;>rcases sub y c e2 with q2 | q2
  ·exact name_of_addr ok.apart q1 q2
  ·exact absurd (hcm y c q2) (IA.mpr (up x c q1))
  ·exact absurd (hcm x c q1) (IA.mpr (up y c q2))
  ·exact I.ok.inj x y c q1 q2
 ·have hx':(relabel scope {scope:=X.env.scope,locals:=0,globals:=0,cells:=[]}).names.lookup x=some .cell\/(relabel scope {scope:=X.env.scope,locals:=0,globals:=0,cells:=[]}).names.lookup x=some .free:=by
   rw[<-hrel];exact hx
  exact hasB x (S.fnames x hx')
 ·obtain⟨d,q⟩:=kr (n:=C+1) (show scope.names.lookup x=some .cell from beq_iff_eq.mp hfn)
  have e2:(cellsFrom (C+1) scope.names []++vk X.env scope.names []).lookup x=some c:=e
  rw[EO,q]at e2
  cases e2
  exact up x _ (BV q)
 ·rcases(hf b hb).2.2.2.1 with z | z
  ·exact I.ok.noex b o e z
  ·have:=AM e
   exact absurd (AO this (BQ I.ok.bsz z)) (CG _)
 ·rcases AS.mp (I.stkSub b hb2)with z | z
  ·exact(hf b hb).2.1 z
  ·exact(hf b hb).2.2.1 z
 ·-- a captured name
  have hi:i<cap.length:=by
   by_cases hi:i<cap.length
   ·exact hi
   ·unfold gi at e2
    rw[CI (by simpa using hi),CN]at e2
    split at e2<;>cases e2
  unfold gi at e2
  rw[AW (by simpa using hi),BL,AD hi]at e2
  simp![HJ,CJ]at e2
  obtain⟨y,q1,q2,q3⟩:=S.capt i _ (AD hi)
  have ey:y=x:=BJ (q1.symm.trans e1)
  subst ey
  have e4:σ[cap[i]]? = some (some v):=by
   cases e5:σ[cap[i]]? with
   |none=>rw[e5]at e2;cases e2
   |some w=>rw[e5]at e2;simp at e2;rw[e2]
  obtain⟨m0,hn0,hl0⟩:=I.loc
  have hkind:X.env.kindOf y=some .cell\/X.env.kindOf y=some .free:=S.free y q3
  obtain⟨u,r,l⟩:=hl0 _ y v q2 e4 (by rcases hkind with z | z;exact .inr (.inl z);exact .inr (.inr z))
  refine⟨u,r,.inr ?_⟩
  rcases l with⟨z,_⟩ | ⟨_,c,ec,hc⟩
  ·rcases hkind with w | w<;>(rw[w]at z;cases z)
  ·obtain⟨c',ec'⟩:=hasB y (.inl q3)
   have:c'=c:=by
    rcases sub y c' ec' with z | z
    ·have:=S.uniq _ (gf _ _ _ _ z)
     rw[S.uniq (y,NameKind.free) q3]at this;cases this
    ·rw[ec]at z;cases z;rfl
   subst this
   obtain⟨o,ho,hd⟩:=hc
   refine⟨?_,c',ec',o,hk _ _ ho,hd⟩
   -- a free name is seen as a cell or as free
   have hv:(ja X scope Nb C s H fp).env.kindOf y=some .local\/(ja X scope Nb C s H fp).env.kindOf y=some .cell\/(ja X scope Nb C s H fp).env.kindOf y=some .free:=e3
   rcases hv with z | z | z
   ·exfalso
    have hl:(relabel scope X.env).names.lookup y=some .local:=z
    have mem:∀(l:List (Str×NameKind)) (y:Str),(l.map fun(n,k)=>if(k==NameKind.free&&X.env.scope.kind==.function&&X.env.kindOf n==some .cell)then(n,NameKind.cell)else(n,k)).lookup y=some .local->l.lookup y=some .local:=by
     intro l
     induction l with
     |nil=>intro y h;simp at h
     |cons a r ih =>
      obtain⟨n,k⟩:=a
      intro y h
      simp![AL]at h
      rw[DM]
      by_cases hc:(k==NameKind.free&&X.env.scope.kind==.function&&X.env.kindOf n==some .cell)=true
      ·rw[if_pos hc,DM]at h
       cases hy:y==n with
       |true=>rw[hy]at h;cases h
       |false=>rw[hy]at h;exact ih y h
      ·rw[if_neg hc,DM]at h
       cases hy:y==n with
       |true=>rw[hy]at h;exact h
       |false=>rw[hy]at h;exact ih y h
    have hloc:=mem scope.names y hl
    rw[S.uniq (y,NameKind.free) q3]at hloc
    cases hloc
   ·exact .inl z
   ·exact .inr z
 ·rcases sub x c e with q | q
  ·exact⟨_,(ok.empty x c q).1⟩
  ·obtain⟨v,o,ho,hd⟩:=I.cell x c q
   exact⟨v,o,hk _ _ ho,hd⟩
 ·have e:p=(D,{cls:=.type "list",data:=.seq #[] n0}):=by
   have:p∈([]:List (Addr×Obj))++[(D,{cls:=.type "list",data:=.seq #[] n0})]:=hp
   simpa using this
  subst e
  refine⟨hDo,I.hok.fresh hD,hDC,λz=>?_,λv z=>by cases z⟩
  have z':D∈frs X.stack:=z
  rcases AS.mp (I.stkSub D z')with w | w
  ·exact absurd (AO I.lt hD) (by rw[w];exact CG _)
  ·exact I.nofs hD w
 ·show(gi cap nl σ).length=Nb.length
  rw[S.len];simp[gi]
end
noncomputable abbrev ug(ifs:List Expr)(env:Env)(b:Bool):Sem Bool:=forIn ifs b λc r=>if r=true then do let ok <-isTrue c env (eval c env);pure (ForInStep.yield ok)else pure (ForInStep.yield r)
noncomputable def PTs(X:Cx)(ifs:List Expr)(t:TT):Prop :=
 ∀(pins:List (Addr×Obj)) (s:Shared) (σ:St) (H:Hp) (Q:Bool->Hp->Prop),Inv X pins σ H s->t σ H Q->wpAny (model X.prog X.w) X.A (ug ifs X.env true) (TP X pins σ Q) X.xe s
theorem lq{M:Model}{A:Around}{E:Value->Shared->Prop}{env:Env}{Q:Bool->Shared->Prop}:∀(ifs:List Expr) {s:Shared},Q false s->wpAny M A (ug ifs env false) Q E s
 | [],s,h=>AC h
 |c::r,s,h=>by
  show wpAny M A (forIn (c::r) false _) Q E s
  rw[HI]
  exact AA (AC (lq r h))
noncomputable def tTsNil:TT:=λ_ H Q=>Q true H
noncomputable def Gj(t u:TT):TT:=λσ H Q=>t σ H λb H1=>if b=true then u σ H1 Q else Q false H1
theorem Gk{X:Cx}:PTs X [] tTsNil:=λpins s σ H Q I h=>AC ⟨H,I,h⟩
theorem Cy{X:Cx}{c:Expr}{r:List Expr}{t u:TT}(h1:PT X c t)(h2:PTs X r u):PTs X (c::r) (Gj t u):=λpins s σ H Q I h=>by
 show wpAny _ _ (forIn (c::r) true _) _ _ s
 rw[HI]
 refine AA (AA (thn (h1 pins s σ H _ I h) λb s1 ⟨H1,I1,q1⟩=>AC ?_))
 cases b with
 |true=>exact h2 pins s1 σ H1 Q I1 q1
 |false=>exact lq r ⟨H1,I1,q1⟩
noncomputable def Kept(σ σ':St):Prop:=σ.length=σ'.length/\∀(i:Nat) v,σ[i]? = some (some v)->σ'[i]? = some (some v)
noncomputable def Gm(wi:TI)(g:TG)(ts:TT)(te:TE)(σb:St->St):TE:=λσ H Q=>wi σ H λJ H1=>∃W:Nat->Nat->Hp->List V->Prop,(∃m,W 0 m H1 [])/\∀i m H acc,W i m H acc ->
 (J.stop i H/\acc.length<=sizeLine/\∀p,H p=none->Q (.ref p) (upd H p (.lst acc))) \/
 (J.go i H/\acc.length<sizeLine/\∀x H',J.yld i H x H'->g x (σb σ) H' λσ2 H2=>Kept (σb σ) σ2/\ts σ2 H2 λb H3=>if b=true then te σ2 H3 λv H4=>∃m',m'<m/\W (i+1) m' H4 (acc++[v])else ∃m',m'<m/\W (i+1) m' H3 acc)
section
variable{X:Cx}{scope:Scope}{Nb:List Str}{cap:List Nat}{nl:Nat}
theorem _root_.L2.HOk.track{P:Program}{w:World}{H:Hp}{h:Heap}{p:Addr}{o:HO}(x:HOk P w H h)(hp:H p=none)(new:eg P w (upd H p o) h p o):HOk P w (upd H p o) h:=λb u e=>by
 by_cases hb:b=p
 ·subst hb;rw[ak]at e;cases e;exact new
 ·rw[ai hb]at e
  exact(x b u e).stay (λc v _ q=>q) (λc q=>by rw[ai (ay q hp)];exact q) λc xs q=>by rw[ai (ay q hp)];exact q
theorem Ae {prog:Program} {w:World} {A:Around} {R:Result->Shared->Prop} {s:Shared} {elt target iter:Expr} {ifs:List Expr} {pos:Pos} {it acc:Value} {env:Env} (I:Nat->Shared->Prop)
  (turn:∀n s,I n s->wpAny (model prog w) A (pyNext it) (λr s₁=>match r with
   |none=>R (.ok .next) s₁
   |some v=>wpAny (model prog w) A (letOwnedTupleGo target it v) (λ_ s₀=>wpAny (model prog w) A (assign target env v) (λ_ s₂ =>
     wpAny (model prog w) A (ug ifs env true) (λok s₃ =>
      if ok=true then wpAny (model prog w) A (eval elt env) (λx s₄ =>
       wpAny (model prog w) A (call (.builtin "list.append") [acc,x]) (λ_ s₅=>∃m,m<n/\I m s₅) (λ_ _=>False) s₄) (λ_ _=>False) s₃
      else ∃m,m<n/\I m s₃) (λ_ _=>False) s₂) (λ_ _=>False) s₀) (λ_ _=>False) s₁) (λ_ _=>False) s)
  (n:Nat) (h:I n s) :
  codeAny (model prog w) A (.compLoop (.ListComp elt [⟨target,iter,ifs,0⟩] scope pos) 0 it acc env) R s:=by
 refine codeAny_loop rfl I (λn s hI=>?_) n h
 show wpAny _ A ((compTurn (.ListComp elt [⟨target,iter,ifs,0⟩] scope pos) 0 it acc env).onRaise (λx=>do noteFrame x env;theTreesLotGoes x)) _ _ s
 refine wpAny_noted ?_
 rw[compTurn_list]
 have no:∀{α:Type} {t:Sem α} {Q:α->Shared->Prop} {E:Value->Shared->Prop} {s:Shared},wpAny (model prog w) A t Q (λ_ _=>False) s->wpAny (model prog w) A t Q E s:=λh=>Da h (λ_ _ q=>q) λ_ _ q=>q.elim
 refine AA (wpAny_standAt (AA (Da (turn n s hI) (λr s₁ h₁=>?_) λ_ _ h'=>h'.elim)))
 cases r with
 |none=>exact AC h₁
 |some v =>
  refine AA (Da h₁ (λ_ s₀ h₀=>?_) λ_ _ h'=>h'.elim)
  refine AA (Da h₀ (λ_ s₂ h₂=>AA (Da h₂ (λok s₃ h₃=>?_) λ_ _ h'=>h'.elim)) λ_ _ h'=>h'.elim)
  cases ok with
  |false=>exact AC ⟨rfl,h₃⟩
  |true =>
   exact AA (AA (Da h₃ (λx s₄ h₄=>AA (Da h₄ (λ_ s₅ h₅=>AC (AC ⟨rfl,h₅⟩)) λ_ _ h'=>h'.elim)) λ_ _ h'=>h'.elim))
noncomputable def uh(X:Cx)(scope:Scope)(Nb:List Str)(target:Expr)(ifs:List Expr)(elt:Expr)(g:TG)(ts:TT)(te:TE):Prop :=
 ∀C s H fp,PG (ja X scope Nb C s H fp) target g/\PTs (ja X scope Nb C s H fp) ifs ts/\PE (ja X scope Nb C s H fp) elt te
theorem ni {elt target iter:Expr} {ifs:List Expr} {pos:Pos} {g:TG} {ts:TT} {te:TE} {pins:List (Addr×Obj)} {σ:St} {H:Hp} {s:Shared} {it:Addr} {fp:List Addr} {tn:Nat->Heap->Prop} {J:L2.It} {Q:VK} {E:Value->Shared->Prop} {use:Option (Value->Sem Unit)} {QQ:Value->Shared->Prop}
  (S:CompScope X.env.scope scope X.N Nb cap nl) (hc:X.calm=true) (B:uh X scope Nb target ifs elt g ts te) (I:Inv X pins σ H s) (T:Turn X.prog X.w X.K target J fp it tn) (t0:tn 0 s.heap) (hf:∀b∈fp,B8 X pins H b)
  (h:∃W:Nat->Nat->Hp->List V->Prop,(∃m,W 0 m H [])/\∀i m H acc,W i m H acc ->
   (J.stop i H/\acc.length<=sizeLine/\∀p,H p=none->Q (.ref p) (upd H p (.lst acc))) \/
   (J.go i H/\acc.length<sizeLine/\∀x H',J.yld i H x H'->g x (gi cap nl σ) H' λσ2 H2=>Kept (gi cap nl σ) σ2/\ts σ2 H2 λb H3=>if b=true then te σ2 H3 λv H4=>∃m',m'<m/\W (i+1) m' H4 (acc++[v])else ∃m',m'<m/\W (i+1) m' H3 acc))
  (hQ:∀(D C:Addr) (s':Shared) m,s.heap.objs.size<=C->(∀h',Heap.SameBut C s'.heap h'->EP X pins σ (λv H=>H C=none/\Q v H) (.ref D) {s' with heap:=h'})->s'.heap.Ns C m->compPost (model X.prog X.w) X.A E use QQ (.ref D) C (.ok .next) s') :
  wpAny (model X.prog X.w) X.A (newList []) (λacc s₃=>wpAny (model X.prog X.w) X.A (newFunctionEnv scope X.env.globals (vk X.env scope.names []) [] X.env.qual none .none (some X.env)) (λcenv s₄ =>
   codeAny (model X.prog X.w) X.A (.compStart (.ListComp elt [⟨target,iter,ifs,0⟩] scope pos) 0 (.ref it) acc {cenv with scope:=relabel scope X.env}) (compPost (model X.prog X.w) X.A E use QQ acc cenv.locals) s₄) E s₃) E s:=by
 refine BM (Ac λh₁ hns₁ hsb₁ cok=>?_)
 dsimp only at hns₁ hsb₁ cok ⊢
 generalize hH2:s.heap.push {cls:=.type "list",dict:=none,data:=.seq ([]:List Value).toArray}=H2 at hns₁ hsb₁ cok ⊢
 have hC:H2.objs.size=s.heap.objs.size+1:=by rw[<-hH2,Db]
 have hDC:s.heap.objs.size≠H2.objs.size:=by rw[hC];exact AR (FI _)
 have hCle:s.heap.objs.size<=H2.objs.size:=by rw[hC];exact Nat.le_succ _
 have old:∀b o,s.heap.get? b=some o->h₁.get? b=some o:=λb o e=>hsb₁ b o (hH2 ▸ AB _ e)
 have hDo:h₁.get? s.heap.objs.size=some {cls:=.type "list",data:=.seq #[]}:=hsb₁ _ _ (hH2 ▸ AQ _ rfl)
 have own:∀x c,(x,c)∈cellsFrom (H2.objs.size+1) scope.names []->H2.objs.size<c:=λx c q=>(cok.empty x c q).2
 have hfp:∀b∈fp,∃o,s.heap.get? b=some o:=λb hb=>let ⟨o,e,_⟩:=T.obj 0 _ t0 b hb;⟨o,e⟩
 have hlt:∀b∈fp,b<s.heap.objs.size:=λb hb=>let ⟨o,e⟩:=hfp b hb;AM e
 obtain⟨W,⟨m0,w0⟩,turn⟩:=h
 obtain⟨BG,BT,BE⟩:=B H2.objs.size s H fp
 have I4:=Ad (tk:=s.toks) I S hf hfp old hCle (AH _) hDC hns₁ hDo cok
 have hcells:∀n,(n,NameKind.free)∈scope.names->∃c,X.env.cells.lookup n=some c:=λn hn=>by
  rcases S.free n hn with e | e
  ·exact I.ok.has n (.inl e)
  ·exact I.ok.has n (.inr e)
 -- what the iterator's objects are to the block
 have stat:∀{H':Hp},(∀b∈fp,H' b=none)->∀b∈fp,B8 (ja X scope Nb H2.objs.size s H fp) [] H' b:=λhn b hb=>by
  refine⟨hn b hb,AR (AO (hlt b hb) hCle),λz=>?_,.inl hb,λx c e=>?_,λp hp=>absurd (show p∈([]:List (Addr×Obj))++[]from hp) (by simp)⟩
  ·rcases AS.mp (I.stkSub b z)with z | z
   ·exact(hf b hb).2.1 z
   ·exact(hf b hb).2.2.1 z
  ·rcases uf hcells e with q | q
   ·exact CH (Nat.lt_trans (AO (hlt b hb) hCle) (own x c q))
   ·exact(hf b hb).2.2.2.2.1 x c q
 have loop:∀s₃:Shared,s₃={s with heap:=h₁} ->
   codeAny (model X.prog X.w) X.A (.compLoop (.ListComp elt [⟨target,iter,ifs,0⟩] scope pos) 0 (.ref it) (.ref s.heap.objs.size) (compEnvC scope (Ab X.env scope H2.objs.size) H2.objs.size X.env))
    (compPost (model X.prog X.w) X.A E use QQ (.ref s.heap.objs.size) H2.objs.size) s₃:=by
  rintro s₃ rfl
  refine Ae (λn s'=>∃i H' acc its n',Inv (ja X scope Nb H2.objs.size s H fp) [] (gi cap nl σ) H' s'/\tn i s'.heap/\(∀b∈fp,H' b=none)/\H' s.heap.objs.size=none /\
   s'.heap.get? s.heap.objs.size=some {cls:=.type "list",data:=.seq (its:List Value).toArray n'}/\bc acc its/\W i n H' acc) ?_ m0
   ⟨0,H,[],[],_,I4.pins_of (λp hp=>absurd hp (by simp)),T.keep _ _ _ t0 λb hb o e=>old b o e,λb hb=>(hf b hb).1,I.hok.fresh (AH _),hDo,.nil,w0⟩
  rintro n s5 ⟨i,H5,acc,its,n5,I5,t5,f5,hD5,hget5,hv5,w5⟩
  rcases turn i n H5 acc w5 with⟨stop,hz,q⟩ | ⟨go,hz,q⟩
  ·refine thn (T.done (ja X scope Nb H2.objs.size s H fp) rfl rfl rfl hc i [(s.heap.objs.size,{cls:=.type "list",data:=.seq its.toArray n5})] s5 _ H5 _ (I5.pins_of ?_) ?_ t5 stop) λr s6 ⟨hr,I6⟩=>?_
   ·intro p hp
    have e:p=(s.heap.objs.size,{cls:=.type "list",data:=.seq its.toArray n5}):=by simpa using hp
    subst e
    refine⟨hget5,hD5,hDC,λz=>?_,λv z=>by cases z⟩
    rcases AS.mp (I.stkSub _ (show s.heap.objs.size∈frs X.stack from z))with w | w
    ·exact absurd I.lt (by rw[<-w];exact CG _)
    ·exact I.nofs (AH _) w
   ·intro b hb
    obtain⟨a1,a2,a3,a4,a5,a6⟩:=stat f5 b hb
    refine⟨a1,a2,a3,a4,a5,λp hp=>?_⟩
    have e:p=(s.heap.objs.size,{cls:=.type "list",data:=.seq its.toArray n5}):=by
     have:p∈([]:List (Addr×Obj))++[(s.heap.objs.size,{cls:=.type "list",data:=.seq its.toArray n5})]:=hp
     simpa using this
    subst e
    exact λz=>absurd (hlt b hb) (by rw[<-z];exact CG _)
   ·subst hr
    have hget6:=(I6.pin (s.heap.objs.size,{cls:=.type "list",data:=.seq its.toArray n5}) (by show _∈([]:List (Addr×Obj))++_;simp)).1
    obtain⟨m6,hn6,_⟩:=I6.loc
    refine hQ _ _ s6 m6 hCle (λh' hs'=>?_) hn6
    have hk6:∀b o,b≠H2.objs.size->s6.heap.get? b=some o->h'.get? b=some o:=λb o hb e=>hs'.extBut b o hb e
    have hgetD:=hk6 _ _ hDC hget6
    have Cn:H5 H2.objs.size=none:=I6.free
    have hok':HOk X.prog X.w H5 h':=λb u e=>by
     refine(I6.hok b u e).stay (λc v hcc q=>hk6 c v ?_ q) (λ_ q=>q) λ_ _ q=>q
     rcases hcc with z | z
     ·rintro rfl;rw[<-z]at e;rw[Cn]at e;cases e
     ·rintro rfl;rw[Cn]at z;cases z
    refine⟨.ref s.heap.objs.size,upd H5 s.heap.objs.size (.lst acc),?_,rfl,by rw[ai (Ne.symm hDC)];exact Cn,q _ hD5⟩
    have hU:Un (frs X.stack) fp H H5 s.heap s6.heap:=I6.base
    have nC:∀b o,s.heap.get? b=some o->b≠H2.objs.size:=λb o e=>AR (AO (AM e) hCle)
    have nD:∀b o,s.heap.get? b=some o->b≠s.heap.objs.size:=λb o e=>AR (AM e)
    refine I.call' (s':={s6 with heap:=h'}) (ch:=fp) (by show s6.os=s.os;exact I6.os) ⟨λb o e nn hb hx=>hk6 b o (nC b o e) (hU.keep b o e nn hb hx),λb o e nn hb hx=>?_,λb o e nn hx=>?_,λb o e hx=>?_,λb xs e=>?_,λb o u e=>?_,λb ps e=>?_⟩ ?_ I6.bare ?_
    ·obtain⟨sl,e2⟩:=hU.slot b o e nn hb hx
     exact⟨sl,hk6 b _ (nC b o e) e2⟩
    ·rw[ai (nD b o e)];exact hU.free b o e nn hx
    ·obtain⟨o',e2⟩:=hU.there b o e hx
     exact⟨o',hk6 b _ (nC b o e) e2⟩
    ·have e2:=hU.tups b xs e
     rw[ai (ay e2 hD5)];exact e2
    ·have e2:=hU.frzs b o u e
     rw[ai (ay e2 hD5)];exact e2
    ·obtain⟨more,e2⟩:=hU.tbls b ps e
     exact⟨more,by rw[ai (ay e2 hD5)];exact e2⟩
    ·exact L2.HOk.track hok' hD5 ⟨hz,its,n5,hv5,hgetD⟩
    ·intro b hb
     obtain⟨a1,a2,a3,a4,a5,a6⟩:=hf b hb
     exact⟨a4,a2,a5,a6⟩
  ·-- one more turn
   have notfs:s.heap.objs.size∉frs X.stack:=λz=>by
    rcases AS.mp (I.stkSub _ z)with w | w
    ·exact absurd I.lt (by rw[<-w];exact CG _)
    ·exact I.nofs (AH _) w
   have I5':Inv (ja X scope Nb H2.objs.size s H fp) [(s.heap.objs.size,{cls:=.type "list",data:=.seq its.toArray n5})] (gi cap nl σ) H5 s5:=I5.pins_of λp hp=>by
    have e:p=(s.heap.objs.size,{cls:=.type "list",data:=.seq its.toArray n5}):=by simpa using hp
    subst e
    exact⟨hget5,hD5,hDC,notfs,λv z=>by cases z⟩
   have stat':∀{H':Hp},(∀b∈fp,H' b=none)->∀b∈fp,B8 (ja X scope Nb H2.objs.size s H fp) [(s.heap.objs.size,{cls:=.type "list",data:=.seq its.toArray n5})] H' b:=λhn b hb=>by
    obtain⟨a1,a2,a3,a4,a5,a6⟩:=stat hn b hb
    refine⟨a1,a2,a3,a4,a5,λp hp=>?_⟩
    have e:p=(s.heap.objs.size,{cls:=.type "list",data:=.seq its.toArray n5}):=by
     have:p∈([]:List (Addr×Obj))++[(s.heap.objs.size,{cls:=.type "list",data:=.seq its.toArray n5})]:=hp
     simpa using this
    subst e
    exact λz=>absurd (hlt b hb) (by rw[<-z];exact CG _)
   refine thn (T.item (ja X scope Nb H2.objs.size s H fp) rfl rfl rfl hc i _ s5 _ H5 (λ_ _=>False) I5' (stat' f5) t5 go) λr s6 ⟨u,hr,h6⟩=>?_
   subst hr
   refine thn h6 λ_ s7 ⟨x,H7,I7,r7,y7,t7,f7⟩=>?_
   have I7':=I7.pinned (stat' f7) (T.obj _ _ t7)
   have back:∀{σ':St} {H':Hp} {s':Shared},Inv (ja X scope Nb H2.objs.size s H fp) ([(s.heap.objs.size,{cls:=.type "list",data:=.seq its.toArray n5})]++qb fp s7.heap) σ' H' s' ->
     tn (i+1) s'.heap/\(∀b∈fp,H' b=none)/\H' s.heap.objs.size=none/\s'.heap.get? s.heap.objs.size=some {cls:=.type "list",data:=.seq its.toArray n5}:=λ{σ' H' s'} J'=>by
    have pD:=J'.pin (s.heap.objs.size,{cls:=.type "list",data:=.seq its.toArray n5}) (by show _∈([]:List (Addr×Obj))++_;simp)
    refine⟨T.keep _ _ _ t7 λb hb o e=>(J'.pin (b,o) (BC _ (BC _ (iu hb e)))).1,λb hb=>?_,pD.2.1,pD.1⟩
    obtain⟨o,e,d⟩:=T.obj _ _ t7 b hb
    exact(J'.pin (b,o) (BC _ (BC _ (iu hb e)))).2.1
   refine thn (BG _ s7 _ H7 x u _ I7' r7 (q x H7 y7)) λ_ s8 ⟨σ8,H8,I8,ks,q8⟩=>?_
   refine thn (BT _ s8 σ8 H8 _ I8 q8) λok s9 ⟨H9,I9,q9⟩=>?_
   cases ok with
   |false =>
    obtain⟨m',hm',w9⟩:∃m',m'<n/\W (i+1) m' H9 acc:=q9
    obtain⟨b1,b2,b3,b4⟩:=back I9
    exact⟨m',hm',i+1,H9,acc,its,n5,(I9.weak ks.1 ks.2).pins_of (λp hp=>absurd hp (by simp)),b1,b2,b3,b4,hv5,w9⟩
   |true =>
    refine thn (BE _ s9 σ8 H9 _ I9 q9) λxv s10 ⟨v,H10,I10,r10,m',hm',w10⟩=>?_
    obtain⟨b1,b2,b3,b4⟩:=back I10
    have hl5:=hv5.length
    refine wpAny_list_append_plain (items:=its.toArray) ⟨n5,b4⟩ (λh' hpl hs'=>?_) (by rw[AG,<-hl5];exact CU hz)
    obtain⟨n6,hg6⟩:=hpl
    have I11:Inv (ja X scope Nb H2.objs.size s H fp) [] (gi cap nl σ) H10 {s10 with heap:=h'}:=by
     have I10':=(I10.weak ks.1 ks.2).pins_of (pins':=[]) (λp hp=>absurd hp (by simp))
     refine I10'.turned (t':=s10.toks) (it:=s.heap.objs.size) (λb o hb e=>hs'.extBut b o hb e) b3 hDC (.inr (AH _)) (λx c e=>?_) (λp hp=>absurd (show p∈([]:List (Addr×Obj))++[]from hp) (by simp))
     rcases uf hcells e with q | q
     ·exact CH (Nat.lt_of_le_of_lt hCle (own x c q))
     ·obtain⟨v,hcc⟩:=I.cell x c q
      exact AR hcc.lt
    refine⟨m',hm',i+1,H10,acc++[v],its++[xv],n6,I11,?_,b2,b3,by rw[hg6];simp,hv5.append (.cons r10 .nil),w10⟩
    exact T.keep _ _ _ b1 λb hb o e=>hs'.extBut b o (AR (hlt b hb)) e
 exact codeAny_compStart_list (loop _ rfl) (T.self X.A 0 _ _ _ (T.keep _ _ _ t0 λb hb o e=>old b o e) (loop _ rfl))
theorem Gn {elt target iter:Expr} {ifs:List Expr} {pos:Pos} {wi:TI} {g:TG} {ts:TT} {te:TE} (S:CompScope X.env.scope scope X.N Nb cap nl) (hc:X.calm=true) (hi:PI X target iter wi) (B:uh X scope Nb target ifs elt g ts te)
  (hs:∀x,foldedSetIterable iter X.env x=pure x):PE X (.ListComp elt [⟨target,iter,ifs,0⟩] scope pos) (Gm wi g ts te (gi cap nl)):=by
 intro pins s σ H Q I h
 rw[eval_ListComp]
 have hcells:∀n,(n,NameKind.free)∈scope.names->∃c,X.env.cells.lookup n=some c:=λn hn=>by
  rcases S.free n hn with e | e
  ·exact I.ok.has n (.inl e)
  ·exact I.ok.has n (.inr e)
 refine wpAny_comprehension_free (use:=none) rfl hs (nh hcells) S.kind (λy hy hl=>by rw[S.uniq y hy,hl]) ?_
 refine thn (hi pins s σ H _ I h) λv s1 h1=>thn h1 λitv s2 ⟨it,fp,tn,J,H2,e,I2,T,t2,f2,hW⟩=>?_
 subst e
 exact ni (Q:=Q) (QQ:=EP X pins σ Q) S hc B I2 T t2 f2 hW λD C s' m _ hq hn=>⟨m,hn,λh' hs'=>let ⟨v,H',I',r,q⟩:=hq h' hs';⟨v,H',I',r,q.2⟩⟩
theorem yf {elt target iter:Expr} {ifs:List Expr} {pos spos py:Pos} {y:Str} {i:Nat} {wi:TI} {g:TG} {ts:TT} {te:TE} (S:CompScope X.env.scope scope X.N Nb cap nl) (hc:X.calm=true) (hi:PI X target iter wi) (B:uh X scope Nb target ifs elt g ts te)
  (hs:∀x,foldedSetIterable iter X.env x=pure x) (hsw:swapsWith (.ListComp elt [⟨target,iter,ifs,0⟩] scope pos) (some (.Name y py)) spos.line X.env=pure true)
  (hN:X.N.Nodup) (hiN:X.N[i]? = some y) (hy:X.env.scope.names.lookup y=some .local) :
  PS X (.Assign [.Name y py] (.ListComp elt [⟨target,iter,ifs,0⟩] scope pos) spos) (λE σ H=>Gm wi g ts te (gi cap nl) σ H (FQ λv H1=>E.nx (σ.set i (some v)) H1)):=by
 intro pins s σ H E I h
 rw[exec_Assign_Name_used _ _ _ _ hsw]
 have hcells:∀n,(n,NameKind.free)∈scope.names->∃c,X.env.cells.lookup n=some c:=λn hn=>by
  rcases S.free n hn with e | e
  ·exact I.ok.has n (.inl e)
  ·exact I.ok.has n (.inr e)
 refine AA (wpAny_standAt (AA ?_))
 show wpAny _ _ (comprehension _ scope X.env _ (newList []) false (eval iter X.env) (some (assign (.Name y py) X.env))>>=λ_=>pure ()) _ _ _
 refine AA (wpAny_comprehension_free (use:=some (assign (.Name y py) X.env)) rfl hs (nh hcells) S.kind (λz hz hl=>by rw[S.uniq z hz,hl]) ?_)
 refine thn (hi pins s σ H _ I h) λv s1 h1=>thn h1 λitv s2 ⟨it,fp,tn,J,H2,e,I2,T,t2,f2,hW⟩=>?_
 subst e
 refine ni (Q:=FQ λv H1=>E.nx (σ.set i (some v)) H1) S hc B I2 T t2 f2 hW λD C s' m hC hq hn=>?_
 obtain⟨v,H',I',r,hCn,q⟩:=hq s'.heap (.refl ..)
 have hep:∃H',Inv X pins σ H' s'/\H' C=none/\E.nx (σ.set i (some v)) H':=by
  rcases q with q | ⟨p,xs,rfl,e,q⟩
  ·exact⟨H',I',hCn,q⟩
  ·obtain⟨o,I''⟩:=L2.Inv.freeze I' e
   exact⟨_,I'',by rw[ai (λz=>by rw[z,e]at hCn;cases hCn)];exact hCn,q o⟩
 obtain⟨H',I',hCn,q⟩:=hep
 have hCL:C≠X.env.locals:=CH (AO I2.lt hC)
 show wpAny _ _ (assign (.Name y py) X.env (.ref D)) _ _ s'
 refine wpAny_assign_Name (qa I' hN hiN (.inl hy) r (λs'' I'' ⟨a,hsb,ha⟩=>?_) (.inr hy))
 have haC:C≠a:=by
  rcases ha with z | z
  ·rw[z];exact hCL
  ·obtain⟨w,hc⟩:=I2.cell y a z
   exact CH (AO hc.lt hC)
 refine⟨m,hn.sameBut hsb haC,λh' hs'=>?_⟩
 refine AC (AC ⟨_,H',?_,q⟩)
 refine I''.turned (t':=s''.toks) (it:=C) (λb o hb e=>hs'.extBut b o hb e) hCn hCL (.inr (BQ I2.sz hC)) (λx c e=>?_) (λp hp=>?_)
 ·obtain⟨w,hc⟩:=I2.cell x c e
  exact AR (AO hc.lt hC)
 ·exact AR (AO (AM (I2.pin p hp).1) hC)
end
noncomputable def tTs(K:PySem.W.Frag)(φ:Phi)(x:Exs):TT:=λσv H Q=>∃ι σ μ,Sim K ι H μ/\jy K ι H σ σv/\dj K RB ι H (yd φ x σ μ) Q
section
variable{X:Cx}{φ:Phi}{scope:Scope}{Nb:List Str}{cap:List Nat}{nl:Nat}
theorem PTs.imp{ifs:List Expr}{t t':TT}(h:PTs X ifs t)(i:∀σ H Q,t' σ H Q->t σ H Q):PTs X ifs t':=λpins s σ H Q I q=>h pins s σ H Q I (i σ H Q q)
theorem Kl:PTs X [] (tTs X.K φ .nil):=PTs.imp Gk λσv H Q ⟨ι,σ,μ,hS,hL,h⟩=>by
 simp![yd]at h
 exact h.ok hS rfl
theorem Gp{c:Expr}{r:List Expr}{xc:Ex}{xr:Exs}(h1:PT X c (tT X.K φ xc))(h2:PTs X r (tTs X.K φ xr)):PTs X (c::r) (tTs X.K φ (.cons xc xr)):=PTs.imp (Cy h1 h2) λσv H Q ⟨ι,σ,μ,hS,hL,h⟩=>by
 simp![yd]at h
 obtain⟨d,μ1,e1,h⟩:=h.bind
 refine⟨ι,σ,μ,hS,hL,?_⟩
 rw[e1]
 cases d with
 |bl k =>
  intro ι1 x H1 p1 x1 s1 d1
  cases d1
  cases k with
  |true=>exact⟨ι1,σ,μ1,s1,hL.mono p1 x1,(show dj _ _ _ _ (yd φ xr σ μ1) _ from h).mono p1 x1⟩
  |false=>exact h ι1 false H1 p1 x1 s1 rfl
 |_=>exact h.elim
theorem Cz{K:PySem.W.Frag}{ι:List Addr}{H:Hp}{σ:Sl}{σv:St}(hL:jy K ι H σ σv):jy K ι H (cap.map (λi=>(σ[i]?).getD none)++List.replicate nl none) (gi cap nl σv):=λj d e=>by
 by_cases hj:j<cap.length
 ·rw[AW (by simpa using hj),BL,AD hj]at e
  simp![HJ,CJ]at e
  have e4:σ[cap[j]]? = some (some d):=by
   cases e5:σ[cap[j]]? with
   |none=>rw[e5]at e;cases e
   |some w=>rw[e5]at e;simp at e;rw[e]
  obtain⟨v,q1,q2⟩:=hL _ _ e4
  refine⟨v,?_,q2⟩
  unfold gi
  rw[AW (by simpa using hj),BL,AD hj]
  simp[q1]
 ·rw[CI (by simpa using hj),CN]at e
  split at e<;>cases e
theorem C0{σv σv':St}{tg:Tg}(hs:∀j∈slots tg,cap.length<=j)(hl:σv'.length=(gi cap nl σv).length)(h:∀j,j∉slots tg->σv'[j]? = (gi cap nl σv)[j]?):Kept (gi cap nl σv) σv':=by
 refine⟨hl.symm,λi v e=>?_⟩
 have hi:i<cap.length:=by
  by_cases hi:i<cap.length
  ·exact hi
  ·unfold gi at e
   rw[CI (by simpa using hi),CN]at e
   split at e<;>cases e
 rw[h i λz=>absurd (hs i z) (by lia)]
 exact e
theorem qw{m:Mk}{tg:Tg}{it:It}{cs:Exs}{elt:Ex}{σv:St}{H:Hp}{Q:VK}(hs:∀j∈slots tg,cap.length<=j)(h:tE X.K φ (.comp m cap nl tg it cs elt) σv H Q) :
  Gm (tI X.K φ it) (tG X.K tg) (tTs X.K φ cs) (tE X.K φ elt) (gi cap nl) σv H (FQ Q):=by
 obtain⟨ι,σ,μ,hS,hL,h⟩:=h
 simp![evE]at h
 obtain⟨⟨ds,g⟩,μ1,e1,h⟩:=h.bind
 refine⟨ι,σ,μ,hS,hL,?_⟩
 rw[e1]
 intro ι1 H1 J p1 x1 s1 wk
 refine⟨λi k H' acc=>k=ds.length-i/\i<=ds.length/\acc.length<=i/\∃ι' μ' ys,ι1 <+: ι'/\Ext H1 H'/\Sim X.K ι' H' μ'/\ag X.K ι' H' ys acc /\
  dj X.K (RD X.K) ι' H' ((mapR g (λd μ=>ib (eu tg d (cap.map (λi=>(σ[i]?).getD none)++List.replicate nl none)) λσ' =>
    (yd φ cs σ' μ).bind λb μ=>if b=true then(evE φ elt σ' μ).bind λx μ=>.ok [x] μ else .ok [] μ) (ds.drop i) μ').bind λxs μ=>mkL m (ys++xs) μ) Q,
  ⟨ds.length,by simp,BW _,AH _,ι1,μ1,[],AE _,.refl _,s1,by simp[ag],?_⟩,?_⟩
 ·simpa using h.mono p1 x1
 ·rintro i k H' acc ⟨rfl,hi,hacc,ι',μ',ys,p',x',s',hys,h'⟩
  have wl:=wk.len
  by_cases hlt:i<ds.length
  ·obtain⟨d,ed⟩:∃d,ds[i]? = some d:=⟨ds[i],AD hlt⟩
   have edrop:ds.drop i=d::ds.drop (i+1):=by
    rw[GA hlt]
    rw[AD hlt]at ed
    cases ed;rfl
   rw[edrop]at h'
   simp![mapR]at h'
   split at h'
   ·rename_i hgd
    right
    refine⟨wk.go i ι' H' μ' p' x' s' hgd hlt,by lia,λv H2 hy=>?_⟩
    obtain⟨x2,s2,d',ed',hd'⟩:=wk.yld i ι' H' μ' v H2 p' x' s' hgd hlt hy
    rw[ed]at ed';cases ed'
    rw[Res.bind_assoc]at h'
    cases eb:eu tg d (cap.map (λi=>(σ[i]?).getD none)++List.replicate nl none)with
    |none=>rw[eb]at h';exact h'.elim
    |some σb =>
     rw[eb]at h'
     simp![ua]at h'
     have hLb:=Cz (cap:=cap) (nl:=nl) ((hL.mono (p1.trans p') (x1.trans x')).mono (AE _) x2)
     refine⟨ι',_,d,σb,hLb,?_,hd',eb,λσv2 l2 z2 z3 k2=>⟨C0 hs z3 k2,ι',σb,μ',s2,l2,?_⟩⟩
     ·simp[gi]
     ·rw[Res.bind_assoc]at h'
      obtain⟨b,μ2,e2,h2⟩:=h'.bind
      rw[e2]
      intro ι3 b' H3 p3 x3 s3 d3
      cases d3
      cases b with
      |false =>
       refine⟨ds.length-(i+1),by lia,rfl,hlt,by lia,ι3,μ2,ys,p'.trans p3,(x'.trans x2).trans x3,s3,ag.mono p3 (x2.trans x3) _ _ hys,?_⟩
       have h3:=h2.mono p3 (x2.trans x3)
       simpa[Res.bind_assoc]using h3
      |true =>
       simp![if_true]at h2 ⊢
       rw[Res.bind_assoc]at h2
       obtain⟨y,μ3,e3,h3⟩:=h2.bind
       refine⟨ι3,σb,μ2,s3,l2.mono p3 x3,?_⟩
       rw[e3]
       intro ι4 w H4 p4 x4 s4 d4
       refine⟨ds.length-(i+1),by lia,rfl,hlt,by simp;lia,ι4,μ3,ys++[y],(p'.trans p3).trans p4,((x'.trans x2).trans x3).trans x4,s4,(ag.mono (p3.trans p4) ((x2.trans x3).trans x4) _ _ hys).append (.one d4),?_⟩
       have h4:=h3.mono (p3.trans p4) ((x2.trans x3).trans x4)
       simpa[Res.bind_assoc]using h4
   ·exact h'.elim
  ·have ei:i=ds.length:=by lia
   subst ei
   simp![List.drop_length,mapR]at h'
   split at h'
   ·rename_i hgd
    refine .inl ⟨wk.stop ι' H' μ' p' x' s' hgd,by lia,λp hp=>j5 s' hys (by simpa using h') hp⟩
   ·exact h'.elim
theorem Km {e target iter:Expr} {ifs:List Expr} {pos:Pos} {m:Mk} {tg:Tg} {it:It} {cs:Exs} {elt:Ex} (S:CompScope X.env.scope scope X.N Nb cap nl) (hc:X.calm=true) (hi:PI X target iter (tI X.K φ it))
  (B:uh X scope Nb target ifs e (tG X.K tg) (tTs X.K φ cs) (tE X.K φ elt)) (hf:∀x,foldedSetIterable iter X.env x=pure x) (hs:∀j∈slots tg,cap.length<=j) :
  PE X (.ListComp e [⟨target,iter,ifs,0⟩] scope pos) (tE X.K φ (.comp m cap nl tg it cs elt)) :=
 PE.imp (PE.fq (Gn S hc hi B hf)) λσv H Q h=>qw hs h
theorem Af {e target iter:Expr} {ifs:List Expr} {pos spos py:Pos} {y:Str} {i:Nat} {m:Mk} {tg:Tg} {it:It} {cs:Exs} {elt:Ex} (S:CompScope X.env.scope scope X.N Nb cap nl) (hc:X.calm=true) (hi:PI X target iter (tI X.K φ it))
  (B:uh X scope Nb target ifs e (tG X.K tg) (tTs X.K φ cs) (tE X.K φ elt)) (hf:∀x,foldedSetIterable iter X.env x=pure x) (hs:∀j∈slots tg,cap.length<=j)
  (hsw:swapsWith (.ListComp e [⟨target,iter,ifs,0⟩] scope pos) (some (.Name y py)) spos.line X.env=pure true) (hN:X.N.Nodup) (hiN:X.N[i]? = some y) (hy:X.env.scope.names.lookup y=some .local) :
  PS X (.Assign [.Name y py] (.ListComp e [⟨target,iter,ifs,0⟩] scope pos) spos) (tS X.K φ (.set i (.comp m cap nl tg it cs elt))) :=
 PS.imp (yf S hc hi B hf hsw hN hiN hy) λE σv H ⟨ι,σ,μ,hS,hL,hl,h⟩=>by
  refine qw (m:=m) (Q:=λv H1=>E.nx (σv.set i (some v)) H1) hs ?_
  simp![evS]at h
  obtain⟨d,μ1,e1,h⟩:=h.bind
  refine⟨ι,σ,μ,hS,hL,?_⟩
  rw[e1]
  exact λι1 v H1 p1 x1 s1 d1=>h ι1 _ H1 p1 x1 s1 ((hL.mono p1 x1).set hl d1) (by simp[hl])
end
theorem Gq(i:Int)(h:0<=i):Builtin.bitXor i 1=if i % 2=0 then i+1 else i-1:=by
 rw[PyProof.Rows.bitXor_and,PyProof.Rows.bitAnd_m1]
 split<;>lia
section
variable{X:Cx}{φ:Phi}
theorem dq{K:PySem.W.Frag}{ι:List Addr}{H:Hp}{ds:List D}{v:V}(h:IsD K ι H (.tup ds) v):∃a xs,v=.ref a/\SqT K H a xs/\ag K ι H ds xs:=by
 simpa[IsD]using h
theorem tup_is{K:PySem.W.Frag}{ι:List Addr}{H:Hp}{ds:List D}{a:Addr}{xs:List V}(h:SqT K H a xs)(h2:ag K ι H ds xs):IsD K ι H (.tup ds) (.ref a):=by
 simp![IsD]
 exact⟨a,xs,rfl,h,h2⟩
theorem ck{K:PySem.W.Frag}{ι:List Addr}{H:Hp}{i:Int}{v:V}(h:IsD K ι H (.int i) v):v=.int i:=by simpa[IsD]using h
theorem qy{K:PySem.W.Frag}{ι:List Addr}{H:Hp}{i:Bool}{v:V}(h:IsD K ι H (.bl i) v):v=.bl i:=by simpa[IsD]using h
theorem oi{K:PySem.W.Frag}{ι:List Addr}{H:Hp}{μ:Sto}{ds:List D}{xs:List V}{Q:VK}{p:Addr}(hS:Sim K ι H μ)(hd:ag K ι H ds xs)(h:dj K (RD K) ι H (.ok (.tup ds) μ) Q)(hp:H p=none):Q (.ref p) (upd H p (.tup xs)) :=
 h ι (.ref p) _ (AE _) (.new hp) (hS.new hp) (tup_is (.of ak) (ag.mono (AE _) (.new hp) ds xs hd))
theorem Ag {pins:List (Addr×Obj)} {s:Shared} {σ:St} {H:Hp} {l b:Addr} {xs zs:List V} {Q:VK} (I:Inv X pins σ H s) (hl:LsL X.K H l xs) (hb:LsL X.K H b zs) (hz:xs.length+zs.length<=sizeLine)
  (q:∀p,H p=none->Q (.ref p) (upd H p (.lst (xs++zs)))):wpAny (model X.prog X.w) X.A (binaryOp .Add (.ref l) (.ref b)) (EP X pins σ Q) X.xe s:=by
 obtain⟨z,its,n,r,hl,e⟩:=I.ls hl
 obtain⟨z2,its2,n2,r2,hl2,e2⟩:=I.ls hb
 refine PySem.P.add_list e e2 ?_ (by rw[AG,AG];lia)
 have ea:its.toArray++its2.toArray=(its++its2).toArray:=by simp
 rw[ea]
 exact⟨.ref _,_,I.lnew (t':=s.toks) (r.append r2) (by rw[AX];lia),rfl,q _ I.fresh⟩
theorem C1 {pins:List (Addr×Obj)} {s:Shared} {σ:St} {H:Hp} {l:Addr} {k:Int} {t:Tok} {xs:List V} {Q:VK} (I:Inv X pins σ H s) (hH:LsL X.K H l xs) (h1:-(2 ^ 63)<=k) (h2:k<2 ^ 63) (hz:xs.length*k.toNat<=sizeLine)
  (q:∀p,H p=none->Q (.ref p) (upd H p (.lst (List.replicate k.toNat xs).flatten))):wpAny (model X.prog X.w) X.A (binaryOp .Mult (.ref l) (.int k t)) (EP X pins σ Q) X.xe s:=by
 obtain⟨z,its,n,r,hl,e⟩:=I.ls hH
 have hlen:its.toArray.size*k.toNat<=sizeLine:=by rw[AG,<-hl];exact hz
 have hcap:¬its.toArray.size*k.toNat > (2 ^ 63-1) / 8:=by
  have:(sizeLine:Nat)<=(2 ^ 63-1) / 8:=by decide
  lia
 have hfit:¬(!Builtin.List.listFitsIndex k)=true:=by
  rw[fitsIndex_both h1 h2]
  exact AV
 have hlong:¬Builtin.List.listTooLong (its.toArray.size*k.toNat)=true:=by
  rw[vi hlen]
  exact AV
 have hnew:List.foldl (λx1 x2=>x1++x2) #[] (List.replicate (if its.toArray.isEmpty=true then 0 else k.toNat) its.toArray)=(List.replicate k.toNat its).flatten.toArray:=by
  have f0:∀m:Nat,List.foldl (λx1 x2=>x1++x2) #[] (List.replicate m its.toArray)=(List.replicate m its).flatten.toArray:=λm=>by
   have:=foldl_rep its m []
   rw[List.nil_append]at this
   exact this
  rw[f0]
  cases its with
  |nil=>simp
  |cons a r'=>rw[if_neg (by simp)]
 refine wpAny_binaryOp_repeat_ref (T:="list") (U:="int") (by decide) ⟨_,e,rfl⟩ (λs'=>typeIs_int s' k t) noFill_list_mul F.fills_int_mul F.slot_int_rmul repeat_list F.slot_int_index.lookup
  (GZ F.slot_int_rmul (typeIs_int s k t) F.entry_int_rmul (F.args_int_rmul_2 _ _) (int___rmul___int_list k t l its.toArray n)
   ⟨e,rfl,⟨_,e,rfl⟩,GZ F.slot_list_mul ⟨_,e,rfl⟩ F.entry_list_mul (F.args_list_mul_2 _ _) (AutoListH.list___mul___list_int_3 l its.toArray n k t hfit hcap hlong) ⟨e,?_⟩⟩)
 rw[hnew]
 exact⟨.ref _,_,I.lnew (t':=s.toks) (r.rep k.toNat) (by rw[len_rep,Nat.mul_comm];exact hz),rfl,q _ I.fresh⟩
theorem Gr{pins:List (Addr×Obj)}{s:Shared}{σ:St}{H:Hp}{a b:Addr}{ys:List V}{Q:VK}(I:Inv X pins σ H s)(ha:SqT X.K H a [])(hb:SqT X.K H b ys)(q:Q (.ref b) H) :
  wpAny (model X.prog X.w) X.A (binaryOp .Add (.ref a) (.ref b)) (EP X pins σ Q) X.xe s:=by
 obtain⟨its,r1,p1,_⟩:=I.tuple ha
 obtain⟨its2,r2,p2,_⟩:=I.tuple hb
 have e1:its=[]:=by cases r1;rfl
 subst e1
 obtain⟨⟨cls,dd,data,sl⟩,ho,hc,n,hd⟩:=id p1
 obtain⟨⟨cls2,dd2,data2,sl2⟩,ho2,hc2,n2,hd2⟩:=id p2
 simp only at hc hd hc2 hd2
 subst hc hd hc2 hd2
 exact concat_meets ⟨_,ho,rfl⟩ ⟨_,ho2,rfl⟩ GQ seq_tuple_add EX ER (EI _ _)
   (tuple_addW0 a b ([]:List Value).toArray its2.toArray n n2 dd dd2 sl sl2 (by simp)) ⟨ho,ho2,⟨.ref b,H,I,rfl,q⟩⟩
theorem Kn{op:Operator}{m:Mk}:OpR X (binaryOp op) (rOp X.K (opD op m)):=by
 intro pins s σ H x y v u Q I rx ry ⟨ι,d,e,μ,hS,hd,he,h⟩
 unfold opD at h
 split at h
 ·rename_i i j
  cases ck hd
  cases ck he
  unfold opI at h
  split at h
  ·exact op_add pins s σ H _ _ v u Q I rx ry ⟨i,j,rfl,rfl,h.ok hS (by simp[IsD])⟩
  ·exact op_sub pins s σ H _ _ v u Q I rx ry ⟨i,j,rfl,rfl,h.ok hS (by simp[IsD])⟩
  ·split at h
   ·rename_i hc
    exact op_mul pins s σ H _ _ v u Q I rx ry ⟨i,j,rfl,rfl,hc,h.ok hS (by simp[IsD])⟩
   ·exact h.elim
  ·split at h
   ·rename_i hc
    exact Fu pins s σ H _ _ v u Q I rx ry ⟨i,j,rfl,rfl,hc,h.ok hS (by simp[IsD])⟩
   ·exact h.elim
  ·split at h
   ·rename_i hc
    exact op_mod pins s σ H _ _ v u Q I rx ry ⟨i,j,rfl,rfl,hc,h.ok hS (by simp[IsD])⟩
   ·exact h.elim
  ·split at h
   ·rename_i hc
    exact op_pow pins s σ H _ _ v u Q I rx ry ⟨i,j,rfl,rfl,hc,h.ok hS (by simp[IsD])⟩
   ·exact h.elim
  ·split at h
   ·rename_i hc
    exact op_shr pins s σ H _ _ v u Q I rx ry ⟨i,j,rfl,rfl,hc,h.ok hS (by simp[IsD])⟩
   ·exact h.elim
  ·split at h
   ·rename_i hc
    exact Ja pins s σ H _ _ v u Q I rx ry ⟨i,j,rfl,rfl,hc,h.ok hS (by simp[IsD])⟩
   ·exact h.elim
  ·split at h
   ·rename_i hc
    obtain⟨h0,rfl⟩:=hc
    refine Jb pins s σ H _ _ v u Q I rx ry ⟨i,1,rfl,rfl,?_⟩
    show Q (.int (Builtin.bitXor i 1)) H
    rw[Gq i h0]
    exact h.ok hS (by simp[IsD])
   ·exact h.elim
  ·exact h.elim
 ·rename_i xs ys
  split at h
  ·split at h
   ·rename_i hz
    obtain⟨a,vs,rfl,ha,hvs⟩:=dq hd
    obtain⟨b,ws,rfl,hb,hws⟩:=dq he
    cases rx
    cases ry
    rw[du]at hz
    by_cases hx:vs=[]
    ·subst hx
     have e1:xs=[]:=by have:=hvs.length;simpa using this.symm
     subst e1
     exact Gr I ha hb (h.ok hS he)
    ·refine Fz pins s σ H (.ref a) (.ref b) _ _ Q I rfl rfl ⟨a,b,vs,ws,rfl,rfl,ha,hb,hx,by rw[hvs.length,hws.length];exact hz,λz=>?_,λz p hp=>oi hS (hvs.append hws) h hp⟩
     subst z
     have e1:ys=[]:=by have:=hws.length;simpa using this.symm
     subst e1
     exact h.ok hS (by simpa using hd)
   ·exact h.elim
  ·exact h.elim
 ·rename_i j _
  cases ck he
  split at h
  ·rename_i es
   split at h
   ·rename_i hz
    obtain⟨a,xs,rfl,ha,hxs⟩:=gc hS hd es
    cases rx
    obtain⟨t,rfl⟩:=ry
    rw[du]at hz
    exact Aa (C1 I ha hz.2.1 hz.2.2 (by rw[hxs.length];exact hz.1) λp hp=>j5 hS (hxs.rep _) h hp)
   ·exact h.elim
  ·exact h.elim
 ·split at h
  ·rename_i es1 es2
   split at h
   ·rename_i hz
    obtain⟨a,xs,rfl,ha,hxs⟩:=gc hS hd es1
    obtain⟨b,ys,rfl,hb,hys⟩:=gc hS he es2
    cases rx
    cases ry
    rw[du]at hz
    exact Aa (Ag I ha hb (by rw[hxs.length,hys.length];exact hz) λp hp=>j5 hS (hxs.append hys) h hp)
   ·exact h.elim
  ·exact h.elim
end
section
variable(K:PySem.W.Frag)(H:Hp)
mutual
noncomputable def IsW:D->V->Prop
 |.non,v=>v=.non
 |.bl b,v=>v=.bl b
 |.int i,v=>v=.int i
 |.str x,v=>v=.str x
 |.tup ds,v=>∃a xs,v=.ref a/\SqT K H a xs/\ia ds xs
 |.lst ds,v=>∃a xs,v=.ref a/\LsL K H a xs/\ia ds xs
 |.loc _,_=>False
noncomputable def ia:List D->List V->Prop
 | [],xs=>xs=[]
 |d::ds,xs=>∃v r,xs=v::r/\IsW d v/\ia ds r
end
end
section
variable{K:PySem.W.Frag}{H:Hp}
theorem ia.length:∀{ds:List D} {xs:List V},ia K H ds xs->xs.length=ds.length
 | [],xs,h=>by simp![ia]at h;subst h;rfl
 |d::ds,xs,h=>by
  simp![ia]at h
  obtain⟨v,r,rfl,_,t⟩:=h
  simp[ia.length t]
theorem ia.get:∀{ds:List D} {xs:List V} {i:Nat} {d:D},ia K H ds xs->ds[i]? = some d->∃v,xs[i]? = some v/\IsW K H d v
 | [],_,_,_,_,e=>by simp at e
 |d::ds,xs,0,_,h,e=>by
  simp![ia]at h
  obtain⟨v,r,rfl,q,_⟩:=h
  simp at e;subst e
  exact⟨v,rfl,q⟩
 |d::ds,xs,i+1,x,h,e=>by
  simp![ia]at h
  obtain⟨v,r,rfl,_,t⟩:=h
  obtain⟨w,h1,h2⟩:=ia.get (i:=i) (d:=x) t (by simpa using e)
  exact⟨w,by simpa using h1,h2⟩
theorem lr{ds:List D}{v:V}(h:IsW K H (.tup ds) v):∃a xs,v=.ref a/\SqT K H a xs/\ia K H ds xs:=by simpa[IsW]using h
theorem Ah{ι:List Addr}{μ:Sto}(S:Sim K ι H μ)(f:D->Option D)(hf:∀d e v,f d=some e->IsD K ι H d v->IsW K H e v):∀{ds es:List D} {xs:List V},bp (ds.map f)=some es->ag K ι H ds xs->ia K H es xs
 | [],es,xs,h,hd=>by
  simp![CL,bp,CJ]at h
  subst h
  simpa[ag,ia]using hd
 |d::ds,es,xs,h,hd=>by
  simp![AL]at h
  cases e1:f d with
  |none=>rw[e1]at h;simp[bp]at h
  |some e =>
   rw[e1]at h
   simp![bp]at h
   cases e2:bp (ds.map f)with
   |none=>rw[e2]at h;cases h
   |some r =>
    rw[e2]at h
    cases h
    simp![ag]at hd
    obtain⟨v,t,rfl,q,hd⟩:=hd
    simp![ia]
    exact⟨v,t,rfl,hf d e v e1 q,Ah S f hf e2 hd⟩
theorem qz{ι:List Addr}{μ:Sto}(S:Sim K ι H μ):∀(k:Nat) (d e:D) (v:V),aq μ k d=some e->IsD K ι H d v->IsW K H e v
 |0,d,e,v,h,hd=>by
  cases d<;>simp_all[aq,flat,IsD,IsW]<;>(subst h;simp[IsW])
 |k+1,d,e,v,h,hd=>by
  have ih:=qz S k
  have sub:∀{ι':List Addr} {ds es:List D} {xs:List V},ι' <+: ι->bp (ds.map (aq μ k))=some es->ag K ι' H ds xs->ia K H es xs:=λp h hd=>Ah S _ ih h (ag.mono p (.refl _) _ _ hd)
  cases d with
  |tup ds =>
   simp![aq]at h
   cases e1:bp (ds.map (aq μ k))with
   |none=>rw[e1]at h;cases h
   |some es =>
    rw[e1]at h;cases h
    obtain⟨a,xs,rfl,hq,hds⟩:=dq hd
    simp![IsW]
    exact⟨a,xs,rfl,hq,sub (AE _) e1 hds⟩
  |lst ds =>
   simp![aq]at h
   cases e1:bp (ds.map (aq μ k))with
   |none=>rw[e1]at h;cases h
   |some es =>
    rw[e1]at h;cases h
    obtain⟨a,xs,rfl,hq,hds⟩:∃a xs,v=.ref a/\FzL K H a xs/\ag K ι H ds xs:=by simpa[IsD]using hd
    simp![IsW]
    exact⟨a,xs,rfl,.inr hq,sub (AE _) e1 hds⟩
  |loc n =>
   obtain⟨a,rfl,hn⟩:∃a,v=.ref a/\ι[n]? = some a:=by simpa[IsD]using hd
   simp![aq]at h
   cases em:μ[n]? with
   |none=>rw[em]at h;cases h
   |some o =>
    obtain⟨a',q',ho⟩:=S.at em
    rw[hn]at q';cases q'
    rw[em]at h
    cases o with
    |l ds =>
     simp only at h
     obtain⟨xs,f1,f2⟩:=ho
     cases e1:bp (ds.map (aq μ k))with
     |none=>rw[e1]at h;cases h
     |some es =>
      rw[e1]at h;cases h
      simp![IsW]
      exact⟨a,xs,rfl,(.inl f1),sub CO e1 f2⟩
    |r ds =>
     simp only at h
     obtain⟨xs,f1,f2⟩:=ho
     cases e1:bp (ds.map (aq μ k))with
     |none=>rw[e1]at h;cases h
     |some es =>
      rw[e1]at h;cases h
      simp![IsW]
      exact⟨a,xs,rfl,(.inl f1),sub (AE _) e1 f2⟩
    |_=>cases h
  |_=>simp![aq]at h;cases h;simpa[IsD,IsW]using hd
mutual
theorem IsW.ofD:∀{d:D} {v:V},IsD K [] H d v->IsW K H d v
 |.non,v,h=>by simpa[IsD,IsW]using h
 |.bl _,v,h=>by simpa[IsD,IsW]using h
 |.int _,v,h=>by simpa[IsD,IsW]using h
 |.str _,v,h=>by simpa[IsD,IsW]using h
 |.tup ds,v,h=>by
  obtain⟨a,xs,rfl,hq,hds⟩:=dq h
  simp![IsW]
  exact⟨a,xs,rfl,hq,ia.ofD hds⟩
 |.lst ds,v,h=>by
  obtain⟨a,xs,rfl,hq,hds⟩:∃a xs,v=.ref a/\FzL K H a xs/\ag K [] H ds xs:=by simpa[IsD]using h
  simp![IsW]
  exact⟨a,xs,rfl,.inr hq,ia.ofD hds⟩
 |.loc n,v,h=>by simp[IsD]at h
theorem ia.ofD:∀{ds:List D} {xs:List V},ag K [] H ds xs->ia K H ds xs
 | [],xs,h=>by simpa[ag,ia]using h
 |d::ds,xs,h=>by
  simp![ag]at h
  obtain⟨v,r,rfl,q,t⟩:=h
  simp![ia]
  exact⟨v,r,rfl,IsW.ofD q,ia.ofD t⟩
end
theorem lu{μ:Sto}{k:Nat}(ih:∀d e,aq μ k d=some e->D.pureN k e=true):∀{ds es:List D},bp (ds.map (aq μ k))=some es->es.all (D.pureN k)=true
 | [],es,h=>by simp![CL,bp,CJ]at h;subst h;rfl
 |d::ds,es,h=>by
  simp![AL]at h
  cases e1:aq μ k d with
  |none=>rw[e1]at h;simp[bp]at h
  |some e =>
   rw[e1]at h
   simp![bp]at h
   cases e2:bp (ds.map (aq μ k))with
   |none=>rw[e2]at h;cases h
   |some r =>
    rw[e2]at h;cases h
    simp![BI,ih d e e1,lu ih e2,Bool.and_self]
theorem gj{μ:Sto}:∀(k:Nat) (d e:D),aq μ k d=some e->D.pureN k e=true
 |0,d,e,h=>by
  cases d<;>simp_all[aq,flat]<;>(subst h;rfl)
 |k+1,d,e,h=>by
  have ih:=gj (μ:=μ) k
  have mp:∀{ds:List D} {c:List D->D},(∀es,es.all (D.pureN k)=true->D.pureN (k+1) (c es)=true)->(bp (ds.map (aq μ k))).map c=some e->D.pureN (k+1) e=true:=λ{ds c} hc h=>by
   cases e1:bp (ds.map (aq μ k))with
   |none=>rw[e1]at h;cases h
   |some es=>rw[e1]at h;cases h;exact hc es (lu ih e1)
  cases d with
  |tup ds=>simp![aq]at h;exact mp (c:=.tup) (λes h=>h) h
  |lst ds=>simp![aq]at h;exact mp (c:=.lst) (λes h=>h) h
  |loc n =>
   simp![aq]at h
   cases em:μ[n]? with
   |none=>rw[em]at h;cases h
   |some o =>
    rw[em]at h
    cases o with
    |l ds=>exact mp (c:=.lst) (λes h=>h) h
    |r ds=>exact mp (c:=.lst) (λes h=>h) h
    |_=>cases h
  |_=>simp![aq]at h;cases h;rfl
end
open PySem.SeqAt (EqAt RcAt RcNeAt)
section
variable{X:Cx}{φ:Phi}{pins:List (Addr × Obj)}{σ:St}{H:Hp}{s:Shared}
theorem in1_units(A:Around):A.in1.units=A.units+1:=by
 first | rfl | simp[Around.in1]
theorem j7:∀(as bs:List D),as.length=bs.length->ub as bs=(List.range as.length).all λj=>deq (as.getD j .non) (bs.getD j .non)
 | [],[],_=>rfl
 |a::as,b::bs,h=>by
  rw[ub,j7 as bs (by simpa using h),AU,List.range_succ_eq_map,BI,EZ]
  rfl
 | [],_::_,h=>by simp at h
 |_::_,[],h=>by simp at h
theorem oj:∀(as bs:List D),as.length≠bs.length->ub as bs=false
 | [],[],h=>absurd rfl h
 |a::as,b::bs,h=>by rw[ub,oj as bs (by simpa using h),HW]
 | [],_::_,_=>rfl
 |_::_,[],_=>rfl
theorem ui:∀(k:Nat) (a b:D) (v:V),D.pureN k a=true->D.pureN k b=true->IsW X.K H a v->IsW X.K H b v->Inv X pins σ H s->deq a b=true:=by
 intro k
 have list:∀k,(∀(a b:D) (v:V),D.pureN k a=true->D.pureN k b=true->IsW X.K H a v->IsW X.K H b v->Inv X pins σ H s->deq a b=true) ->
   ∀(as bs:List D) (xs:List V),as.all (D.pureN k)=true->bs.all (D.pureN k)=true->ia X.K H as xs->ia X.K H bs xs->Inv X pins σ H s->ub as bs=true:=by
  intro k ih as
  induction as with
  |nil =>
   intro bs xs _ _ ha hb _
   have e:xs=[]:=by simpa[ia]using ha
   subst e
   have:=hb.length
   have e2:bs=[]:=by simpa using this.symm
   subst e2
   rfl
  |cons a as iha =>
   intro bs xs pa pb ha hb I
   cases bs with
   |nil =>
    have e:xs=[]:=by simpa[ia]using hb
    subst e
    have:=ha.length
    simp at this
   |cons b bs =>
    simp![ia]at ha hb
    obtain⟨v,r,e,q,t⟩:=ha
    obtain⟨v',r',e',q',t'⟩:=hb
    rw[e]at e'
    cases e'
    simp![BI,AT]at pa pb
    rw[ub,ih a b v pa.1 pb.1 q q' I,iha bs r pa.2 pb.2 t t' I]
    rfl
 have flat:∀(a b:D) (v:V),(∀ds,a≠.tup ds)->(∀ds,a≠.lst ds)->(∀n,a≠.loc n)->(∀n,b≠.loc n)->IsW X.K H a v->IsW X.K H b v->deq a b=true:=by
  intro a b v h1 h2 h3 h4 ha hb
  cases a with
  |tup ds=>exact absurd rfl (h1 ds)
  |lst ds=>exact absurd rfl (h2 ds)
  |loc n=>exact absurd rfl (h3 n)
  |_=>cases b<;>simp_all[IsW,deq]
 induction k with
 |zero =>
  intro a b v pa pb ha hb I
  refine flat a b v ?_ ?_ ?_ ?_ ha hb
  ·intro z e;subst e;simp[D.pureN]at pa
  ·intro z e;subst e;simp[D.pureN]at pa
  ·intro z e;subst e;simp[D.pureN]at pa
  ·intro z e;subst e;simp[D.pureN]at pb
 |succ k ih =>
  intro a b v pa pb ha hb I
  cases a with
  |loc n=>simp[D.pureN]at pa
  |tup as =>
   simp![IsW]at ha
   obtain⟨p,xs,rfl,hq,hds⟩:=ha
   cases b with
   |tup bs =>
    simp![IsW]at hb
    obtain⟨p',xs',e,hq',hds'⟩:=hb
    cases e
    have:=I.tuple_inj hq hq'
    subst this
    rw[deq]
    exact list k ih as bs xs (by simpa[D.pureN]using pa) (by simpa[D.pureN]using pb) hds hds' I
   |lst bs =>
    simp![IsW]at hb
    obtain⟨p',xs',e,hq',hds'⟩:=hb
    cases e
    exfalso
    obtain⟨its,_,⟨o,e1,c1,_⟩,_⟩:=I.tuple hq
    obtain⟨its',_,⟨o',n',e2,c2,_⟩,_⟩:=I.list hq'.sq
    rw[e1]at e2;cases e2
    rw[c1]at c2
    injection c2 with c3
    exact absurd c3 (by decide)
   |loc n=>simp[D.pureN]at pb
   |_=>simp[IsW]at hb
  |lst as =>
   simp![IsW]at ha
   obtain⟨p,xs,rfl,hq,hds⟩:=ha
   cases b with
   |lst bs =>
    simp![IsW]at hb
    obtain⟨p',xs',e,hq',hds'⟩:=hb
    cases e
    have:=I.list_inj hq.sq hq'.sq
    subst this
    rw[deq]
    exact list k ih as bs xs (by simpa[D.pureN]using pa) (by simpa[D.pureN]using pb) hds hds' I
   |tup bs =>
    simp![IsW]at hb
    obtain⟨p',xs',e,hq',hds'⟩:=hb
    cases e
    exfalso
    obtain⟨its,_,⟨o,e1,c1,_⟩,_⟩:=I.tuple hq'
    obtain⟨its',_,⟨o',n',e2,c2,_⟩,_⟩:=I.list hq.sq
    rw[e1]at e2;cases e2
    rw[c1]at c2
    injection c2 with c3
    exact absurd c3 (by decide)
   |loc n=>simp[D.pureN]at pb
   |_=>simp[IsW]at hb
  |_ =>
   refine flat _ b v (by intro _ z;cases z) (by intro _ z;cases z) (by intro _ z;cases z) ?_ ha hb
   intro z e;subst e;simp[D.pureN]at pb
theorem C2(I:Inv X pins σ H s){k:Nat}{A:Around}{a b:D}{x y:V}{u v:Value}(pa:D.pureN k a=true)(pb:D.pureN k b=true)(ha:IsW X.K H a x)(hb:IsW X.K H b y)(ru:RelV x u)(rv:RelV y v)(h:RcAt A s u v (deq a b)):EqAt A s u v (deq a b):=by
 intro prog w E Q q
 have fl:∀b t,u≠.float b t:=λb t z=>by
  subst z
  cases a with
  |non=>cases(show x=.non by simpa[IsW]using ha);exact nomatch (show Value.float b t=.none from ru)
  |bl c=>cases(show x=.bl c by simpa[IsW]using ha);exact nomatch (show Value.float b t=.bool c from ru)
  |int c=>cases(show x=.int c by simpa[IsW]using ha);obtain⟨_,z⟩:=ru;cases z
  |str c=>cases(show x=.str c by simpa[IsW]using ha);obtain⟨_,z⟩:=ru;cases z
  |loc n=>simp[IsW]at ha
  |tup _=>obtain⟨c,_,rfl,_⟩:=lr ha;exact nomatch (show Value.float b t=.ref c from ru)
  |lst ds =>
        obtain⟨c,_,rfl,_⟩:∃a xs,x=.ref a/\LsL X.K H a xs/\ia X.K H ds xs:=by simpa[IsW]using ha
        exact nomatch (show Value.float b t=.ref c from ru)
 unfold eqBool
 refine BS ?_
 by_cases e:(u==v)=true
 ·rw[if_pos e]
  have e':u=v:=by simpa using e
  subst e'
  cases ru.inj rv
  rw[ui k _ _ _ pa pb ha hb I]at q
  exact AA (wpAny_rule (AC q))
 ·rw[if_neg e]
  have go:wpAny (model prog w) A (do
    let r <-richCompare .Eq u v
    truthOfDropped r) Q E s:=AA (h prog w _ _ (by exact CM q))
  cases u with
  |float b t=>exact absurd rfl (fl b t)
  |_=>exact go
theorem Ai(A:Around)(a b:D)(x y:V)(u v:Value)(pa:D.pureN 0 a=true)(pb:D.pureN 0 b=true)(ha:IsW X.K H a x)(hb:IsW X.K H b y)(ru:RelV x u)(rv:RelV y v):RcAt A s u v (deq a b)/\RcNeAt A s u v (!deq a b):=by
 have b2:∀(a b:Int),decide (a=b)=(a==b):=λa b=>(DY a b).symm
 cases a with
 |tup _=>simp[D.pureN]at pa
 |lst _=>simp[D.pureN]at pa
 |loc _=>simp[D.pureN]at pa
 |non =>
  have ex:x=.non:=by simpa[IsW]using ha
  subst ex
  cases(show u=Value.none from ru)
  cases b with
  |tup _=>simp[D.pureN]at pb
  |lst _=>simp[D.pureN]at pb
  |loc _=>simp[D.pureN]at pb
  |non=>cases(show y=.non by simpa[IsW]using hb);cases(show v=Value.none from rv);exact⟨RcAt.none_none,RcNeAt.none_none⟩
  |bl c=>cases(show y=.bl c by simpa[IsW]using hb);cases(show v=Value.bool c from rv);exact⟨RcAt.none_bool _,RcNeAt.none_bool _⟩
  |int c=>cases(show y=.int c by simpa[IsW]using hb);obtain⟨t,rfl⟩:=rv;exact⟨RcAt.none_int _ _,RcNeAt.none_int _ _⟩
  |str c=>cases(show y=.str c by simpa[IsW]using hb);obtain⟨t,rfl⟩:=rv;exact⟨RcAt.none_str _ _,RcNeAt.none_str _ _⟩
 |bl d =>
  have ex:x=.bl d:=by simpa[IsW]using ha
  subst ex
  cases(show u=Value.bool d from ru)
  cases b with
  |tup _=>simp[D.pureN]at pb
  |lst _=>simp[D.pureN]at pb
  |loc _=>simp[D.pureN]at pb
  |non=>cases(show y=.non by simpa[IsW]using hb);cases(show v=Value.none from rv);exact⟨RcAt.bool_none _,RcNeAt.bool_none _⟩
  |bl c=>cases(show y=.bl c by simpa[IsW]using hb);cases(show v=Value.bool c from rv);exact⟨RcAt.bool_bool _ _,RcNeAt.bool_bool _ _⟩
  |int c=>cases(show y=.int c by simpa[IsW]using hb);obtain⟨t,rfl⟩:=rv;rw[deq,b2];exact⟨RcAt.bool_int _ _ _,RcNeAt.bool_int _ _ _⟩
  |str c=>cases(show y=.str c by simpa[IsW]using hb);obtain⟨t,rfl⟩:=rv;exact⟨RcAt.bool_str _ _ _,RcNeAt.bool_str _ _ _⟩
 |int d =>
  have ex:x=.int d:=by simpa[IsW]using ha
  subst ex
  obtain⟨t',rfl⟩:=ru
  cases b with
  |tup _=>simp[D.pureN]at pb
  |lst _=>simp[D.pureN]at pb
  |loc _=>simp[D.pureN]at pb
  |non=>cases(show y=.non by simpa[IsW]using hb);cases(show v=Value.none from rv);exact⟨RcAt.int_none _ _,RcNeAt.int_none _ _⟩
  |bl c=>cases(show y=.bl c by simpa[IsW]using hb);cases(show v=Value.bool c from rv);rw[deq,b2];exact⟨RcAt.int_bool _ _ _,RcNeAt.int_bool _ _ _⟩
  |int c=>cases(show y=.int c by simpa[IsW]using hb);obtain⟨t,rfl⟩:=rv;rw[deq,b2];exact⟨RcAt.int_int _ _ _ _,RcNeAt.int_int _ _ _ _⟩
  |str c=>cases(show y=.str c by simpa[IsW]using hb);obtain⟨t,rfl⟩:=rv;exact⟨RcAt.int_str _ _ _ _,RcNeAt.int_str _ _ _ _⟩
 |str d =>
  have ex:x=.str d:=by simpa[IsW]using ha
  subst ex
  obtain⟨t',rfl⟩:=ru
  cases b with
  |tup _=>simp[D.pureN]at pb
  |lst _=>simp[D.pureN]at pb
  |loc _=>simp[D.pureN]at pb
  |non=>cases(show y=.non by simpa[IsW]using hb);cases(show v=Value.none from rv);exact⟨RcAt.str_none _ _,RcNeAt.str_none _ _⟩
  |bl c=>cases(show y=.bl c by simpa[IsW]using hb);cases(show v=Value.bool c from rv);exact⟨RcAt.str_bool _ _ _,RcNeAt.str_bool _ _ _⟩
  |int c=>cases(show y=.int c by simpa[IsW]using hb);obtain⟨t,rfl⟩:=rv;exact⟨RcAt.str_int _ _ _ _,RcNeAt.str_int _ _ _ _⟩
  |str c =>
   cases(show y=.str c by simpa[IsW]using hb);obtain⟨t,rfl⟩:=rv
   have e:deq (.str d) (.str c)=(d==c):=by rw[deq];exact(DY d c).symm
   rw[e];exact⟨RcAt.str_str _ _ _ _,RcNeAt.str_str _ _ _ _⟩
theorem Mc(I:Inv X pins σ H s):∀(k:Nat) (A:Around) (a b:D) (x y:V) (u v:Value),A.units+k<cLine->D.pureN k a=true->D.pureN k b=true->IsW X.K H a x->IsW X.K H b y->RelV x u->RelV y v->RcAt A s u v (deq a b)/\RcNeAt A s u v (!deq a b):=by
 intro k
 induction k with
 |zero=>exact λA a b x y u v _ pa pb ha hb ru rv=>Ai A a b x y u v pa pb ha hb ru rv
 |succ k ih =>
  intro A a b x y u v hu pa pb ha hb ru rv
  have hu0:A.units<cLine:=by lia
  have each:∀(as bs:List D) (xs ys:List V) (is js:List Value),as.all (D.pureN k)=true->bs.all (D.pureN k)=true->ia X.K H as xs->ia X.K H bs ys->bc xs is->bc ys js ->
    ∀j (h1:j<is.toArray.size) (h2:j<js.toArray.size),EqAt A.in1 s is.toArray[j] js.toArray[j] (deq (as.getD j .non) (bs.getD j .non)):=by
   intro as bs xs ys is js pas pbs has hbs hvx hvy j h1 h2
   have l1:as.length=is.length:=by rw[<-has.length,hvx.length]
   have l2:bs.length=js.length:=by rw[<-hbs.length,hvy.length]
   have j1:j<as.length:=by rw[l1];simpa using h1
   have j2:j<bs.length:=by rw[l2];simpa using h2
   obtain⟨p,e1,q1⟩:=has.get (AD j1)
   obtain⟨p',e1',q1'⟩:=hbs.get (AD j2)
   obtain⟨w,e2,q2⟩:=hvx.get e1
   obtain⟨w',e2',q2'⟩:=hvy.get e1'
   have g1:is.toArray[j]=w:=by
    have:is[j]? = some is.toArray[j]:=by simp[AD (show j<is.length by lia)]
    rw[this]at e2;exact BJ e2
   have g2:js.toArray[j]=w':=by
    have:js[j]? = some js.toArray[j]:=by simp[AD (show j<js.length by lia)]
    rw[this]at e2';exact BJ e2'
   rw[g1,g2,BB,BB,AD j1,AD j2]
   have pa:=AY.mp pas _ (CW j1)
   have pb:=AY.mp pbs _ (CW j2)
   exact C2 I pa pb q1 q1' q2 q2' (ih A.in1 _ _ p p' w w' (by rw[in1_units];lia) pa pb q1 q1' q2 q2').1
  have flat0:∀d:D,D.pureN (k+1) d=true->(∀ds,d≠.tup ds)->(∀ds,d≠.lst ds)->D.pureN 0 d=true:=λd h h1 h2=>by
   cases d with
   |tup ds=>exact absurd rfl (h1 ds)
   |lst ds=>exact absurd rfl (h2 ds)
   |loc n=>simp[D.pureN]at h
   |_=>rfl
  cases a with
  |loc n=>simp[D.pureN]at pa
  |tup as =>
   have pas:as.all (D.pureN k)=true:=by simpa[D.pureN]using pa
   obtain⟨p,xs,rfl,hq,hds⟩:=lr ha
   cases(show u=Value.ref p from ru)
   obtain⟨its,hv,ht,hz⟩:=I.tuple hq
   have ht':s.heap.IsTuple p its.toArray:=ht
   cases b with
   |loc n=>simp[D.pureN]at pb
   |tup bs =>
    have pbs:bs.all (D.pureN k)=true:=by simpa[D.pureN]using pb
    obtain⟨p',xs',rfl,hq',hds'⟩:=lr hb
    cases(show v=Value.ref p' from rv)
    obtain⟨its',hv',ht2,hz'⟩:=I.tuple hq'
    ·skip
     have ea:=each as bs xs xs' its its' pas pbs hds hds' hv hv'
     have q:=RcAt.tuples (A:=A) ht' (show s.heap.IsTuple p' its'.toArray from ht2) hu0 ea
     have q':=RcNeAt.tuples (A:=A) ht' (show s.heap.IsTuple p' its'.toArray from ht2) hu0 ea
     have l1:as.length=its.length:=by rw[<-hds.length,hv.length]
     have l2:bs.length=its'.length:=by rw[<-hds'.length,hv'.length]
     have e:((List.range (min its.toArray.size its'.toArray.size)).all (λj=>deq (as.getD j .non) (bs.getD j .non))&&its.toArray.size==its'.toArray.size)=deq (.tup as) (.tup bs):=by
      rw[deq]
      simp![AG,<-l1,<-l2]
      by_cases hl:as.length=bs.length
      ·rw[j7 as bs hl,<-hl];simp
      ·rw[oj as bs hl];simp[hl]
     rw[e]at q q'
     exact⟨q,q'⟩
   |lst bs =>
    obtain⟨p',xs',rfl,hq',hds'⟩:∃a xs,y=.ref a/\LsL X.K H a xs/\ia X.K H bs xs:=by simpa[IsW]using hb
    cases(show v=Value.ref p' from rv)
    obtain⟨z,its',n',hv',_,hg⟩:=I.ls hq'
    exact⟨RcAt.tuple_list ht' ⟨_,hg,rfl,n',rfl⟩ hu0,RcNeAt.tuple_list ht' ⟨_,hg,rfl,n',rfl⟩ hu0⟩
   |non=>cases(show y=.non by simpa[IsW]using hb);cases(show v=Value.none from rv);exact⟨RcAt.tuple_none ht' hu0,RcNeAt.tuple_none ht' hu0⟩
   |bl c=>cases(show y=.bl c by simpa[IsW]using hb);cases(show v=Value.bool c from rv);exact⟨RcAt.tuple_bool _ ht' hu0,RcNeAt.tuple_bool _ ht' hu0⟩
   |int c=>cases(show y=.int c by simpa[IsW]using hb);obtain⟨t,rfl⟩:=rv;exact⟨RcAt.tuple_int _ _ ht' hu0,RcNeAt.tuple_int _ _ ht' hu0⟩
   |str c=>cases(show y=.str c by simpa[IsW]using hb);obtain⟨t,rfl⟩:=rv;exact⟨RcAt.tuple_str _ _ ht' hu0,RcNeAt.tuple_str _ _ ht' hu0⟩
  |lst as =>
   have pas:as.all (D.pureN k)=true:=by simpa[D.pureN]using pa
   obtain⟨p,xs,rfl,hq,hds⟩:∃a xs,x=.ref a/\LsL X.K H a xs/\ia X.K H as xs:=by simpa[IsW]using ha
   cases(show u=Value.ref p from ru)
   obtain⟨z,its,n,hv,_,hg⟩:=I.ls hq
   have hl':s.heap.IsList p its.toArray:=⟨_,hg,rfl,n,rfl⟩
   cases b with
   |loc n=>simp[D.pureN]at pb
   |lst bs =>
    have pbs:bs.all (D.pureN k)=true:=by simpa[D.pureN]using pb
    obtain⟨p',xs',rfl,hq',hds'⟩:∃a xs,y=.ref a/\LsL X.K H a xs/\ia X.K H bs xs:=by simpa[IsW]using hb
    cases(show v=Value.ref p' from rv)
    obtain⟨z',its',n',hv',_,hg'⟩:=I.ls hq'
    have hl2:s.heap.IsList p' its'.toArray:=⟨_,hg',rfl,n',rfl⟩
    ·skip
     have l1:as.length=its.length:=by rw[<-hds.length,hv.length]
     have l2:bs.length=its'.length:=by rw[<-hds'.length,hv'.length]
     by_cases hl:as.length=bs.length
     ·have ea:=each as bs xs xs' its its' pas pbs hds hds' hv hv'
      have ez:its.toArray.size=its'.toArray.size:=by simp![AG];lia
      have q:=RcAt.lists (A:=A) hl' hl2 ez hu0 ea
      have q':=RcNeAt.lists (A:=A) hl' hl2 ez hu0 ea
      have e:(List.range its.toArray.size).all (λj=>deq (as.getD j .non) (bs.getD j .non))=deq (.lst as) (.lst bs):=by
       rw[deq,j7 as bs hl]
       simp![AG,<-l1]
      rw[e]at q q'
      exact⟨q,q'⟩
     ·rw[deq,oj as bs hl]
      exact⟨RcAt.lists_lengths hl' hl2 (by simp![AG];simp;lia) hu0,RcNeAt.lists_lengths hl' hl2 (by simp![AG];simp;lia) hu0⟩
   |tup bs =>
    obtain⟨p',xs',rfl,hq',hds'⟩:=lr hb
    cases(show v=Value.ref p' from rv)
    obtain⟨its',hv',ht2,hz'⟩:=I.tuple hq'
    exact⟨RcAt.list_tuple hl' (show s.heap.IsTuple p' its'.toArray from ht2) hu0,RcNeAt.list_tuple hl' (show s.heap.IsTuple p' its'.toArray from ht2) hu0⟩
   |non=>cases(show y=.non by simpa[IsW]using hb);cases(show v=Value.none from rv);exact⟨RcAt.list_none hl' hu0,RcNeAt.list_none hl' hu0⟩
   |bl c=>cases(show y=.bl c by simpa[IsW]using hb);cases(show v=Value.bool c from rv);exact⟨RcAt.list_bool _ hl' hu0,RcNeAt.list_bool _ hl' hu0⟩
   |int c=>cases(show y=.int c by simpa[IsW]using hb);obtain⟨t,rfl⟩:=rv;exact⟨RcAt.list_int _ _ hl' hu0,RcNeAt.list_int _ _ hl' hu0⟩
   |str c=>cases(show y=.str c by simpa[IsW]using hb);obtain⟨t,rfl⟩:=rv;exact⟨RcAt.list_str _ _ hl' hu0,RcNeAt.list_str _ _ hl' hu0⟩
  |_ =>
   cases b with
   |loc n=>simp[D.pureN]at pb
   |tup bs =>
    obtain⟨p',xs',rfl,hq',hds'⟩:=lr hb
    cases(show v=Value.ref p' from rv)
    obtain⟨its',hv',ht2,hz'⟩:=I.tuple hq'
    have ht':s.heap.IsTuple p' its'.toArray:=ht2
    first
    |(cases(show x=.non by simpa[IsW]using ha);cases(show u=Value.none from ru);exact⟨RcAt.none_tuple ht' hu0,RcNeAt.none_tuple ht' hu0⟩)
    |(cases(show x=.bl _ by simpa[IsW]using ha);cases(show u=Value.bool _ from ru);exact⟨RcAt.bool_tuple _ ht' hu0,RcNeAt.bool_tuple _ ht' hu0⟩)
    |(cases(show x=.int _ by simpa[IsW]using ha);obtain⟨t,rfl⟩:=ru;exact⟨RcAt.int_tuple _ _ ht' hu0,RcNeAt.int_tuple _ _ ht' hu0⟩)
    |(cases(show x=.str _ by simpa[IsW]using ha);obtain⟨t,rfl⟩:=ru;exact⟨RcAt.str_tuple _ _ ht' hu0,RcNeAt.str_tuple _ _ ht' hu0⟩)
   |lst bs =>
    obtain⟨p',xs',rfl,hq',hds'⟩:∃a xs,y=.ref a/\LsL X.K H a xs/\ia X.K H bs xs:=by simpa[IsW]using hb
    cases(show v=Value.ref p' from rv)
    obtain⟨z',its',n',hv',_,hg'⟩:=I.ls hq'
    have hl':s.heap.IsList p' its'.toArray:=⟨_,hg',rfl,n',rfl⟩
    first
    |(cases(show x=.non by simpa[IsW]using ha);cases(show u=Value.none from ru);exact⟨RcAt.none_list hl' hu0,RcNeAt.none_list hl' hu0⟩)
    |(cases(show x=.bl _ by simpa[IsW]using ha);cases(show u=Value.bool _ from ru);exact⟨RcAt.bool_list _ hl' hu0,RcNeAt.bool_list _ hl' hu0⟩)
    |(cases(show x=.int _ by simpa[IsW]using ha);obtain⟨t,rfl⟩:=ru;exact⟨RcAt.int_list _ _ hl' hu0,RcNeAt.int_list _ _ hl' hu0⟩)
    |(cases(show x=.str _ by simpa[IsW]using ha);obtain⟨t,rfl⟩:=ru;exact⟨RcAt.str_list _ _ hl' hu0,RcNeAt.str_list _ _ hl' hu0⟩)
   |_=>exact Ai A _ _ x y u v rfl rfl ha hb ru rv
end
open PySem.SeqAt (EqAt RcAt)
section
variable{X:Cx}{φ:Phi}{pins:List (Addr × Obj)}{σ:St}{H:Hp}{s:Shared}
theorem Ko(hu:X.A.units+8<cLine):OpR X (compareOp .Eq) (rOp X.K (cpD .eq)):=by
 intro pins s σ H x y v u Q I rx ry ⟨ι,a,b,μ,hS,ha,hb,h⟩
 unfold cpD at h
 simp only at h
 split at h
 ·rename_i hp
  exact(Mc I 8 X.A a b x y v u hu hp.1 hp.2 (IsW.ofD (IsD.pur hp.1 ha)) (IsW.ofD (IsD.pur hp.2 hb)) rx ry).1 _ _ _ _ ⟨.bl (deq a b),H,I,rfl,h.ok hS (by simp[IsD])⟩
 ·exact h.elim
end
open PySem.SeqAt (EqAt RcNeAt)
section
variable{X:Cx}{φ:Phi}{pins:List (Addr × Obj)}{σ:St}{H:Hp}{s:Shared}
theorem Kp(hu:X.A.units+8<cLine):OpR X (compareOp .NotEq) (rOp X.K (cpD .ne)):=by
 intro pins s σ H x y v u Q I rx ry ⟨ι,a,b,μ,hS,ha,hb,h⟩
 unfold cpD at h
 simp only at h
 split at h
 ·rename_i hp
  exact(Mc I 8 X.A a b x y v u hu hp.1 hp.2 (IsW.ofD (IsD.pur hp.1 ha)) (IsW.ofD (IsD.pur hp.2 hb)) rx ry).2 _ _ _ _ ⟨.bl (!deq a b),H,I,rfl,h.ok hS (by simp[IsD])⟩
 ·exact h.elim
end
end Lp
namespace LT
open PySem PySem.Spec PyProof.Rows HT
open PySem.SeqAt
open PySem.AutoSeq1 (wpAny_loadPart')
open PySem.MeetsSeq PySem.MeetsSeq2 PySem.MeetsSeq3
theorem Tr(A:Around)(s:Shared)(a:Int)(t:Tok)(c:Int)(u:Tok)(prog:Program)(w:World)(E:Value->Shared->Prop)(Q:Value->Shared->Prop)(h:Q (.bool (decide (a<=c))) s) :
  wpAny (model prog w) A (richCompare .LtE (.int a t) (.int c u)) Q E s :=
 (PyProof.Rows.le_int h:wpAny (model prog w) A (compareOp .LtE (.int a t) (.int c u)) Q E s)
theorem C3(l b:Addr)(items items2:Array Value)(n n2:Nat)(dd dd2:Option Addr)(sl sl2:Array (Option Value))(ns ms:List Int)(ii:IntsAre items.toList ns)(jj:IntsAre items2.toList ms) :
  Meets (Builtin.«tuple.__le__» ⟨[.ref l,.ref b],[]⟩) (λ_ R s=>s.heap.get? l=some {cls:=.type "tuple",dict:=dd,data:=.seq items n,slots:=sl}/\s.heap.get? b=some {cls:=.type "tuple",dict:=dd2,data:=.seq items2 n2,slots:=sl2}/\R (.ok (.ret (.bool (!lexLt ms ns)))) s) :=
 .of_wp λprog w A R s h=>by
  obtain⟨hh0,g,d,tk0,os0⟩:=s;obtain⟨ql,hb,h⟩:=h
  have sub0:=EH
  have n1:ns.length=items.size:=by rw[<-ii.length,AZ]
  have n2e:ms.length=items2.size:=by rw[<-jj.length,AZ]
  wp_walk using DR ql,DR hb,DL _ (λrest b s'=>b.1=none/\s'=⟨hh0,g,d,tk0,os0⟩/\∃(us1 us2:List Value) (ms1 ms2:List Int),rest=us1.zip us2 /\
   IntsAre us1 ms1/\IntsAre us2 ms2/\ms1.length+items2.size=ms2.length+items.size/\R (.ok (.ret (.bool (!lexLt ms2 ms1)))) ⟨hh0,g,d,tk0,os0⟩) _
  case turn =>
   rintro⟨y,x⟩ rest b s' ⟨p0,rfl,us1,us2,ms1,ms2,pz,pv,pw,pl,fin0⟩
   cases pv with
   |nil=>rw[GB]at pz;cases pz
   |cons a t pv1 =>
    cases pw with
    |nil=>rw[EM]at pz;cases pz
    |cons c u pw1 =>
     rw[BZ]at pz
     injection pz with pyx pr
     injection pyx with py px
     subst py px
     rw[dz]at fin0
     simp![AU]at pl
     obtain⟨same,eq0,eqi⟩:=n9 A.in1 ⟨hh0,g,d,tk0,os0⟩ a t c u
     refine AA (eq0 prog w _ _ ?_)
     cases same with
     |true =>
      rw[if_pos (eqi.mp rfl).symm]at fin0
      wp_walk
      exact⟨rfl,rfl,_,_,_,_,pr,pv1,pw1,by lia,fin0⟩
     |false =>
      have hne:¬c=a:=λq=>absurd (eqi.mpr q.symm) AV
      rw[if_neg hne]at fin0
      have ed:(!decide (c<a))=decide (a<=c):=by
       by_cases hc:c<a
       ·rw[decide_eq_true hc,decide_eq_false (by lia)];rfl
       ·rw[decide_eq_false hc,decide_eq_true (by lia)];rfl
      rw[ed]at fin0
      have low:=Tr A.in1 ⟨hh0,g,d,tk0,os0⟩ a t c u prog w
      wp_walk using low
      exact⟨_,rfl,by simpa using fin0⟩
  case fin =>
   rintro⟨c1,c2⟩ s' ⟨p0,rfl,us1,us2,ms1,ms2,pz,pv,pw,pl,fin0⟩
   simp only at p0
   subst p0
   have hv:(!lexLt ms2 ms1)=decide (items.size<=items2.size):=by
    cases pv with
    |nil =>
     cases pw with
     |nil =>
      simp![BK]at pl
      rw[gs,decide_eq_true (by lia)];rfl
     |cons c u hw =>
      simp![BK,AU]at pl
      rw[f9,decide_eq_true (by lia)];rfl
    |cons a t hv =>
     cases pw with
     |nil =>
      simp![BK,AU]at pl
      rw[fz,decide_eq_false (by lia)];rfl
     |cons c u hw =>
      rw[BZ]at pz
      cases pz
   rw[hv]at fin0
   wp_walk
   exact⟨_,rfl,by simpa[Builtin.Tuple.tupleCompareSizes]using fin0⟩
  case h =>
   exact⟨rfl,rfl,items.toList,items2.toList,ns,ms,rfl,ii,jj,by lia,h⟩
theorem Kq {prog:Program} {w:World} {A:Around} {E:Value->Shared->Prop} {s:Shared} {l b:Addr} {items items2:Array Value} {ns ms:List Int} {Q:Value->Shared->Prop} (hl:IsTup s.heap l items) (hb:IsTup s.heap b items2) (hi:IntsAre items.toList ns) (hj:IntsAre items2.toList ms)
  (hu:A.units<cLine) (h:Q (.bool (!lexLt ms ns)) s):wpAny (model prog w) A (compareOp .LtE (.ref l) (.ref b)) Q E s:=by
 obtain⟨⟨_,dd,_,sl⟩,ho,rfl,n,rfl⟩:=id hl
 obtain⟨⟨_,dd2,_,sl2⟩,ho2,rfl,n2,rfl⟩:=id hb
 exact EW (op:=.LtE) ⟨_,ho,rfl⟩ ⟨_,ho2,rfl⟩ PySem.F.slot_tuple_le PySem.F.entry_tuple_le (PySem.F.args_tuple_le_2 _ _) (C3 l b items items2 n n2 dd dd2 sl sl2 ns ms hi hj)
  ⟨ho,ho2,show Value.bool (!lexLt ms ns)≠Value.notImplemented/\Q (.bool (!lexLt ms ns)) s from⟨(λx=>nomatch x),h⟩⟩ hu
theorem Ts(A:Around)(s:Shared)(a:Int)(t:Tok)(c:Int)(u:Tok)(prog:Program)(w:World)(E:Value->Shared->Prop)(Q:Value->Shared->Prop)(h:Q (.bool (decide (c<=a))) s) :
  wpAny (model prog w) A (richCompare .GtE (.int a t) (.int c u)) Q E s :=
 (PyProof.Rows.ge_int h:wpAny (model prog w) A (compareOp .GtE (.int a t) (.int c u)) Q E s)
theorem C4(l b:Addr)(items items2:Array Value)(n n2:Nat)(dd dd2:Option Addr)(sl sl2:Array (Option Value))(ns ms:List Int)(ii:IntsAre items.toList ns)(jj:IntsAre items2.toList ms) :
  Meets (Builtin.«tuple.__ge__» ⟨[.ref l,.ref b],[]⟩) (λ_ R s=>s.heap.get? l=some {cls:=.type "tuple",dict:=dd,data:=.seq items n,slots:=sl}/\s.heap.get? b=some {cls:=.type "tuple",dict:=dd2,data:=.seq items2 n2,slots:=sl2}/\R (.ok (.ret (.bool (!lexLt ns ms)))) s) :=
 .of_wp λprog w A R s h=>by
  obtain⟨hh0,g,d,tk0,os0⟩:=s;obtain⟨ql,hb,h⟩:=h
  have sub0:=EH
  have n1:ns.length=items.size:=by rw[<-ii.length,AZ]
  have n2e:ms.length=items2.size:=by rw[<-jj.length,AZ]
  wp_walk using DR ql,DR hb,DL _ (λrest b s'=>b.1=none/\s'=⟨hh0,g,d,tk0,os0⟩/\∃(us1 us2:List Value) (ms1 ms2:List Int),rest=us1.zip us2 /\
   IntsAre us1 ms1/\IntsAre us2 ms2/\ms1.length+items2.size=ms2.length+items.size/\R (.ok (.ret (.bool (!lexLt ms1 ms2)))) ⟨hh0,g,d,tk0,os0⟩) _
  case turn =>
   rintro⟨y,x⟩ rest b s' ⟨p0,rfl,us1,us2,ms1,ms2,pz,pv,pw,pl,fin0⟩
   cases pv with
   |nil=>rw[GB]at pz;cases pz
   |cons a t pv1 =>
    cases pw with
    |nil=>rw[EM]at pz;cases pz
    |cons c u pw1 =>
     rw[BZ]at pz
     injection pz with pyx pr
     injection pyx with py px
     subst py px
     rw[dz]at fin0
     simp![AU]at pl
     obtain⟨same,eq0,eqi⟩:=n9 A.in1 ⟨hh0,g,d,tk0,os0⟩ a t c u
     refine AA (eq0 prog w _ _ ?_)
     cases same with
     |true =>
      rw[if_pos (eqi.mp rfl)]at fin0
      wp_walk
      exact⟨rfl,rfl,_,_,_,_,pr,pv1,pw1,by lia,fin0⟩
     |false =>
      have hne:¬a=c:=λq=>absurd (eqi.mpr q) AV
      rw[if_neg hne]at fin0
      have ed:(!decide (a<c))=decide (c<=a):=by
       by_cases hc:a<c
       ·rw[decide_eq_true hc,decide_eq_false (by lia)];rfl
       ·rw[decide_eq_false hc,decide_eq_true (by lia)];rfl
      rw[ed]at fin0
      have low:=Ts A.in1 ⟨hh0,g,d,tk0,os0⟩ a t c u prog w
      wp_walk using low
      exact⟨_,rfl,by simpa using fin0⟩
  case fin =>
   rintro⟨c1,c2⟩ s' ⟨p0,rfl,us1,us2,ms1,ms2,pz,pv,pw,pl,fin0⟩
   simp only at p0
   subst p0
   have hv:(!lexLt ms1 ms2)=decide (items2.size<=items.size):=by
    cases pv with
    |nil =>
     cases pw with
     |nil =>
      simp![BK]at pl
      rw[gs,decide_eq_true (by lia)];rfl
     |cons c u hw =>
      simp![BK,AU]at pl
      rw[fz,decide_eq_false (by lia)];rfl
    |cons a t hv =>
     cases pw with
     |nil =>
      simp![BK,AU]at pl
      rw[f9,decide_eq_true (by lia)];rfl
     |cons c u hw =>
      rw[BZ]at pz
      cases pz
   rw[hv]at fin0
   wp_walk
   exact⟨_,rfl,by simpa[Builtin.Tuple.tupleCompareSizes]using fin0⟩
  case h =>
   exact⟨rfl,rfl,items.toList,items2.toList,ns,ms,rfl,ii,jj,by lia,h⟩
theorem Kr {prog:Program} {w:World} {A:Around} {E:Value->Shared->Prop} {s:Shared} {l b:Addr} {items items2:Array Value} {ns ms:List Int} {Q:Value->Shared->Prop} (hl:IsTup s.heap l items) (hb:IsTup s.heap b items2) (hi:IntsAre items.toList ns) (hj:IntsAre items2.toList ms)
  (hu:A.units<cLine) (h:Q (.bool (!lexLt ns ms)) s):wpAny (model prog w) A (compareOp .GtE (.ref l) (.ref b)) Q E s:=by
 obtain⟨⟨_,dd,_,sl⟩,ho,rfl,n,rfl⟩:=id hl
 obtain⟨⟨_,dd2,_,sl2⟩,ho2,rfl,n2,rfl⟩:=id hb
 exact EW (op:=.GtE) ⟨_,ho,rfl⟩ ⟨_,ho2,rfl⟩ PySem.F.slot_tuple_ge PySem.F.entry_tuple_ge (PySem.F.args_tuple_ge_2 _ _) (C4 l b items items2 n n2 dd dd2 sl sl2 ns ms hi hj)
  ⟨ho,ho2,show Value.bool (!lexLt ns ms)≠Value.notImplemented/\Q (.bool (!lexLt ns ms)) s from⟨(λx=>nomatch x),h⟩⟩ hu
end LT
namespace L2
open PySem PySem.Spec PyProof.Rows
variable{X:Cx}
theorem Ks(hu:X.A.units<cLine){pins s σ H x y v u Q}(I:Inv X pins σ H s)(rx:RelV x v)(ry:RelV y u)(h:∃a b ns ms,x=.ref a/\y=.ref b/\SqT X.K H a (ns.map V.int)/\SqT X.K H b (ms.map V.int)/\Q (.bl (!HT.lexLt ms ns)) H) :
  wpAny (model X.prog X.w) X.A (compareOp .LtE v u) (EP X pins σ Q) X.xe s:=by
 obtain⟨c,d,ns,ms,rfl,rfl,hc,hd,q⟩:=h
 cases rx
 cases ry
 obtain⟨us,r1,p1,_⟩:=I.tuple hc
 obtain⟨us2,r2,p2,_⟩:=I.tuple hd
 exact LT.Kq p1 p2 (intsAre_of r1) (intsAre_of r2) hu ⟨.bl (!HT.lexLt ms ns),H,I,rfl,q⟩
theorem Kt(hu:X.A.units<cLine){pins s σ H x y v u Q}(I:Inv X pins σ H s)(rx:RelV x v)(ry:RelV y u)(h:∃a b ns ms,x=.ref a/\y=.ref b/\SqT X.K H a (ns.map V.int)/\SqT X.K H b (ms.map V.int)/\Q (.bl (!HT.lexLt ns ms)) H) :
  wpAny (model X.prog X.w) X.A (compareOp .GtE v u) (EP X pins σ Q) X.xe s:=by
 obtain⟨c,d,ns,ms,rfl,rfl,hc,hd,q⟩:=h
 cases rx
 cases ry
 obtain⟨us,r1,p1,_⟩:=I.tuple hc
 obtain⟨us2,r2,p2,_⟩:=I.tuple hd
 exact LT.Kr p1 p2 (intsAre_of r1) (intsAre_of r2) hu ⟨.bl (!HT.lexLt ns ms),H,I,rfl,q⟩
end L2
namespace Lp
open PySem PySem.Spec PyProof.Rows L2
open PySem.SeqAt (EqAt RcAt)
noncomputable def opOf:Cp->CmpOp
 |.eq=>.Eq
 |.ne=>.NotEq
 |.eqM=>.Eq
 |.neM=>.NotEq
 |.lt=>.Lt
 |.le=>.LtE
 |.gt=>.Gt
 |.ge=>.GtE
 |.is=>.Is
 |.isnot=>.IsNot
 |.in_=>.In
 |.notin=>.NotIn
section
variable{X:Cx}{φ:Phi}{pins:List (Addr × Obj)}{σ:St}{H:Hp}{s:Shared}
theorem ints_of{K:PySem.W.Frag}{ι:List Addr}:∀{ds:List D} {xs:List V} {ns:List Int},ag K ι H ds xs->bo ds=some ns->xs=ns.map V.int
 | [],xs,ns,h,e=>by
  simp![bo,CJ]at e
  subst e
  simpa[ag]using h
 |d::ds,xs,ns,h,e=>by
  simp![ag]at h
  obtain⟨v,r,rfl,q,t⟩:=h
  cases d with
  |int i =>
   simp![bo,FA]at e
   obtain⟨ms,e1,rfl⟩:=e
   cases ck q
   rw[ints_of t e1]
   rfl
  |_=>simp[bo]at e
theorem om{K:PySem.W.Frag}{ι:List Addr}{d:D}{v:V}(h:IsD K ι H d v)(hf:flat d=true):k8 v=true:=by
 cases d with
 |tup _=>simp[flat]at hf
 |lst _=>simp[flat]at hf
 |loc _=>simp[flat]at hf
 |_=>have e:=h;simp![IsD]at e;subst e;rfl
theorem jk{K:PySem.W.Frag}{ι:List Addr}:∀{ds:List D} {xs:List V},ag K ι H ds xs->ds.all flat=true->xs.all k8=true
 | [],xs,h,_=>by
  have e:xs=[]:=by simpa[ag]using h
  subst e
  rfl
 |d::ds,xs,h,hf=>by
  simp![ag]at h
  obtain⟨v,r,rfl,q,t⟩:=h
  simp![BI,AT]at hf ⊢
  exact⟨om q hf.1,jk t hf.2⟩
theorem Eo{K:PySem.W.Frag}{ι:List Addr}{d e:D}{v w:V}(hd:IsD K ι H d v)(he:IsD K ι H e w)(fd:flat d=true)(fe:flat e=true):eqV v w=deq d e:=by
 have b2:∀(a b:Int),decide (a=b)=(a==b):=λa b=>(DY a b).symm
 have b3:∀(a b:Str),decide (a=b)=(a==b):=λa b=>(DY a b).symm
 cases d with
 |tup _=>simp[flat]at fd
 |lst _=>simp[flat]at fd
 |loc _=>simp[flat]at fd
 |_ =>
  cases e with
  |tup _=>simp[flat]at fe
  |lst _=>simp[flat]at fe
  |loc _=>simp[flat]at fe
  |_ =>
   simp![IsD]at hd he
   subst hd he
   simp![eqV,deq,b2,b3]
theorem Aj{K:PySem.W.Frag}{ι:List Addr}{e:D}{w:V}(he:IsD K ι H e w)(fe:flat e=true):∀{ds:List D} {xs:List V},ag K ι H ds xs->ds.all flat=true->inV w xs=ds.any λy=>deq y e
 | [],xs,h,_=>by
  have e:xs=[]:=by simpa[ag]using h
  subst e
  rfl
 |d::ds,xs,h,hf=>by
  simp![ag]at h
  obtain⟨v,r,rfl,q,t⟩:=h
  simp![BI,AT]at hf
  have ih:=Aj he fe t hf.2
  unfold inV at ih ⊢
  rw[BU,BU,Eo q he hf.1 fe,ih]
theorem is_bool{u:Bool}{v:Bool}{Q:VK}(I:Inv X pins σ H s)(q:Q (.bl (u==v)) H):wpAny (model X.prog X.w) X.A (compareOp .Is (.bool u) (.bool v)) (EP X pins σ Q) X.xe s:=by
 cases u<;>cases v<;>exact AC ⟨.bl _,H,I,rfl,q⟩
theorem isnot_bool{u:Bool}{v:Bool}{Q:VK}(I:Inv X pins σ H s)(q:Q (.bl (!(u==v))) H):wpAny (model X.prog X.w) X.A (compareOp .IsNot (.bool u) (.bool v)) (EP X pins σ Q) X.xe s:=by
 cases u<;>cases v<;>exact AC ⟨.bl _,H,I,rfl,q⟩
theorem ra{v:Bool}{Q:VK}(I:Inv X pins σ H s)(q:Q (.bl false) H):wpAny (model X.prog X.w) X.A (compareOp .Is .none (.bool v)) (EP X pins σ Q) X.xe s:=by
 cases v<;>exact AC ⟨.bl _,H,I,rfl,q⟩
theorem ly{v:Bool}{Q:VK}(I:Inv X pins σ H s)(q:Q (.bl true) H):wpAny (model X.prog X.w) X.A (compareOp .IsNot .none (.bool v)) (EP X pins σ Q) X.xe s:=by
 cases v<;>exact AC ⟨.bl _,H,I,rfl,q⟩
noncomputable def kD:Key->D
 |.inl i=>.int i
 |.inr x=>.str x
theorem oo{K:PySem.W.Frag}{ι:List Addr}{d:D}{x:V}(hk:qo d=true)(h:IsD K ι H d x):∃k,d=kD k/\x=kV k:=by
 cases d with
 |int i=>exact⟨.inl i,rfl,by simpa[IsD,kV]using h⟩
 |str i=>exact⟨.inr i,rfl,by simpa[IsD,kV]using h⟩
 |_=>simp[qo]at hk
theorem oq{K:PySem.W.Frag}{ι:List Addr}{d:D}{k:Key}(h:IsD K ι H d (kV k)):d=kD k:=by
 cases k with
 |inl i=>cases d<;>simp_all[IsD,kV,kD]
 |inr i=>cases d<;>simp_all[IsD,kV,kD]
theorem nj(a b:Key):deq (kD a) (kD b)=decide (a=b):=by
 cases a<;>cases b<;>simp[kD,deq]
noncomputable def OR(K:PySem.W.Frag)(ι:List Addr)(H:Hp):Option D->Option V->Prop
 |some d,some v=>IsD K ι H d v
 |none,none=>True
 |_,_=>False
theorem OR.isSome{K:PySem.W.Frag}{ι:List Addr}{o:Option D}{p:Option V}(h:OR K ι H o p):p.isSome=o.isSome:=by
 cases o<;>cases p<;>first | rfl | exact h.elim
theorem OR.getD{K:PySem.W.Frag}{ι:List Addr}{o:Option D}{p:Option V}{d:D}{v:V}(h:OR K ι H o p)(hd:IsD K ι H d v):IsD K ι H (o.getD d) (p.getD v):=by
 cases o with
 |none=>cases p with
  |none=>exact hd
  |some _=>exact h.elim
 |some _=>cases p with
  |none=>exact h.elim
  |some _=>exact h
theorem ku{K:PySem.W.Frag}{ι:List Addr}{k:Key}:∀{kvs:List (D×D)} {xs:List (Key×V)},ue K ι H kvs xs->OR K ι H (p9 (kD k) kvs) (t8 xs k)
 |_,_,.nil=>True.intro
 |p::kvs,q::xs,.cons h t=>by
  obtain⟨d,e⟩:=p
  have hk:=oq h.1
  dsimp only at hk
  subst hk
  have ih:=ku (k:=k) (kvs:=kvs) (xs:=xs) t
  by_cases z:q.1=k
  ·rw[jf z,p9,nj,if_pos (by simpa using z)]
   exact h.2
  ·rw[jg z,p9,nj,if_neg (by simpa using z)]
   exact ih
theorem Ak{K:PySem.W.Frag}{ι:List Addr}{k:Key}:∀{kvs:List (D×D)} {xs:List (Key×V)},ue K ι H kvs xs->(kvs.any λp=>deq p.1 (kD k))=xs.any λkv=>decide (kv.1=k)
 |_,_,.nil=>rfl
 |p::kvs,q::xs,.cons h t=>by
  obtain⟨d,e⟩:=p
  have hk:=oq h.1
  dsimp only at hk
  subst hk
  rw[BU,BU,Ak t,nj]
theorem vo{K:PySem.W.Frag}{ι:List Addr}{k:Key}{d:D}{v:V}(hv:IsD K ι H d v):∀{kvs:List (D×D)} {xs:List (Key×V)},ue K ι H kvs xs ->
  ue K ι H (kvs.map λp=>if deq p.1 (kD k)=true then(p.1,d)else p) (xs.map λkv=>if kv.1=k then(kv.1,v)else kv)
 |_,_,.nil=>.nil
 |p::kvs,q::xs,.cons h t=>by
  obtain⟨e,w⟩:=p
  have hk:=oq h.1
  dsimp only at hk
  subst hk
  rw[AL,AL]
  refine .cons ?_ (vo hv t)
  by_cases z:q.1=k
  ·rw[if_pos z,nj,if_pos (by simpa using z)]
   exact⟨h.1,hv⟩
  ·rw[if_neg z,nj,if_neg (by simpa using z)]
   exact h
theorem jb{α β:Type}{F:α->β->Prop}:∀{xs:List α} {ys:List β} {x:α} {y:β},Paired F xs ys->F x y->Paired F (xs++[x]) (ys++[y])
 |_,_,_,_,.nil,h=>.cons h .nil
 |_,_,_,_,.cons a t,h=>.cons a (jb t h)
theorem vp{K:PySem.W.Frag}{ι:List Addr}{k:Key}{d:D}{v:V}(hv:IsD K ι H d v){kvs:List (D×D)}{xs:List (Key×V)}(h:ue K ι H kvs xs):ue K ι H (dput (kD k) d kvs) (putK xs k v):=by
 unfold dput putK
 rw[Ak h]
 split
 ·exact vo hv h
 ·refine jb h ⟨?_,hv⟩
  cases k<;>simp[kD,kV,IsD]
theorem uj{K:PySem.W.Frag}{ι:List Addr}{μ:Sto}{o k:D}{x y:V}{kvs:List (D×D)}(hS:Sim K ι H μ)(ho:IsD K ι H o x)(hk:IsD K ι H k y)(h:dictAt μ o k=some kvs) :
  ∃p q xs,x=.ref p/\y=kV q/\k=kD q/\Rd H p (.dK xs)/\ue K ι H kvs xs:=by
 cases o with
 |loc n =>
  obtain⟨p,rfl,hp⟩:∃p,x=.ref p/\ι[n]? = some p:=by simpa[IsD]using ho
  simp![dictAt]at h
  have up:∀{xs:List (Key×V)},ue K [] H kvs xs->ue K ι H kvs xs:=λz=>Paired.mapP z λp r z=>⟨z.1,IsD.mono CO (.refl _) _ _ z.2⟩
  have fin:∀{ob:O} {kvs':List (D×D)},μ[n]? = some ob->(if qo k=true then some kvs' else none)=some kvs->(OIs K ι H p ob->∃xs,Rd H p (.dK xs)/\(kvs'=kvs->ue K ι H kvs xs)) ->
    ∃p' q xs,V.ref p=.ref p'/\y=kV q/\k=kD q/\Rd H p' (.dK xs)/\ue K ι H kvs xs:=by
   intro ob kvs' em h f
   split at h
   ·rename_i hkey
    cases h
    obtain⟨a',q',ob⟩:=hS.at em
    rw[hp]at q';cases q'
    obtain⟨xs,e1,e2⟩:=f ob
    obtain⟨q,rfl,rfl⟩:=oo hkey hk
    exact⟨p,q,xs,rfl,rfl,rfl,e1,e2 rfl⟩
   ·cases h
  split at h
  ·rename_i kvs' em
   exact fin em h fun⟨xs,e1,e2⟩=>⟨xs,.inl e1,λz=>by subst z;exact up e2⟩
  ·rename_i kvs' em
   exact fin em h fun⟨xs,e1,e2⟩=>⟨xs,.inl e1,λz=>by subst z;exact e2⟩
  ·rename_i kvs' em
   exact fin em h fun⟨o,xs,e1,e2⟩=>⟨xs,.inr ⟨o,e1⟩,λz=>by subst z;exact up e2⟩
  ·cases h
 |_=>simp[dictAt]at h
theorem Al(cp:Cp)(hu:X.A.units+8<cLine):OpR X (compareOp (opOf cp)) (rOp X.K (cpD cp)):=by
 have hu0:X.A.units<cLine:=by lia
 cases cp with
 |eq=>exact Ko hu
 |ne=>exact Kp hu
 |eqM =>
  intro pins s σ H x y v u Q I rx ry ⟨ι,a,b,μ,hS,ha,hb,h⟩
  simp![cpD]at h
  cases e1:aq μ 8 a with
  |none=>simp![e1]at h;exact h.elim
  |some a1 =>
   cases e2:aq μ 8 b with
   |none=>simp![e1,e2]at h;exact h.elim
   |some b1 =>
    simp![e1,e2]at h
    exact(Mc I 8 X.A a1 b1 x y v u hu (gj 8 _ _ e1) (gj 8 _ _ e2) (qz hS 8 _ _ _ e1 ha) (qz hS 8 _ _ _ e2 hb) rx ry).1 _ _ _ _ ⟨.bl (deq a1 b1),H,I,rfl,h.ok hS (by simp[IsD])⟩
 |neM =>
  intro pins s σ H x y v u Q I rx ry ⟨ι,a,b,μ,hS,ha,hb,h⟩
  simp![cpD]at h
  cases e1:aq μ 8 a with
  |none=>simp![e1]at h;exact h.elim
  |some a1 =>
   cases e2:aq μ 8 b with
   |none=>simp![e1,e2]at h;exact h.elim
   |some b1 =>
    simp![e1,e2]at h
    exact(Mc I 8 X.A a1 b1 x y v u hu (gj 8 _ _ e1) (gj 8 _ _ e2) (qz hS 8 _ _ _ e1 ha) (qz hS 8 _ _ _ e2 hb) rx ry).2 _ _ _ _ ⟨.bl (!deq a1 b1),H,I,rfl,h.ok hS (by simp[IsD])⟩
 |lt =>
  intro pins s σ H x y v u Q I rx ry ⟨ι,a,b,μ,hS,ha,hb,h⟩
  simp![cpD]at h
  split at h
  ·cases ck ha;cases ck hb
   exact M5 pins s σ H _ _ v u Q I rx ry ⟨_,_,rfl,rfl,h.ok hS (by simp[IsD])⟩
  ·obtain⟨p,xs,rfl,hq,hds⟩:=dq ha
   obtain⟨p',xs',rfl,hq',hds'⟩:=dq hb
   split at h
   ·rename_i ns ms e1 e2
    have:=ints_of hds e1
    subst this
    have:=ints_of hds' e2
    subst this
    refine Ji hu0 pins s σ H _ _ v u Q I rx ry ⟨p,p',ns,ms,rfl,rfl,hq,hq',?_⟩
    have el:∀(a b:List Int),HT.lexLt a b=Lp.lexLt a b:=by
     intro a
     induction a with
     |nil=>intro b;cases b<;>rfl
     |cons x r ih=>intro b;cases b with
      |nil=>rfl
      |cons y q=>rw[HT.dz,Lp.lexLt,ih]
    rw[el]
    exact h.ok hS (by simp[IsD])
   ·exact h.elim
  ·exact h.elim
 |le =>
  intro pins s σ H x y v u Q I rx ry ⟨ι,a,b,μ,hS,ha,hb,h⟩
  simp![cpD]at h
  split at h
  ·cases ck ha;cases ck hb
   exact M6 pins s σ H _ _ v u Q I rx ry ⟨_,_,rfl,rfl,h.ok hS (by simp[IsD])⟩
  ·obtain⟨p,xs,rfl,hq,hds⟩:=dq ha
   obtain⟨p',xs',rfl,hq',hds'⟩:=dq hb
   split at h
   ·rename_i ns ms e1 e2
    have:=ints_of hds e1
    subst this
    have:=ints_of hds' e2
    subst this
    refine Ks hu0 I rx ry ⟨p,p',ns,ms,rfl,rfl,hq,hq',?_⟩
    have el:∀(a b:List Int),HT.lexLt a b=Lp.lexLt a b:=by
     intro a
     induction a with
     |nil=>intro b;cases b<;>rfl
     |cons x r ih=>intro b;cases b with
      |nil=>rfl
      |cons y q=>rw[HT.dz,Lp.lexLt,ih]
    rw[el]
    exact h.ok hS (by simp[IsD])
   ·exact h.elim
  ·exact h.elim
 |gt =>
  refine OpR.imp M7 λx y H Q ⟨ι,a,b,μ,hS,ha,hb,h⟩=>?_
  simp![cpD]at h
  split at h
  ·cases ck ha;cases ck hb
   exact⟨_,_,rfl,rfl,h.ok hS (by simp[IsD])⟩
  ·exact h.elim
 |ge =>
  intro pins s σ H x y v u Q I rx ry ⟨ι,a,b,μ,hS,ha,hb,h⟩
  simp![cpD]at h
  split at h
  ·cases ck ha;cases ck hb
   exact M8 pins s σ H _ _ v u Q I rx ry ⟨_,_,rfl,rfl,h.ok hS (by simp[IsD])⟩
  ·obtain⟨p,xs,rfl,hq,hds⟩:=dq ha
   obtain⟨p',xs',rfl,hq',hds'⟩:=dq hb
   split at h
   ·rename_i ns ms e1 e2
    have:=ints_of hds e1
    subst this
    have:=ints_of hds' e2
    subst this
    refine Kt hu0 I rx ry ⟨p,p',ns,ms,rfl,rfl,hq,hq',?_⟩
    have el:∀(a b:List Int),HT.lexLt a b=Lp.lexLt a b:=by
     intro a
     induction a with
     |nil=>intro b;cases b<;>rfl
     |cons x r ih=>intro b;cases b with
      |nil=>rfl
      |cons y q=>rw[HT.dz,Lp.lexLt,ih]
    rw[el]
    exact h.ok hS (by simp[IsD])
   ·exact h.elim
  ·exact h.elim
 |is =>
  intro pins s σ H x y v u Q I rx ry ⟨ι,a,b,μ,hS,ha,hb,h⟩
  simp![cpD]at h
  split at h
  ·refine Jc pins s σ H x y v u Q I rx ry ⟨by simpa[IsD]using hb,?_⟩
   cases a with
   |tup ds=>obtain⟨p,xs,rfl,_⟩:=dq ha;exact h.ok hS (by simp[IsD])
   |lst ds =>
         obtain⟨p,xs,rfl,_⟩:∃p xs,x=V.ref p/\FzL X.K H p xs/\ag X.K ι H ds xs:=by simpa[IsD]using ha
         exact h.ok hS (by simp[IsD])
   |loc n =>
        obtain⟨p,rfl,_⟩:∃p,x=V.ref p/\ι[n]? = some p:=by simpa[IsD]using ha
        exact h.ok hS (by simp[IsD])
   |_=>have e:=ha;simp![IsD]at e;subst e;exact h.ok hS (by simp[IsD])
  ·cases qy hb
   cases(show u=Value.bool _ from ry)
   split at h
   ·cases qy ha
    cases(show v=Value.bool _ from rx)
    exact is_bool I (h.ok hS (by simp[IsD]))
   ·cases(show x=.non by simpa[IsD]using ha)
    cases(show v=Value.none from rx)
    exact ra I (h.ok hS (by simp[IsD]))
   ·exact h.elim
  ·exact h.elim
 |isnot =>
  intro pins s σ H x y v u Q I rx ry ⟨ι,a,b,μ,hS,ha,hb,h⟩
  simp![cpD]at h
  split at h
  ·refine Fv pins s σ H x y v u Q I rx ry ⟨by simpa[IsD]using hb,?_⟩
   cases a with
   |tup ds=>obtain⟨p,xs,rfl,_⟩:=dq ha;exact h.ok hS (by simp[IsD])
   |lst ds =>
         obtain⟨p,xs,rfl,_⟩:∃p xs,x=V.ref p/\FzL X.K H p xs/\ag X.K ι H ds xs:=by simpa[IsD]using ha
         exact h.ok hS (by simp[IsD])
   |loc n =>
        obtain⟨p,rfl,_⟩:∃p,x=V.ref p/\ι[n]? = some p:=by simpa[IsD]using ha
        exact h.ok hS (by simp[IsD])
   |_=>have e:=ha;simp![IsD]at e;subst e;exact h.ok hS (by simp[IsD])
  ·cases qy hb
   cases(show u=Value.bool _ from ry)
   split at h
   ·cases qy ha
    cases(show v=Value.bool _ from rx)
    exact isnot_bool I (h.ok hS (by simp[IsD]))
   ·cases(show x=.non by simpa[IsD]using ha)
    cases(show v=Value.none from rx)
    exact ly I (h.ok hS (by simp[IsD]))
   ·exact h.elim
  ·exact h.elim
 |in_ =>
  intro pins s σ H x y v u Q I rx ry ⟨ι,a,b,μ,hS,ha,hb,h⟩
  simp![cpD]at h
  split at h
  ·rename_i ds e
   obtain⟨p,xs,rfl,hq,hds⟩:=qr hS hb e
   split at h
   ·rename_i hf
    refine zu pins s σ H _ _ v u Q I rx ry ⟨p,xs,rfl,hq.imp (·.sq) id,om ha hf.1,jk hds hf.2,?_⟩
    simp![AF,if_false]
    rw[Aj ha hf.1 hds hf.2]
    exact h.ok hS (by simp[IsD])
   ·exact h.elim
  ·split at h
   ·rename_i kvs e
    obtain⟨p,q,xs,rfl,rfl,rfl,hp,hk⟩:=uj hS hb ha e
    cases(show u=Value.ref p from ry)
    refine S8 (by lia) I (.inl ⟨_,_,hp,rfl,rfl⟩) rx λs' I'=>⟨.bl (t8 xs q).isSome,H,I',rfl,?_⟩
    rw[(ku hk).isSome]
    exact h.ok hS (by simp[IsD])
   ·exact h.elim
 |notin =>
  intro pins s σ H x y v u Q I rx ry ⟨ι,a,b,μ,hS,ha,hb,h⟩
  simp![cpD]at h
  split at h
  ·rename_i ds e
   obtain⟨p,xs,rfl,hq,hds⟩:=qr hS hb e
   split at h
   ·rename_i hf
    refine qi pins s σ H _ _ v u Q I rx ry ⟨p,xs,rfl,hq.imp (·.sq) id,om ha hf.1,jk hds hf.2,?_⟩
    simp![if_true]
    rw[Aj ha hf.1 hds hf.2]
    exact h.ok hS (by simp[IsD])
   ·exact h.elim
  ·split at h
   ·rename_i kvs e
    obtain⟨p,q,xs,rfl,rfl,rfl,hp,hk⟩:=uj hS hb ha e
    cases(show u=Value.ref p from ry)
    refine z4 (by lia) I (.inl ⟨_,_,hp,rfl,rfl⟩) rx λs' I'=>⟨.bl (!(t8 xs q).isSome),H,I',rfl,?_⟩
    rw[(ku hk).isSome]
    exact h.ok hS (by simp[IsD])
   ·exact h.elim
end
open PySem.SeqAt (EqAt RcAt)
section
variable{X:Cx}{φ:Phi}{pins:List (Addr × Obj)}{σ:St}{H:Hp}{s:Shared}
noncomputable def PCh(X:Cx)(ops:List CmpOp)(es:List Expr)(t:V->TE):Prop :=
 ∀(pos:Pos) (pins:List (Addr×Obj)) (s:Shared) (σ:St) (H:Hp) (Q:VK) (x:V) (v:Value),Inv X pins σ H s->RelV x v->t x σ H Q ->
  wpAny (model X.prog X.w) X.A (compareChain pos v ops (evalEach es X.env)) (EP X pins σ Q) X.xe s
noncomputable def PTh(X:Cx)(ops:List CmpOp)(es:List Expr)(t:V->TT):Prop :=
 ∀(pos:Pos) (pins:List (Addr×Obj)) (s:Shared) (σ:St) (H:Hp) (Q:Bool->Hp->Prop) (x:V) (v:Value),Inv X pins σ H s->RelV x v->t x σ H Q ->
  wpAny (model X.prog X.w) X.A (testChain pos v ops (evalEach es X.env)) (TP X pins σ Q) X.xe s
noncomputable def tCh(K:PySem.W.Frag)(φ:Phi)(r:Cps):V->TE:=λx σv H Q=>∃ι σ μ d,Sim K ι H μ/\jy K ι H σ σv/\IsD K ι H d x/\dj K (RD K) ι H (evC φ r d σ μ) Q
noncomputable def tTh(K:PySem.W.Frag)(φ:Phi)(r:Cps):V->TT:=λx σv H Q=>∃ι σ μ d,Sim K ι H μ/\jy K ι H σ σv/\IsD K ι H d x/\dj K RB ι H ((evC φ r d σ μ).bind λz μ=>Mb z μ) Q
theorem Am{op:Cp}{xe:Ex}{d:D}{σ:Sl}{μ:Sto}:evC φ (.cons op xe .nil) d σ μ=(evE φ xe σ μ).bind λy μ=>cpD op d y μ:=by
 simp![evC]
 cases evE φ xe σ μ with
 |ok y μ1 =>
  simp![Res.bg]
  cases cpD op d y μ1<;>rfl
 |exc _ _ _=>rfl
 |stuck=>rfl
theorem C5{op op':Cp}{xe xe':Ex}{r:Cps}{d:D}{σ:Sl}{μ:Sto}:evC φ (.cons op xe (.cons op' xe' r)) d σ μ=(evE φ xe σ μ).bind λy μ=>(cpD op d y μ).bind λz μ=>match z with
  |.bl b=>if b=true then evC φ (.cons op' xe' r) y σ μ else .ok (.bl false) μ
  |_=>.stuck:=by
 rw[evC]
 all_goals rfl
theorem Gs{op:Cp}{e:Expr}{xe:Ex}(ho:OpR X (compareOp (opOf op)) (rOp X.K (cpD op)))(he:PE X e (tE X.K φ xe)):PCh X [opOf op] [e] (tCh X.K φ (.cons op xe .nil)):=by
 intro pos pins s σv H Q x v I rx ⟨ι,σ,μ,d,hS,hL,hd,h⟩
 rw[Am]at h
 obtain⟨y,μ1,e1,h⟩:=h.bind
 refine chain_last (thn (he pins s σv H (λw H1=>rOp X.K (cpD op) x w H1 Q) I ⟨ι,σ,μ,hS,hL,?_⟩) λu s1 ⟨w,H1,I1,r1,q1⟩=>ho pins s1 σv H1 x w v u Q I1 rx r1 q1)
 rw[e1]
 exact λι1 w H1 p1 x1 s1 d1=>⟨ι1,d,y,μ1,s1,IsD.mono p1 x1 _ _ hd,d1,h.mono p1 x1⟩
theorem Gu{op:Cp}{e:Expr}{xe:Ex}(ho:OpR X (compareOp (opOf op)) (rOp X.K (cpD op)))(he:PE X e (tE X.K φ xe)):PTh X [opOf op] [e] (tTh X.K φ (.cons op xe .nil)):=by
 intro pos pins s σv H Q x v I rx ⟨ι,σ,μ,d,hS,hL,hd,h⟩
 rw[Am,Res.bind_assoc]at h
 obtain⟨y,μ1,e1,h⟩:=h.bind
 refine test_last (thn (he pins s σv H (λw H1=>rOp X.K (cpD op) x w H1 (λz H2=>∃k,z=.bl k/\Q k H2)) I ⟨ι,σ,μ,hS,hL,?_⟩) λu s1 ⟨w,H1,I1,r1,q1⟩=>thn (ho pins s1 σv H1 x w v u _ I1 rx r1 q1) λc s2 ⟨z,H2,I2,r2,k,ek,q2⟩=>?_)
 ·rw[e1]
  intro ι1 w H1 p1 x1 s1 d1
  obtain⟨z,μ2,e2,h⟩:=h.bind
  refine⟨ι1,d,y,μ1,s1,IsD.mono p1 x1 _ _ hd,d1,?_⟩
  rw[e2]
  intro ι2 z' H2 p2 x2 s2 d2
  cases z with
  |bl k=>exact⟨k,qy d2,h ι2 k H2 (p1.trans p2) (x1.trans x2) s2 rfl⟩
  |_=>exact h.elim
 ·subst ek
  cases r2
  exact CM ⟨H2,I2,q2⟩
theorem Gv{op op':Cp}{e e':Expr}{es:List Expr}{ops:List CmpOp}{xe xe':Ex}{r:Cps}(ho:OpR X (compareOp (opOf op)) (rOp X.K (cpD op)))(he:PE X e (tE X.K φ xe))(hr:PTh X (opOf op'::ops) (e'::es) (tTh X.K φ (.cons op' xe' r))) :
  PTh X (opOf op::opOf op'::ops) (e::e'::es) (tTh X.K φ (.cons op xe (.cons op' xe' r))):=by
 intro pos pins s σv H Q x v I rx ⟨ι,σ,μ,d,hS,hL,hd,h⟩
 rw[C5,Res.bind_assoc]at h
 obtain⟨y,μ1,e1,h⟩:=h.bind
 refine test_link (thn (he pins s σv H (λw H1=>rOp X.K (cpD op) x w H1 (λz H2=>∃k,z=.bl k/\if k=true then tTh X.K φ (.cons op' xe' r) w σv H2 Q else Q false H2)) I ⟨ι,σ,μ,hS,hL,?_⟩) λu s1 ⟨w,H1,I1,r1,q1⟩ =>
  thn (ho pins s1 σv H1 x w v u _ I1 rx r1 q1) λc s2 ⟨z,H2,I2,r2,k,ek,q2⟩=>?_)
 ·rw[e1]
  intro ι1 w H1 p1 x1 s1 d1
  rw[Res.bind_assoc]at h
  obtain⟨z,μ2,e2,h⟩:=h.bind
  refine⟨ι1,d,y,μ1,s1,IsD.mono p1 x1 _ _ hd,d1,?_⟩
  rw[e2]
  intro ι2 z' H2 p2 x2 s2 d2
  cases z with
  |bl k =>
   refine⟨k,qy d2,?_⟩
   cases k with
   |true=>exact⟨ι2,σ,μ2,y,s2,(hL.mono p1 x1).mono p2 x2,IsD.mono p2 x2 _ _ d1,(show dj _ _ _ _ ((evC φ (.cons op' xe' r) y σ μ2).bind _) _ from h).mono (p1.trans p2) (x1.trans x2)⟩
   |false=>exact h ι2 false H2 (p1.trans p2) (x1.trans x2) s2 rfl
  |_=>exact h.elim
 ·subst ek
  cases r2
  refine CM ?_
  cases k with
  |false=>exact ite_ff ⟨H2,I2,q2⟩
  |true=>exact ite_tt (hr pos pins s2 σv H2 Q w u I2 r1 q2)
theorem Oe{a:Expr}{xa:Ex}{ops:List CmpOp}{es:List Expr}{r:Cps}{pos:Pos}(ha:PE X a (tE X.K φ xa))(hr:PCh X ops es (tCh X.K φ r))(hm:lastMarks ops es=false):PE X (.Compare a ops es pos) (tE X.K φ (.cmp xa r)):=by
 intro pins s σv H Q I ⟨ι,σ,μ,hS,hL,h⟩
 simp![evE]at h
 obtain⟨d,μ1,e1,h⟩:=h.bind
 show wpAny _ _ (do compareChain pos (<-eval a X.env) ops (markedEach ops es (evalEach es X.env))) _ _ _
 rw[markedEach_of_false _ _ _ hm]
 refine AA (thn (ha pins s σv H (λx H1=>tCh X.K φ r x σv H1 Q) I ⟨ι,σ,μ,hS,hL,?_⟩) λv s1 ⟨x,H1,I1,r1,q1⟩=>hr pos pins s1 σv H1 Q x v I1 r1 q1)
 rw[e1]
 exact λι1 x H1 p1 x1 s1 d1=>⟨ι1,σ,μ1,d,s1,hL.mono p1 x1,d1,h.mono p1 x1⟩
theorem Ku{a:Expr}{xa:Ex}{ops:List CmpOp}{es:List Expr}{r:Cps}{pos:Pos}(ha:PE X a (tE X.K φ xa))(hr:PTh X ops es (tTh X.K φ r))(hm:lastMarks ops es=false):PT X (.Compare a ops es pos) (tT X.K φ (.cmp xa r)):=by
 intro pins s σv H Q I ⟨ι,σ,μ,hS,hL,h⟩
 simp![evE]at h
 rw[Res.bind_assoc]at h
 obtain⟨d,μ1,e1,h⟩:=h.bind
 show wpAny _ _ (do testChain pos (<-eval a X.env) ops (markedEach ops es (evalEach es X.env))) _ _ _
 rw[markedEach_of_false _ _ _ hm]
 refine AA (thn (ha pins s σv H (λx H1=>tTh X.K φ r x σv H1 Q) I ⟨ι,σ,μ,hS,hL,?_⟩) λv s1 ⟨x,H1,I1,r1,q1⟩=>hr pos pins s1 σv H1 Q x v I1 r1 q1)
 rw[e1]
 exact λι1 x H1 p1 x1 s1 d1=>⟨ι1,σ,μ1,d,s1,hL.mono p1 x1,d1,h.mono p1 x1⟩
theorem Kv{l:Expr}{xl:Ex}{tg:Expr}(hl:PE X l (tE X.K φ xl)):PI X tg l (tI X.K φ (.seq xl)):=by
 intro pins s σv H R I ⟨ι,σ,μ,hS,hL,h⟩
 simp![evI]at h
 cases e1:evE φ xl σ μ with
 |exc _ _ _=>rw[e1]at h;exact h.elim
 |stuck=>rw[e1]at h;exact h.elim
 |ok d μ1 =>
 rw[e1]at h
 simp![Res.bg]at h
 have hq:tE X.K φ xl σv H (λv H1=>∃ι1,ι <+: ι1/\Ext H H1/\Sim X.K ι1 H1 μ1/\IsD X.K ι1 H1 d v):=⟨ι,σ,μ,hS,hL,by rw[e1];exact λι1 v H1 p1 x1 s1 d1=>⟨ι1,p1,x1,s1,d1⟩⟩
 refine thn (hl pins s σv H _ I hq) λu s1 ⟨v,H1,I1,r1,ι1,p1,x1,S1,d1⟩=>?_
 -- a list,at a,whatever its items
 have lst:∀(a:Addr) (xs:List V) (ds:List D) (g:Gd),v=.ref a->LsL X.K H1 a xs->ag X.K ι1 H1 ds xs->(∀ι2 H2 μ2,ι1 <+: ι2->Ext H1 H2->Sim X.K ι2 H2 μ2->gd g μ2->∃ys,LsL X.K H2 a ys/\ag X.K ι2 H2 ds ys) ->
   (∀ι' H' J,ι <+: ι'->Ext H H'->Sim X.K ι' H' μ1->Walk X.K ι' H' J ds g->R J H')->wpAny (model X.prog X.w) X.A (pyIter u) (PIE X pins σv tg R) X.xe s1:=by
  intro a xs ds g ev hls hds stay hR
  subst ev
  cases(show u=Value.ref a from r1)
  obtain⟨its,rv,p,hz⟩:=I1.list hls.sq
  refine GF p.isList ?_
  refine⟨s1.heap.objs.size,[s1.heap.objs.size],_,_,H1,rfl,I1.kept (t':=s1.toks) λb o e=>AB _ e,zf a _,⟨_,AQ _ rfl,rfl,rfl⟩,λb hb=>?_,hR ι1 H1 _ p1 x1 S1 ?_⟩
  ·have e:b=s1.heap.objs.size:=by simpa using hb
   subst e
   exact I1.fpOk (AH _) (I1.hok.fresh (AH _))
  ·refine⟨by rw[<-hds.length];exact hz,λi ι2 H2 μ2 q1 q2 q3 q4 hi=>?_,λi ι2 H2 μ2 w H3 q1 q2 q3 q4 hi hy=>?_,λι2 H2 μ2 q1 q2 q3 q4=>?_⟩
   ·obtain⟨ys,y1,y2⟩:=stay ι2 H2 μ2 q1 q2 q3 q4
    obtain⟨w,e,_⟩:=y2.get (AD hi)
    exact⟨ys,w,y1.sq,e⟩
   ·obtain⟨ys,y1,y2⟩:=stay ι2 H2 μ2 q1 q2 q3 q4
    obtain⟨e,hy⟩:=hy
    subst e
    obtain⟨w',e',q'⟩:=y2.get (AD hi)
    have:=hy ys y1.sq
    rw[e']at this;cases this
    exact⟨.refl _,q3,_,AD hi,q'⟩
   ·obtain⟨ys,y1,y2⟩:=stay ι2 H2 μ2 q1 q2 q3 q4
    exact⟨ys,y1.sq,by rw[y2.length];exact AH _⟩
 cases d with
 |tup ds =>
  simp![h7]at h
  obtain⟨a,xs,rfl,hq,hds⟩:=dq d1
  cases(show u=Value.ref a from r1)
  obtain⟨its,rv,p,hz⟩:=I1.tuple hq
  refine FW (show s1.heap.IsTuple a its.toArray from p) ?_
  refine⟨s1.heap.objs.size,[s1.heap.objs.size],_,_,H1,rfl,I1.kept (t':=s1.toks) λb o e=>AB _ e,xn a _,⟨_,AQ _ rfl,rfl,rfl⟩,λb hb=>?_,h ι1 H1 _ p1 x1 S1 ?_⟩
  ·have e:b=s1.heap.objs.size:=by simpa using hb
   subst e
   exact I1.fpOk (AH _) (I1.hok.fresh (AH _))
  ·refine⟨by rw[<-hds.length];exact hz,λi ι2 H2 μ2 q1 q2 q3 q4 hi=>?_,λi ι2 H2 μ2 w H3 q1 q2 q3 q4 hi hy=>?_,λι2 H2 μ2 q1 q2 q3 q4=>?_⟩
   ·obtain⟨w,e,_⟩:=hds.get (AD hi)
    exact⟨xs,w,hq.ext q2,e⟩
   ·obtain⟨e,hy⟩:=hy
    subst e
    obtain⟨w',e',q'⟩:=hds.get (AD hi)
    have:=hy xs (hq.ext q2)
    rw[e']at this;cases this
    exact⟨.refl _,q3,_,AD hi,IsD.mono q1 q2 _ _ q'⟩
   ·exact⟨xs,hq.ext q2,by rw[hds.length];exact AH _⟩
 |lst ds =>
  simp![h7]at h
  obtain⟨a,xs,rfl,hq,hds⟩:∃a xs,v=.ref a/\FzL X.K H1 a xs/\ag X.K ι1 H1 ds xs:=by simpa[IsD]using d1
  exact lst a xs ds none rfl (.inr hq) hds (λι2 H2 μ2 q1 q2 q3 q4=>⟨xs,.inr (hq.ext q2),ag.mono q1 q2 _ _ hds⟩) h
 |loc n =>
  obtain⟨a,rfl,hn⟩:∃a,v=.ref a/\ι1[n]? = some a:=by simpa[IsD]using d1
  have pre:∀{ι2:List Addr},ι1 <+: ι2->ι2[n]? = some a:=λhp=>by
   obtain⟨t,rfl⟩:=hp
   rw[AW (AK.mp hn).1];exact hn
  cases em:μ1[n]? with
  |none=>simp![h7,em]at h
  |some o =>
   simp![h7,em]at h
   cases o with
   |l ds =>
    simp only at h
    obtain⟨a',q',ho⟩:=S1.at em
    rw[hn]at q';cases q'
    obtain⟨xs,f1,f2⟩:=ho
    refine lst a xs ds (some (n,.l ds)) rfl (.inl f1) (ag.mono (CO) (.refl _) _ _ f2) (λι2 H2 μ2 q1 q2 q3 q4=>?_) h
    obtain⟨a2,e2,o2⟩:=q3.at (show μ2[n]? = some (.l ds)from q4)
    rw[pre q1]at e2;cases e2
    obtain⟨ys,g1,g2⟩:=o2
    exact⟨ys,.inl g1,ag.mono (CO) (.refl _) _ _ g2⟩
   |r ds =>
    simp only at h
    obtain⟨a',q',ho⟩:=S1.at em
    rw[hn]at q';cases q'
    obtain⟨xs,f1,f2⟩:=ho
    refine lst a xs ds (some (n,.r ds)) rfl (.inl f1) f2 (λι2 H2 μ2 q1 q2 q3 q4=>?_) h
    obtain⟨a2,e2,o2⟩:=q3.at (show μ2[n]? = some (.r ds)from q4)
    rw[pre q1]at e2;cases e2
    obtain⟨ys,g1,g2⟩:=o2
    exact⟨ys,.inl g1,g2⟩
   |d kvs=>simp only at h
   |dt kvs=>simp only at h
   |x _=>simp only at h
   |o _ _=>simp only at h
   |dr _=>simp only at h
   |fd _=>simp only at h
   |dead=>simp only at h
 |_=>simp![h7]at h
theorem yg{K:PySem.W.Frag}{ι:List Addr}{H:Hp}(lo:Int)(n:Nat)(hn:n<=sizeLine):Walk K ι H (Itr lo n) ((List.range n).map fun(k:Nat)=>D.int (lo+k)) none:=by
 refine⟨by simpa using hn,λi ι2 H2 μ2 q1 q2 q3 q4 hi=>by simpa[Itr]using hi,λi ι2 H2 μ2 w H3 q1 q2 q3 q4 hi hy=>?_,λι2 H2 μ2 q1 q2 q3 q4=>by simp[Itr]⟩
 obtain⟨e,hy⟩:=hy
 subst e
 have hi':i<n:=by simpa using hi
 exact⟨.refl _,q3,.int (lo+i),by simp[hi'],by simp[IsD,hy]⟩
theorem Kw{a:Expr}{xa:Ex}{tg:Expr}{p pos:Pos}(hg:Gl X "range")(hm:X.mg "range"=none)(ha:PE X a (tE X.K φ xa))(hs:starEach [a] X.env=[(false,eval a X.env)]):PI X tg (.Call (.Name "range" p) [a] [] pos) (tI X.K φ (.rng xa)) :=
 PI.imp (zg hg hm (Em ha Ka hs) hs) λσv H R ⟨ι,σ,μ,hS,hL,h⟩=>by
  simp![evI]at h
  refine⟨ι,σ,μ,hS,hL,?_⟩
  simp![c5]
  cases e1:evE φ xa σ μ with
  |exc _ _ _=>rw[e1]at h;exact h.elim
  |stuck=>rw[e1]at h;exact h.elim
  |ok d μ1 =>
   rw[e1]at h
   simp![Res.bg]at h ⊢
   cases d with
   |int j =>
    simp only at h
    by_cases hj:-(lim:Int)<=j/\j<=lim
    ·rw[if_pos hj]at h
     rw[du]at hj
     have h24:sizeLine=16777216:=DF
     rw[h24]at hj
     intro ι1 vs H1 p1 x1 s1 d1
     have e:vs=[.int j]:=by
      have q:ag X.K ι1 H1 [.int j] vs:=d1
      simp![ag]at q
      obtain⟨v,r,rfl,q1,rfl⟩:=q
      cases ck q1
      rfl
     refine⟨j,e,by lia,by lia,h ι1 H1 _ p1 x1 s1 ?_⟩
     have w:=yg (K:=X.K) (ι:=ι1) (H:=H1) 0 j.toNat (by lia)
     simpa using w
    ·rw[if_neg hj]at h
     exact h.elim
   |_=>exact h.elim
noncomputable def yh(K:PySem.W.Frag)(f:List D->Sto->Res D):List V->Hp->VK->Prop:=λxs H Q=>∃ι ds μ,Sim K ι H μ/\ag K ι H ds xs/\dj K (RD K) ι H (f ds μ) Q
theorem Kx{K:PySem.W.Frag}{ι:List Addr}{d:D}{xs:List V}(h:ag K ι H [d] xs):∃v,xs=[v]/\IsD K ι H d v:=by
 simp![ag]at h
 obtain⟨v,r,rfl,q,rfl⟩:=h
 exact⟨v,rfl,q⟩
theorem Ep{K:PySem.W.Frag}{ι:List Addr}{d e:D}{xs:List V}(h:ag K ι H [d,e] xs):∃v w,xs=[v,w]/\IsD K ι H d v/\IsD K ι H e w:=by
 simp![ag]at h
 obtain⟨v,r,rfl,q,w,r2,rfl,q2,rfl⟩:=h
 exact⟨v,w,rfl,q,q2⟩
theorem j8{K:PySem.W.Frag}{ι:List Addr}{ds:List D}{xs:List V}{μ:Sto}{f:D->Sto->Res D}{Q:VK}(hds:ag K ι H ds xs)(h:dj K (RD K) ι H (jd f ds μ) Q) :
  ∃d v,xs=[v]/\IsD K ι H d v/\dj K (RD K) ι H (f d μ) Q:=by
 unfold jd at h
 split at h
 ·rename_i d
  obtain⟨v,rfl,hv⟩:=Kx hds
  exact⟨d,v,rfl,hv,h⟩
 ·exact h.elim
theorem An{K:PySem.W.Frag}{ι:List Addr}{d:D}{v:V}{μ:Sto}{f:List D->Sto->Res D}{Q:VK}(hS:Sim K ι H μ)(hd:IsD K ι H d v)(h:dj K (RD K) ι H (seq1 f d μ) Q) :
  ∃a xs ds,v=.ref a/\(LsL K H a xs\/SqT K H a xs)/\ag K ι H ds xs/\dj K (RD K) ι H (f ds μ) Q:=by
 unfold seq1 at h
 split at h
 ·rename_i ds e
  obtain⟨a,xs,rfl,hq,hxs⟩:=qr hS hd e
  exact⟨a,xs,ds,rfl,hq,hxs,h⟩
 ·exact h.elim
theorem Gw{K:PySem.W.Frag}{ι:List Addr}{d:D}{v:V}{μ:Sto}{f:List Int->Sto->Res D}{Q:VK}(hS:Sim K ι H μ)(hd:IsD K ι H d v)(h:dj K (RD K) ι H (F8 f d μ) Q) :
  ∃a ns,v=.ref a/\(LsL K H a (ns.map V.int)\/SqT K H a (ns.map V.int))/\dj K (RD K) ι H (f ns μ) Q:=by
 unfold F8 at h
 cases e:d5 μ d with
 |none=>rw[e]at h;exact h.elim
 |some ds =>
  rw[e]at h
  simp![ED]at h
  split at h
  ·rename_i ns e2
   obtain⟨a,xs,rfl,hq,hxs⟩:=qr hS hd e
   rw[ints_of hxs e2]at hq
   exact⟨a,ns,rfl,hq,h⟩
  ·exact h.elim
theorem bt_len{m:Mk}:gr X (.builtin "len") (yh X.K (btD .len m)):=gr.imp qj λxs H Q ⟨ι,ds,μ,hS,hds,h⟩=>by
 obtain⟨d,v,rfl,hv,h⟩:=j8 hds h
 obtain⟨a,xs,es,rfl,hq,hxs,h⟩:=An hS hv h
 exact⟨a,xs,rfl,hq.imp (·.sq) id,by rw[hxs.length];exact h.ok hS (by simp[IsD])⟩
theorem bt_tuple{m:Mk}:gr X (.type "tuple") (yh X.K (btD .tuple m)):=gr.imp oh λxs H Q ⟨ι,ds,μ,hS,hds,h⟩=>by
 obtain⟨d,v,rfl,hv,h⟩:=j8 hds h
 obtain⟨a,xs,es,rfl,hq,hxs,h⟩:=An hS hv h
 refine⟨a,xs,rfl,?_⟩
 rcases hq with hq | hq
 ·exact .inl ⟨hq.sq,λl hl=>oi hS hxs h hl⟩
 ·exact .inr ⟨hq,h.ok hS (tup_is hq hxs)⟩
theorem bt_min{m:Mk}(hc:X.calm=true):gr X (.builtin "min") (yh X.K (btD .min m)):=gr.imp (zj hc) λxs H Q ⟨ι,ds,μ,hS,hds,h⟩=>by
 simp![btD,minD]at h
 split at h
 ·rename_i i j
  obtain⟨v,w,rfl,hv,hw⟩:=Ep hds
  cases ck hv
  cases ck hw
  exact⟨i,j,rfl,h.ok hS (by simp[IsD])⟩
 ·exact h.elim
theorem bt_max{m:Mk}(hc:X.calm=true):gr X (.builtin "max") (yh X.K (btD .max m)):=gr.imp (zi hc) λxs H Q ⟨ι,ds,μ,hS,hds,h⟩=>by
 simp![btD,maxD]at h
 split at h
 ·rename_i i j
  obtain⟨v,w,rfl,hv,hw⟩:=Ep hds
  cases ck hv
  cases ck hw
  exact⟨i,j,rfl,h.ok hS (by simp[IsD])⟩
 ·exact h.elim
theorem C6 {A:Around} {E:Value->Shared->Prop} {a:Addr} {xs:List V} (I:Inv X pins σ H s) (hq:LsL X.K H a xs\/SqT X.K H a xs) (hh:A.handled=none) {Q:Value->Shared->Prop}
  (h:∀(it:Addr) (fp:List Addr) (its:List Value) St s2,bc xs its->Walks X.prog X.w A it fp [it] its.length (λi v=>its[i]? = some v) St->St 0 s2.heap->(∀b∈fp,b<s2.heap.objs.size) ->
   (∀h' tk,(∀b o,b∉[it]->s2.heap.get? b=some o->h'.get? b=some o)->Inv X pins σ H {s2 with heap:=h',toks:=tk})->Q (.ref it) s2) :
  wpAny (model X.prog X.w) A (pyIter (.ref a)) Q E s:=by
 have fin:∀(ob:Obj) (h':Heap) (tk:Nat),(∀b o,b∉[s.heap.objs.size]->(s.heap.push ob).get? b=some o->h'.get? b=some o)->Inv X pins σ H {s with heap:=h',toks:=tk}:=λob h' tk hk =>
  I.kept λb u e=>hk b u (by simp;exact AR (AM e)) (AB _ e)
 rcases hq with hq | hq
 ·obtain⟨z,its,n,hv,hl,hg⟩:=I.ls hq
  have hil:s.heap.IsList a its.toArray:=⟨_,hg,rfl,n,rfl⟩
  refine GF hil ?_
  have hne:a≠s.heap.objs.size:=AR (AM hg)
  have W:=Walks.list (prog:=X.prog) (w:=X.w) (A:=A) hh s.heap.objs.size a hne its.toArray
  simp![AG,HP]at W
  refine h s.heap.objs.size _ its _ _ hv W ⟨⟨_,AQ _ rfl,rfl,rfl⟩,hil.at λo e=>AB _ e⟩ (λb hb=>?_) (λh' tk hk=>fin _ h' tk hk)
  simp![AS,CF,or_false]at hb
  rw[Db]
  rcases hb with rfl | rfl
  ·exact FI _
  ·exact EB (AM hg)
 ·obtain⟨its,hv,ht,hz⟩:=I.tuple hq
  have hit:s.heap.IsTuple a its.toArray:=ht
  refine FW hit ?_
  obtain⟨o,ho,_⟩:=id hit
  have hne:a≠s.heap.objs.size:=AR (AM ho)
  have W:=Walks.tuple (prog:=X.prog) (w:=X.w) (A:=A) hh s.heap.objs.size a hne its.toArray
  simp![AG,HP]at W
  refine h s.heap.objs.size _ its _ _ hv W ⟨⟨_,AQ _ rfl,rfl,rfl⟩,hit.at λo e=>AB _ e⟩ (λb hb=>?_) (λh' tk hk=>fin _ h' tk hk)
  simp![AS,CF,or_false]at hb
  rw[Db]
  rcases hb with rfl | rfl
  ·exact FI _
  ·exact EB (AM ho)
theorem rb(ns:List Int):∀k,k<=ns.length->preSum (λi=>ns.getD i 0) k=(ns.take k).sum
 |0,_=>by simp[preSum]
 |k+1,h=>by
  rw[preSum,rb ns k (by lia),List.take_succ,List.sum_append,BB,AD (by lia)]
  simp
theorem bt_sum{m:Mk}(hc:X.calm=true):gr X (.builtin "sum") (yh X.K (btD .sum m)):=by
 intro pins s σ H xs us Q I r ⟨ι,ds,μ,hS,hds,h⟩
 obtain⟨d,v,rfl,hv,h⟩:=j8 hds h
 obtain⟨a,ns,rfl,hq,h⟩:=Gw hS hv h
 obtain⟨u,rfl,ru⟩:=vals1 r
 cases(show u=Value.ref a from ru)
 refine call_sum_walkG (C6 I hq (show X.A.in1.handled=none from I.ok.hd hc) λit fp its St s2 hvs W st hfp hI=>?_)
 have hl:ns.length=its.length:=by have:=hvs.length;simpa using this
 refine⟨it,fp,[it],its.length,_,St,λi=>ns.getD i 0,rfl,W,st,hfp,λi w e=>?_,λh' tk t' hk=>?_⟩
 ·have hi:i<ns.length:=by rw[hl];exact(AK.mp e).1
  obtain⟨u',e1,⟨t,e2⟩⟩:=hvs.get (i:=i) (x:=.int ns[i]) (by simp[AD hi])
  rw[e]at e1;cases e1
  exact⟨t,by rw[e2];simp[BB,AD hi]⟩
 ·refine⟨.int ns.sum,H,hI h' tk hk,⟨t',?_⟩,h.ok hS (by simp[IsD])⟩
  rw[<-hl,rb ns ns.length (AH _),List.take_length]
end
theorem uk {prog:Program} {w:World} {A:Around} {E:Value->Shared->Prop} {s:Shared} {t sl:Addr} {items:Array Value} {vl vu:Value} {lo hi:Option Int} {Q:Value->Shared->Prop} (ht:IsTup s.heap t items) (hs:s.heap.IsSliceOf sl vl vu .none) (pl:IsPart vl lo) (pu:IsPart vu hi)
  (hw:HT.sIx items.size 0 lo=0/\HT.sIx items.size items.size hi=items.size) (h:Q (.ref t) s):wpAny (model prog w) A (getItem (.ref t) (.ref sl)) Q E s:=by
 obtain⟨os,hos,hcs,hds⟩:=id hs
 have hTs:s.TypeIs (.ref sl) "slice":=⟨os,hos,hcs⟩
 unfold getItem
 try with_reducible refine BS ?_
 first | refine AA (AC ?_) | skip
 refine AA (wpAny_sequenceKey ht.typeIs (by decide) ?_)
 refine AA (CC (name:=Str.ofString "__getitem__") ht.typeIs BO
  (CD BO ht.typeIs entry_tuple_getitem ?_ (args_tuple_getitem _ _)))
 show wpAny _ _ (Builtin.Tuple.tupleItemsOf (.ref t)>>=_) _ _ s
 refine AA (tupleItemsOf_ ht ?_)
 refine AA (EY hTs ?_)
 rw[if_pos (by decide)]
 refine AA (HT.g9 hs pl pu ?_)
 have hyes:(((HT.sIx items.size 0 lo:Nat):Int)==0&&(1:Int)==1&&(HT.sIx items.size items.size hi-HT.sIx items.size 0 lo)==items.size)=true:=by
  rw[hw.1,hw.2];simp
 show wpAny _ _ (if(((HT.sIx items.size 0 lo:Nat):Int)==0&&(1:Int)==1&&(HT.sIx items.size items.size hi-HT.sIx items.size 0 lo)==items.size)=true then _ else _) _ _ s
 rw[if_pos hyes]
 refine AA ?_
 unfold Builtin.Tuple.tupleIsExact
 refine AA (EY ht.typeIs (AC ?_))
 rw[if_pos (by decide)]
 exact AA (wpAny_rule (AC ⟨_,rfl,AC h⟩))
section
variable{X:Cx}{φ:Phi}{pins:List (Addr × Obj)}{σ:St}{H:Hp}{s:Shared}
theorem Of{m:Mk}:SlR X (λx lo hi H Q=>∃ι d μ,Sim X.K ι H μ/\IsD X.K ι H d x/\dj X.K (RD X.K) ι H (slD m d lo hi μ) Q):=by
 intro pins s σ H x v vl vu lo hi sl Q I rx hs pl pu ⟨ι,d,μ,hS,hd,h⟩
 unfold slD at h
 split at h
 ·rename_i ds
  obtain⟨a,xs,rfl,hq,hxs⟩:=dq hd
  by_cases hw:HT.sIx xs.length 0 lo=0/\HT.sIx xs.length xs.length hi=xs.length
  ·cases(show v=Value.ref a from rx)
   obtain⟨its,r,ht,hz⟩:=I.tuple hq
   have hlen:its.toArray.size=xs.length:=by rw[AG];exact r.length.symm
   refine⟨"tuple",_,BO.lookup,ht.typeIs,uk ht hs pl pu (by rw[hlen];exact hw) ⟨.ref a,H,I,rfl,h.ok hS ?_⟩⟩
   have e1:∀n d o,Lp.sIx n d o=HT.sIx n d o:=λn d o=>by cases o<;>rfl
   have ec:cut ds lo hi=ds:=by
    unfold cut
    rw[e1,e1,<-hxs.length,hw.1,hw.2]
    simp[hxs.length]
   rw[ec]
   exact hd
  ·exact Jh pins s σ H _ v vl vu lo hi sl Q I rx hs pl pu ⟨a,xs,rfl,hq,hw,λp hp=>oi hS (En hxs lo hi) h hp⟩
 ·split at h
  ·rename_i es
   obtain⟨a,xs,rfl,ha,hxs⟩:=gc hS hd es
   exact SlR.fq F2 pins s σ H _ v vl vu lo hi sl Q I rx hs pl pu ⟨a,xs,rfl,ha.sq,λp hp=>j5 hS (En hxs lo hi) h hp⟩
  ·exact h.elim
theorem PO.imp{e:Option Expr}{t t':TO}(h:PO X e t)(i:∀σ H Q,t' σ H Q->t σ H Q):PO X e t':=by
 intro pins s σ H Q I q
 exact h pins s σ H Q I (i _ _ _ q)
theorem Tt{e:Expr}{x:Ex}(he:PE X e (tE X.K φ x)):PO X (some e) (tEo X.K φ (.so x)):=PO.imp (Fy he) λσv H Q ⟨ι,σ,μ,hS,hL,h⟩=>by
 simp![evO]at h
 obtain⟨d,μ1,e1,h⟩:=h.bind
 refine⟨ι,σ,μ,hS,hL,?_⟩
 rw[e1]
 intro ι1 v H1 p1 x1 s1 d1
 cases d with
 |int i=>exact⟨i,ck d1,h ι1 (some i) H1 p1 x1 s1 rfl⟩
 |_=>exact h.elim
theorem Tu{e:Expr}{lo hi:Option Expr}{x:Ex}{xl xh:ExO}{m:Mk}{p2 pos:Pos}(he:PE X e (tE X.K φ x))(hl:PO X lo (tEo X.K φ xl))(hh:PO X hi (tEo X.K φ xh)):PE X (.Subscript e (.Slice lo hi none p2) pos) (tE X.K φ (.sl m x xl xh)) :=
 PE.imp (Cm Of he hl hh) λσv H Q ⟨ι,σ,μ,hS,hL,h⟩=>by
  simp![evE]at h
  obtain⟨d,μ1,e1,h⟩:=h.bind
  refine⟨ι,σ,μ,hS,hL,?_⟩
  rw[e1]
  intro ι1 v H1 p1 x1 s1 d1
  obtain⟨l,μ2,e2,h⟩:=h.bind
  refine⟨ι1,σ,μ1,s1,hL.mono p1 x1,?_⟩
  rw[e2]
  intro ι2 l' H2 p2 x2 s2 d2
  cases d2
  obtain⟨u,μ3,e3,h⟩:=h.bind
  refine⟨ι2,σ,μ2,s2,(hL.mono p1 x1).mono p2 x2,?_⟩
  rw[e3]
  intro ι3 u' H3 p3 x3 s3 d3
  cases d3
  exact⟨ι3,d,μ3,s3,IsD.mono p3 x3 _ _ (IsD.mono p2 x2 _ _ d1),h.mono ((p1.trans p2).trans p3) ((x1.trans x2).trans x3)⟩
noncomputable def kg:Cl->String
 |.int=>"int"
 |.bool=>"bool"
 |.tuple=>"tuple"
 |.list=>"list"
 |.str=>"str"
 |.own _=>""
noncomputable def ou:String->Cl->Bool
 | "bool",.int=>true
 | "bool",.bool=>true
 | "int",.int=>true
 | "str",.str=>true
 | "tuple",.tuple=>true
 | "list",.list=>true
 |_,_=>false
theorem l0(K:PySem.W.Frag)(t:String)(c:Cl)(hc:∀n,c≠.own n)(ht:t∈["NoneType","bool","int","str","tuple","list"]):PySem.W.kitOne K (.type t) (.type (kg c))=some (ou t c):=by
 simp![AS,CF,or_false]at ht
 rcases ht with rfl | rfl | rfl | rfl | rfl | rfl<;>cases c<;>first | rfl | exact absurd rfl (hc _)
theorem Kz{c:Cl}(hc:∀n,c≠.own n):gr X (.builtin "isinstance") (λxs H Q=>∃ι d μ v,xs=[v,.ty (kg c)]/\Sim X.K ι H μ/\IsD X.K ι H d v/\dj X.K (RD X.K) ι H (Cw c d μ) Q):=by
 intro pins s σ H xs us Q I r ⟨ι,d,μ,v,e,hS,hd,h⟩
 subst e
 obtain⟨u,w,rfl,ru,rw'⟩:=vals2 r
 cases(show w=Value.type (kg c)from rw')
 have key:∀(t:String),t∈["NoneType","bool","int","str","tuple","list"]->(∀tk,EP X pins σ Q (.bool (ou t c)) {s with toks:=tk})->PySem.W.kitOne X.K (.type t) (.type (kg c))=some (ou t c)/\∀tk,EP X pins σ Q (.bool (ou t c)) {s with toks:=tk}:=λt ht hq=>⟨l0 X.K t c hc ht,hq⟩
 have lst:∀a xs,v=.ref a->LsL X.K H a xs->Q (.bl (ou "list" c)) H->wpAny (model X.prog X.w) X.A (call (.builtin "isinstance") [u,.type (kg c)]) (EP X pins σ Q) X.xe s:=λa xs e hq q=>by
  subst e
  cases(show u=Value.ref a from ru)
  obtain⟨z,its,n,hv,_,hg⟩:=I.ls hq
  exact DT PySem.W.kitx_list I.kIn ⟨_,hg,rfl⟩ (l0 X.K "list" c hc (by decide)) (λz=>nomatch z) λtk=>⟨.bl (ou "list" c),H,I.tok tk,rfl,q⟩
 cases d with
 |non =>
  cases(show v=.non by simpa[IsD]using hd)
  cases(show u=Value.none from ru)
  refine DT PySem.W.kitx_none I.kIn True.intro (l0 X.K "NoneType" c hc (by decide)) (λz=>nomatch z) λtk=>⟨.bl (ou "NoneType" c),H,I.tok tk,rfl,?_⟩
  cases c<;>first | exact absurd rfl (hc _) | exact h.ok hS (by simp[IsD,ou])
 |bl b =>
  cases qy hd
  cases(show u=Value.bool b from ru)
  refine DT PySem.W.kitx_bool I.kIn True.intro (l0 X.K "bool" c hc (by decide)) (λz=>nomatch z) λtk=>⟨.bl (ou "bool" c),H,I.tok tk,rfl,?_⟩
  cases c<;>first | exact absurd rfl (hc _) | exact h.ok hS (by simp[IsD,ou])
 |int i =>
  cases ck hd
  obtain⟨t,rfl⟩:=(show ∃t,u=Value.int i t from ru)
  refine DT PySem.W.kitx_int I.kIn True.intro (l0 X.K "int" c hc (by decide)) (λz=>nomatch z) λtk=>⟨.bl (ou "int" c),H,I.tok tk,rfl,?_⟩
  cases c<;>first | exact absurd rfl (hc _) | exact h.ok hS (by simp[IsD,ou])
 |str x =>
  cases(show v=.str x by simpa[IsD]using hd)
  obtain⟨t,rfl⟩:=(show ∃t,u=Value.str x t from ru)
  refine DT PySem.W.kitx_str I.kIn True.intro (l0 X.K "str" c hc (by decide)) (λz=>nomatch z) λtk=>⟨.bl (ou "str" c),H,I.tok tk,rfl,?_⟩
  cases c<;>first | exact absurd rfl (hc _) | exact h.ok hS (by simp[IsD,ou])
 |tup ds =>
  obtain⟨a,xs,rfl,hq,hxs⟩:=dq hd
  cases(show u=Value.ref a from ru)
  obtain⟨its,hv,⟨o,h1,h2,_⟩,hz⟩:=I.tuple hq
  refine DT PySem.W.kitx_tuple I.kIn ⟨o,h1,h2⟩ (l0 X.K "tuple" c hc (by decide)) (λz=>nomatch z) λtk=>⟨.bl (ou "tuple" c),H,I.tok tk,rfl,?_⟩
  cases c<;>first | exact absurd rfl (hc _) | exact h.ok hS (by simp[IsD,ou])
 |lst ds =>
  obtain⟨a,xs,rfl,hq,hxs⟩:∃a xs,v=.ref a/\FzL X.K H a xs/\ag X.K ι H ds xs:=by simpa[IsD]using hd
  refine lst a xs rfl (.inr hq) ?_
  cases c<;>first | exact absurd rfl (hc _) | exact h.ok hS (by simp[IsD,ou])
 |loc n =>
  cases c with
  |list =>
   simp![Cw]at h
   split at h
   ·rename_i ds em
    obtain⟨a,xs,rfl,hq,hxs⟩:=gc (ds:=ds) hS hd (by simp[listOf,em])
    exact lst a xs rfl hq (h.ok hS (by simp[IsD,ou]))
   ·rename_i ds em
    obtain⟨a,xs,rfl,hq,hxs⟩:=gc (ds:=ds) hS hd (by simp[listOf,em])
    exact lst a xs rfl hq (h.ok hS (by simp[IsD,ou]))
   ·exact h.elim
  |own k=>exact absurd rfl (hc k)
  |_=>exact h.elim
theorem Og {a:Expr} {xa:Ex} {c:Cl} {cn:Str} {p cp pos:Pos} (hc:∀n,c≠.own n) (ha:PE X a (tE X.K φ xa)) (hgi:Gl X "isinstance") (hmi:X.mg "isinstance"=none) (hgc:Gl X cn) (hmc:X.mg cn=none) (hbc:bootBuiltins cn=some (.type (kg c)))
  (hn:cn≠"__name__") (hd:(cn==("__debug__":Str))=false) (hs:starEach [a,.Name cn cp] X.env=(false,eval a X.env)::starEach [.Name cn cp] X.env) :
  PE X (.Call (.Name "isinstance" p) [a,.Name cn cp] [] pos) (tE X.K φ (.isi xa c)):=by
 have hb:PE X (.Name cn cp) (tC (.ty (kg c))):=Fm hgc hmc hbc rfl hn hd
 refine PE.imp (je (Kz hc) hgi hmi boot_isinstance (tu ha (tu hb Ef) hs) (by decide) (by decide) hs) λσv H Q ⟨ι,σ,μ,hS,hL,h⟩=>?_
 simp![evE]at h
 obtain⟨d,μ1,e1,h⟩:=h.bind
 refine⟨ι,σ,μ,hS,hL,?_⟩
 rw[e1]
 exact λι1 v H1 p1 x1 s1 d1=>⟨ι1,d,μ1,v,rfl,s1,d1,h.mono p1 x1⟩
theorem Er{K:PySem.W.Frag}{ι:List Addr}{μ:Sto}{n:Nat}{v:V}{ob:O}{xs:List D}(hS:Sim K ι H μ)(hd:IsD K ι H (.loc n) v)(e:μ[n]? = some ob)(hi:gh ob=some xs) :
  ∃a vs,v=.ref a/\ι[n]? = some a/\H a=some (.lst vs)/\ag K ι H xs vs/\(∀ds,ob=.l ds->ag K [] H xs vs):=by
 obtain⟨a,rfl,ha⟩:∃a,v=.ref a/\ι[n]? = some a:=by simpa[IsD]using hd
 obtain⟨a',ea,ho⟩:=hS.at e
 rw[ha]at ea;cases ea
 cases ob with
 |l ds =>
  cases hi
  obtain⟨vs,e1,e2⟩:=ho
  exact⟨a,vs,rfl,ha,e1,ag.mono (CO) (.refl _) _ _ e2,λ_ _=>e2⟩
 |r ds =>
  cases hi
  obtain⟨vs,e1,e2⟩:=ho
  exact⟨a,vs,rfl,ha,e1,e2,λ_ z=>by cases z⟩
 |d _=>cases hi
 |dt _=>cases hi
 |x _=>cases hi
 |o _ _=>cases hi
 |dr _=>cases hi
 |fd _=>cases hi
 |dead=>cases hi
theorem ow {K:PySem.W.Frag} {ι:List Addr} {μ:Sto} {n:Nat} {ob:O} {ys:List D} {vs ws:List V} {d:D} {v:V} {a:Addr} {Q:VK} (hS:Sim K ι H μ) (ha:ι[n]? = some a) (hH:H a=some (.lst vs))
  (hw:ag K ι H ys ws) (hw0:∀ds,ob=.l ds->ag K [] H ys ws) (hd:IsD K ι H d v) (h:dj K (RD K) ι H (putL n ob ys d μ) Q):Q v (upd H a (.lst ws)):=by
 cases ob with
 |l ds =>
  exact h ι v _ (AE _) (.lst hH) (hS.put ha (.lst hH) ⟨ws,ak,ag.mono (AE _) (.lst hH) _ _ (hw0 ds rfl)⟩) (IsD.mono (AE _) (.lst hH) _ _ hd)
 |r ds =>
  exact h ι v _ (AE _) (.lst hH) (hS.put ha (.lst hH) ⟨ws,ak,ag.mono (AE _) (.lst hH) _ _ hw⟩) (IsD.mono (AE _) (.lst hH) _ _ hd)
 |d _=>exact h.elim
 |dt _=>exact h.elim
 |x _=>exact h.elim
 |o _ _=>exact h.elim
 |dr _=>exact h.elim
 |fd _=>exact h.elim
 |dead=>exact h.elim
theorem rf{K:PySem.W.Frag}{ι:List Addr}{ob:O}{d:D}{v:V}(hf:fits ob d=true)(hd:IsD K ι H d v):∀ds,ob=.l ds->IsD K [] H d v:=λds e=>by
 subst e
 exact IsD.pur hf hd
noncomputable def rMt(K:PySem.W.Frag)(mt:Mt):V->List V->Hp->VK->Prop:=λx vs H Q=>∃ι d ds μ,Sim K ι H μ/\IsD K ι H d x/\ag K ι H ds vs/\dj K (RD K) ι H (mtD mt d ds μ) Q
theorem K0{mt:Mt}(hne:mt≠.count/\mt≠.countL/\mt≠.get){x:V}{vs:List V}{Q:VK}(h:rMt X.K mt x vs H Q):∃ι n ob xs ds μ a ws,Sim X.K ι H μ/\ag X.K ι H ds vs/\x=.ref a/\ι[n]? = some a/\H a=some (.lst ws)/\ag X.K ι H xs ws /\
  (∀es,ob=.l es->ag X.K [] H xs ws)/\dj X.K (RD X.K) ι H (mtL mt n ob xs ds μ) Q:=by
 obtain⟨ι,d,ds,μ,hS,hd,hds,h⟩:=h
 have e0:mtD mt d ds μ=yc mt d ds μ:=by
  cases mt<;>first | exact absurd rfl hne.1 | exact absurd rfl hne.2.1 | exact absurd rfl hne.2.2 | rfl
 rw[e0]at h
 cases d with
 |loc n =>
  simp![yc]at h
  cases em:μ[n]? with
  |none=>rw[em]at h;exact h.elim
  |some ob =>
   rw[em]at h
   simp only at h
   cases ei:gh ob with
   |none=>rw[ei]at h;exact h.elim
   |some xs =>
    rw[ei]at h
    obtain⟨a,ws,ex,ha,hH,h1,h2⟩:=Er hS hd em ei
    exact⟨ι,n,ob,xs,ds,μ,a,ws,hS,hds,ex,ha,hH,h1,h2,h⟩
 |_=>exact h.elim
theorem C7:MtR X "list.append" (rMt X.K .append):=MtR.imp zw λx vs H Q h0=>by
 obtain⟨ι,n,ob,xs,ds,μ,a,ws,hS,hds,rfl,ha,hH,h1,h2,h⟩:=K0 (by decide) h0
 clear h0
 simp![mtL]at h
 obtain⟨d,v,rfl,hv,h⟩:=j8 hds h
 split at h
 ·rename_i hf
  rw[du]at hf
  refine⟨a,ws,v,rfl,rfl,hH,by rw[h1.length];exact hf.2,ow hS ha hH (h1.append (.one hv)) (λes e=>(h2 es e).append (.one (rf hf.1 hv es e))) (by simp[IsD]) h⟩
 ·exact h.elim
theorem C8:MtR X "list.extend" (rMt X.K .extend):=by
 intro pins s σ H x vs v us Q I rx rv h0
 obtain⟨ι,n,ob,xs,ds,μ,a,ws,hS,hds,rfl,ha,hH,h1,h2,h⟩:=K0 (by decide) h0
 clear h0
 simp![mtL]at h
 obtain⟨d,w0,rfl,hv,h⟩:=j8 hds h
 split at h
 ·rename_i ys ey
  split at h
  ·rename_i hf
   rw[du]at hf
   obtain⟨b,zs,rfl,hb,hzs⟩:=gc hS hv ey
   cases(show v=Value.ref a from rx)
   obtain⟨u,rfl,ru⟩:=rv.one
   cases(show u=Value.ref b from ru)
   obtain⟨z,its,n1,r,hl,e⟩:=I.lstM hH
   obtain⟨z2,its2,n2,r2,hl2,e2⟩:=I.ls hb
   have l1:=h1.length
   have l2:=hzs.length
   have hsz:its.toArray.size+its2.toArray.size<=sizeLine:=by rw[AG,AG];lia
   have hlong:¬(!its.toArray.isEmpty&&Builtin.List.listTooLong (its.toArray.size+its2.toArray.size))=true:=by
    rw[vi hsz,HW]
    exact AV
   refine GZ F.slot_list_extend ⟨_,e,rfl⟩ F.entry_list_extend (F.args_list_extend_2 _ _)
    (AutoSeq1.list_extend_list_list_0 a its.toArray n1 b its2.toArray n2 hlong (by rw[AG];lia) (by lia)) ⟨e,e2,?_⟩
   refine⟨.non,_,I.lset (its':=its++its2) hH e (by simp) (r.append r2) ?_,rfl,ow hS ha hH (h1.append hzs) (λes ee=>(h2 es ee).append ?_) (by simp[IsD]) h⟩
   ·rw[AX]
    lia
   ·subst ee
    exact ag.pur (by simpa[fits]using hf.1) hzs
  ·exact h.elim
 ·exact h.elim
end
theorem IsD.belowN{K:PySem.W.Frag}{ι ι':List Addr}{H:Hp}(hp:ι <+: ι'):∀(k:Nat) (d:D) (v:V),D.belowN ι.length k d=true->IsD K ι' H d v->IsD K ι H d v:=by
 have list:∀(k:Nat),(∀(d:D) (v:V),D.belowN ι.length k d=true->IsD K ι' H d v->IsD K ι H d v) ->
   ∀(ds:List D) (xs:List V),ds.all (D.belowN ι.length k)=true->ag K ι' H ds xs->ag K ι H ds xs:=by
  intro k ih ds
  induction ds with
  |nil=>intro xs _ h;simpa[ag]using h
  |cons d ds ihd =>
   intro xs hp h
   simp![ag]at h ⊢
   simp![BI,AT]at hp
   obtain⟨v,r,e,q,t⟩:=h
   exact⟨v,r,e,ih d v hp.1 q,ihd r hp.2 t⟩
 have loc:∀(n:Nat) (v:V),n<ι.length->IsD K ι' H (.loc n) v->IsD K ι H (.loc n) v:=λn v hn h=>by
  simp![IsD]at h ⊢
  obtain⟨a,e,q⟩:=h
  obtain⟨t,rfl⟩:=hp
  rw[AW hn]at q
  exact⟨a,e,q⟩
 intro k
 induction k with
 |zero =>
  intro d v hb h
  cases d with
  |loc n=>exact loc n v (by simpa[D.belowN]using hb) h
  |tup ds=>simp[D.belowN]at hb
  |lst ds=>simp[D.belowN]at hb
  |_=>simpa[IsD]using h
 |succ k ih =>
  intro d v hb h
  cases d with
  |tup ds =>
   simp![D.belowN]at hb
   simp![IsD]at h ⊢
   obtain⟨a,xs,e,q,r⟩:=h
   exact⟨a,xs,e,q,list k ih ds xs hb r⟩
  |lst ds =>
   simp![D.belowN]at hb
   simp![IsD]at h ⊢
   obtain⟨a,xs,e,q,r⟩:=h
   exact⟨a,xs,e,q,list k ih ds xs hb r⟩
  |loc n=>exact loc n v (by simpa[D.belowN]using hb) h
  |_=>simpa[IsD]using h
theorem ag.belowN{K:PySem.W.Frag}{ι ι':List Addr}{H:Hp}(hp:ι <+: ι'){k:Nat}:∀(ds:List D) (xs:List V),ds.all (D.belowN ι.length k)=true->ag K ι' H ds xs->ag K ι H ds xs
 | [],xs,_,h=>by simpa[ag]using h
 |d::ds,xs,hb,h=>by
  simp![ag]at h ⊢
  simp![BI,AT]at hb
  obtain⟨v,r,e,q,t⟩:=h
  exact⟨v,r,e,IsD.belowN hp k d v hb.1 q,ag.belowN hp ds r hb.2 t⟩
theorem Ao{K:PySem.W.Frag}{ι ι':List Addr}{H:Hp}(hp:ι <+: ι'):∀{fs:List (Str×D)} {xs:List (Str×V)},(fs.all λp=>D.belowN ι.length 8 p.2)=true->FsD K ι' H fs xs->FsD K ι H fs xs
 |_,_,_,.nil=>.nil
 |(f,d)::r,(g,v)::q,h,.cons z t=>by
  simp![BI,AT]at h
  exact .cons ⟨z.1,IsD.belowN hp 8 d v h.1 z.2⟩ (Ao hp h.2 t)
theorem Ap{K:PySem.W.Frag}{ι ι':List Addr}{H:Hp}(hp:ι <+: ι'):∀{fs:List (D×D)} {xs:List (Key×V)},(fs.all λp=>D.belowN ι.length 8 p.2)=true->ue K ι' H fs xs->ue K ι H fs xs
 |_,_,_,.nil=>.nil
 |(f,d)::r,(g,v)::q,h,.cons z t=>by
  simp![BI,AT]at h
  exact .cons ⟨z.1,IsD.belowN hp 8 d v h.1 z.2⟩ (Ap hp h.2 t)
theorem Sim.cut{K:PySem.W.Frag}{ι ι':List Addr}{H:Hp}{μ:Sto}(h:Sim K ι' H μ)(hp:ι <+: ι')(hc:(μ.take ι.length).all (di ι.length)=true):Sim K ι H (μ.take ι.length):=by
 have hl:ι.length<=μ.length:=by rw[<-h.len];exact hp.length_le
 refine⟨by rw[DK];lia,hp.sublist.nodup h.nd,λn a o e1 e2=>?_⟩
 have hn:n<ι.length:=(AK.mp e1).1
 have e1':ι'[n]? = some a:=by
  obtain⟨t,rfl⟩:=hp
  rw[AW hn];exact e1
 have e2':μ[n]? = some o:=by
  rw[GM hn]at e2;exact e2
 have q:=h.obj n a o e1' e2'
 have c:di ι.length o=true:=AY.mp hc o (EC e2)
 cases o with
 |l ds=>exact q
 |r ds =>
  obtain⟨xs,e,r⟩:=q
  exact⟨xs,e,ag.belowN hp ds xs c r⟩
 |d kvs=>exact q
 |dt kvs=>exact q
 |x c=>exact q
 |o c' fs =>
  obtain⟨C,dx,xs,n,e,r⟩:=q
  exact⟨C,dx,xs,n,e,Ao hp c r⟩
 |dr kvs =>
  obtain⟨xs,e,r⟩:=q
  exact⟨xs,e,Ap hp c r⟩
 |fd kvs=>exact q
 |dead=>exact q
theorem Aq{K:PySem.W.Frag}{ι:List Addr}{H:Hp}{μ:Sto}{keep:Bool}{r:Res D}{Q:VK}(hS:Sim K ι H μ)(h:dj K (RD K) ι H (j4 keep μ.length r) Q):dj K (RD K) ι H r Q:=by
 cases r with
 |exc c ds μ'=>exact h
 |stuck=>exact h
 |ok d μ' =>
  cases keep with
  |true=>simpa[j4]using h
  |false =>
   simp![j4,AF,if_false]at h
   split at h
   ·rename_i hc
    rw[<-hS.len]at hc h
    exact λι' v H' p e s q=>h ι v H' (AE _) e (s.cut p hc.2) (IsD.belowN p 8 d v hc.1 q)
   ·exact h.elim
noncomputable def spD(K:PySem.W.Frag)(φ:Phi)(f:Nat):Sp:=λvs H Q _=>∃ι ds μ,Sim K ι H μ/\ag K ι H ds vs/\dj K (RD K) ι H (φ f ds μ) Q
noncomputable def Callee(P:Program)(w:World)(K:PySem.W.Frag)(mg:Str->Option Value)(base:Heap)(A:Around)(φ:Phi)(f:Nat)(x:Str):Prop :=
 ∃(k:Nat) (fa:Addr) (fd:FuncData) (ps:List Str),FnOk P w K mg base CX0 k fa fd ps (spD K φ f)/\zk k A/\mg x=some (.ref fa)/\PySem.W.keepIn K (.ref fa)=true/\Binds K fd ps []
section
variable{X:Cx}{φ:Phi}{x:Str}{p pos:Pos}{e:Expr}{es:List Expr}{xs:Exs}{f:Nat}{keep:Bool}
theorem s_call (C:Callee X.prog X.w X.K X.mg X.base X.A φ f x) (hg:Gl X x) (ha:PA X (e::es) (tEs X.K φ xs)) (hdb:(x==("__debug__":Str))=false)
  (he:starEach (e::es) X.env=(false,eval e X.env)::starEach es X.env) (hpl:(backTo pos (starEach es X.env)).any (·.1)=false):PE X (.Call (.Name x p) (e::es) [] pos) (tE X.K φ (.call keep f xs)):=by
 obtain⟨k,fa,fd,ps,F,hr,hm,hk,hb⟩:=C
 refine PE.imp (Fw F hr.1 hg hm hk hb .nil Nl ha hdb he hpl) λσv H Q ⟨ι,σ,μ,hS,hL,h⟩=>?_
 simp![evE]at h
 obtain⟨ds,μ1,e1,h⟩:=h.bind
 refine⟨ι,σ,μ,hS,hL,?_⟩
 rw[e1]
 intro ι1 vs H1 p1 x1 s1 d1
 exact⟨ι1,ds,μ1,s1,by rw[HG];exact d1,Aq s1 (h.mono p1 x1)⟩
end
theorem Gx {P:Program} {w:World} {K:PySem.W.Frag} {mg:Str->Option Value} {base:Heap} {x qual:Str} {st:Stmt} {fa:Addr} {fd:FuncData} {N ps:List Str} {n f:Nat} {T:List Df} {df:Df} (F:Fun K x qual st fa fd) (S:FnScope N ps (av st))
  (hd:T[f]? = some df) (hnp:df.np=ps.length) (hnn:df.nn=N.length)
  (hb:∀(cdv:Value) (A:Around) (outer:List Env) (s:Shared) (H:Hp) (E:XK),zk n (A.deeper (envOfC qual (av st) s.heap.objs.size fa cdv)) ->
   PSs (Ci CX0 P w K mg base N qual (av st) fa cdv A outer s H E).nox (gv st) (tSs K (ao T n) df.body)):FnOk P w K mg base CX0 (n+1) fa fd ps (spD K (ao T (n+1)) f):=by
 have len:∀{vs:List V} {H:Hp} {ds:List D} {ι:List Addr} {μ:Sto} {Q:VK},ag K ι H ds vs->dj K (RD K) ι H (ao T (n+1) f ds μ) Q->ds.length=df.np:=λ{vs H ds ι μ Q} hds h=>by
  simp![ao,hd,Hy]at h
  split at h
  ·assumption
  ·exact h.elim
 refine F.ok S (λvs H Q E ⟨ι,ds,μ,hS,hds,h⟩=>?_) λcdv A outer s H vs Q E hr ⟨ι,ds,μ,hS,hds,h⟩=>⟨_,hb cdv A outer s H E hr,?_⟩
 ·rw[hds.length,len hds h,hnp]
 ·have hl:=len hds h
  refine⟨ι,ds.map some++List.replicate (df.nn-df.np) none,μ,hS,λi d e=>?_,?_,?_⟩
  ·by_cases hi:i<ds.length
   ·rw[AW (by simpa using hi),BL]at e
    cases ed:ds[i]? with
    |none=>rw[ed]at e;cases e
    |some d' =>
     rw[ed]at e
     simp![HJ,CJ]at e
     subst e
     obtain⟨v,ev,hv⟩:=hds.get ed
     refine⟨v,?_,hv⟩
     unfold L2.start
     rw[AW (by rw[AJ,hds.length];exact hi),BL,ev]
     rfl
   ·rw[CI (by simpa using hi),CN]at e
    split at e<;>cases e
  ·unfold L2.start
   simp![AX,AJ,HN,hds.length]
   lia
  ·simp![ao,hd,Hy,if_pos hl]at h
   cases er:ji (ao T n) df.body (ds.map some++List.replicate (df.nn-df.np) none) μ with
   |exc c es μ'=>rw[er]at h;exact h.elim
   |stuck=>rw[er]at h;exact h.elim
   |ok fl μ' =>
    rw[er]at h
    simp![Res.bg]at h
    cases fl with
    |nx σ'=>exact λι' σv H' p e s' l z=>h ι' .non H' p e s' (by simp[IsD])
    |rt d=>exact λι' v H' p e s' q=>h ι' v H' p e s' q
    |bk σ'=>exact h.elim
    |ct σ'=>exact h.elim
theorem Gy{P:Program}{w:World}{K:PySem.W.Frag}{mg:Str->Option Value}{base:Heap}{fa:Addr}{fd:FuncData}{ps:List Str}{f:Nat}{T:List Df}:FnOk P w K mg base CX0 0 fa fd ps (spD K (ao T 0) f) :=
 ⟨λvs H Q E ⟨ι,ds,μ,hS,hds,h⟩=>h.elim,λA outer s H args us vs Q E hr he hb hv ⟨ι,ds,μ,hS,hds,h⟩=>h.elim⟩
structure Ent where
 id:Nat
 name:Str
 st:Stmt
 N:List Str
 ps:List Str
 df:Df
structure ModOf (K:PySem.W.Frag) (mg:Str->Option Value) (e:Ent):Prop where
 ex:∃(fa:Addr) (fd:FuncData),mg e.name=some (.ref fa)/\Fun K e.name e.name e.st fa fd/\∀us:List Value,us.length=e.ps.length->bindArgs fd ⟨us,[]⟩=pure (e.ps.zip us)
theorem fc {K:PySem.W.Frag} {h:Heap} {mg:Str->Option Value} {e:Ent} {f:Addr} {oc:Value} {od an:Option Addr} {sl:Array (Option Value)} {kV dc pm cd ct:Value} (X:K.In h) (G:h.Ns mainGlobals mg) (a:PySem.W.nsIn K mainGlobals e.name=some (some (.ref f)))
  (l:K.lookup f=some ⟨oc,od,.func (PySem.W.fnOf e.name e.name (ll e.st) (gv e.st) (av e.st) .none kV dc pm an cd ct),sl⟩) (c:PySem.W.codeIn K cd e.name=true) (k:PySem.W.keepIn K (.ref f)=true)
  (hb:∀(kV doc pm:Value) (an:Option Addr) (cdv ct:Value) (us:List Value),us.length=e.ps.length->bindArgs (PySem.W.fnOf e.name e.name (ll e.st) (gv e.st) (av e.st) .none kV doc pm an cdv ct) ⟨us,[]⟩=pure (e.ps.zip us)):ModOf K mg e :=
 ⟨f,_,PySem.W.mg_of X G a,Jt l c k,hb kV dc pm an cd ct⟩
structure Derived (T:List Df) (P:Program) (w:World) (K:PySem.W.Frag) (mg:Str->Option Value) (base:Heap) (es:List Ent) (e:Ent):Prop where
 sc:FnScope e.N e.ps (av e.st)
 tb:T[e.id]? = some e.df
 np:e.df.np=e.ps.length
 nn:e.df.nn=e.N.length
 dv:∀(n:Nat) (fa:Addr) (cdv:Value) (A:Around) (outer:List Env) (s:Shared) (H:Hp) (E:XK),(A.deeper (envOfC e.name (av e.st) s.heap.objs.size fa cdv)).units+64<cLine ->
  (∀(j:Nat) e',es[j]? = some e'->Callee P w K mg base (A.deeper (envOfC e.name (av e.st) s.heap.objs.size fa cdv)) (ao T n) e'.id e'.name) ->
  PSs (Ci CX0 P w K mg base e.N e.name (av e.st) fa cdv A outer s H E).nox (gv e.st) (tSs K (ao T n) e.df.body)
theorem Es{T:List Df}{P:Program}{w:World}{K:PySem.W.Frag}{mg:Str->Option Value}{base:Heap}{es:List Ent}(M:∀(j:Nat) e,es[j]? = some e->ModOf K mg e)(Dv:∀(j:Nat) e,es[j]? = some e->Derived T P w K mg base es e) :
  ∀(n:Nat) (j:Nat) e,es[j]? = some e->∀(fa:Addr) (fd:FuncData),mg e.name=some (.ref fa)->Fun K e.name e.name e.st fa fd->FnOk P w K mg base CX0 n fa fd e.ps (spD K (ao T n) e.id)
 |0,j,e,_,fa,fd,_,_=>Gy
 |n+1,j,e,he,fa,fd,hm,hF=>by
  have d:=Dv j e he
  refine Gx hF d.sc d.tb d.np d.nn λcdv A outer s H E hr=>d.dv n fa cdv A outer s H E hr.1.units λi e' he'=>?_
  obtain⟨fa',fd',hm',hF',hb'⟩:=(M i e' he').ex
  exact⟨n,fa',fd',e'.ps,Es M Dv n i e' he' fa' fd' hm' hF',hr,hm',hF'.kp,.all hb'⟩
noncomputable def C9(K:PySem.W.Frag):Sp:=λvs H Q _=>∃(a:Addr) (ns:List Int),vs=[.ref a]/\FzL K H a (ns.map V.int)/\ns.length<=63/\∀H',Q (.bl true) H'
theorem K1 {T:List Df} {P:Program} {w:World} {K:PySem.W.Frag} {mg:Str->Option Value} {base:Heap} {es:List Ent} {n j:Nat} {e:Ent} {fa:Addr} {fd:FuncData} (M:∀(j:Nat) e,es[j]? = some e->ModOf K mg e) (Dv:∀(j:Nat) e,es[j]? = some e->Derived T P w K mg base es e)
  (he:es[j]? = some e) (hm:mg e.name=some (.ref fa)) (hF:Fun K e.name e.name e.st fa fd) (hps:e.ps.length=1)
  (hlaw:∀ns:List Int,ns.length<=63->∃μ',ao T n e.id [.lst (ns.map D.int)] []=.ok (.bl true) μ'):FnOk P w K mg base CX0 n fa fd e.ps (C9 K):=by
 refine(Es M Dv n j e he fa fd hm hF).imp λvs H Q E ⟨a,ns,ev,hS,hl,q⟩=>?_
 subst ev
 obtain⟨μ',el⟩:=hlaw ns hl
 refine⟨[],[.lst (ns.map D.int)],[],⟨rfl,List.nodup_nil,λn a o e1 e2=>by simp at e1⟩,?_,?_⟩
 ·simp![ag,IsD]
  exact⟨.ref a,[],rfl,⟨a,_,rfl,hS,ag.ints ns⟩,rfl⟩
 ·rw[el]
  intro ι' v H' p x s' d
  have ev:v=.bl true:=by simpa[IsD]using d
  subst ev
  exact q H'
theorem Gz {T:List Df} {P:Program} {w:World} {K:PySem.W.Frag} {mg:Str->Option Value} {es:List Ent} {n j:Nat} {e:Ent} {fa:Addr} (M:∀(j:Nat) e,es[j]? = some e->ModOf K mg e) (Dv:∀(base:Heap) (j:Nat) e,es[j]? = some e->Derived T P w K mg base es e)
  (he:es[j]? = some e) (hfa:mg e.name=some (.ref fa)) (hps:e.ps=[("script":Str)])
  (hlaw:∀ns:List Int,ns.length<=63->∃μ',ao T n e.id [.lst (ns.map D.int)] []=.ok (.bl true) μ') :
  ∃fd:FuncData,(∀(s:Shared) (v:Value),BindsTo s fd ⟨[v],[]⟩ [("script",v)])/\∀base:Heap,K.In base->base.Ns mainGlobals mg->FnOk P w K mg base CX0 n fa fd ["script"] (C9 K):=by
 obtain⟨fa',fd,hm,hF,hb⟩:=(M j e he).ex
 have z:=hfa.symm.trans hm
 cases z
 rw[hps]at hb
 refine⟨fd,λs v=>.of_eq (hb [v] rfl),λbase _ _=>?_⟩
 have q:=K1 M (Dv base) he hm hF (by rw[hps];rfl) hlaw
 rw[hps]at q
 exact q
theorem Dc {l:PySem.W.OpenLaw} {n:Nat} {q:Program} {loose:List Str} {XP:(Str->Option Value)->Heap->Prop} {YP:World->Heap->Prop} {d:DefRec} {K:Params->PySem.W.Frag} (hr:Room n callerA) (hn:l.most=some 63) (hdf:d.params.defaults=[])
  (hY:∀(w:World) (h:Heap),YP w h->(K w.params).In h)
  (F:∀(w:World) (mg:Str->Option Value) (fa:Addr) (h:Heap),(K w.params).In h->h.Ns mainGlobals mg->mg d.name=some (.ref fa) ->
   ∃fd:FuncData,(∀(s:Shared) (u:Value),BindsTo s fd ⟨[u],[]⟩ [("script",u)])/\∀base:Heap,(K w.params).In base->base.Ns mainGlobals mg->FnOk l.prog w (K w.params) mg base CX0 n fa fd ["script"] (C9 (K w.params))) :
  PySem.W.WalkO q loose XP YP l.row.toRowW d [] (λf vs=>PySem.call f vs) :=
 L2.F5 (n:=63) (k:=n) (x:="script") (CX:=λ_=>CX0) (sp:=λw=>C9 (K w.params)) hn (by decide) hdf hr hY F (λ_ _ a ns hl _ hS=>⟨a,ns,rfl,hS,hl,λ_=>rfl⟩) λ_ _ _ _ _ z=>z
noncomputable def Exs.len:Exs->Nat
 |.nil=>0
 |.cons _ r=>r.len+1
theorem jl{φ:Phi}:∀{xs:Exs} {σ:Sl} {μ:Sto} {ds:List D} {μ':Sto},c5 φ xs σ μ=.ok ds μ'->ds.length=xs.len
 |.nil,σ,μ,ds,μ',h=>by
  simp![c5]at h
  cases h;rfl
 |.cons e r,σ,μ,ds,μ',h=>by
  simp![c5]at h
  cases e1:evE φ e σ μ with
  |exc _ _ _=>rw[e1]at h;cases h
  |stuck=>rw[e1]at h;cases h
  |ok d μ1 =>
   rw[e1]at h
   simp![Res.bg]at h
   cases e2:c5 φ r σ μ1 with
   |exc _ _ _=>rw[e2]at h;cases h
   |stuck=>rw[e2]at h;cases h
   |ok es μ2 =>
    rw[e2]at h
    cases h
    simp[Exs.len,jl e2]
noncomputable def vq(sc scope:Scope)(N Nb:List Str)(cap:List Nat)(nl:Nat):Bool :=
 decide (scope.kind=.function)&&scope.names.all (λy=>decide (scope.names.lookup y.1=some y.2)
  && (!decide (y.2=.free) || decide (sc.names.lookup y.1=some .cell) || decide (sc.names.lookup y.1=some .free)))
 && decide Nb.Nodup&&decide (Nb.length=cap.length+nl)
 && (List.range cap.length).all (λj=>match cap[j]?,Nb[j]? with
  |some i,some x=>decide (N[i]? = some x)&&scope.names.any λy=>decide (y.1=x)&&decide (y.2=.free)
  |_,_=>false)
theorem lookup_mem{l:List (Str×NameKind)}{n:Str}{k:NameKind}(h:l.lookup n=some k):(n,k)∈l:=by
 induction l with
 |nil=>cases h
 |cons a r ih =>
  obtain⟨m,j⟩:=a
  rw[DM]at h
  cases hb:n==m with
  |true =>
   rw[hb]at h
   cases h
   have:n=m:=by simpa using hb
   subst this
   exact AN
  |false =>
   rw[hb]at h
   exact AI _ (ih h)
theorem l4{scope:Scope}{env:Env}{n:Str}{k:NameKind}(h:(n,k)∈(relabel scope env).names):(n,k)∈scope.names\/(k=.cell/\(n,NameKind.free)∈scope.names):=by
 have h2:(n,k)∈scope.names.map (fun(n,k)=>if(k==NameKind.free&&env.scope.kind==.function&&env.kindOf n==some .cell)then(n,NameKind.cell)else(n,k)):=h
 obtain⟨⟨m,j⟩,hm,e⟩:=BY.mp h2
 dsimp only at e
 split at e
 ·rename_i hc
  cases e
  simp![AT,beq_iff_eq]at hc
  obtain⟨⟨rfl,_⟩,_⟩:=hc
  exact .inr ⟨rfl,hm⟩
 ·cases e
  exact .inl hm
theorem nk{sc scope:Scope}{N Nb:List Str}{cap:List Nat}{nl:Nat}(h:vq sc scope N Nb cap nl=true):CompScope sc scope N Nb cap nl:=by
 simp![vq,AT,AY,decide_eq_true_eq,Bool.or_eq_true,Bool.not_eq_true',decide_eq_false_iff_not]at h
 obtain⟨⟨⟨⟨h1,h2⟩,h3⟩,h4⟩,h5⟩:=h
 refine⟨h1,λy hy=>(h2 y hy).1,λn hn=>?_,λn hn=>?_,h3,h4,λj i e=>?_⟩
 ·rcases(h2 (n,.free) hn).2 with(z | z) | z
  ·exact absurd rfl z
  ·exact .inl z
  ·exact .inr z
 ·rcases hn with hn | hn
  ·rcases l4 (lookup_mem hn)with z | z
   ·exact .inr z
   ·exact .inl z.2
  ·rcases l4 (lookup_mem hn)with z | z
   ·exact .inl z
   ·exact .inl z.2
 ·have hj:j<cap.length:=(AK.mp e).1
  have q:=h5 j (CZ.mpr hj)
  rw[e]at q
  cases ex:Nb[j]? with
  |none=>rw[ex]at q;simp at q
  |some x =>
   rw[ex]at q
   simp![AT,decide_eq_true_eq,EE]at q
   obtain⟨q1,⟨y,k⟩,hy,e1,e2⟩:=q
   dsimp only at e1 e2
   subst e1;subst e2
   exact⟨y,rfl,q1,hy⟩
noncomputable def ndB(l:List Str):Bool:=decide l.Nodup
theorem vt{l:List Str}(h:ndB l=true):l.Nodup:=of_decide_eq_true h
section
variable{X:Cx}{φ:Phi}{a b c e:Expr}{es:List Expr}{xa xb xc xe:Ex}{xs:Exs}{pos:Pos}
theorem aa (i:Nat) {x:Str} (hN:X.N[i]? = some x:=by rfl) (hv:Vis X.env.scope x:=by first | exact Or.inl rfl | exact Or.inr (Or.inl rfl) | exact Or.inr (Or.inr rfl)) (hd:(x==("__debug__":Str))=false:=by decide)
  (hcd:(x==("__classdict__":Str))=false:=by decide):PE X (.Name x pos) (tE X.K φ (.var i)):=Nz hN hv hd hcd
theorem K2 (i:Nat) {x:Str} (hN:X.N[i]? = some x:=by rfl) (hv:Vis X.env.scope x:=by first | exact Or.inl rfl | exact Or.inr (Or.inl rfl) | exact Or.inr (Or.inr rfl)) (hd:(x==("__debug__":Str))=false:=by decide)
  (hcd:(x==("__classdict__":Str))=false:=by decide):PE X (.Name x pos) (tE X.K φ (.frz i)):=Oc hN hv hd hcd
theorem ah{i:Int}{j:Nat}:PE X (.Constant (.int i) j pos) (tE X.K φ (.cst (.int i))):=N0
theorem Et{i:Bool}{j:Nat}:PE X (.Constant (.bool i) j pos) (tE X.K φ (.cst (.bl i))):=To
theorem Oh{j:Nat}:PE X (.Constant .none j pos) (tE X.K φ (.cst .non)):=N1
theorem aj:PA X [] (tEs X.K φ .nil):=Ka
theorem ae(ha:PE X a (tE X.K φ xa))(hb:PA X es (tEs X.K φ xs))(hs:starEach (a::es) X.env=(false,eval a X.env)::starEach es X.env:=by rfl):PA X (a::es) (tEs X.K φ (.cons xa xs)):=Em ha hb hs
theorem az{op:Operator}{m:Mk}(ha:PE X a (tE X.K φ xa))(hb:PE X b (tE X.K φ xb)):PE X (.BinOp a op b pos) (tE X.K φ (.bin op m xa xb)):=N2 Kn ha hb
theorem Oi(ha:PE X a (tE X.K φ xa)):PE X (.UnaryOp .Not a pos) (tE X.K φ (.not xa)):=Kc ha
theorem K3{rest:List Expr}(ha:PE X a (tE X.K φ xa))(hb:PE X (.BoolOp .And (b::rest) pos) (tE X.K φ xb)):PE X (.BoolOp .And (a::b::rest) pos) (tE X.K φ (.and xa xb)):=Kd ha hb
theorem K4{t:TE}(h:PE X a t):PE X (.BoolOp .And [a] pos) t:=Ip h
theorem Oj{k:Nat}(h:PA X es (tEs X.K φ xs))(hl:xs.len<=1000:=by decide):PE X (.Tuple es k pos) (tE X.K φ (.tup xs)):=N3 h λσ μ ds μ' e=>by
 rw[jl e];exact CU (jh hl)
theorem um{m:Mk}(h:PA X es (tEs X.K φ xs))(hl:xs.len<=1000:=by decide):PE X (.List es pos) (tE X.K φ (.lst m xs)):=Ob h λσ μ ds μ' e=>by
 rw[jl e];exact CU (jh hl)
theorem l5(ha:PE X a (tE X.K φ xa))(hb:PE X b (tE X.K φ xb))(hs:t6 b:=by intro _ _;rfl):PE X (.Subscript a b pos) (tE X.K φ (.ix xa xb)):=Tp Od ha hb hs
theorem Qy(he:PE X e (tE X.K φ xe)):PO X (some e) (tEo X.K φ (.so xe)):=Tt he
theorem Tv{lo hi:Option Expr}{xl xh:ExO}{m:Mk}{p2:Pos}(he:PE X e (tE X.K φ xe))(hl:PO X lo (tEo X.K φ xl))(hh:PO X hi (tEo X.K φ xh)):PE X (.Subscript e (.Slice lo hi none p2) pos) (tE X.K φ (.sl m xe xl xh)):=Tu he hl hh
theorem G0(hu:X.A.units+64<cLine)(op:Cp)(he:PE X e (tE X.K φ xe)):PCh X [opOf op] [e] (tCh X.K φ (.cons op xe .nil)):=Gs (Al op (by lia)) he
theorem gk(hu:X.A.units+64<cLine)(op:Cp)(he:PE X e (tE X.K φ xe)):PTh X [opOf op] [e] (tTh X.K φ (.cons op xe .nil)):=Gu (Al op (by lia)) he
theorem Tw(hu:X.A.units+64<cLine)(op:Cp){op':Cp}{e':Expr}{ops:List CmpOp}{xe':Ex}{r:Cps}(he:PE X e (tE X.K φ xe))(hr:PTh X (opOf op'::ops) (e'::es) (tTh X.K φ (.cons op' xe' r))) :
  PTh X (opOf op::opOf op'::ops) (e::e'::es) (tTh X.K φ (.cons op xe (.cons op' xe' r))):=Gv (Al op (by lia)) he hr
theorem G1{ops:List CmpOp}{r:Cps}(ha:PE X a (tE X.K φ xa))(hr:PCh X ops es (tCh X.K φ r))(hm:lastMarks ops es=false:=by rfl):PE X (.Compare a ops es pos) (tE X.K φ (.cmp xa r)):=Oe ha hr hm
theorem cm{ops:List CmpOp}{r:Cps}(ha:PE X a (tE X.K φ xa))(hr:PTh X ops es (tTh X.K φ r))(hm:lastMarks ops es=false:=by rfl):PT X (.Compare a ops es pos) (tT X.K φ (.cmp xa r)):=Ku ha hr hm
theorem gw(ha:PE X a (tE X.K φ xa))(he:∀whole,isTrue a X.env whole=(do let v <-whole;standAt a.pos;holding [v] (truthy v)):=by intro _;rfl):PT X a (tT X.K φ xa):=Gg ha he
theorem nq(ha:PT X a (tT X.K φ xa)):PT X (.UnaryOp .Not a pos) (tT X.K φ (.not xa)):=Kb ha
theorem oy(ha:PT X a (tT X.K φ xa)):PW X (.BoolOp .And [a] pos) (tT X.K φ xa):=Fn ha
theorem Ar(ha:PT X a (tT X.K φ xa)):PW X (.BoolOp .Or [a] pos) (tT X.K φ xa):=Il ha
theorem rg{rest:List Expr}(ha:PT X a (tT X.K φ xa))(hb:PW X (.BoolOp .And (b::rest) pos) (tT X.K φ xb)):PW X (.BoolOp .And (a::b::rest) pos) (tT X.K φ (.and xa xb)):=Ke ha hb
theorem G2{rest:List Expr}(ha:PT X a (tT X.K φ xa))(hb:PW X (.BoolOp .Or (b::rest) pos) (tT X.K φ xb)):PW X (.BoolOp .Or (a::b::rest) pos) (tT X.K φ (.or xa xb)):=N5 ha hb
theorem G3{t:TT}(h:PW X a t):PT X a t:=h.pt
theorem bq {x:Str} {p:Pos} {f:Nat} {keep:Bool} (C:Callee X.prog X.w X.K X.mg X.base X.A φ f x) (ha:PA X (e::es) (tEs X.K φ xs)) (hg:Gl X x:=by rfl) (hdb:(x==("__debug__":Str))=false:=by decide)
  (he:starEach (e::es) X.env=(false,eval e X.env)::starEach es X.env:=by rfl) (hpl:(backTo pos (starEach es X.env)).any (·.1)=false:=by rfl):PE X (.Call (.Name x p) (e::es) [] pos) (tE X.K φ (.call keep f xs)):=s_call C hg ha hdb he hpl
theorem l6{r:List V->Hp->VK->Prop}{b:Bt}{m:Mk}{es:List Expr}(h:PE X e (tCB (yh X.K (btD b m)) (tEs X.K φ xs))):PE X e (tE X.K φ (.blt b m xs)) :=
 PE.imp h λσv H Q ⟨ι,σ,μ,hS,hL,h⟩=>by
  simp![evE]at h
  obtain⟨ds,μ1,e1,h⟩:=h.bind
  refine⟨ι,σ,μ,hS,hL,?_⟩
  rw[e1]
  exact λι1 vs H1 p1 x1 s1 d1=>⟨ι1,ds,μ1,s1,d1,h.mono p1 x1⟩
theorem ie{m:Mk}{p:Pos}(hm:X.mg "len"=none)(ha:PA X (e::es) (tEs X.K φ xs))(hg:Gl X "len":=by rfl)(he:starEach (e::es) X.env=(false,eval e X.env)::starEach es X.env:=by rfl)(hpl:(backTo pos (starEach es X.env)).any (·.1)=false:=by rfl) :
  PE X (.Call (.Name "len" p) (e::es) [] pos) (tE X.K φ (.blt .len m xs)):=l6 (r:=λ_ _ _=>True) (es:=es) (je bt_len hg hm PySem.boot_len ha (by decide) (by decide) he hpl)
theorem cy{m:Mk}{p:Pos}(hm:X.mg "tuple"=none)(ha:PA X (e::es) (tEs X.K φ xs))(hg:Gl X "tuple":=by rfl)(he:starEach (e::es) X.env=(false,eval e X.env)::starEach es X.env:=by rfl)(hpl:(backTo pos (starEach es X.env)).any (·.1)=false:=by rfl) :
  PE X (.Call (.Name "tuple" p) (e::es) [] pos) (tE X.K φ (.blt .tuple m xs)):=l6 (r:=λ_ _ _=>True) (es:=es) (zp bt_tuple hg hm (by first | exact PyProof.Rows.boot_tuple | decide +kernel) ha (by decide) (by decide) he hpl)
theorem As{m:Mk}{p:Pos}(hm:X.mg "min"=none)(ha:PA X (e::es) (tEs X.K φ xs))(hc:X.calm=true:=by rfl)(hg:Gl X "min":=by rfl)(he:starEach (e::es) X.env=(false,eval e X.env)::starEach es X.env:=by rfl)(hpl:(backTo pos (starEach es X.env)).any (·.1)=false:=by rfl) :
  PE X (.Call (.Name "min" p) (e::es) [] pos) (tE X.K φ (.blt .min m xs)):=l6 (r:=λ_ _ _=>True) (es:=es) (je (bt_min hc) hg hm (by first | exact PyProof.Rows.boot_min | decide +kernel) ha (by decide) (by decide) he hpl)
theorem Au{m:Mk}{p:Pos}(hm:X.mg "max"=none)(ha:PA X (e::es) (tEs X.K φ xs))(hc:X.calm=true:=by rfl)(hg:Gl X "max":=by rfl)(he:starEach (e::es) X.env=(false,eval e X.env)::starEach es X.env:=by rfl)(hpl:(backTo pos (starEach es X.env)).any (·.1)=false:=by rfl) :
  PE X (.Call (.Name "max" p) (e::es) [] pos) (tE X.K φ (.blt .max m xs)):=l6 (r:=λ_ _ _=>True) (es:=es) (je (bt_max hc) hg hm (by first | exact PyProof.Rows.boot_max | decide +kernel) ha (by decide) (by decide) he hpl)
theorem G4{m:Mk}{p:Pos}(hm:X.mg "sum"=none)(ha:PA X (e::es) (tEs X.K φ xs))(hc:X.calm=true:=by rfl)(hg:Gl X "sum":=by rfl)(he:starEach (e::es) X.env=(false,eval e X.env)::starEach es X.env:=by rfl)(hpl:(backTo pos (starEach es X.env)).any (·.1)=false:=by rfl) :
  PE X (.Call (.Name "sum" p) (e::es) [] pos) (tE X.K φ (.blt .sum m xs)):=l6 (r:=λ_ _ _=>True) (es:=es) (je (bt_sum hc) hg hm (by first | exact PyProof.Rows.boot_sum | decide +kernel) ha (by decide) (by decide) he hpl)
theorem Av {c:Cl} {cn:Str} {p cp:Pos} (ha:PE X a (tE X.K φ xa)) (hmi:X.mg "isinstance"=none) (hmc:X.mg cn=none) (hc:∀n,c≠.own n:=by intro _ h;cases h) (hgi:Gl X "isinstance":=by rfl) (hgc:Gl X cn:=by rfl)
  (hbc:bootBuiltins cn=some (.type (kg c)):=by first | boot_by_name | rfl | kernel_rfl) (hn:cn≠"__name__":=by decide) (hd:(cn==("__debug__":Str))=false:=by decide) (hs:starEach [a,.Name cn cp] X.env=(false,eval a X.env)::starEach [.Name cn cp] X.env:=by rfl) :
  PE X (.Call (.Name "isinstance" p) [a,.Name cn cp] [] pos) (tE X.K φ (.isi xa c)):=Og hc ha hgi hmi hgc hmc hbc hn hd hs
theorem gn{tg:Expr}(hl:PE X e (tE X.K φ xe)):PI X tg e (tI X.K φ (.seq xe)):=Kv hl
theorem nr{tg:Expr}{p:Pos}(hm:X.mg "range"=none)(ha:PE X a (tE X.K φ xa))(hg:Gl X "range":=by rfl)(hs:starEach [a] X.env=[(false,eval a X.env)]:=by rfl):PI X tg (.Call (.Name "range" p) [a] [] pos) (tI X.K φ (.rng xa)):=Kw hg hm ha hs
theorem bz(i:Nat){y:Str}(hi:X.N[i]? = some y:=by rfl)(hN:ndB X.N=true:=by first | rfl | kernel_rfl)(hx:Loc X.env.scope y:=by first | exact Or.inl rfl | exact Or.inr rfl)(hf:X.fn y=true\/X.env.scope.names.lookup y=some .local:=by first | exact Or.inl rfl | exact Or.inr rfl) :
  PG X (.Name y pos) (tG X.K (.one i)):=Kh (vt hN) hi hx hf
theorem vv:PGs X [] (tGs X.K []):=Ki
theorem dk (i:Nat) {is:List Nat} {y:Str} (h2:PGs X es (tGs X.K is)) (hi:X.N[i]? = some y:=by rfl) (hN:ndB X.N=true:=by first | rfl | kernel_rfl) (hx:Loc X.env.scope y:=by first | exact Or.inl rfl | exact Or.inr rfl) (hf:X.fn y=true\/X.env.scope.names.lookup y=some .local:=by first | exact Or.inl rfl | exact Or.inr rfl)
  (hs:(assignEach (.Name y pos::es) X.env).map (·.2)=assign (.Name y pos) X.env::(assignEach es X.env).map (·.2):=by rfl):PGs X (.Name y pos::es) (tGs X.K (i::is)):=Gh (ze (vt hN) hi hx hf) h2 hs
theorem vw{is:List Nat}{k:Nat}(h:PGs X es (tGs X.K is))(hc:X.calm=true:=by rfl)(hn:(assignEach es X.env).length=is.length:=by rfl)(hst:(assignEach es X.env).findIdx? (·.1)=none:=by rfl):PG X (.Tuple es k pos) (tG X.K (.many is)):=N8 hc h hn hst
theorem dm:PTs X [] (tTs X.K φ .nil):=Kl
theorem ff{r:List Expr}{xr:Exs}(h1:PT X c (tT X.K φ xc))(h2:PTs X r (tTs X.K φ xr)):PTs X (c::r) (tTs X.K φ (.cons xc xr)):=Gp h1 h2
theorem i6 (Nb:List Str) {target iter:Expr} {ifs:List Expr} {scope:Scope} {cap:List Nat} {nl:Nat} {m:Mk} {tg:Tg} {it:It} {cs:Exs} {elt:Ex} (hi:PI X target iter (tI X.K φ it))
  (B:uh X scope Nb target ifs e (tG X.K tg) (tTs X.K φ cs) (tE X.K φ elt)) (S:vq X.env.scope scope X.N Nb cap nl=true:=by first | rfl | kernel_rfl) (hc:X.calm=true:=by rfl) (hf:∀x,foldedSetIterable iter X.env x=pure x:=by intro _;rfl) (hs:∀j∈slots tg,cap.length<=j:=by decide) :
  PE X (.ListComp e [⟨target,iter,ifs,0⟩] scope pos) (tE X.K φ (.comp m cap nl tg it cs elt)):=Km (nk S) hc hi B hf hs
theorem rh (i:Nat) (Nb:List Str) {target iter:Expr} {ifs:List Expr} {scope:Scope} {cap:List Nat} {nl:Nat} {m:Mk} {tg:Tg} {it:It} {cs:Exs} {elt:Ex} {spos py:Pos} {y:Str} (hi:PI X target iter (tI X.K φ it))
  (B:uh X scope Nb target ifs e (tG X.K tg) (tTs X.K φ cs) (tE X.K φ elt)) (S:vq X.env.scope scope X.N Nb cap nl=true:=by first | rfl | kernel_rfl) (hc:X.calm=true:=by rfl) (hf:∀x,foldedSetIterable iter X.env x=pure x:=by intro _;rfl) (hs:∀j∈slots tg,cap.length<=j:=by decide)
  (hsw:swapsWith (.ListComp e [⟨target,iter,ifs,0⟩] scope pos) (some (.Name y py)) spos.line X.env=pure true:=by rfl) (hiN:X.N[i]? = some y:=by rfl) (hN:ndB X.N=true:=by first | rfl | kernel_rfl) (hy:X.env.scope.names.lookup y=some .local:=by rfl) :
  PS X (.Assign [.Name y py] (.ListComp e [⟨target,iter,ifs,0⟩] scope pos) spos) (tS X.K φ (.set i (.comp m cap nl tg it cs elt))):=Af (nk S) hc hi B hf hs hsw (vt hN) hiN hy
theorem dw:PSs X [] (tSs X.K φ .nil):=N6
theorem bh{s:Stmt}{ss:List Stmt}{x:Sm}{xss:Sms}(h1:PS X s (tS X.K φ x))(h2:PSs X ss (tSs X.K φ xss)):PSs X (s::ss) (tSs X.K φ (.cons x xss)):=Kf h1 h2
theorem Md(he:PE X e (tE X.K φ xe))(hs:swapsWith e none pos.line X.env=pure false:=by rfl):PS X (.Expr e pos) (tS X.K φ (.ex xe)):=Kg he hs
theorem c7(he:PE X e (tE X.K φ xe)):PS X (.Return (some e) pos) (tS X.K φ (.ret xe)):=N7 he
theorem vx{x y:List Stmt}{xx xy:Sms}(hc:PT X c (tT X.K φ xc))(ha:PSs X x (tSs X.K φ xx))(hb:PSs X y (tSs X.K φ xy)):PS X (.If c x y pos) (tS X.K φ (.ite xc xx xy)):=Tq hc ha hb
theorem gx (i:Nat) {y:Str} {pos':Pos} (he:PE X e (tE X.K φ xe)) (hi:X.N[i]? = some y:=by rfl) (hN:ndB X.N=true:=by first | rfl | kernel_rfl) (hx:Loc X.env.scope y:=by first | exact Or.inl rfl | exact Or.inr rfl) (hf:X.fn y=true\/X.env.scope.names.lookup y=some .local:=by first | exact Or.inl rfl | exact Or.inr rfl)
  (hs:swapsWith e (some (.Name y pos')) pos.line X.env=pure false:=by rfl):PS X (.Assign [.Name y pos'] e pos) (tS X.K φ (.set i xe)):=N9 (vt hN) hi hx hf he hs
theorem uo {tg it:Expr} {body:List Stmt} {xt:Tg} {xi:It} {xb:Sms} (hi:PI X tg it (tI X.K φ xi)) (hg:PG X tg (tG X.K xt)) (hb:PSs X body (tSs X.K φ xb)) (hp:PassesOwn (model X.prog X.w) X.A X.env X.xe:=by exact PassesOwn.never) (hc:X.calm=true:=by rfl)
  (hs:∀x,foldedSetIterable it X.env x=pure x:=by intro _;rfl):PS X (.For tg it body [] pos) (tS X.K φ (.loop xt xi xb)):=Oa hp hc hi hg hb hs
end
structure Ma (X:Cx) (o:Expr) (nm:Str) (e:Expr) (es:List Expr) (apos cpos:Pos):Prop where
 b:attributeBase o nm X.env (eval o X.env)=eval o X.env
 f:((backTo cpos (starEach (e::es) X.env)).all (λx=>!x.1)&&(backToKw cpos (keywordEach [] X.env)).all (λx=>x.1.isSome)&&decide ((e::es).length+([]:List Keyword).length+(if([]:List Keyword).isEmpty then 0 else 1)<30))=true
 l:(apos.endLine==cpos.line)=true
 s:starEach (e::es) X.env=(false,eval e X.env)::starEach es X.env
 p:(backTo cpos (starEach es X.env)).any (·.1)=false
section
variable{X:Cx}{φ:Phi}{o e:Expr}{es:List Expr}{xo:Ex}{xs:Exs}{apos cpos:Pos}{T id:String}{name:Str}{mt:Mt}
theorem Aw(hT:∀(ι:List Addr) (H:Hp) (μ:Sto) (d:D) (x:V),Sim X.K ι H μ->IsD X.K ι H d x->fb mt d μ=true->tyV X.K T x H)(h:PE X e (tBM X.K T (rMt X.K mt) (tE X.K φ xo) (tEs X.K φ xs))):PE X e (tE X.K φ (.meth mt xo xs)) :=
 PE.imp h λσv H Q ⟨ι,σ,μ,hS,hL,h⟩=>by
  simp![evE]at h
  obtain⟨d,μ1,e1,h⟩:=h.bind
  refine⟨ι,σ,μ,hS,hL,?_⟩
  rw[e1]
  intro ι1 x H1 p1 x1 s1 d1
  split at h
  ·rename_i hm
   refine⟨hT ι1 H1 μ1 d x s1 d1 hm,ι1,σ,μ1,s1,hL.mono p1 x1,?_⟩
   obtain⟨ds,μ2,e2,h⟩:=h.bind
   rw[e2]
   exact λι2 vs H2 p2 x2 s2 d2=>⟨ι2,d,ds,μ2,s2,IsD.mono p2 x2 _ _ d1,d2,h.mono (p1.trans p2) (x1.trans x2)⟩
  ·exact h.elim
theorem j9(hmt:∀d μ,fb mt d μ=(listOf μ d).isSome)(ι:List Addr)(H:Hp)(μ:Sto)(d:D)(x:V)(hS:Sim X.K ι H μ)(hd:IsD X.K ι H d x)(hm:fb mt d μ=true):tyV X.K "list" x H:=by
 rw[hmt]at hm
 obtain⟨ds,e⟩:=EG.mp hm
 obtain⟨a,xs,rfl,hls,_⟩:=gc hS hd e
 exact .inl ⟨rfl,_,hls.sq⟩
theorem l7(ho:PE X o (tE X.K φ xo))(ha:PA X (e::es) (tEs X.K φ xs))(h5:Ma X o "append" e es apos cpos:=by exact⟨rfl,rfl,rfl,rfl,rfl⟩):PE X (.Call (.Attribute o "append" apos) (e::es) [] cpos) (tE X.K φ (.meth .append xo xs)) :=
 Aw (j9 λ_ _=>rfl) (F3 GG F.slot_list_append F.type_list_append C7 ho ha h5.b h5.f h5.l h5.s h5.p)
theorem l8(ho:PE X o (tE X.K φ xo))(ha:PA X (e::es) (tEs X.K φ xs))(h5:Ma X o "extend" e es apos cpos:=by exact⟨rfl,rfl,rfl,rfl,rfl⟩):PE X (.Call (.Attribute o "extend" apos) (e::es) [] cpos) (tE X.K φ (.meth .extend xo xs)) :=
 Aw (j9 λ_ _=>rfl) (F3 GG F.slot_list_extend F.type_list_extend C8 ho ha h5.b h5.f h5.l h5.s h5.p)
theorem Eu{x:V}:∀{ys:List V} {us:List Value},bc ys us->ys.all k8=true->us.countP (eqU x)=ys.countP λy=>eqV y x
 |_,_,.nil,_=>rfl
 |_,_,.cons r t,h=>by
  simp![BI,AT]at h
  rw[CY,CY,Eu t h.2,zt r h.1]
theorem Ew{K:PySem.W.Frag}{ι:List Addr}{H:Hp}{d:D}{x:V}(hd:IsD K ι H d x)(fd:flat d=true):∀{ds:List D} {ys:List V},ag K ι H ds ys->ds.all flat=true->(ys.countP λy=>eqV y x)=ds.countP λy=>deq y d
 | [],_,h,_=>by simp![ag]at h;subst h;rfl
 |a::ds,_,h,hf=>by
  simp![ag]at h
  obtain⟨v,r,rfl,q,t⟩:=h
  simp![BI,AT]at hf
  rw[CY,CY,Ew hd fd t hf.2,Eo q hd hf.1 fd]
theorem mt_countL:MtR X "list.count" (rMt X.K .countL):=by
 intro pins s σ H x vs v us Q I rx rv ⟨ι,d,ds,μ,hS,hd,hds,h⟩
 simp![mtD,Nv]at h
 split at h
 ·rename_i ys ey
  obtain⟨a,zs,rfl,hq,hzs⟩:=gc hS hd ey
  obtain⟨k,w,rfl,hw,h⟩:=j8 hds h
  split at h
  ·rename_i hf
   cases(show v=Value.ref a from rx)
   obtain⟨u,rfl,ru⟩:=rv.one
   obtain⟨hz,its,n,r,hlen,ho⟩:=I.ls hq
   refine GZ F.slot_list_count ⟨_,ho,rfl⟩ F.entry_list_count (F.args_list_count_2 _ _) (SeqAt.list_countAt a its.toArray n none #[] u (eqU w)) ⟨ho,λy hy=>iw ru (om hw hf.1) r (jk hzs hf.2) y (by simpa using hy),?_⟩
   refine⟨.int _,H,I.tok _,⟨_,rfl⟩,?_⟩
   rw[show its.toArray.toList=its from rfl,Eu r (jk hzs hf.2),Ew hw hf.1 hzs hf.2]
   exact h.ok hS (by simp[IsD])
  ·exact h.elim
 ·exact h.elim
theorem uq(ho:PE X o (tE X.K φ xo))(ha:PA X (e::es) (tEs X.K φ xs))(h5:Ma X o "count" e es apos cpos:=by exact⟨rfl,rfl,rfl,rfl,rfl⟩):PE X (.Call (.Attribute o "count" apos) (e::es) [] cpos) (tE X.K φ (.meth .countL xo xs)) :=
 Aw (j9 λ_ _=>rfl) (F3 GG F.slot_list_count F.type_list_count mt_countL ho ha h5.b h5.f h5.l h5.s h5.p)
end
section
variable{X:Cx}{φ:Phi}{a:Expr}{xa:Ex}{p p2 pos pos2:Pos}{m:Mk}
theorem K5(hu:X.A.units+64<cLine):L6 X (Qx X.K):=by
 intro pins s σ H o i v ov iv u Q I ro ri rv ⟨ι,a,b,d,μ,hS,ha,hb,hd,h⟩
 cases a with
 |loc n =>
  simp![B9]at h
  cases em:μ[n]? with
  |none=>rw[em]at h;exact h.elim
  |some ob =>
   rw[em]at h
   obtain⟨q,rfl,hq⟩:∃q,o=.ref q/\ι[n]? = some q:=by simpa[IsD]using ha
   obtain⟨q',eq',hob⟩:=hS.at em
   rw[hq]at eq';cases eq'
   have lst:∀(ob:O) (xs:List D),gh ob=some xs->μ[n]? = some ob->OIs X.K ι H q ob->dj X.K (λ_ _ _ (_:Unit)=>True) ι H (match some xs,b with
     |some xs,.int i=>match ixN xs.length i with
      |some j=>if fits ob d=true then(putL n ob (xs.set j d) .non μ).bind λ_ μ=>.ok () μ else .stuck
      |none=>.stuck
     |_,_=>.stuck) (λ_ H'=>Q H')->wpAny (model X.prog X.w) X.A (setItem ov iv u) (λ_ s'=>∃H',Inv X pins σ H' s'/\Q H') X.xe s:=by
    intro ob xs ei em ho h
    cases b with
    |int k =>
     simp only at h
     split at h
     ·rename_i j ej
      split at h
      ·rename_i hf
       obtain⟨a',vs,ea,hι,hH,h1,h2⟩:=Er hS ha em ei
       cases ea
       cases ck hb
       refine set_list pins s σ H _ _ v ov iv u Q I ro ri rv ⟨_,vs,k,j,rfl,rfl,hH,by rw[h1.length];exact ej,?_⟩
       have h':dj X.K (RD X.K) ι H (putL n ob (xs.set j d) .non μ) λ_ H'=>Q H':=by
        cases ob with
        |l _=>exact λι' v' H' p e s' _=>h ι' () H' p e s' trivial
        |r _=>exact λι' v' H' p e s' _=>h ι' () H' p e s' trivial
        |d _=>exact h.elim
        |dt _=>exact h.elim
        |x _=>exact h.elim
        |o _ _=>exact h.elim
        |dr _=>exact h.elim
        |fd _=>exact h.elim
        |dead=>exact h.elim
       exact ow (v:=.non) hS hι hH (h1.set hd j) (λes e=>(h2 es e).set (rf hf hd es e) j) (by simp[IsD]) h'
      ·exact h.elim
     ·exact h.elim
    |_=>exact h.elim
   cases ob with
   |l xs=>exact lst (.l xs) xs rfl em hob h
   |r xs=>exact lst (.r xs) xs rfl em hob h
   |d kvs =>
    simp only at h
    split at h
    ·rename_i hc
     obtain⟨hk,hv,hl⟩:=hc
     obtain⟨xs,hH,hkv⟩:=hob
     obtain⟨k,rfl,rfl⟩:=oo hk hb
     cases(show ov=Value.ref q from ro)
     have hlen:xs.length=kvs.length:=(DH hkv).symm
     refine lh (by lia) I (Hv.k (k:=k) (v:=v) hH (by rw[hlen,<-du];exact hl)) ri rv λs' I'=>⟨_,I',?_⟩
     exact h ι () _ (AE _) (.dK hH) (hS.put hq (.dK hH) ⟨_,ak,Paired.mapP (vp (IsD.pur hv hd) hkv) λp r z=>⟨IsD.mono (AE _) (.dK hH) _ _ z.1,IsD.mono (AE _) (.dK hH) _ _ z.2⟩⟩) trivial
    ·exact h.elim
   |dr kvs =>
    simp only at h
    split at h
    ·rename_i hc
     obtain⟨hk,hl⟩:=hc
     obtain⟨xs,hH,hkv⟩:=hob
     obtain⟨k,rfl,rfl⟩:=oo hk hb
     cases(show ov=Value.ref q from ro)
     have hlen:xs.length=kvs.length:=(DH hkv).symm
     refine lh (by lia) I (Hv.k (k:=k) (v:=v) hH (by rw[hlen,<-du];exact hl)) ri rv λs' I'=>⟨_,I',?_⟩
     exact h ι () _ (AE _) (.dK hH) (hS.put hq (.dK hH) ⟨_,ak,Paired.mapP (vp hd hkv) λp r z=>⟨IsD.mono (AE _) (.dK hH) _ _ z.1,IsD.mono (AE _) (.dK hH) _ _ z.2⟩⟩) trivial
    ·exact h.elim
   |dt kvs=>simp![gh]at h;exact h.elim
   |x _=>simp![gh]at h;exact h.elim
   |o _ _=>simp![gh]at h;exact h.elim
   |fd _=>simp![gh]at h;exact h.elim
   |dead=>simp![gh]at h;exact h.elim
 |_=>exact h.elim
theorem K6 (hu:X.A.units+64<cLine) {o i e:Expr} {xo xi x:Ex} {tp:Pos} (ho:PE X o (tE X.K φ xo)) (hi:PE X i (tE X.K φ xi)) (he:PE X e (tE X.K φ x))
  (ha:∀v,assign (.Subscript o i tp) X.env v=(do
   let ov <-holding [v] (eval o X.env)
   let iv <-holding [v,ov] (eval i X.env)
   standAt tp
   holding [v,ov,iv] (setItem ov iv v)
   release [v,ov,iv] []):=by intro _;rfl) (hs:swapsWithSole [.Subscript o i tp] e pos.line X.env=pure false:=by rfl) (hw:swappedStores [.Subscript o i tp] e X.env=pure none:=by rfl)
  (h1:(assignEach [.Subscript o i tp] X.env).map (·.2)=[assign (.Subscript o i tp) X.env]:=by rfl):PS X (.Assign [.Subscript o i tp] e pos) (tS X.K φ (.setx xo xi x)):=Kj (K5 hu) ho hi he ha hs hw h1
end
noncomputable def SI(b:Bool)(h:Heap)(it l:Addr)(i:Nat):Prop:=match b with
 |true=>h.IsListIter it l i
 |false=>h.IsTupleIter it l i
noncomputable def SQ(b:Bool)(h:Heap)(l:Addr)(xs:Array Value):Prop:=match b with
 |true=>h.IsList l xs
 |false=>h.IsTuple l xs
noncomputable def Tx:Bool->String
 |true=>"list_iterator"
 |false=>"tuple_iterator"
theorem SQ.lt{b:Bool}{h:Heap}{l:Addr}{xs:Array Value}(x:SQ b h l xs):l<h.objs.size:=by
 cases b
 ·obtain⟨o,e,_⟩:=x;exact AM e
 ·obtain⟨o,e,_⟩:=x;exact AM e
theorem SQ.push{b:Bool}{h:Heap}{l:Addr}{xs:Array Value}(x:SQ b h l xs)(o:Obj):SQ b (h.push o) l xs:=by
 cases b
 ·exact Heap.IsTuple.push x o
 ·exact Heap.IsList.push x o
section
variable{prog:Program}{w:World}{A:Around}{E:Value -> Shared -> Prop}{s:Shared}
theorem G5{b:Bool}{l:Addr}{xs:Array Value}{Q:Value->Shared->Prop}(x:SQ b s.heap l xs)(hQ:Q (.ref s.heap.objs.size) {s with heap:=s.heap.push {cls:=.type (Tx b),data:=.fields #[.ref l,.int 0 0]}}) :
  wpAny (model prog w) A (pyIter (.ref l)) Q E s:=by
 cases b
 ·exact FW x hQ
 ·exact GF x hQ
variable{b1 b2:Bool}{z TI TO i1 i2 l1 l2:Addr}{k1 k2:Nat}{xs ys:Array Value}{x y a b:Value}
end
section
variable{X:Cx}{φ:Phi}{o e f:Expr}{xo xe xf:Ex}{pos apos cpos:Pos}
theorem Ey(t:Bool):PE X (.Dict [] [] pos) (tE X.K φ (.dic t .nil)):=by
 cases t with
 |false =>
  refine PE.imp Cr λσv H Q ⟨ι,σ,μ,hS,hL,h⟩=>?_
  simp![evE,c5,Res.bg,Hx,AF,if_false]at h
  intro p hp
  refine h (ι++[p]) _ _ (List.prefix_append _ _) (Ext.new hp) (hS.push hp ⟨[],ak,Paired.nil⟩) ?_
  simp![Lp.IsD]
  exact⟨p,rfl,by rw[<-hS.len];simp⟩
 |true =>
  refine PE.imp Cs λσv H Q ⟨ι,σ,μ,hS,hL,h⟩=>?_
  simp![evE,c5,Res.bg,Hx,if_true]at h
  intro p hp
  refine h (ι++[p]) _ _ (List.prefix_append _ _) (Ext.new hp) (hS.push hp ⟨[],ak,Paired.nil⟩) ?_
  simp![Lp.IsD]
  exact⟨p,rfl,by rw[<-hS.len];simp⟩
theorem Ax(hu:X.A.units+64<cLine)(ho:PE X o (tE X.K φ xo))(he:PE X e (tE X.K φ xe))(hf:PE X f (tE X.K φ xf))(m:M2 X o "get" apos e f cpos:=by exact⟨rfl,rfl,rfl,rfl⟩) :
  PE X (.Call (.Attribute o "get" apos) [e,f] [] cpos) (tE X.K φ (.meth .get xo (.cons xe (.cons xf .nil)))):=by
 refine PE.imp (Ct (by lia) ho he hf m) λσv H Q ⟨ι,σ,μ,hS,hL,h⟩=>?_
 simp![evE,c5]at h
 obtain⟨d,μ1,e1,h⟩:=h.bind
 refine⟨ι,σ,μ,hS,hL,?_⟩
 rw[e1]
 intro ι1 x H1 p1 x1 s1 d1
 cases d with
 |loc n =>
  obtain⟨a,rfl,hn⟩:∃a,x=.ref a/\ι1[n]? = some a:=by simpa[Lp.IsD]using d1
  cases em:μ1[n]? with
  |none=>simp[fb,em,dj]at h
  |some ob =>
   cases ob with
   |d kvs =>
    simp![fb,em,if_true,Res.bind_assoc,Res.bg]at h
    obtain⟨a',q',kx,hk1,hk2⟩:=s1.at em
    rw[hn]at q';cases q'
    obtain⟨y,μ2,e2,h⟩:=h.bind
    refine⟨a,rfl,.inl ⟨_,.inl hk1⟩,ι1,σ,μ1,s1,hL.mono p1 x1,?_⟩
    rw[e2]
    intro ι2 yv H2 p2 x2 s2 d2
    obtain⟨z,μ3,e3,h⟩:=h.bind
    refine⟨ι2,σ,μ2,s2,(hL.mono p1 x1).mono p2 x2,?_⟩
    rw[e3]
    intro ι3 zv H3 p3 x3 s3 d3
    simp![mtD,Gc]at h
    cases ed:dictAt μ3 (.loc n) y with
    |none=>simp![ed]at h;exact h.elim
    |some kvs3 =>
     simp![ed]at h
     obtain⟨p,q,xs,e4,rfl,rfl,hp,hk⟩:=uj s3 (IsD.mono p3 x3 _ _ (IsD.mono p2 x2 _ _ d1)) (IsD.mono p3 x3 _ _ d2) ed
     cases e4
     exact⟨_,.inl ⟨_,_,hp,rfl,rfl⟩,h ι3 _ H3 ((p1.trans p2).trans p3) ((x1.trans x2).trans x3) s3 ((ku hk).getD d3)⟩
   |_=>simp[fb,em,dj]at h
 |_=>simp[fb,dj]at h
noncomputable def kDT(k:List Key):D:=.tup (k.map kD)
theorem ky{K:PySem.W.Frag}{ι:List Addr}{H:Hp}:∀{ds:List D} {k:List Key},ag K ι H ds (k.map kV)->ds=k.map kD
 | [],[],_=>rfl
 | [],_::_,h=>by simp[ag]at h
 |_::_,[],h=>by simp[ag]at h
 |d::ds,a::k,h=>by
  simp![ag,AL]at h
  obtain⟨v,r,e,q,t⟩:=h
  obtain⟨rfl,rfl⟩:kV a=v/\k.map kV=r:=by simpa using e
  rw[AL,oq q,ky t]
theorem ur{K:PySem.W.Frag}{ι:List Addr}{H:Hp}:∀{ds:List D} {xs:List V},ds.all qo=true->ag K ι H ds xs->∃k:List Key,ds=k.map kD/\xs=k.map kV
 | [],xs,_,h=>⟨[],rfl,by simpa[ag]using h⟩
 |d::ds,xs,hk,h=>by
  simp![ag]at h
  obtain⟨v,r,rfl,q,t⟩:=h
  simp![BI,AT]at hk
  obtain⟨a,rfl,rfl⟩:=oo hk.1 q
  obtain⟨k,rfl,rfl⟩:=ur hk.2 t
  exact⟨a::k,rfl,rfl⟩
theorem Ay:∀(a b:List Key),ub (a.map kD) (b.map kD)=decide (a=b)
 | [],[]=>by simp[ub]
 | [],_::_=>by simp[ub]
 |_::_,[]=>by simp[ub]
 |a::r,b::t=>by
  rw[AL,AL,ub,nj,Ay r t]
  by_cases h:a=b<;>by_cases h':r=t<;>simp[h,h']
theorem l9(a b:List Key):deq (kDT a) (kDT b)=decide (a=b):=by
 unfold kDT
 rw[deq,Ay]
theorem vy{K:PySem.W.Frag}{ι:List Addr}{H:Hp}:∀(k:List Key),ag K ι H (k.map kD) (k.map kV)
 | []=>by simp[ag]
 |a::k=>by
  simp![AL,ag]
  exact⟨_,_,rfl,by cases a<;>simp[kD,kV,Lp.IsD],vy k⟩
theorem rj{K:PySem.W.Frag}{H:Hp}{k:List Key}:∀{kvs:List (D×D)} {xs:List (List Key×V)},El K H kvs xs->OR K [] H (p9 (kDT k) kvs) (t8 xs k)
 |_,_,.nil=>True.intro
 |p::kvs,q::xs,.cons h t=>by
  obtain⟨d,e⟩:=p
  obtain⟨⟨ds,e1,e2⟩,h2⟩:=h
  have hk:d=kDT q.1:=by rw[show d=.tup ds from e1,ky e2];rfl
  subst hk
  have ih:=rj (k:=k) (kvs:=kvs) (xs:=xs) t
  by_cases z:q.1=k
  ·rw[jf z,p9,l9,if_pos (by simpa using z)]
   exact h2
  ·rw[jg z,p9,l9,if_neg (by simpa using z)]
   exact ih
theorem vz{K:PySem.W.Frag}{H:Hp}{k:List Key}:∀{kvs:List (D×D)} {xs:List (List Key×V)},El K H kvs xs->(kvs.any λp=>deq p.1 (kDT k))=xs.any λkv=>decide (kv.1=k)
 |_,_,.nil=>rfl
 |p::kvs,q::xs,.cons h t=>by
  obtain⟨d,e⟩:=p
  obtain⟨⟨ds,e1,e2⟩,h2⟩:=h
  have hk:d=kDT q.1:=by rw[show d=.tup ds from e1,ky e2];rfl
  subst hk
  rw[BU,BU,vz t,l9]
theorem rl{K:PySem.W.Frag}{H:Hp}{k:List Key}{d:D}{v:V}(hv:Lp.IsD K [] H d v):∀{kvs:List (D×D)} {xs:List (List Key×V)},El K H kvs xs ->
  El K H (kvs.map λp=>if deq p.1 (kDT k)=true then(p.1,d)else p) (xs.map λkv=>if kv.1=k then(kv.1,v)else kv)
 |_,_,.nil=>.nil
 |p::kvs,q::xs,.cons h t=>by
  obtain⟨e,w⟩:=p
  obtain⟨⟨ds,e1,e2⟩,h2⟩:=h
  have hk:e=kDT q.1:=by rw[show e=.tup ds from e1,ky e2];rfl
  subst hk
  rw[AL,AL]
  refine .cons ?_ (rl hv t)
  by_cases z:q.1=k
  ·rw[if_pos z,l9,if_pos (by simpa using z)]
   exact⟨⟨_,rfl,vy _⟩,hv⟩
  ·rw[if_neg z,l9,if_neg (by simpa using z)]
   exact⟨⟨_,rfl,vy _⟩,h2⟩
theorem Az{K:PySem.W.Frag}{H:Hp}{k:List Key}{d:D}{v:V}(hv:Lp.IsD K [] H d v){kvs:List (D×D)}{xs:List (List Key×V)}(h:El K H kvs xs):El K H (dput (kDT k) d kvs) (putK xs k v):=by
 unfold dput putK
 rw[vz h]
 split
 ·exact rl hv h
 ·exact jb h ⟨⟨_,rfl,vy k⟩,hv⟩
theorem Dd{K:PySem.W.Frag}{ι:List Addr}{H:Hp}{μ:Sto}{o:D}{ks:List D}{x:V}{ys:List V}{kvs:List (D×D)}(hS:Sim K ι H μ)(ho:Lp.IsD K ι H o x)(hk:ag K ι H ks ys)(h:gb μ o ks=some kvs) :
  ∃(n:Nat) (p:Addr) (k:List Key) (xs:List (List Key×V)),o=.loc n/\ι[n]? = some p/\x=.ref p/\ys=k.map kV/\ks=k.map kD/\H p=some (.dT xs)/\El K H kvs xs:=by
 cases o with
 |loc n =>
  obtain⟨a,rfl,hn⟩:∃a,x=.ref a/\ι[n]? = some a:=by simpa[Lp.IsD]using ho
  cases em:μ[n]? with
  |none=>simp[gb,em]at h
  |some ob =>
   cases ob with
   |dt kvs' =>
    simp![gb,em]at h
    split at h
    ·rename_i hk'
     cases h
     obtain⟨a',q',xs,h1,h2⟩:=hS.at em
     rw[hn]at q';cases q'
     obtain⟨k,rfl,rfl⟩:=ur hk' hk
     exact⟨n,a,k,xs,rfl,hn,rfl,rfl,rfl,h1,h2⟩
    ·cases h
   |_=>simp[gb,em]at h
 |_=>simp[gb]at h
theorem De{neg:Bool}{xs:Exs}{xd:Ex}{σv:St}{H:Hp}{Q:VK}(hl:xs.len<=1000)(h:tE X.K φ (.inT neg xs xd) σv H Q) :
  Qj (tEs X.K φ xs) σv H λy H1=>tE X.K φ xd σv H1 λx H2=>∃a o,x=.ref a/\Hu H2 a y o/\Q (.bl (neg ^^ o.isSome)) H2:=by
 obtain⟨ι,σ,μ,hS,hL,h⟩:=h
 simp![evE]at h
 obtain⟨ds,μ1,e1,h⟩:=h.bind
 refine⟨ι,σ,μ,hS,hL,?_⟩
 rw[e1]
 intro ι1 vs H1 p1 x1 s1 d1
 obtain⟨d,μ2,e2,h⟩:=h.bind
 simp![J5]at h
 cases ed:gb μ2 d ds with
 |none=>simp![ed]at h;exact h.elim
 |some kvs =>
  simp![ed]at h
  have hlen:ds.length<=sizeLine:=by rw[jl e1];exact CU (jh hl)
  refine⟨by rw[d1.length];exact hlen,λp hp=>⟨ι1,σ,μ1,s1.new hp,(hL.mono p1 x1).mono (AE _) (Ext.new hp),?_⟩⟩
  rw[e2]
  intro ι2 x H2 p2 x2 s2 d2
  obtain⟨n,q,k,xs',rfl,hn,rfl,rfl,rfl,hq,hk⟩:=Dd s2 d2 (ag.mono p2 x2 _ _ (ag.mono (AE _) (Ext.new hp) _ _ d1)) ed
  refine⟨q,t8 xs' k,rfl,.inr ⟨xs',k,p,.inl hq,rfl,x2.tups _ _ ak,rfl⟩,?_⟩
  rw[(rj hk).isSome]
  exact h ι2 _ H2 (p1.trans p2) ((x1.trans (Ext.new hp)).trans x2) s2 (by simp[Lp.IsD,kDT])
theorem Ol{x:Ex}{σv:St}{H:Hp}{Q:Bool->Hp->Prop}(h:tT X.K φ x σv H Q):tE X.K φ x σv H λv H1=>∃b,v=.bl b/\Q b H1:=by
 obtain⟨ι,σ,μ,hS,hL,h⟩:=h
 obtain⟨d,μ1,e1,h⟩:=h.bind
 refine⟨ι,σ,μ,hS,hL,?_⟩
 rw[e1]
 intro ι1 v H1 p1 x1 s1 d1
 cases d with
 |bl b=>exact⟨b,qy d1,h ι1 b H1 p1 x1 s1 rfl⟩
 |_=>exact h.elim
theorem G6{es:List Expr}{xs:Exs}{k:Nat}{tp:Pos}(hu:X.A.units+64<cLine)(hi:PA X es (tEs X.K φ xs))(ho:PE X o (tE X.K φ xo))(hl:xs.len<=1000:=by decide)(h1:behindInMarks .NotIn o=false:=by rfl) :
  PT X (.Compare (.Tuple es k tp) [.NotIn] [o] pos) (tT X.K φ (.inT true xs xo)):=PT.imp (Ik (z7 (by lia) (zl hi) ho) h1) λσv H Q h=>by
 have:=De hl (Ol h)
 simpa[z6,tB]using this
theorem G7 {es:List Expr} {xs:Exs} {x:Ex} {k:Nat} {tp tp':Pos} (hu:X.A.units+64<cLine) (ho:PE X o (tE X.K φ xo)) (hi:PA X es (tEs X.K φ xs)) (he:PE X e (tE X.K φ x)) (hl:xs.len<=1000:=by decide)
  (hs:swapsWith e (some (.Subscript o (.Tuple es k tp) tp')) pos.line X.env=pure false:=by rfl):PS X (.Assign [.Subscript o (.Tuple es k tp) tp'] e pos) (tS X.K φ (.setxT xo xs x)) :=
 PS.imp (F4 (by lia) ho (zl hi) he hs) λE σv H ⟨ι,σ,μ,hS,hL,hlen,h⟩=>by
  simp![evS]at h
  obtain⟨d,μ1,e1,h⟩:=h.bind
  refine⟨ι,σ,μ,hS,hL,?_⟩
  rw[e1]
  intro ι1 v H1 p1 x1 s1 d1
  obtain⟨a,μ2,e2,h⟩:=h.bind
  refine⟨ι1,σ,μ1,s1,hL.mono p1 x1,?_⟩
  rw[e2]
  intro ι2 va H2 p2 x2 s2 d2
  obtain⟨ks,μ3,e3,h⟩:=h.bind
  refine⟨ι2,σ,μ2,s2,(hL.mono p1 x1).mono p2 x2,?_⟩
  rw[e3]
  intro ι3 vs H3 p3 x3 s3 d3
  have d3':ag X.K ι3 H3 ks vs:=d3
  refine⟨by rw[d3'.length,jl e3];exact CU (jh hl),λp hp=>?_⟩
  have s4:=s3.new (o:=.tup vs) hp
  have x4:Ext H3 (upd H3 p (.tup vs)):=Ext.new hp
  have d2':Lp.IsD X.K ι3 (upd H3 p (.tup vs)) a va:=IsD.mono (AE _) x4 _ _ (IsD.mono p3 x3 _ _ d2)
  have d1':Lp.IsD X.K ι3 (upd H3 p (.tup vs)) d v:=IsD.mono (AE _) x4 _ _ (IsD.mono (p2.trans p3) (x2.trans x3) _ _ d1)
  have dk':ag X.K ι3 (upd H3 p (.tup vs)) ks vs:=ag.mono (AE _) x4 _ _ d3'
  cases a with
  |loc n =>
   obtain⟨q,rfl,hn⟩:∃q,va=.ref q/\ι3[n]? = some q:=by simpa[Lp.IsD]using d2'
   cases em:μ3[n]? with
   |none=>simp![qq,em]at h;exact h.elim
   |some ob =>
    cases ob with
    |dt kvs =>
     simp![qq,em]at h
     split at h
     ·rename_i hc
      obtain⟨hk,hv,hlt⟩:=hc
      obtain⟨q',hq',ys,hH,hkv⟩:=s4.at em
      rw[hn]at hq';cases hq'
      obtain⟨kk,rfl,rfl⟩:=ur hk dk'
      have hlen':ys.length=kvs.length:=(DH hkv).symm
      have x5:Ext (upd H3 p (.tup (kk.map kV))) (upd (upd H3 p (.tup (kk.map kV))) q (.dT (putK ys kk v))):=.dT hH
      refine⟨q,_,rfl,.inr ⟨ys,kk,p,hH,rfl,ak,by rw[hlen',<-du];exact hlt,rfl⟩,?_⟩
      simp![Res.bg]at h
      refine h ι3 σv _ ((p1.trans p2).trans p3) ((((x1.trans x2).trans x3).trans x4).trans x5) (s4.put hn x5 ⟨_,ak,?_⟩) (((((hL.mono p1 x1).mono p2 x2).mono p3 x3).mono (AE _) x4).mono (AE _) x5) hlen
      exact Paired.mapP (Az (IsD.pur hv d1') hkv) λp r z=>⟨by obtain⟨ds,w1,w2⟩:=z.1;exact⟨ds,w1,ag.mono (AE _) x5 _ _ w2⟩,IsD.mono (AE _) x5 _ _ z.2⟩
     ·exact h.elim
    |_=>simp![qq,em]at h;exact h.elim
  |_=>simp![qq]at h;exact h.elim
end
end Lp
namespace Lp.Srt
open PySem PySem.W PyProof.Rows
noncomputable def KW{α:Type}(lt:Nat->Nat->Bool)(n:Nat):KasT α->(α->Prop)->Prop
 |.ret a,Q=>Q a
 |.ask i j k,Q=>i<n/\j<n/\KW lt n (k (lt i j)) Q
theorem KW.bd{α β:Type}{lt:Nat->Nat->Bool}{n:Nat}{f:α->KasT β}{Q:β->Prop}:∀{t:KasT α},KW lt n t (λa=>KW lt n (f a) Q)->KW lt n (t.bind f) Q
 |.ret _,h=>h
 |.ask i j k,h=>⟨h.1,h.2.1,KW.bd h.2.2⟩
theorem KW.weak{α:Type}{lt:Nat->Nat->Bool}{n:Nat}{Q Q':α->Prop}(hq:∀a,Q a->Q' a):∀{t:KasT α},KW lt n t Q->KW lt n t Q'
 |.ret _,h=>hq _ h
 |.ask _ _ _,h=>⟨h.1,h.2.1,KW.weak hq h.2.2⟩
section
variable{r:Nat -> Nat}{n:Nat}
noncomputable abbrev ltR(r:Nat->Nat)(i j:Nat):Bool:=decide (r i<r j)
noncomputable def PP(n:Nat)(p:Array Nat):Prop:=p.toList.Perm (List.range n)
noncomputable def Ky(r:Nat->Nat)(p:Array Nat)(x:Nat):Nat:=r (p.getD x 0)
noncomputable def Up(r:Nat->Nat)(p:Array Nat)(k:Nat):Prop:=∀i j,i<=j->j<k->Ky r p i<=Ky r p j
noncomputable def Dn(r:Nat->Nat)(p:Array Nat)(k:Nat):Prop:=∀i j,i<=j->j<k->Ky r p j<=Ky r p i
theorem PP.sz{p:Array Nat}(h:PP n p):p.size=n:=by
 have:=h.length_eq
 simpa using this
theorem PP.inb{p:Array Nat}(h:PP n p)(hn:0<n)(x:Nat):p.getD x 0<n:=by
 by_cases hx:x<p.size
 ·have e:p.getD x 0=p[x]:=by simp[hx]
  rw[e]
  have:p[x]∈List.range n:=h.mem_iff.mp (by simp)
  simpa using this
 ·have e:p.getD x 0=0:=by simp[hx]
  rw[e];exact hn
theorem rm(p:Array Nat)(x:Nat):Ky r p x=r ((p[x]?).getD 0):=by
 unfold Ky
 rw[FS]
theorem PP.rev{p:Array Nat}(h:PP n p)(i j:Nat):PP n (kas_rev p i j):=(FX.mp (mirror_perm p i j ((j-i) / 2))).trans h
theorem PP.bub{p:Array Nat}(h:PP n p)(i d:Nat):PP n (bubble p i d):=(FX.mp (bubble_perm p i d)).trans h
theorem wa{p:Array Nat}{i j:Nat}(hj:j<=p.size)(hij:i<=j)(x:Nat):Ky r (kas_rev p i j) x=if i<=x/\x<j then Ky r p (i+j-1-x)else Ky r p x:=by
 rw[rm]
 unfold kas_rev
 rw[getElem?_mirror hj ((j-i) / 2) (by lia) x]
 by_cases h:i<=x/\x<j
 ·rw[if_pos h]
  split
  ·rw[rm]
  ·rename_i hm
   have:x=i+j-1-x:=by lia
   rw[rm,<-this]
 ·rw[if_neg h,if_neg (by lia),rm]
theorem Ez{p:Array Nat}{k d:Nat}(hk:k<p.size)(hd:d<=k)(x:Nat):Ky r (bubble p k d) x=if x=k-d then Ky r p k else if k-d<x/\x<=k then Ky r p (x-1)else Ky r p x:=by
 rw[rm,getElem?_bubble hk d hd x]
 split
 ·rw[rm]
 ·split
  ·rw[rm]
  ·rw[rm]
theorem A0{p:Array Nat}(hp:PP n p)(hn:0<n):∀(f m:Nat),1<=m->m+f<=n->Up r p m->KW (ltR r) n (kas_asc p f m) (λq=>m<=q/\q<=m+f/\Up r p q/\(q<m+f->Ky r p q<Ky r p (q-1)))
 |0,m,_,_,hu=>⟨AH _,AH _,hu,λh=>absurd h (by lia)⟩
 |f+1,m,h1,h2,hu=>by
  refine⟨hp.inb hn _,hp.inb hn _,?_⟩
  by_cases hc:Ky r p m<Ky r p (m-1)
  ·have e:ltR r (p.getD m 0) (p.getD (m-1) 0)=true:=decide_eq_true hc
   (rw[e];dsimp only;rw[if_pos rfl])
   exact⟨AH _,by lia,hu,λ_=>hc⟩
  ·have e:ltR r (p.getD m 0) (p.getD (m-1) 0)=false:=decide_eq_false hc
   (rw[e];dsimp only;rw[if_neg AV])
   refine(A0 hp hn f (m+1) (by lia) (by lia) λi j hij hj=>?_).weak λq hq=>⟨by lia,by lia,hq.2.2.1,λh=>hq.2.2.2 (by lia)⟩
   by_cases hj':j<m
   ·exact hu i j hij hj'
   ·have ej:j=m:=by lia
    subst ej
    by_cases hi:i=j
    ·rw[hi];exact AH _
    ·have:=hu i (j-1) (by lia) (by lia)
     lia
noncomputable def Bk(r:Nat->Nat)(p:Array Nat)(m q:Nat):Prop:=∀x,m-(q+1)<=x->x<m->Ky r p x=Ky r p (m-1)
theorem A1{p:Array Nat}{m q:Nat}(hm:m<=p.size)(hq:q+1<=m)(hb:Bk r p m q)(x:Nat):Ky r (kas_rev p (m-(q+1)) m) x=Ky r p x:=by
 rw[wa hm (by lia)]
 split
 ·rename_i h
  rw[hb x h.1 h.2,hb _ (by lia) (by lia)]
 ·rfl
theorem oz(hn:0<n):∀(f:Nat) (p:Array Nat) (m q:Nat),PP n p->1<=m->m+f<=n->q+1<=m->Dn r p m->Bk r p m q ->
  KW (ltR r) n (kas_desc f p m q) (λz=>PP n z.1/\m<=z.2.1/\z.2.1<=m+f/\z.2.2+1<=z.2.1/\Dn r z.1 z.2.1/\Bk r z.1 z.2.1 z.2.2)
 |0,p,m,q,hp,h1,h2,hq,hd,hb=>⟨hp,AH _,AH _,hq,hd,hb⟩
 |f+1,p,m,q,hp,h1,h2,hq,hd,hb=>by
  have hsz:=hp.sz
  have dn1:∀p':Array Nat,(∀x,Ky r p' x=Ky r p x)->Ky r p m<=Ky r p (m-1)->Dn r p' (m+1):=λp' he hle i j hij hj=>by
   rw[he,he]
   by_cases hj':j<m
   ·exact hd i j hij hj'
   ·have ej:j=m:=by lia
    subst ej
    by_cases hi:i=j
    ·rw[hi];exact AH _
    ·have:=hd i (j-1) (by lia) (by lia)
     lia
  have bk0:∀p':Array Nat,Bk r p' (m+1) 0:=λp' x hx hx'=>by
   have:x=m:=by lia
   rw[this];rfl
  refine⟨hp.inb hn _,hp.inb hn _,?_⟩
  by_cases hc:Ky r p m<Ky r p (m-1)
  ·have e:ltR r (p.getD m 0) (p.getD (m-1) 0)=true:=decide_eq_true hc
   (rw[e];dsimp only;rw[if_pos rfl])
   by_cases h0:q > 0
   ·rw[if_pos h0]
    exact(oz hn f _ (m+1) 0 (hp.rev _ _) (by lia) (by lia) (by lia) (dn1 _ (A1 (by lia) hq hb) (by lia)) (bk0 _)).weak λz hz=>⟨hz.1,by lia,by lia,hz.2.2.2⟩
   ·rw[if_neg h0]
    exact(oz hn f p (m+1) 0 hp (by lia) (by lia) (by lia) (dn1 p (λ_=>rfl) (by lia)) (bk0 _)).weak λz hz=>⟨hz.1,by lia,by lia,hz.2.2.2⟩
  ·have e:ltR r (p.getD m 0) (p.getD (m-1) 0)=false:=decide_eq_false hc
   (rw[e];dsimp only;rw[if_neg AV])
   refine⟨hp.inb hn _,hp.inb hn _,?_⟩
   by_cases hc2:Ky r p (m-1)<Ky r p m
   ·have e2:ltR r (p.getD (m-1) 0) (p.getD m 0)=true:=decide_eq_true hc2
    (rw[e2];dsimp only;rw[if_pos rfl])
    exact⟨hp,AH _,GS _ _,hq,hd,hb⟩
   ·have e2:ltR r (p.getD (m-1) 0) (p.getD m 0)=false:=decide_eq_false hc2
    (rw[e2];dsimp only;rw[if_neg AV])
    refine(oz hn f p (m+1) (q+1) hp (by lia) (by lia) (by lia) (dn1 p (λ_=>rfl) (by lia)) λx hx hx'=>?_).weak λz hz=>⟨hz.1,by lia,by lia,hz.2.2.2⟩
    show Ky r p x=Ky r p m
    by_cases hx2:x=m
    ·rw[hx2]
    ·rw[hb x (by lia) (by lia)];lia
theorem K7{p:Array Nat}{m:Nat}(hm:m<=p.size)(hd:Dn r p m):Up r (kas_rev p 0 m) m:=λi j hij hj=>by
 rw[wa hm (BW _),wa hm (BW _),if_pos (by lia),if_pos (by lia)]
 exact hd _ _ (by lia) (by lia)
theorem A2{p:Array Nat}{m:Nat}(hp:PP n p)(hn:0<n)(h1:1<=m)(h2:m<=n)(hd:Dn r p m):KW (ltR r) n (kas_tail3 m n p) (λz=>1<=z.1/\z.1<=n/\PP n z.2/\Up r z.2 z.1):=by
 unfold kas_tail3
 refine KW.bd ((A0 (hp.rev _ _) hn (n-m) m h1 (by lia) (K7 (by rw[hp.sz];exact h2) hd)).weak λq hq=>?_)
 exact⟨by lia,by lia,hp.rev _ _,hq.2.2.1⟩
theorem A3{p:Array Nat}{m:Nat}(hp:PP n p)(hn:0<n)(h1:1<=m)(h2:m<n)(hd:Dn r p m)(hlt:Ky r p m<Ky r p (m-1)):KW (ltR r) n (kas_descPart m n p) (λz=>1<=z.1/\z.1<=n/\PP n z.2/\Up r z.2 z.1):=by
 unfold kas_descPart
 have hd1:Dn r p (m+1):=λi j hij hj=>by
  by_cases hj':j<m
  ·exact hd i j hij hj'
  ·have ej:j=m:=by lia
   subst ej
   by_cases hi:i=j
   ·rw[hi];exact AH _
   ·have:=hd i (j-1) (by lia) (by lia)
    lia
 refine KW.bd ((oz hn (n-(m+1)) p (m+1) 0 hp (by lia) (by lia) (by lia) hd1 λx hx hx'=>by rw[show x=m by lia];rfl).weak λz hz=>?_)
 obtain⟨hp',g1,g2,g3,g4,g5⟩:=hz
 by_cases h0:z.2.2 > 0
 ·rw[if_pos h0]
  refine A2 (hp'.rev _ _) hn (by lia) (by lia) λi j hij hj=>?_
  rw[A1 (by rw[hp'.sz];lia) g3 g5,A1 (by rw[hp'.sz];lia) g3 g5]
  exact g4 i j hij hj
 ·rw[if_neg h0]
  exact A2 hp' hn (by lia) (by lia) g4
theorem Dg{p:Array Nat}(hp:PP n p)(hn:2<=n):KW (ltR r) n (kas_count n p) (λz=>1<=z.1/\z.1<=n/\PP n z.2/\Up r z.2 z.1):=by
 unfold kas_count
 have hn0:0<n:=by lia
 refine KW.bd ((A0 hp hn0 (n-1) 1 (AH _) (by lia) λi j hij hj=>by rw[show i=j by lia];exact AH _).weak λq hq=>?_)
 obtain⟨g1,g2,g3,g4⟩:=hq
 by_cases h0:q=n
 ·rw[if_pos (by simp[h0])]
  exact⟨by lia,by lia,hp,g3⟩
 ·rw[if_neg (by simp[h0])]
  have hlt:=g4 (by lia)
  by_cases h1:q > 1
  ·rw[if_pos h1]
   refine⟨hp.inb hn0 _,hp.inb hn0 _,?_⟩
   by_cases hc:Ky r p 0<Ky r p (q-1)
   ·have e:ltR r (p.getD 0 0) (p.getD (q-1) 0)=true:=decide_eq_true hc
    (rw[e];dsimp only;rw[if_pos rfl])
    exact⟨by lia,by lia,hp,g3⟩
   ·have e:ltR r (p.getD 0 0) (p.getD (q-1) 0)=false:=decide_eq_false hc
    (rw[e];dsimp only;rw[if_neg AV])
    have all:∀x,x<q->Ky r p x=Ky r p 0:=λx hx=>by
     have a:=g3 0 x (by lia) hx
     have b:=g3 x (q-1) (by lia) (by lia)
     lia
    have same:∀x,Ky r (kas_rev p 0 q) x=Ky r p x:=λx=>by
     rw[wa (by rw[hp.sz];lia) (by lia)]
     split
     ·rw[all x (by lia),all _ (by lia)]
     ·rfl
    refine A3 (hp.rev _ _) hn0 (by lia) (by lia) (λi j hij hj=>?_) ?_
    ·rw[same,same,all i (by lia),all j hj]
     exact AH _
    ·rw[same,same];exact hlt
  ·rw[if_neg h1]
   have e1:q=1:=by lia
   subst e1
   exact A3 hp hn0 (by lia) (by lia) (λi j hij hj=>by rw[show i=j by lia];exact AH _) hlt
theorem o3{p:Array Nat}{k:Nat}(hp:PP n p)(hn:0<n)(hu:Up r p k):∀(f l q:Nat),l<=q->q<=k->q-l<=f->(∀x,x<l->Ky r p x<=Ky r p k)->(∀x,q<=x->x<k->Ky r p k<Ky r p x) ->
  KW (ltR r) n (kas_place p k f l q) (λz=>z<=k/\(∀x,x<z->Ky r p x<=Ky r p k)/\∀x,z<=x->x<k->Ky r p k<Ky r p x)
 |0,l,q,h1,h2,h3,ha,hb=>⟨by lia,ha,λx hx=>hb x (by lia)⟩
 |f+1,l,q,h1,h2,h3,ha,hb=>by
  unfold kas_place
  by_cases h0:l≥q
  ·rw[if_pos h0]
   exact⟨by lia,ha,λx hx=>hb x (by lia)⟩
  ·rw[if_neg h0]
   refine⟨hp.inb hn _,hp.inb hn _,?_⟩
   by_cases hc:Ky r p k<Ky r p ((l+q) / 2)
   ·have e:ltR r (p.getD k 0) (p.getD ((l+q) / 2) 0)=true:=decide_eq_true hc
    (rw[e];dsimp only;rw[if_pos rfl])
    refine o3 hp hn hu f l ((l+q) / 2) (by lia) (by lia) (by lia) ha λx hx hx'=>?_
    have:=hu ((l+q) / 2) x hx hx'
    lia
   ·have e:ltR r (p.getD k 0) (p.getD ((l+q) / 2) 0)=false:=decide_eq_false hc
    (rw[e];dsimp only;rw[if_neg AV])
    refine o3 hp hn hu f ((l+q) / 2+1) q (by lia) h2 (by lia) (λx hx=>?_) hb
    have:=hu x ((l+q) / 2) (by lia) (by lia)
    lia
theorem E1(hn:0<n):∀(f:Nat) (p:Array Nat) (k:Nat),PP n p->k+f=n->1<=k->Up r p k->KW (ltR r) n (kas_bin f p k) (λz=>PP n z/\Up r z n)
 |0,p,k,hp,h1,_,hu=>⟨hp,by rw[<-h1];exact hu⟩
 |f+1,p,k,hp,h1,h2,hu=>by
  unfold kas_bin
  refine KW.bd ((o3 hp hn hu k 0 k (by lia) (AH _) (by lia) (λx hx=>absurd hx (by lia)) (λx hx hx'=>absurd hx' (by lia))).weak λl hl=>?_)
  obtain⟨g1,g2,g3⟩:=hl
  refine E1 hn f _ (k+1) (hp.bub _ _) (by lia) (by lia) λi j hij hj=>?_
  have hsz:=hp.sz
  have ek:k-(k-l)=l:=by lia
  rw[Ez (by lia) (by lia),Ez (by lia) (by lia),ek]
  by_cases i1:i=l
  ·rw[if_pos i1]
   by_cases j1:j=l
   ·rw[if_pos j1];exact AH _
   ·rw[if_neg j1,if_pos (by lia)]
    exact CU (g3 (j-1) (by lia) (by lia))
  ·rw[if_neg i1]
   by_cases i2:l<i/\i<=k
   ·rw[if_pos i2,if_neg (show ¬j=l by lia),if_pos (by lia)]
    exact hu (i-1) (j-1) (by lia) (by lia)
   ·rw[if_neg i2]
    by_cases j1:j=l
    ·rw[if_pos j1];exact g2 i (by lia)
    ·rw[if_neg j1]
     by_cases j2:l<j/\j<=k
     ·rw[if_pos j2]
      exact hu i (j-1) (by lia) (by lia)
     ·rw[if_neg j2]
      exact hu i j hij (by lia)
theorem G8(hn:2<=n):KW (ltR r) n (kas_sort n) (λz=>PP n z/\Up r z n):=by
 unfold kas_sort
 have hp:PP n (List.toArray (List.range n)):=by unfold PP;rw[FP]
 refine KW.bd ((Dg hp hn).weak λz hz=>?_)
 obtain⟨g1,g2,g3,g4⟩:=hz
 by_cases h:z.1<n
 ·rw[if_pos h]
  have em:max z.1 1=z.1:=by lia
  rw[em]
  exact E1 (by lia) (n-z.1) z.2 z.1 g3 (by lia) g1 g4
 ·rw[if_neg h]
  have:z.1=n:=by lia
  rw[this]at g4
  exact⟨g3,g4⟩
end
open PySem PySem.W PyProof.Rows PySem.Calls
section
variable{prog:Program}{w:World}{A:Around}{E:Value -> Shared -> Prop}{s:Shared}
theorem K8{α:Type}{lt:Nat->Nat->Bool}{n:Nat}{cmp:Nat->Nat->(Bool->Shared->Prop)->Shared->Prop}{s1:Shared}{Q:α->Prop}(hc:∀i j C,i<n->j<n->C (lt i j) s1->cmp i j C s1) :
  ∀{t:KasT α},KW lt n t Q->t.kasWp cmp (λa s'=>s'=s1/\Q a) s1
 |.ret _,h=>⟨rfl,h⟩
 |.ask i j _,h=>hc i j _ h.1 h.2.1 (K8 hc h.2.2)
theorem i7(vs:List Value):(List.range vs.length).map (λi=>vs.getD i Value.none)=vs:=by
 apply FB
 intro i
 by_cases h:i<vs.length
 ·simp[h]
 ·simp[h]
theorem rn {a:Addr} {vs:List Value} {c0:Nat} {P:PySem.Fin->Shared->Prop} (q0:s.heap.get? a=some (seqObj "list" vs.toArray c0)) (hsm:vs.length<64) (rk:Nat->Nat)
  (hk:2<=vs.length->∀g:Heap,(∀b o,b≠a->s.heap.get? b=some o->g.get? b=some o)->∃κ:SortKind,(∀(Q:SortKind->Shared->Prop) (E':Value->Shared->Prop),Q κ {s with heap:=g}->wpAny (model prog w) A (keyKind' vs.toArray) Q E' {s with heap:=g}) /\
   ∀(i j:Nat) (C:Bool->Shared->Prop),i<vs.length->j<vs.length->C (decide (rk i<rk j)) {s with heap:=g}->wpAny (model prog w) A (keyLt' κ (vs.getD i Value.none) (vs.getD j Value.none)) C (λ_ _=>False) {s with heap:=g})
  (fin:∀p:Array Nat,PP vs.length p->Up rk p vs.length->P (.done (.ret .none)) {s with heap:=sortedHeap s.heap a vs (List.toArray (p.toList.map λi=>vs.getD i Value.none))}) :
  wpAny (model prog w) A (Builtin.«list.sort» ⟨[.ref a],[]⟩) P E s:=by
 rw[list_sort_plain]
 have lta:a<s.heap.objs.size:=AM q0
 have small:vs.toArray.size<=sizeLine:=by rw[AG,DF];lia
 refine AA (listItems_at q0 rfl (AA (listUpdate_at q0 rfl ?_ small (BW _))))
 obtain⟨e1,q1⟩:∃e1,(s.heap.update a (Obj.mapSeq λ_=>(#[]:Array Value))).get? a=some (seqObj "list" #[] e1):=⟨_,HK q0 (λ_=>#[])⟩
 refine AA (seqEpoch_at q1 rfl (AA (wpAny_newTuple (AA (wpAny_newList (BS ?_) (BW _))) (by simpa using small))))
 have sz1:(s.heap.update a (Obj.mapSeq λ_=>(#[]:Array Value))).objs.size=s.heap.objs.size:=Heap.size_update _ _ _
 have q6:(((s.heap.update a (Obj.mapSeq λ_=>(#[]:Array Value))).push (seqObj "tuple" vs.toArray 0)).push (seqObj "list" #[] 0)).get? a=some (seqObj "list" #[] e1):=AB _ (AB _ q1)
 have old:∀b o,b≠a->s.heap.get? b=some o->(((s.heap.update a (Obj.mapSeq λ_=>(#[]:Array Value))).push (seqObj "tuple" vs.toArray 0)).push (seqObj "list" #[] 0)).get? b=some o:=λb o hb e =>
  AB _ (AB _ (by rw[DI _ _ _ _ hb];exact e))
 show wpAny (model prog w) A _ P E {s with heap:=((s.heap.update a (Obj.mapSeq λ_=>(#[]:Array Value))).push (seqObj "tuple" vs.toArray 0)).push (seqObj "list" #[] 0)}
 dsimp only
 by_cases hs2:vs.toArray.size<2
 ·have hs2':vs.length<2:=by simpa using hs2
  rw[if_pos hs2,if_pos hs2]
  refine AA (AC ?_)
  rw[StateT.run_pure]
  refine AA (AC ?_)
  dsimp only
  have eo:(arrOf (SortSt.mk' general' (vs.toArray.zip vs.toArray) #[] 7 none)).map (·.2)=List.toArray ((List.toArray (List.range vs.length)).toList.map λi=>vs.getD i Value.none):=by
   show(vs.toArray.zip vs.toArray).map (·.2)=_
   rw[FP,i7]
   apply Array.toList_inj.mp
   simp[List.map_snd_zip]
  rw[eo]
  refine AA (seqEpoch_at q6 rfl (AA (listUpdate_at q6 rfl ?_ (BW _) (by rw[FP,i7];lia))))
  simp![bne_self_eq_false,AF,if_false]
  refine AC (fin (List.toArray (List.range vs.length)) (List.Perm.refl _) λi j hij hj=>?_)
  rw[show i=j by lia]
  exact AH _
 ·have h2:2<=vs.length:=by simp at hs2;lia
  rw[if_neg hs2,if_neg hs2]
  obtain⟨κ,k1,k2⟩:=hk h2 _ old
  refine AA (k1 _ _ ?_)
  have run:=kat_run (prog:=prog) (w:=w) (A:=A) (E:=E) (κ:=κ) (ks:=vs) (vs:=vs) (s:={s with heap:=((s.heap.update a (Obj.mapSeq λ_=>(#[]:Array Value))).push (seqObj "tuple" vs.toArray 0)).push (seqObj "list" #[] 0)})
   (Q:=λst' s'=>s'={s with heap:=((s.heap.update a (Obj.mapSeq λ_=>(#[]:Array Value))).push (seqObj "tuple" vs.toArray 0)).push (seqObj "list" #[] 0)}/\failedOf st'=none/\∃p:Array Nat,PP vs.length p/\Up rk p vs.length/\(arrOf st').map (·.2)=List.toArray (p.toList.map λi=>vs.getD i Value.none))
   (G:=λp s'=>s'={s with heap:=((s.heap.update a (Obj.mapSeq λ_=>(#[]:Array Value))).push (seqObj "tuple" vs.toArray 0)).push (seqObj "list" #[] 0)}/\PP vs.length p/\Up rk p vs.length)
   rfl h2 hsm (λp st' s' _ har hf hg=>⟨hg.1,hf,p,hg.2.1,hg.2.2,kat_snds rfl har⟩) (K8 (lt:=ltR rk) (λi j C hi hj hC=>k2 i j C hi hj hC) (G8 h2))
  refine AA (Da run ?_ λ_ _ x=>x)
  rintro⟨⟨⟩,st'⟩ s' ⟨rfl,hf,p,hp,hu,ho⟩
  dsimp only
  rw[ho]
  refine AA (seqEpoch_at q6 rfl (AA (listUpdate_at q6 rfl ?_ (BW _) (by rw[AG,AJ,AZ,hp.sz];simp at small;lia))))
  rw[hf]
  simp![bne_self_eq_false,AF,if_false]
  exact AC (fin p hp hu)
end
theorem uu:∀a:List Int,lexLt a a=false
 | []=>rfl
 |x::xs=>by simp[lexLt,uu xs]
theorem wb:∀{a b c:List Int},lexLt a b=true->lexLt b c=true->lexLt a c=true
 |a,b,[],_,h=>by cases b<;>simp[lexLt]at h
 | [],_,_::_,_,_=>rfl
 |x::xs,[],c::cs,h,_=>by simp[lexLt]at h
 |x::xs,y::ys,z::zs,h1,h2=>by
  simp![lexLt]at h1 h2 ⊢
  by_cases e1:x=y
  ·subst e1
   by_cases e2:x=z
   ·subst e2
    simp![if_true]at h1 h2 ⊢
    exact wb h1 h2
   ·simp![if_true]at h1
    rw[if_neg e2]at h2 ⊢
    exact h2
  ·rw[if_neg e1]at h1
   have h1':=of_decide_eq_true h1
   by_cases e2:y=z
   ·subst e2
    rw[if_neg e1]
    exact h1
   ·rw[if_neg e2]at h2
    have h2':=of_decide_eq_true h2
    rw[if_neg (show ¬x=z by lia)]
    exact decide_eq_true (by lia)
theorem o4:∀{a b:List Int},lexLt a b=false->lexLt b a=false->a=b
 | [],[],_,_=>rfl
 | [],_::_,h,_=>by simp[lexLt]at h
 |_::_,[],_,h=>by simp[lexLt]at h
 |x::xs,y::ys,h1,h2=>by
  simp![lexLt]at h1 h2
  by_cases e:x=y
  ·subst e
   simp![if_true]at h1 h2
   rw[o4 h1 h2]
  ·rw[if_neg e]at h1
   rw[if_neg (Ne.symm e)]at h2
   have a1:=of_decide_eq_false h1
   have a2:=of_decide_eq_false h2
   lia
theorem E2{r a b:List Int}(h1:lexLt r b=true)(h2:lexLt a b=false):lexLt r a=true:=by
 cases e:lexLt r a with
 |true=>rfl
 |false =>
  cases e2:lexLt a r with
  |true=>rw[wb e2 h1]at h2;cases h2
  |false=>rw[o4 e e2,h2]at h1;cases h1
theorem K9{a b:List Int}(h:lexLt a b=true):lexLt b a=false:=by
 cases e:lexLt b a with
 |false=>rfl
 |true=>have:=wb h e;rw[uu]at this;cases this
theorem rp{α:Type}{p q:α->Bool}:∀{l:List α},(∀x∈l,p x=true->q x=true)->(∃x∈l,q x=true/\p x=false)->l.countP p<l.countP q
 | [],_,h=>by obtain⟨x,hx,_⟩:=h;simp at hx
 |y::r,h1,h2=>by
  have le:r.countP p<=r.countP q:=HQ λx hx=>h1 x (AI _ hx)
  obtain⟨x,hx,hq,hp⟩:=h2
  rcases AS.mp hx with rfl | hx
  ·simp[CY,hq,hp];lia
  ·have:=rp (l:=r) (λz hz=>h1 z (AI _ hz)) ⟨x,hx,hq,hp⟩
   have h0:=h1 y AN
   simp![CY]
   cases e1:p y with
   |true=>simp[h0 e1];lia
   |false=>simp;lia
noncomputable def rkL(rs:List (List Int))(i:Nat):Nat:=rs.countP λr=>lexLt r (rs.getD i [])
theorem La{rs:List (List Int)}{i j:Nat}(hi:i<rs.length)(hj:j<rs.length):decide (rkL rs i<rkL rs j)=lexLt (rs.getD i []) (rs.getD j []):=by
 have mi:rs.getD i []∈rs:=by rw[show rs.getD i []=rs[i]by simp[hi]];exact CW hi
 cases e:lexLt (rs.getD i []) (rs.getD j [])with
 |true=>exact decide_eq_true (rp (λx _ h=>wb h e) ⟨_,mi,e,uu _⟩)
 |false =>
  refine decide_eq_false (IA.mpr ?_)
  exact HQ λx _ h=>E2 h e
theorem o5(x:List Int):∀l:List (List Int),(F7 x l).Perm (x::l)
 | []=>.refl _
 |y::r=>by
  unfold F7
  split
  ·exact((o5 x r).cons y).trans (.swap x y r)
  ·exact .refl _
theorem gp:∀l:List (List Int),(i9 l).Perm l
 | []=>.refl _
 |x::r=>(o5 x (i9 r)).trans ((gp r).cons x)
theorem E3(x:List Int):∀l:List (List Int),l.Pairwise (λa b=>lexLt b a=false)->(F7 x l).Pairwise (λa b=>lexLt b a=false)
 | [],_=>by simp[F7]
 |y::r,h=>by
  unfold F7
  have h':=BP.mp h
  split
  ·rename_i hc
   refine BP.mpr ⟨λz hz=>?_,E3 x r h'.2⟩
   rcases AS.mp ((o5 x r).mem_iff.mp hz)with rfl | hz
   ·exact K9 hc
   ·exact h'.1 z hz
  ·rename_i hc
   have hc':lexLt y x=false:=by simpa using hc
   refine BP.mpr ⟨λz hz=>?_,h⟩
   rcases AS.mp hz with rfl | hz
   ·exact hc'
   ·cases e:lexLt z x with
    |false=>rfl
    |true=>have:=E2 e hc';rw[h'.1 z hz]at this;cases this
theorem jm:∀l:List (List Int),(i9 l).Pairwise (λa b=>lexLt b a=false)
 | []=>.nil
 |x::r=>E3 x _ (jm r)
theorem range_getD{α:Type}(d:α)(l:List α):(List.range l.length).map (λi=>l.getD i d)=l:=by
 apply FB
 intro i
 by_cases h:i<l.length<;>simp[h]
theorem A4{rs:List (List Int)}{p:Array Nat}(hp:PP rs.length p)(hu:Up (rkL rs) p rs.length):p.toList.map (λi=>rs.getD i [])=i9 rs:=by
 have p1:(p.toList.map λi=>rs.getD i []).Perm rs:=by
  have:=hp.map λi=>rs.getD i []
  rwa [range_getD]at this
 refine List.Perm.eq_of_pairwise (le:=λa b=>lexLt b a=false) (λa b _ _ h1 h2=>o4 h2 h1) ?_ (jm rs) (p1.trans (gp rs).symm)
 rw[DC]
 intro i j hi hj hij
 have hsz:=hp.sz
 simp![AJ,AZ]at hi hj
 simp![List.getElem_map,Array.getElem_toList]
 have bi:p[i]<rs.length:=by simpa using hp.mem_iff.mp (show p[i]∈p.toList by simp)
 have bj:p[j]<rs.length:=by simpa using hp.mem_iff.mp (show p[j]∈p.toList by simp)
 rw[<-La bj bi]
 refine decide_eq_false (IA.mpr ?_)
 have:=hu i j (by lia) (by lia)
 unfold Ky at this
 simpa[hi,hj]using this
end Lp.Srt
namespace Lp
open PySem PySem.Spec PyProof.Rows L2 Lp.Srt
section
variable{X:Cx}{φ:Phi}{pos:Pos}
theorem A5{prog:Program}{w:World}{A:Around}{s:Shared}{fin:Bool}{Q:Bool->Shared->Prop}:∀(r1 r2:List Int) (u1 u2:List Value) (i:Nat),bc (r1.map V.int) u1->bc (r2.map V.int) u2->fin=decide (r1.length<r2.length)->Q (lexLt r1 r2) s ->
  PySem.W.KatLex prog w A true fin Q (u1.zip u2) i s
 | [],[],u1,u2,i,h1,h2,hf,q=>by
  cases h1;cases h2
  rw[hf];exact q
 | [],_::_,u1,u2,i,h1,h2,hf,q=>by
  cases h1
  rw[hf];simpa[PySem.W.KatLex,lexLt]using q
 |_::_,[],u1,u2,i,h1,h2,hf,q=>by
  cases h2
  rw[hf,EM];simpa[PySem.W.KatLex,lexLt]using q
 |x::r1,y::r2,u1,u2,i,h1,h2,hf,q=>by
  rw[AL]at h1 h2
  cases h1 with
  |cons a1 b1 =>
   cases h2 with
   |cons a2 b2 =>
    obtain⟨t1,rfl⟩:=a1
    obtain⟨t2,rfl⟩:=a2
    rw[BZ]
    refine PySem.W.kat_cons (wpAny_eqBool_int (PySem.W.kat_go (λe=>PySem.W.kat_yes ?_) λe=>PySem.W.kat_no ?_))
    ·have e':x=y:=by simpa using e
     refine A5 r1 r2 _ _ (i+1) b1 b2 (by rw[hf];simp) ?_
     simpa[lexLt,e']using q
    ·have e':¬x=y:=by simpa using e
     have q':Q (decide (x<y)) s:=by simpa[lexLt,e']using q
     cases hi:(true&&i==0)with
     |true=>exact oneLt_int q'
     |false=>exact PySem.W.kat_one _ _ (lt_int (show PySem.W.BoolBack Q (.bool (decide (x<y))) s from q'))
theorem Dh(ns:List Int):bo (ns.map D.int)=some ns:=by
 induction ns with
 |nil=>rfl
 |cons n r ih=>simp[bo,ih]
theorem wc:∀{ds:List D} {ns:List Int},bo ds=some ns->ns.map D.int=ds
 | [],ns,h=>by simp[bo]at h;subst h;rfl
 |.int i::r,ns,h=>by
  simp![bo]at h
  cases e:bo r with
  |none=>rw[e]at h;simp at h
  |some q =>
   rw[e]at h
   simp at h
   subst h
   rw[AL,wc e]
 |.non::_,_,h=>by simp[bo]at h
 |.bl _::_,_,h=>by simp[bo]at h
 |.str _::_,_,h=>by simp[bo]at h
 |.tup _::_,_,h=>by simp[bo]at h
 |.lst _::_,_,h=>by simp[bo]at h
 |.loc _::_,_,h=>by simp[bo]at h
theorem rq:∀{xs:List D} {rs:List (List Int)},rowsOf xs=some rs->xs=rs.map λr=>D.tup (r.map D.int)
 | [],rs,h=>by simp[rowsOf]at h;subst h;rfl
 |.tup ds::r,rs,h=>by
  simp![rowsOf]at h
  cases e1:bo ds with
  |none=>rw[e1]at h;simp at h
  |some ns =>
   rw[e1]at h
   cases e2:rowsOf r with
   |none=>rw[e2]at h;simp at h
   |some q =>
    rw[e2]at h
    simp at h
    subst h
    rw[AL,wc e1,<-rq e2]
 |.non::_,_,h=>by simp[rowsOf]at h
 |.bl _::_,_,h=>by simp[rowsOf]at h
 |.int _::_,_,h=>by simp[rowsOf]at h
 |.str _::_,_,h=>by simp[rowsOf]at h
 |.lst _::_,_,h=>by simp[rowsOf]at h
 |.loc _::_,_,h=>by simp[rowsOf]at h
noncomputable def o6(g:Heap)(r:List Int)(u:Value):Prop:=r≠[]/\∃a its,u=Value.ref a/\IsTup g a (List.toArray its)/\bc (r.map V.int) its
theorem o6.keep{g g':Heap}{r:List Int}{u:Value}(h:o6 g r u)(k:∀b o,g.get? b=some o->g'.get? b=some o):o6 g' r u:=by
 obtain⟨h0,a,its,e,⟨o,q1,q2,q3⟩,v⟩:=h
 exact⟨h0,a,its,e,⟨o,k _ _ q1,q2,q3⟩,v⟩
theorem r0{g:Heap}:∀{rs:List (List Int)} {us:List Value},Paired (o6 g) rs us->∃fs,PySem.W.KatTups g us fs/\fs.length=us.length/\∀v∈fs,∃i t,v=Value.int i t
 |_,_,.nil=>⟨[],.nil,rfl,by simp⟩
 |r::rs,_,.cons h t=>by
  obtain⟨fs,f1,f2,f3⟩:=r0 t
  obtain⟨h0,a,its,rfl,⟨o,q1,q2,n,q3⟩,v⟩:=h
  cases r with
  |nil=>exact absurd rfl h0
  |cons x r =>
   rw[AL]at v
   cases v with
   |cons a1 b1 =>
    obtain⟨t1,rfl⟩:=a1
    refine⟨.int x t1::fs,.cons q1 q2 q3 (by simp) f1,by simp[f2],λz hz=>?_⟩
    rcases AS.mp hz with rfl | hz
    ·exact⟨_,_,rfl⟩
    ·exact f3 z hz
theorem ig{α β:Type}{R:α->β->Prop}{d:α}{e:β}:∀{xs:List α} {ys:List β},Paired R xs ys->∀i,i<xs.length->R (xs.getD i d) (ys.getD i e)
 |_,_,.nil,i,h=>by simp at h
 |_,_,.cons a _,0,_=>by simpa using a
 |_,_,.cons _ t,i+1,h=>by simpa using ig t i (by simpa using h)
end
end Lp
namespace Lp.Sets
open PySem PySem.W PyProof.Rows
noncomputable def Hz(xs:Array Nat):Prop:=∀i j,i<j->j<xs.size->xs.getD i 0<xs.getD j 0
theorem getD_in{xs:Array Nat}{i:Nat}(d:Nat)(h:i<xs.size):xs.getD i d=xs.getD i 0:=by simp[h]
noncomputable def Lb(xs:Array Nat)(j p:Nat):Prop:=p<=xs.size/\(∀i,i<p->xs.getD i 0<j)/\∀i,p<=i->i<xs.size->j<=xs.getD i 0
theorem o7{xs:Array Nat}{j:Nat}(hr:Hz xs):∀(f lo hi:Nat),hi-lo<=f->lo<=hi->hi<=xs.size->(∀i,i<lo->xs.getD i 0<j)->(∀i,hi<=i->i<xs.size->j<=xs.getD i 0)->Lb xs j (SetTable.below.go xs j f lo hi)
 |0,lo,hi,h1,h2,h3,ha,hb=>by
  have e:lo=hi:=by lia
  subst e
  exact⟨h3,ha,hb⟩
 |f+1,lo,hi,h1,h2,h3,ha,hb=>by
  unfold SetTable.below.go
  by_cases hlt:lo<hi
  ·rw[if_pos hlt]
   dsimp only
   have hm:(lo+hi) / 2<xs.size:=by lia
   rw[getD_in j hm]
   by_cases hc:xs.getD ((lo+hi) / 2) 0<j
   ·rw[if_pos hc]
    refine o7 hr f _ hi (by lia) (by lia) h3 (λi hi'=>?_) hb
    by_cases e:i=(lo+hi) / 2
    ·rw[e];exact hc
    ·have:=hr i ((lo+hi) / 2) (by lia) hm
     lia
   ·rw[if_neg hc]
    refine o7 hr f lo _ (by lia) (by lia) (by lia) ha λi hi' hs=>?_
    by_cases e:i=(lo+hi) / 2
    ·rw[e];lia
    ·have:=hr ((lo+hi) / 2) i (by lia) hs
     lia
  ·rw[if_neg hlt]
   have e:lo=hi:=by lia
   subst e
   exact⟨h3,ha,hb⟩
theorem jc{xs:Array Nat}(hr:Hz xs)(j:Nat):Lb xs j (SetTable.below xs j):=o7 hr xs.size 0 xs.size (by lia) (by lia) (by lia) (λi h=>absurd h (by lia)) λi h h'=>absurd h' (by lia)
theorem gy{α:Type}(xs:Array α)(p:Nat)(x:α):(SetTable.insertAt xs p x).toList=xs.toList.take p++x::xs.toList.drop p:=by
 unfold SetTable.insertAt
 simp[Array.toList_extract,DQ]
theorem ma{xs:Array Nat}:Hz xs↔xs.toList.Pairwise (· < ·):=by
 rw[DC]
 constructor
 ·intro h i j hi hj hij
  have h':=h i j hij (by simpa using hj)
  have e1:i<xs.size:=by simpa using hi
  have e2:j<xs.size:=by simpa using hj
  simpa[e1,e2]using h'
 ·intro h i j hij hj
  have:=h i j (by simp;lia) (by simpa using hj) hij
  have e1:i<xs.size:=by lia
  simpa[e1,hj]using this
theorem uv{xs:Array Nat}{j:Nat}(hr:Hz xs)(hn:xs[SetTable.below xs j]?≠some j):Hz (SetTable.insertAt xs (SetTable.below xs j) j):=by
 obtain⟨h1,h2,h3⟩:=jc hr j
 have hr':=ma.mp hr
 generalize SetTable.below xs j=p at *
 rw[ma,gy,FK]
 have hd:∀b∈xs.toList.drop p,j<b:=by
  intro b hb
  obtain⟨i,hi,e⟩:=FJ.mp hb
  rw[List.getElem_drop]at e
  have hs:p+i<xs.size:=by simp at hi;lia
  have g:=h3 (p+i) (by lia) hs
  have e':xs.getD (p+i) 0=b:=by simp[hs];simpa using e
  rw[e']at g
  by_cases h0:j=b
  ·exfalso
   subst h0
   have hp:xs[p]? = some (xs.getD p 0):=by
    have:p<xs.size:=by lia
    simp[this]
   have hjp:j<=xs.getD p 0:=h3 p (AH _) (by lia)
   have hpj:xs.getD p 0<=j:=by
    by_cases hi0:i=0
    ·subst hi0;rw[<-e'];exact AH _
    ·have:=hr p (p+i) (by lia) hs
     lia
   exact hn (by rw[hp];congr 1;lia)
  ·lia
 refine⟨hr'.sublist (List.take_sublist _ _),BP.mpr ⟨hd,hr'.sublist (List.drop_sublist _ _)⟩,?_⟩
 intro a ha b hb
 have haj:a<j:=by
  obtain⟨i,hi,e⟩:=FJ.mp ha
  rw[List.getElem_take]at e
  have hs:i<xs.size:=by simp at hi;lia
  have g:=h2 i (by simp at hi;lia)
  have e':xs.getD i 0=a:=by simp[hs];simpa using e
  lia
 rcases AS.mp hb with rfl | hb
 ·exact haj
 ·have:=hd b hb
  lia
structure Tidy (t:SetTable) (l:Bool):Prop where
 rose:Hz t.place
 none:t.dummies=#[]
 led:t.led=l
theorem has_none(j:Nat):SetTable.has #[] j=false:=rfl
theorem yi(l:Bool):Tidy (.fresh 0 0 l) l:=⟨λi j _ h=>absurd h (by simp[SetTable.fresh]),rfl,rfl⟩
structure Laid (o:Obj) (es:Array (Int×Value)) (ep:Nat) (t:SetTable) (l:Bool):Prop where
 set:o.ExactSet
 data:o.data=.set es ep t
 tidy:Tidy t l
 fits:t.fits es.size=true
 few:es.size<scanBound
open PySem PySem.W PyProof.Rows PySem.Calls
section
variable{prog:Program}{w:World}{A:Around}{E:Value -> Shared -> Prop}{s:Shared}
noncomputable abbrev kj(w:World):Bool:=!w.params.followText "set-order"
noncomputable abbrev fh(w:World):Obj:={cls:=.type "set",dict:=none,data:=.set #[] 0 (.fresh 0 0 (kj w))}
theorem G9(x:Value){Q₁:Value->Shared->Prop}(h:Q₁ (.ref s.heap.objs.size) {s with heap:=s.heap.push (fh w)}) :
  codeAny (model prog w) A (.call (.builtin "set.__new__") ⟨[.type "set",x],[]⟩) (wants Q₁ E) s:=by
 refine codeAny_of_tree ?_
 show wpAny (model prog w) A.in1 (do checkBuiltinCall "set.__new__" ⟨[.type "set",x],[]⟩;again (.builtin "set.__new__" ⟨[.type "set",x],[]⟩)) _ _ s
 refine AA (wpAny_of_eq (PySem.F.newCall_set_1 x) (AC ⟨GN HR _,DU PySem.F.entry_set_new ?_⟩))
 rw[DG HR]
 unfold Builtin.«set.__new__» Builtin.Frozenset.newClass
 have e1:=sub_set_self
 obtain⟨hp,g,d,tk,os⟩:=s
 dsimp only
 wp_walk
 refine DN (AC ?_)
 dsimp only
 simp![newObj]
 exact AA (wpAny_alloc (AC (AC h)))
end
theorem Ha{T:String}(e:T="list"\/T="tuple"):isSubtype (.type T) (.type "set")=pure false/\isSubtype (.type T) (.type "frozenset")=pure false:=by
 rcases e with rfl | rfl
 ·exact⟨PySem.F.sub_list_set,PySem.F.sub_list_frozenset⟩
 ·constructor
  ·rw[FC];kernel_rfl
  ·rw[FC];kernel_rfl
noncomputable def Lc:Bool->String
 |true=>"list"
 |false=>"tuple"
theorem Ld{b:Bool}{h:Heap}{x:Addr}{items:Array Value}(q:SQ b h x items):∃o,h.get? x=some o/\o.cls=.type (Lc b):=by
 cases b
 ·obtain⟨o,e,c,_⟩:=q;exact⟨o,e,c⟩
 ·obtain⟨o,e,c,_⟩:=q;exact⟨o,e,c⟩
section
variable{prog:Program}{w:World}{A:Around}{E:Value -> Shared -> Prop}{s:Shared}
theorem Di{b:Bool}(hh:A.handled=none)(I x:Addr)(ne:x≠I)(items:Array Value):Walks prog w A I [I,x] [I] items.size (λi v=>items[i]? = some v) (λi h=>SI b h I x i/\SQ b h x items):=by
 cases b
 ·exact Walks.tuple hh I x ne items
 ·exact Walks.list hh I x ne items
end
section
theorem ka{α:Type}:∀(l:List α) (i:Nat) (h:i<l.length),(l[i]::l.eraseIdx i).Perm l
 |x::xs,0,_=>.refl _
 |x::xs,i+1,h=>by
  have hi:i<xs.length:=by simpa using h
  have ih:=ka xs i hi
  show(xs[i]::x::xs.eraseIdx i).Perm (x::xs)
  exact(List.Perm.swap ..).trans (ih.cons x)
theorem A6{α:Type}(next:Nat->Nat):∀(f k:Nat) (left:List α) (out:Array α),left.length=f->(pickOrder.go next f k left out).toList.Perm (out.toList++left)
 |0,k,left,out,h=>by
  have e:left=[]:=ES.mp h
  subst e
  simp[pickOrder.go]
 |f+1,k,left,out,h=>by
  unfold pickOrder.go
  have hl:next k % left.length<left.length:=FY _ (by lia)
  rw[AD hl]
  dsimp only
  refine(A6 next f (k+1) _ _ (by rw[List.length_eraseIdx,if_pos hl];lia)).trans ?_
  rw[Array.toList_push,GC]
  refine List.Perm.append_left _ ?_
  show(left[next k % left.length]::left.eraseIdx (next k % left.length)).Perm left
  exact ka _ _ hl
theorem md{α:Type}(next:Nat->Nat)(xs:Array α):(pickOrder next xs).toList.Perm xs.toList:=by
 have:=A6 next xs.size 0 xs.toList #[] (by simp)
 simpa[pickOrder]using this
end
section
variable{prog:Program}{w:World}{A:Around}{E:Value -> Shared -> Prop}{s:Shared}
theorem r6{α:Type}:∀(n:Nat) (xs:List α) (s:Shared) {Q:List α->Shared->Prop},xs.length=n->(∀ys d,ys.Perm xs->Q ys {s with drawn:=d})->wpAny (model prog w) A (drawOrder n xs) Q E s
 |0,xs,s,Q,hn,h=>by
  have e:xs=[]:=ES.mp hn
  subst e
  unfold drawOrder
  exact AC (h [] s.drawn (.refl _))
 |n+1,[],s,Q,hn,h=>by simp at hn
 |n+1,x::xs,s,Q,hn,h=>by
  unfold drawOrder
  refine AA ?_
  have hc:∀(Q':Nat->Shared->Prop),(∀i,i<(x::xs).length->∀d,Q' i {s with drawn:=d})->wpAny (model prog w) A (choose .order (x::xs).length) Q' E s:=λQ' hq Γ p _=>⟨by simp,hq _ (FY _ (by simp)) _⟩
  refine hc _ λi hi d=>?_
  rw[AD hi]
  dsimp only
  refine AA (r6 n _ _ (by rw[List.length_eraseIdx,if_pos hi];simp at hn ⊢;lia) λys d' p=>?_)
  exact AC (h _ d' ((p.cons _).trans (ka _ _ hi)))
theorem slot_next:Slot "set_iterator" "__next__" "set_iterator.__next__":=Slot.of (owner:="set_iterator") (n:="__next__")
 (by rw[typeLookup_type,builtinLookup_eq_fast];kernel_rfl)
 (by decide +kernel)
 (by decide +kernel) (by decide +kernel)
 (by first | exact .inl (by decide +kernel) | exact .inr (by decide +kernel))
 (by rw[FC];kernel_rfl)
theorem entry_next:entryFor table "set_iterator.__next__"=some Builtin.«set_iterator.__next__»:=entryFor_of_tree (by kernel_rfl)
theorem yj:entryFor table "set.__iter__"=some Builtin.«frozenset.__iter__»:=entryFor_alias (id':="frozenset.__iter__") (by kernel_rfl) rfl (by decide +kernel) (by kernel_rfl)
theorem args_next(a:Value):argsOk "set_iterator.__next__" ⟨[a],[]⟩:=by
 unfold argsOk
 kernel_rfl
end
noncomputable abbrev kn(first:Value)(i:Nat)(a:Addr)(n ep:Nat):Obj:={cls:=.type "set_iterator",dict:=none,data:=.fields #[first,rawInt i,.ref a,rawInt n,rawInt ep],slots:=#[]}
section
variable{prog:Program}{w:World}{A:Around}{E:Value -> Shared -> Prop}{s:Shared}{I a:Addr}{first:Value}{i n slot:Nat}{o:Obj}{es:Array (Int × Value)}{ep:Nat}{t:SetTable}{l:Bool}
theorem A7 {x:Value} {nx:Nat} {Q:Option Value->Shared->Prop} (hI:s.heap.get? I=some (kn (rawInt slot) i a n ep)) (q:s.heap.get? a=some o) (H:Laid o es ep t l) (hn:es.size=n)
  (hN:∀(A':Around) (E':Value->Shared->Prop) (Q':Option (Value×Nat)->Shared->Prop),Q' (some (x,nx)) s->wpAny (model prog w) A' (setNext a slot i ep) Q' E' s)
  (hQ:∀h',h'.get? I=some (kn (rawInt nx) (i+1) a n ep)->Heap.SameBut I s.heap h'->Q (some x) {s with heap:=h'}):wpAny (model prog w) A (pyNext (.ref I)) Q E s:=by
 have hT:s.TypeIs (.ref I) "set_iterator":=⟨_,hI,rfl⟩
 unfold pyNext
 refine AA (GO (CC (name:=Str.ofString "__next__") hT slot_next (CD slot_next hT entry_next ?_ (args_next _))))
 unfold Builtin.«set_iterator.__next__»
 refine AA (m:=slotArgs _ _ _) (AC ?_)
 dsimp only
 refine AA (FZ hI rfl ?_)
 dsimp only[rawInt]
 refine AA (DJ q H.data H.fits ?_)
 rw[hn]
 simp![bne_self_eq_false,AF,if_false,BX]
 refine AA (hN _ _ _ ?_)
 dsimp only
 refine AA (Do hI (by simp) λh1 q1 b1=>?_)
 refine AA (Do q1 (by simp) λh2 q2 b2=>?_)
 exact AC ⟨_,rfl,AC (hQ h2 q2 (b1.trans b2))⟩
theorem A8 {Q:Option Value->Shared->Prop} (hh:A.handled=none) (hI:s.heap.get? I=some (kn (rawInt slot) i a n ep)) (q:s.heap.get? a=some o) (H:Laid o es ep t l) (hn:es.size=n)
  (hN:∀(A':Around) (E':Value->Shared->Prop) (Q':Option (Value×Nat)->Shared->Prop),Q' none s->wpAny (model prog w) A' (setNext a slot i ep) Q' E' s)
  (hQ:∀h',Heap.ExtBut I s.heap h'->Q none {s with heap:=h'}):wpAny (model prog w) A (pyNext (.ref I)) Q E s:=by
 have hT:s.TypeIs (.ref I) "set_iterator":=⟨_,hI,rfl⟩
 unfold pyNext
 refine AA (GO (CC (name:=Str.ofString "__next__") hT slot_next (CD slot_next hT entry_next ?_ (args_next _))))
 unfold Builtin.«set_iterator.__next__»
 refine AA (m:=slotArgs _ _ _) (AC ?_)
 dsimp only
 refine AA (FZ hI rfl ?_)
 dsimp only[rawInt]
 refine AA (DJ q H.data H.fits ?_)
 rw[hn]
 simp![bne_self_eq_false,AF,if_false,BX]
 refine AA (hN _ _ _ ?_)
 dsimp only
 refine AA (Do hI (by simp) λh1 q1 b1=>AA ?_)
 simp![newExc,newTuple]
 refine AA (BM (AA (m:=firstArgMember _ _) (wpAny_of_eq (a:=Value.none) (by first | rfl | (simp![firstArgMember];rfl)) (BM ?_ (by size_fits)))) (by size_fits))
 simp![raiseNew]
 refine AA (wpAny_handled ?_)
 rw[show A.in1.handled=none from hh]
 refine AA (AC (wpAny_throw ?_))
 refine AA ?_
 refine GU (T:="StopIteration") (b:=true) ?_ isSubtype_stop ?_
 ·exact⟨_,AQ _ rfl,rfl⟩
 exact AC (hQ _ ((b1.extBut.push _).push _))
theorem r8 (q:s.heap.get? a=some o) (H:Laid o es ep t l) (ht:w.params.followText "set-order"=true) {Q:Option (Value×Nat)->Shared->Prop}
  (h:Q (((pickOrder (w.params.setOrder a ep) es)[i]?).map λe=>(e.2,slot)) s):wpAny (model prog w) A (setNext a slot i ep) Q E s:=by
 unfold setNext setsByText setWalk setsByText
 refine AA (BR q H.data H.fits ?_)
 dsimp only
 refine AA (AA (DN (AC ?_)))
 show wpAny _ _ (if w.params.followText "set-order"=true then _ else _) _ _ _
 rw[if_pos ht]
 simp![bne_self_eq_false,AF,if_false]
 refine AA (AA (BR q H.data H.fits ?_))
 dsimp only
 refine AA (AA (DN (AC ?_)))
 show wpAny _ _ (if w.params.followText "set-order"=true then _ else _) _ _ _
 rw[if_pos ht]
 refine AA (DN (AC ?_))
 exact AC h
theorem nu (q:s.heap.get? a=some o) (H:Laid o es ep t (kj w)) (ht:w.params.followText "set-order"=false) (hp:(!t.plain&&decide (es.size > 1))=false) {Q:Option (Value×Nat)->Shared->Prop}
  (h:Q (match es[SetTable.below t.place slot]?,t.place[SetTable.below t.place slot]? with | some (_,x),some j=>some (x,j+1) | _,_=>none) s):wpAny (model prog w) A (setNext a slot i ep) Q E s:=by
 unfold setNext setsByText
 refine AA (BR q H.data H.fits ?_)
 dsimp only
 refine AA (AA (DN (AC ?_)))
 show wpAny _ _ (if w.params.followText "set-order"=true then _ else _) _ _ _
 rw[ht,if_neg AV]
 show wpAny _ _ (if(!t.plain&&decide (es.size > 1))=true then _ else _) _ _ _
 rw[hp,if_neg AV]
 refine AA ?_
 show wpAny _ _ (if(!t.led&&!es.isEmpty)=true then _ else _) _ _ _
 have hl:t.led=true:=by rw[H.tidy.led];simp[kj,ht]
 rw[hl]
 exact AC (AC h)
end
theorem slot_self:Slot "set_iterator" "__iter__" "set_iterator.__iter__":=Slot.of (owner:="set_iterator") (n:="__iter__")
 (by rw[typeLookup_type,builtinLookup_eq_fast];kernel_rfl)
 (by decide +kernel)
 (by decide +kernel) (by decide +kernel)
 (by first | exact .inl (by decide +kernel) | exact .inr (by decide +kernel))
 (by rw[FC];kernel_rfl)
theorem entry_self:entryFor table "set_iterator.__iter__"=some Builtin.«dict_keyiterator.__iter__»:=entryFor_alias (id':="dict_keyiterator.__iter__") (by kernel_rfl) rfl (by decide +kernel) (by kernel_rfl)
theorem args_self(a:Value):argsOk "set_iterator.__iter__" ⟨[a],[]⟩:=by
 unfold argsOk
 kernel_rfl
section
variable{prog:Program}{w:World}{A:Around}{E:Value -> Shared -> Prop}{s:Shared}{I a:Addr}{first:Value}{i n slot:Nat}{o:Obj}{es:Array (Int × Value)}{ep:Nat}{t:SetTable}{l:Bool}
theorem uw{Q:Value->Shared->Prop}(hI:s.heap.get? I=some (kn first i a n ep))(h:Q (.ref I) s):wpAny (model prog w) A (pyIter (.ref I)) Q E s:=by
 have hT:s.TypeIs (.ref I) "set_iterator":=⟨_,hI,rfl⟩
 refine wpAny_pyIter_slot hT slot_self (CD slot_self hT entry_self ?_ (args_self _))
 exact AC ⟨_,rfl,"set_iterator",_,hT,slot_next.lookup,h⟩
theorem Dj {T:Addr} {ps:Array Value} {j:Nat} {e:Int×Value} {Q:Option Value->Shared->Prop} (hI:s.heap.get? I=some (kn (.ref T) i a n ep)) (q:s.heap.get? a=some o) (H:Laid o es ep t l) (hn:es.size=n)
  (hT:s.heap.IsTuple T ps) (hp:ps[i]? = some (rawInt j)) (he:es[j]? = some e)
  (hQ:∀h',h'.get? I=some (kn (.ref T) (i+1) a n ep)->Heap.SameBut I s.heap h'->Q (some e.2) {s with heap:=h'}):wpAny (model prog w) A (pyNext (.ref I)) Q E s:=by
 have hTy:s.TypeIs (.ref I) "set_iterator":=⟨_,hI,rfl⟩
 obtain⟨ot,qt,_,nt,dt⟩:=hT
 unfold pyNext
 refine AA (GO (CC (name:=Str.ofString "__next__") hTy slot_next (CD slot_next hTy entry_next ?_ (args_next _))))
 unfold Builtin.«set_iterator.__next__»
 refine AA (m:=slotArgs _ _ _) (AC ?_)
 dsimp only
 refine AA (FZ hI rfl ?_)
 dsimp only[rawInt]
 refine AA (DJ q H.data H.fits ?_)
 rw[hn]
 simp![bne_self_eq_false,AF,if_false,BX]
 refine AA (Go qt dt ?_)
 dsimp only
 rw[hp]
 dsimp only[rawInt]
 unfold setNextDrawn
 refine AA (AA (BR q H.data H.fits ?_))
 simp![BX,bne_self_eq_false,AF,if_false]
 rw[he]
 refine AC (AA (Do hI (by simp) λh1 q1 b1=>?_))
 exact AC ⟨_,rfl,AC (hQ h1 q1 b1)⟩
theorem r9 {T:Addr} {ps:Array Value} {Q:Option Value->Shared->Prop} (hh:A.handled=none) (hI:s.heap.get? I=some (kn (.ref T) i a n ep)) (q:s.heap.get? a=some o) (H:Laid o es ep t l) (hn:es.size=n)
  (hT:s.heap.IsTuple T ps) (hp:ps[i]? = none) (hQ:∀h',Heap.ExtBut I s.heap h'->Q none {s with heap:=h'}):wpAny (model prog w) A (pyNext (.ref I)) Q E s:=by
 have hTy:s.TypeIs (.ref I) "set_iterator":=⟨_,hI,rfl⟩
 obtain⟨ot,qt,_,nt,dt⟩:=hT
 unfold pyNext
 refine AA (GO (CC (name:=Str.ofString "__next__") hTy slot_next (CD slot_next hTy entry_next ?_ (args_next _))))
 unfold Builtin.«set_iterator.__next__»
 refine AA (m:=slotArgs _ _ _) (AC ?_)
 dsimp only
 refine AA (FZ hI rfl ?_)
 dsimp only[rawInt]
 refine AA (DJ q H.data H.fits ?_)
 rw[hn]
 simp![bne_self_eq_false,AF,if_false,BX]
 refine AA (Go qt dt ?_)
 dsimp only
 rw[hp]
 dsimp only
 refine AA (Do hI (by simp) λh1 q1 b1=>AA (Do q1 (by simp) λh2 q2 b2=>AA ?_))
 simp![newExc,newTuple]
 refine AA (BM (AA (m:=firstArgMember _ _) (wpAny_of_eq (a:=Value.none) (by first | rfl | (simp![firstArgMember];rfl)) (BM ?_ (by size_fits)))) (by size_fits))
 simp![raiseNew]
 refine AA (wpAny_handled ?_)
 rw[show A.in1.handled=none from hh]
 refine AA (AC (wpAny_throw ?_))
 refine AA ?_
 refine GU (T:="StopIteration") (b:=true) ?_ isSubtype_stop ?_
 ·exact⟨_,AQ _ rfl,rfl⟩
 exact AC (hQ _ (((b1.trans b2).extBut.push _).push _))
theorem Hb {Q:Value->Shared->Prop} (q:s.heap.get? a=some o) (H:Laid o es ep t (kj w)) (few:es.size<=sizeLine)
  (hm:(w.params.followText "set-order"=true\/(!t.plain&&decide (es.size > 1))=false)->Q (.ref s.heap.objs.size) {s with heap:=s.heap.push (kn (rawInt (0:Nat)) 0 a es.size ep)})
  (hd:w.params.followText "set-order"=false->∀(ys:List Nat) d,ys.Perm (List.range es.size) ->
   Q (.ref (s.heap.objs.size+1)) {s with heap:=(s.heap.push {cls:=.type "tuple",data:=.seq (ys.map fun(i:Nat)=>rawInt i).toArray}).push (kn (.ref s.heap.objs.size) 0 a es.size ep),drawn:=d}) :
  wpAny (model prog w) A (pyIter (.ref a)) Q E s:=by
 have hT:s.TypeIs (.ref a) "set":=⟨o,q,H.set.1⟩
 refine wpAny_pyIter_slot hT HS (CD HS hT yj ?_ (PySem.F.args_set_iter_1 _))
 unfold Builtin.«frozenset.__iter__» Builtin.Frozenset.slot0 Builtin.Frozenset.sizeOf
 refine AA (AA (m:=slotArgs _ _ _) (AC (AC ?_)))
 refine AA (AA (DJ q H.data H.fits (AC ?_)))
 unfold setDrawn setsByText
 refine AA (AA (BR q H.data H.fits ?_))
 dsimp only
 refine AA (AA (DN (AC (AC ?_))))
 show wpAny _ _ (if(!w.params.followText "set-order"&&(!t.plain&&decide (es.size > 1)))=true then _ else _) _ _ _
 by_cases hc:(!w.params.followText "set-order"&&(!t.plain&&decide (es.size > 1)))=true
 ·rw[if_pos hc]
  have ht:w.params.followText "set-order"=false:=by
   rw[AT]at hc
   simpa using hc.1
  refine AA (r6 _ _ _ (by simp) λys d p=>?_)
  refine AA (wpAny_newTuple ?_ (by rw[AJ,p.length_eq,GH];exact few))
  refine AA (wpAny_setEpoch_of (AB _ q) H.data H.fits ?_)
  refine AA (BM ?_ (by size_fits))
  have hz:(s.heap.push {cls:=.type "tuple",data:=.seq (ys.map fun(i:Nat)=>rawInt i).toArray}).objs.size=s.heap.objs.size+1:=Db ..
  rw[hz]
  refine AC ⟨_,rfl,"set_iterator",_,?_,slot_next.lookup,hd ht ys d p⟩
  exact⟨_,hz ▸ AQ _ rfl,rfl⟩
 ·rw[if_neg hc]
  refine AA (AC ?_)
  refine AA (wpAny_setEpoch_of q H.data H.fits ?_)
  refine AA (BM ?_ (by size_fits))
  refine AC ⟨_,rfl,"set_iterator",_,⟨_,AQ _ rfl,rfl⟩,slot_next.lookup,hm ?_⟩
  cases ht:w.params.followText "set-order" with
  |true=>exact .inl rfl
  |false=>rw[ht]at hc;exact .inr (by simpa using hc)
end
noncomputable def atOf(t:SetTable)(i:Nat):Nat:=if i=0 then 0 else t.place.getD (i-1) 0+1
theorem below_at{t:SetTable}{l:Bool}(T:Tidy t l){i:Nat}(hi:i<=t.place.size):SetTable.below t.place (atOf t i)=i:=by
 obtain⟨p1,p2,p3⟩:=jc T.rose (atOf t i)
 generalize SetTable.below t.place (atOf t i)=p at *
 unfold atOf at p2 p3
 by_cases h0:i=0
 ·subst h0
  simp![if_true]at p2
  by_cases hp:p=0
  ·exact hp
  ·have:=p2 0 (by lia)
   lia
 ·rw[if_neg h0]at p2 p3
  have a1:i<=p:=by
   by_cases h:i<=p
   ·exact h
   ·have:=p3 (i-1) (by lia) (by lia)
    lia
  have a2:p<=i:=by
   by_cases h:p<=i
   ·exact h
   ·have b1:=p2 i (by lia)
    have b2:=T.rose (i-1) i (by lia) (by lia)
    lia
  lia
section
variable{prog:Program}{w:World}{A:Around}{E:Value -> Shared -> Prop}{s:Shared}{I a T:Addr}{o:Obj}{es:Array (Int × Value)}{ep:Nat}{t:SetTable}
theorem yk(hh:A.handled=none)(ne:a≠I)(H:Laid o es ep t (kj w))(ht:w.params.followText "set-order"=true) :
  Walks prog w A I [I,a] [I] es.size (λi v=>((pickOrder (w.params.setOrder a ep) es)[i]?).map (·.2)=some v) (λi h=>h.get? a=some o/\h.get? I=some (kn (rawInt (0:Nat)) i a es.size ep)) where
 sub:=λb hb=>by simp at hb;simp[hb]
 frame:=λi h h' st k=>⟨k a (by simp) _ st.1,k I (by simp) _ st.2⟩
 item:=λi s Q E hi st hQ=>by
  have sz:(pickOrder (w.params.setOrder a ep) es).size=es.size:=by simpa using(md (w.params.setOrder a ep) es).length_eq
  have e:(pickOrder (w.params.setOrder a ep) es)[i]? = some ((pickOrder (w.params.setOrder a ep) es)[i]'(by lia)):=BD _
  refine A7 (slot:=0) (nx:=0) (x:=((pickOrder (w.params.setOrder a ep) es)[i]'(by lia)).2) st.2 st.1 H rfl (λA' E' Q' hq=>r8 st.1 H ht (by rw[e];exact hq)) λh' q' b'=>?_
  exact hQ _ h' s.toks (by rw[e];rfl) ⟨(b'.2 a ne).trans st.1,q'⟩ λb o hb z=>b'.extBut b o (λx=>hb (by simp[x])) z
 done:=λs Q E st hQ=>by
  have sz:(pickOrder (w.params.setOrder a ep) es).size=es.size:=by simpa using(md (w.params.setOrder a ep) es).length_eq
  have e:(pickOrder (w.params.setOrder a ep) es)[es.size]? = none:=HB (by lia)
  exact A8 (slot:=0) hh st.2 st.1 H rfl (λA' E' Q' hq=>r8 st.1 H ht (by rw[e];exact hq)) λh' b'=>hQ h' s.toks λb o hb z=>b' b o (λx=>hb (by simp[x])) z
 self:=λi s Q E st hQ=>uw st.2 hQ
theorem ux(hh:A.handled=none)(ne:a≠I)(H:Laid o es ep t (kj w))(ht:w.params.followText "set-order"=false)(hp:(!t.plain&&decide (es.size > 1))=false) :
  Walks prog w A I [I,a] [I] es.size (λi v=>(es[i]?).map (·.2)=some v) (λi h=>h.get? a=some o/\h.get? I=some (kn (rawInt (atOf t i:Nat)) i a es.size ep)):=by
 have sz:t.place.size=es.size:=by
  have:=H.fits
  simp![SetTable.fits,AT,beq_iff_eq]at this
  exact this.1
 refine⟨λb hb=>by simp at hb;simp[hb],λi h h' st k=>⟨k a (by simp) _ st.1,k I (by simp) _ st.2⟩,λi s Q E hi st hQ=>?_,λs Q E st hQ=>?_,λi s Q E st hQ=>uw st.2 hQ⟩
 ·have e1:es[i]? = some es[i]:=BD hi
  have e2:t.place[i]? = some (t.place.getD i 0):=by
   have:i<t.place.size:=by lia
   simp[this]
  refine A7 (x:=es[i].2) (nx:=t.place.getD i 0+1) st.2 st.1 H rfl (λA' E' Q' hq=>nu st.1 H ht hp (by rw[below_at H.tidy (by lia),e1,e2];exact hq)) λh' q' b'=>?_
  refine hQ _ h' s.toks (by rw[e1];rfl) ⟨(b'.2 a ne).trans st.1,?_⟩ λb o hb z=>b'.extBut b o (λx=>hb (by simp[x])) z
  have e3:atOf t (i+1)=t.place.getD i 0+1:=by simp[atOf]
  rw[e3];exact q'
 ·have e1:es[es.size]? = none:=HB (AH _)
  exact A8 hh st.2 st.1 H rfl (λA' E' Q' hq=>nu st.1 H ht hp (by rw[below_at H.tidy (by lia),e1];exact hq)) λh' b'=>hQ h' s.toks λb o hb z=>b' b o (λx=>hb (by simp[x])) z
theorem uy(hh:A.handled=none)(ne:a≠I)(nt:T≠I)(H:Laid o es ep t (kj w)){ys:List Nat}(hy:ys.Perm (List.range es.size)) :
  Walks prog w A I [I,a,T] [I] es.size (λi v=>((ys[i]?).bind λj=>es[j]?).map (·.2)=some v) (λi h=>h.get? a=some o/\h.get? I=some (kn (.ref T) i a es.size ep)/\h.IsTuple T (ys.map fun(i:Nat)=>rawInt i).toArray):=by
 have sz:ys.length=es.size:=by simpa using hy.length_eq
 refine⟨λb hb=>by simp at hb;simp[hb],λi h h' st k=>⟨k a (by simp) _ st.1,k I (by simp) _ st.2.1,st.2.2.at λo e=>k T (by simp) o e⟩,λi s Q E hi st hQ=>?_,λs Q E st hQ=>?_,λi s Q E st hQ=>uw st.2.1 hQ⟩
 ·have hi':i<ys.length:=by lia
  have e1:ys[i]? = some ys[i]:=AD hi'
  have hj:ys[i]<es.size:=by
   have:ys[i]∈List.range es.size:=hy.mem_iff.mp (CW hi')
   simpa using this
  have e2:es[ys[i]]? = some es[ys[i]]:=BD hj
  refine Dj (j:=ys[i]) (e:=es[ys[i]]) st.2.1 st.1 H rfl st.2.2 (by simp[e1]) e2 λh' q' b'=>?_
  exact hQ _ h' s.toks (by rw[e1];show(es[ys[i]]?).map (·.2)=_;rw[e2];rfl) ⟨(b'.2 a ne).trans st.1,q',st.2.2.at λo e=>b'.extBut T o nt e⟩ λb o hb z=>b'.extBut b o (λx=>hb (by simp[x])) z
 ·exact r9 hh st.2.1 st.1 H rfl st.2.2 (by simp[sz]) λh' b'=>hQ h' s.toks λb o hb z=>b' b o (λx=>hb (by simp[x])) z
theorem Dk{Q:Bool->Shared->Prop}(q:s.heap.get? a=some o)(H:o.cls=.type "set")(h:Q false s):wpAny (model prog w) A (Builtin.List.listLengthHint (.ref a)) Q E s:=by
 have hT:s.TypeIs (.ref a) "set":=⟨o,q,H⟩
 unfold Builtin.List.listLengthHint
 refine AA (wpAny_specialOf hT PySem.F.slot_set_len.lookup ?_)
 generalize hid:("set.__len__":String)=z
 wp_delta
 rw[show splitId z=some ("set","__len__")from by subst hid;decide +kernel]
 subst hid
 refine AA (GU (T:="set") (b:=true) hT (by rw[FC];kernel_rfl) ?_)
 refine wpAny_ite_split (λx=>absurd x (by decide)) λ_=>?_
 refine wpAny_ite_split (λ_=>?_) λx=>absurd (by decide +kernel) x
 refine AA (EY hT ?_)
 exact AC h
end
noncomputable def intOf:Value->Int
 |.int n _=>n
 |_=>0
theorem ints_of:∀{vs:List Value} {ns:List Int},IntsAre vs ns->ns=vs.map intOf/\∀v∈vs,∃n t,v=.int n t
 |_,_,.nil=>⟨rfl,λv h=>by simp at h⟩
 |_,_,.cons n t r=>by
  obtain⟨e,h⟩:=ints_of r
  refine⟨by rw[AL,<-e];rfl,λv hv=>?_⟩
  rcases AS.mp hv with rfl | hv
  ·exact⟨n,t,rfl⟩
  ·exact h v hv
theorem o8{f:Nat->Option Value}{acc:Array Value}{n:Nat}{ord:List Value}(h:ItemsOf (λi v=>f i=some v) acc n)(ho:ord.length=n)(hf:∀i,i<n->f i=ord[i]?):acc.toList=ord:=by
 obtain⟨h1,h2⟩:=h
 apply FB
 intro i
 by_cases hi:i<n
 ·have e:acc.toList[i]? = some acc[i]:=by
   rw[Array.getElem?_toList];exact BD (by lia)
  rw[e,<-hf i hi]
  exact(h2 i _ (BD (by lia))).symm
 ·rw[DX (by simp;lia),DX (by lia)]
section
variable{prog:Program}{w:World}{A:Around}{E:Value -> Shared -> Prop}{s:Shared}{a:Addr}{o:Obj}{es:Array (Int × Value)}{ep:Nat}{t:SetTable}
theorem yl {R:Result->Shared->Prop} (hh:A.handled=none) (q:s.heap.get? a=some o) (H:Laid o es ep t (kj w)) (D:Addr) (res:Value) (qD:s.heap.get? D=some {cls:=.type "list",dict:=none,data:=.seq #[] 0,slots:=#[]}) (ne:D≠a) (few:es.size<=sizeLine)
  (hR:∀(h':Heap) tk d acc c',(∀b o,b≠D->s.heap.get? b=some o->h'.get? b=some o)->h'.get? D=some {cls:=.type "list",dict:=none,data:=.seq acc c',slots:=#[]}->acc.toList.Perm (es.toList.map (·.2)) ->
   R (.ok (.ret res)) {s with heap:=h',toks:=tk,drawn:=d}) :
  wpAny (model prog w) A.in1 (Builtin.List.listExtendWith (.ref D) (.ref a) res) (λfin s'=>match fin with | .done f=>R (.ok f) s' | .again c'=>c'.quiet=true/\codeAny (model prog w) A c' R s') (λe s'=>R (.error e) s') s:=by
 have lD:D<s.heap.objs.size:=AM qD
 have la:a<s.heap.objs.size:=AM q
 have perm:∀{acc:Array Value} {ord:List Value},acc.toList=ord->ord.Perm (es.toList.map (·.2))->acc.toList.Perm (es.toList.map (·.2)):=λe p=>by
  rw[e];exact p
 -- behind the iterator: the list is touched,and the loop runs
 have go:∀(h1:Heap) (d:Drawn) (I:Addr) (fp:List Addr) (P:Nat->Value->Prop) (St:Nat->Heap->Prop),Walks prog w A.in1 I fp [I] es.size P St->D∉fp->(∀b o,s.heap.get? b=some o->h1.get? b=some o)->s.heap.objs.size<=I ->
   (∀h2:Heap,(∀b o,b≠D->h1.get? b=some o->h2.get? b=some o)->St 0 h2)->(∀acc,ItemsOf P acc es.size->acc.toList.Perm (es.toList.map (·.2))) ->
   wpAny (model prog w) A.in1 (holding [.ref I] (Builtin.List.listLengthHint (.ref a))>>=λroom=>if(room || ["set","frozenset","dict","dict_keys","dict_values","dict_items"].any (Value.type "set"==.type ·))=true then do
     rule "list.extend.makes-room"
     Builtin.List.listTouch (.ref D)
     again (.builtin "list.extend.loop" ⟨[.ref D,.ref I,res],[]⟩)
    else again (.builtin "list.extend.loop" ⟨[.ref D,.ref I,res],[]⟩)) (λfin s'=>match fin with | .done f=>R (.ok f) s' | .again c'=>c'.quiet=true/\codeAny (model prog w) A c' R s') (λe s'=>R (.error e) s') {s with heap:=h1,drawn:=d}:=by
  intro h1 d I fp P St W df k1 lI st0 hacc
  refine AA (BS (Dk (s:={s with heap:=h1,drawn:=d}) (k1 a o q) H.set.1 ?_))
  rw[if_pos (by decide)]
  refine AA (wpAny_rule ?_)
  have q1:=k1 D _ qD
  refine AA ?_
  show wpAny _ _ (updateSeq D (·.push .none)>>=λ_=>updateSeq D (·.pop)) _ _ _
  refine AA (wpAny_updateSeq q1 rfl ?_)
  have q2:=DB (Obj.mapSeq (·.push Value.none)) q1 rfl
  refine wpAny_updateSeq (hz:=by seq_fits) q2 rfl ?_
  have q3:=DB (Obj.mapSeq (·.pop)) q2 rfl
  have k3:∀b o,b≠D->h1.get? b=some o->((h1.update D (Obj.mapSeq (·.push Value.none))).update D (Obj.mapSeq (·.pop))).get? b=some o:=λb o hb z=>by
   rw[DI _ _ _ _ hb,DI _ _ _ _ hb];exact z
  refine AC ⟨GN PySem.F.plain_extend_loop _,codeAny_extend_loopS W.toS (by lia) D df res es.size 0 _ #[] _ (by lia) (BW _) (st0 _ k3) q3 (ItemsOf.nil _) λs' acc c' m qD' ha=>?_⟩
  rw[Moved.eq_with m]
  refine hR s'.heap s'.toks d acc c' (λb o hb z=>m.heap b o ?_ (k3 b o hb (k1 b o z))) qD' (hacc acc ha)
  simp![AS,CF,or_false,not_or]
  exact⟨hb,AR (AO (AM z) lI)⟩
 unfold Builtin.List.listExtendWith
 refine AA (EY (T:="set") ⟨o,q,H.set.1⟩ ?_)
 have e1:Builtin.List.listSameRef (.ref D) (.ref a)=false:=by simp[Builtin.List.listSameRef,ne]
 have e2:(Value.type "set"==Value.type "list")=false:=by decide
 have e3:(Value.type "set"==Value.type "tuple")=false:=by decide
 simp![e1,e2,e3,HY,AF,if_false]
 refine AA (Hb q H (by lia) (λhm=>?_) λht ys d py=>?_)
 ·cases ht:w.params.followText "set-order" with
  |true =>
   refine go _ s.drawn _ _ _ _ (yk hh (AR la) H ht) (by simp;exact⟨AR lD,ne⟩) (λb o z=>AB _ z) (AH _) (λh2 k=>⟨k a o (Ne.symm ne) (AB _ q),k _ _ (CH lD) (AQ _ rfl)⟩) λacc ha=>?_
   have pp:=md (w.params.setOrder a ep) es
   refine perm (o8 (ord:=(pickOrder (w.params.setOrder a ep) es).toList.map (·.2)) ha (by rw[AJ,pp.length_eq,AZ]) λi _=>by simp) (pp.map _)
  |false =>
   rcases hm with z | hp
   ·rw[ht]at z;exact absurd z (by decide)
   refine go _ s.drawn _ _ _ _ (ux hh (AR la) H ht hp) (by simp;exact⟨AR lD,ne⟩) (λb o z=>AB _ z) (AH _) (λh2 k=>⟨k a o (Ne.symm ne) (AB _ q),k _ _ (CH lD) (AQ _ rfl)⟩) λacc ha=>?_
   exact perm (o8 (ord:=es.toList.map (·.2)) ha (by simp) λi _=>by simp) (.refl _)
 ·have hz:(s.heap.push {cls:=.type "tuple",data:=.seq (ys.map fun(i:Nat)=>rawInt i).toArray}).objs.size=s.heap.objs.size+1:=Db ..
  have sy:ys.length=es.size:=by simpa using py.length_eq
  refine go _ d _ _ _ _ (uy (A:=A.in1) (I:=s.heap.objs.size+1) (T:=s.heap.objs.size) (show A.in1.handled=none from hh) (AR (EB la)) (AR (FI _)) H py) (by simp;exact⟨AR (EB lD),ne,AR lD⟩) (λb o z=>AB _ (AB _ z)) (Nat.le_succ _)
   (λh2 k=>⟨k a o (Ne.symm ne) (AB _ (AB _ q)),k _ _ (CH (EB lD)) (hz ▸ AQ _ rfl),⟨_,k _ _ (CH lD) (AB _ (AQ _ rfl)),rfl,_,rfl⟩⟩) λacc ha=>?_
  refine perm (o8 (ord:=ys.map λj=>(es.getD j (0,.none)).2) ha (by rw[AJ];exact sy) λi hi=>?_) ?_
  ·have hi':i<ys.length:=by lia
   have hj:ys[i]<es.size:=by
    have:ys[i]∈List.range es.size:=py.mem_iff.mp (CW hi')
    simpa using this
   simp[hi',hj]
  ·have e:es.toList.map (·.2)=(List.range es.size).map λj=>(es.getD j (0,.none)).2:=by
    apply FB
    intro i
    by_cases hi:i<es.size
    ·simp[hi]
    ·simp[hi]
   rw[e]
   exact py.map _
end
section
variable{prog:Program}{w:World}{A:Around}{E:Value -> Shared -> Prop}{s:Shared}{a:Addr}{σ:List Int}
theorem uz {o:Obj} {es:Array (Int×Value)} {ep:Nat} {t:SetTable} {Q:List Value->Shared->Prop} (hh:A.handled=none) (q:s.heap.get? a=some o) (H:Laid o es ep t (kj w)) (few:es.size<=sizeLine)
  (hQ:∀(h':Heap) tk d us,(∀b o,s.heap.get? b=some o->h'.get? b=some o)->s.heap.objs.size<h'.objs.size->us.Perm (es.toList.map (·.2))->Q us {s with heap:=h',toks:=tk,drawn:=d}):wpAny (model prog w) A (collect (.ref a)) Q E s:=by
 have la:a<s.heap.objs.size:=AM q
 unfold collect
 refine AA (wpAny_runValue (DU PySem.F.entry_proto_collect ?_))
 rw[DG PySem.F.plain_proto_collect]
 show wpAny (model prog w) A.in1 (newList []>>=λz=>again (.builtin "list.__iadd__" ⟨[z,.ref a],[]⟩)) _ _ s
 refine AA (BM (AC ⟨GN GV _,DU PySem.F.entry_list_iadd ?_⟩))
 rw[DG GV]
 have qD:(s.heap.push {cls:=.type "list",data:=.seq ([]:List Value).toArray}).get? s.heap.objs.size=some {cls:=.type "list",dict:=none,data:=.seq #[] 0,slots:=#[]}:=AQ _ rfl
 refine Da (yl (A:=A) (s:={s with heap:=s.heap.push {cls:=.type "list",data:=.seq ([]:List Value).toArray}}) (R:=λr' s'=>r'=.ok (.ret (.ref s.heap.objs.size))/\∃(h':Heap) (tk:Nat) (d:Drawn) (acc:Array Value) (c':Nat),s'={s with heap:=h',toks:=tk,drawn:=d}/\(∀b o',s.heap.get? b=some o'->h'.get? b=some o') /\
   h'.get? s.heap.objs.size=some {cls:=.type "list",dict:=none,data:=.seq acc c',slots:=#[]}/\acc.toList.Perm (es.toList.map (·.2))) hh (AB _ q) H s.heap.objs.size (.ref s.heap.objs.size) qD (CH la) few
   λh' tk d acc c' k q m=>⟨rfl,h',tk,d,acc,c',rfl,λb o z=>k b o (AR (AM z)) (AB _ z),q,m⟩) (λfin s' h=>?_) λe s' h=>absurd h.1 (by simp)
 have fin':∀(r':Result) (s'':Shared),(r'=.ok (.ret (.ref s.heap.objs.size))/\∃(h':Heap) (tk:Nat) (d:Drawn) (acc:Array Value) (c':Nat),s''={s with heap:=h',toks:=tk,drawn:=d}/\(∀b o',s.heap.get? b=some o'->h'.get? b=some o') /\
   h'.get? s.heap.objs.size=some {cls:=.type "list",dict:=none,data:=.seq acc c',slots:=#[]}/\acc.toList.Perm (es.toList.map (·.2)))->wpAny (model prog w) A (match Value.ref s.heap.objs.size with
   |Value.ref a=>do
    match(<-load a).data with
     |Data.seq xs _=>pure xs.toList
     |_=>unsupported "internal:collect"
   |_=>unsupported "internal:collect") Q E s'':=by
  rintro r' s'' ⟨rfl,h',tk,d,acc,c',rfl,k,q,p⟩
  show wpAny (model prog w) A (load s.heap.objs.size>>=_) _ _ _
  exact AA (wpAny_load q (AC (hQ h' tk d _ k (AM q) p)))
 cases fin with
 |done f =>
  have e:f=.ret (.ref s.heap.objs.size):=by have:=h.1;cases this;rfl
  subst e
  exact fin' _ _ h
 |again c'=>exact⟨h.1,EV h.2 λr' s'' hr=>by obtain⟨rfl,z⟩:=hr;exact fin' _ _ ⟨rfl,z⟩⟩
end
end Lp.Sets
namespace Lp
open PySem PySem.Spec PyProof.Rows L2
namespace Sets
theorem vals_ints:∀{ns:List Int} {us:List Value},bc (ns.map V.int) us->IntsAre us ns
 | [],[],_=>.nil
 |n::r,u::us,h=>by
  cases h with
  |cons h1 h2 =>
   obtain⟨t,rfl⟩:=h1
   exact .cons n t (vals_ints h2)
 | [],u::us,h=>by cases h
 |n::r,[],h=>by cases h
theorem drew{X:Cx}{pins:List (Addr×Obj)}{σ:List (Option V)}{H:Hp}{s:Shared}{d:Drawn}(I:Inv X pins σ H s):Inv X pins σ H {s with drawn:=d} :=
 ⟨I.ok,I.os,I.bare,I.base,I.loc,I.cell,I.free,I.freeC,I.pin,I.hok,I.len⟩
end Sets
end Lp
namespace Lp.Sets
open PySem PySem.W PyProof.Rows
noncomputable def Le(m b:Nat):SetTable.Probe:={j:=b % (m+1),more:=SetTable.runEnd m (b % (m+1))-b % (m+1),i:=b % (m+1),perturb:=b,dummy:=none}
noncomputable def y8(m:Nat)(p:SetTable.Probe):SetTable.Probe :=
 if p.more > 0 then {p with j:=p.j+1,more:=p.more-1}else
 {p with j:=(SetTable.leap m p.i p.perturb).1,more:=SetTable.runEnd m (SetTable.leap m p.i p.perturb).1-(SetTable.leap m p.i p.perturb).1,i:=(SetTable.leap m p.i p.perturb).1,perturb:=(SetTable.leap m p.i p.perturb).2}
noncomputable def cv(m b:Nat):Nat->SetTable.Probe
 |0=>Le m b
 |n+1=>y8 m (cv m b n)
noncomputable abbrev pos(m b n:Nat):Nat:=(cv m b n).j
theorem Lg(t:SetTable)(p:SetTable.Probe):t.advance p=y8 t.mask p:=by
 unfold SetTable.advance y8
 split<;>rfl
theorem nv(m b:Nat):∀n,(cv m b n).dummy=none
 |0=>rfl
 |n+1=>by
  have ih:=nv m b n
  show(y8 m (cv m b n)).dummy=none
  unfold y8
  split<;>exact ih
noncomputable def gz(m b:Nat):Nat->Nat×Nat
 |0=>(b % (m+1),b)
 |r+1=>SetTable.leap m (gz m b r).1 (gz m b r).2
noncomputable def Ia(m:Nat)(x:Nat×Nat):SetTable.Probe:={j:=x.1,more:=SetTable.runEnd m x.1-x.1,i:=x.1,perturb:=x.2,dummy:=none}
theorem Dl(m i:Nat):SetTable.runEnd m i-i<=9:=by
 unfold SetTable.runEnd
 split<;>omega
theorem u0(m b:Nat)(x:Nat×Nat){n:Nat}(h:cv m b n=Ia m x):∀q,q<=SetTable.runEnd m x.1-x.1->cv m b (n+q)={Ia m x with j:=x.1+q,more:=SetTable.runEnd m x.1-x.1-q}
 |0,_=>by rw[Nat.add_zero,h];rfl
 |q+1,hq=>by
  have ih:=u0 m b x h q (by omega)
  show y8 m (cv m b (n+q))=_
  rw[ih]
  unfold y8
  rw[if_pos (by show SetTable.runEnd m x.1-x.1-q > 0;omega)]
  simp![SetTable.Probe.mk.injEq,and_true]
  show x.1+q+1=x.1+(q+1)/\SetTable.runEnd m x.1-x.1-q-1=SetTable.runEnd m x.1-x.1-(q+1)
  omega
theorem wd(m b:Nat)(x:Nat×Nat){n:Nat}(h:cv m b n=Ia m x):cv m b (n+(SetTable.runEnd m x.1-x.1)+1)=Ia m (SetTable.leap m x.1 x.2):=by
 show y8 m (cv m b (n+(SetTable.runEnd m x.1-x.1)))=_
 rw[u0 m b x h _ (AH _)]
 unfold y8
 rw[if_neg (by show ¬(SetTable.runEnd m x.1-x.1-(SetTable.runEnd m x.1-x.1) > 0);omega)]
 rfl
theorem E4(m b:Nat):∀r,∃n,n<=10*r/\cv m b n=Ia m (gz m b r)
 |0=>⟨0,by omega,rfl⟩
 |r+1=>by
  obtain⟨n,hn,e⟩:=E4 m b r
  have:=Dl m (gz m b r).1
  exact⟨_,by omega,wd m b _ e⟩
theorem kh(m:Nat){b:Nat}(hb:b<2 ^ 64):∀r,(gz m b r).2*32 ^ r<=b
 |0=>by simp[gz]
 |r+1=>by
  have ih:=kh m hb r
  show(gz m b r).2 / 32*32 ^ (r+1)<=b
  refine BQ ?_ ih
  rw[Nat.pow_succ,Nat.mul_comm (32 ^ r) 32,<-Nat.mul_assoc]
  exact Nat.mul_le_mul_right _ (Nat.div_mul_le_self _ _)
theorem sd(m:Nat){b:Nat}(hb:b<2 ^ 64)(r:Nat):(gz m b (13+r)).2=0:=by
 have h:=kh m hb (13+r)
 rcases Nat.eq_zero_or_pos (gz m b (13+r)).2 with z | z
 ·exact z
 ·have h1:1*32 ^ (13+r)<=(gz m b (13+r)).2*32 ^ (13+r):=Nat.mul_le_mul_right _ z
  have h2:32 ^ 13<=32 ^ (13+r):=Nat.pow_le_pow_right (by decide) (by omega)
  have h3:2 ^ 64<32 ^ 13:=by decide
  omega
noncomputable def Hc(m i:Nat):Nat:=(i*5+1) % (m+1)
noncomputable def me(m:Nat):Nat->Nat->Nat
 |0,i=>i
 |k+1,i=>me m k (Hc m i)
theorem jn(m:Nat):∀a c i,me m (a+c) i=me m c (me m a i)
 |0,c,i=>by rw[Nat.zero_add];rfl
 |a+1,c,i=>by rw[Nat.succ_add];exact jn m a c (Hc m i)
theorem we(m:Nat){b:Nat}(hb:b<2 ^ 64):∀k,(gz m b (13+k)).1=me m k (gz m b 13).1
 |0=>rfl
 |k+1=>by
  have ih:=we m hb k
  rw[jn m k 1]
  show((gz m b (13+k)).1*5+1+(gz m b (13+k)).2 / 32) % (m+1)=Hc m (me m k (gz m b 13).1)
  rw[sd m hb k,ih];rfl
noncomputable def Mask(m:Nat):Prop:=m=7\/m=31\/m=127
noncomputable def Hd(m:Nat):Bool:=((List.range (m+1)).all λj=>(List.range (m+1)).any λk=>me m k 0==j)&&me m (m+1) 0==0
theorem wg{m:Nat}(h:Mask m):Hd m=true:=by
 rcases h with rfl | rfl | rfl<;>decide +kernel
theorem se{m:Nat}(h:Mask m){j:Nat}(hj:j<=m):∃k,k<=m/\me m k 0=j:=by
 have o:=wg h
 unfold Hd at o
 rw[AT,AY]at o
 have:=o.1 j (by simpa using Nat.lt_succ_of_le hj)
 rw[EE]at this
 obtain⟨k,hk,e⟩:=this
 exact⟨k,by simpa[Nat.lt_succ_iff]using hk,by simpa using e⟩
theorem round{m:Nat}(h:Mask m):me m (m+1) 0=0:=by
 have o:=wg h
 unfold Hd at o
 rw[AT]at o
 simpa using o.2
theorem Dm{m:Nat}(h:Mask m){i j:Nat}(hi:i<=m)(hj:j<=m):∃k,k<=m/\me m k i=j:=by
 obtain⟨a,ha,e1⟩:=se h hi
 obtain⟨c,hc,e2⟩:=se h hj
 by_cases hac:a<=c
 ·refine⟨c-a,by omega,?_⟩
  rw[<-e1,<-jn,show a+(c-a)=c by omega,e2]
 ·refine⟨m+1-a+c,by omega,?_⟩
  rw[<-e1,<-jn,show a+(m+1-a+c)=(m+1)+c by omega,jn,round h,e2]
theorem Lh(m b r:Nat):(gz m b r).1<=m:=by
 cases r with
 |zero=>exact FD (FY _ (HC _))
 |succ r=>exact FD (FY _ (HC _))
theorem sf{m b:Nat}(h:Mask m)(hb:b<2 ^ 64){j:Nat}(hj:j<=m):∃r,r<=m+13/\(gz m b r).1=j:=by
 obtain⟨k,hk,e⟩:=Dm h (Lh m b 13) hj
 exact⟨13+k,by omega,by rw[we m hb,e]⟩
theorem cover{m b:Nat}(h:Mask m)(hb:b<2 ^ 64){j:Nat}(hj:j<=m):∃n,n<10*(m+15)/\pos m b n=j:=by
 obtain⟨r,hr,e⟩:=sf h hb hj
 obtain⟨n,hn,en⟩:=E4 m b r
 refine⟨n,by omega,?_⟩
 show(cv m b n).j=j
 rw[en];exact e
theorem A9(h:Int):SetTable.bits h<2 ^ 64:=by
 unfold SetTable.bits
 have h1:=DV h (show(2 ^ 64:Int)≠0 by decide)
 have h2:=DA h (show(0:Int)<2 ^ 64 by decide)
 omega
noncomputable def Reach(m:Nat)(occ:Nat->Prop)(b j:Nat):Prop:=∃n,pos m b n=j/\∀k,k<n->occ (pos m b k)
theorem Reach.mono{m b j:Nat}{occ occ':Nat->Prop}(h:Reach m occ b j)(o:∀k,occ k->occ' k):Reach m occ' b j:=by
 obtain⟨n,e,q⟩:=h
 exact⟨n,e,λk hk=>o _ (q k hk)⟩
theorem least(P:Nat->Prop):∀n,¬P n->∃k,k<=n/\¬P k/\∀q,q<k->P q:=by
 classical
 intro n
 induction n using Nat.strongRecOn with
 |_ n ih =>
  intro h
  by_cases hq:∀q,q<n->P q
  ·exact⟨n,AH _,h,hq⟩
  ·obtain⟨q,hq⟩:=Classical.not_forall.mp hq
   obtain⟨h1,h2⟩:=Classical.not_imp.mp hq
   obtain⟨k,a,b,c⟩:=ih q h1 h2
   exact⟨k,by omega,b,c⟩
theorem ym{m b:Nat}(h:Mask m)(hb:b<2 ^ 64){occ:Nat->Prop}{j:Nat}(hj:j<=m)(hn:¬occ j):∃n,n<10*(m+15)/\¬occ (pos m b n)/\∀k,k<n->occ (pos m b k):=by
 obtain⟨n0,h0,e0⟩:=cover h hb hj
 obtain⟨k,h1,h2,h3⟩:=least (λn=>occ (pos m b n)) n0 (by rw[e0];exact hn)
 exact⟨k,by omega,h2,h3⟩
theorem o9{t:SetTable}{l:Bool}(T:Tidy t l){j:Nat}(h:j∈t.place.toList):t.place[SetTable.below t.place j]? = some j:=by
 obtain⟨i,hi,e⟩:=CS h
 have hi':i<t.place.size:=by simpa using hi
 obtain⟨h1,h2,h3⟩:=jc T.rose j
 have ei:t.place.getD i 0=j:=by simpa[hi']using e
 have a:SetTable.below t.place j<=i:=by
  rcases EF i (SetTable.below t.place j)with q | q
  ·have:=h2 i q;omega
  ·exact q
 have hb:SetTable.below t.place j<t.place.size:=by omega
 have c:=h3 _ (AH _) hb
 have d:SetTable.below t.place j=i:=by
  rcases EF (SetTable.below t.place j) i with q | q
  ·have:=T.rose _ _ q hi';omega
  ·omega
 rw[d,BD hi']
 simpa[hi']using ei
theorem sg{t:SetTable}{l:Bool}(T:Tidy t l){j:Nat}(h:j∈t.place.toList):t.slot j=.live (SetTable.below t.place j):=by
 unfold SetTable.slot
 simp![o9 T h,beq_self_eq_true,if_true]
theorem yn{t:SetTable}{l:Bool}(T:Tidy t l){j:Nat}(h:j∉t.place.toList):t.slot j=.empty:=by
 have hn:t.place[SetTable.below t.place j]?≠some j:=λe=>h (by
  obtain⟨a,b⟩:=CK.mp e
  rw[<-b];simp)
 unfold SetTable.slot
 rw[T.none]
 have:(t.place[SetTable.below t.place j]?==some j)=false:=by simpa using hn
 simp![this,has_none,AF,if_false]
theorem E5{t:SetTable}{l:Bool}(T:Tidy t l)(hashAt:Nat->Int)(h:Int){b N:Nat}(hN:pos t.mask b N∉t.place.toList)(hocc:∀k,k<N->pos t.mask b k∈t.place.toList):∀d n f,n+d=N->d<f ->
  (SetTable.probe.go t hashAt h f (cv t.mask b n)=some (.empty (pos t.mask b N) none)/\∀q,n<=q->q<N->hashAt (SetTable.below t.place (pos t.mask b q))≠h) \/
  ∃k,n<=k/\k<N/\hashAt (SetTable.below t.place (pos t.mask b k))=h/\(∀q,n<=q->q<k->hashAt (SetTable.below t.place (pos t.mask b q))≠h)/\SetTable.probe.go t hashAt h f (cv t.mask b n)=some (.candidate (pos t.mask b k) (SetTable.below t.place (pos t.mask b k)) (cv t.mask b (k+1)))
 |0,n,f+1,e,hf=>by
  have e:n=N:=by omega
  subst e
  left
  refine⟨?_,λq h1 h2=>by omega⟩
  unfold SetTable.probe.go
  rw[yn T hN]
  dsimp only
  rw[nv]
 |d+1,n,f+1,e,hf=>by
  have hn:=hocc n (by omega)
  have go1:SetTable.probe.go t hashAt h (f+1) (cv t.mask b n)=if(hashAt (SetTable.below t.place (pos t.mask b n))==h)=true then some (.candidate (pos t.mask b n) (SetTable.below t.place (pos t.mask b n)) (cv t.mask b (n+1)))else SetTable.probe.go t hashAt h f (cv t.mask b (n+1)):=by
   rw[SetTable.probe.go,sg T hn]
   dsimp only
   rw[Lg];rfl
  rw[go1]
  by_cases q:hashAt (SetTable.below t.place (pos t.mask b n))=h
  ·right
   refine⟨n,AH _,by omega,q,λq' h1 h2=>by omega,?_⟩
   rw[if_pos (by simpa using q)]
  ·rw[if_neg (by simpa using q)]
   rcases E5 T hashAt h hN hocc d (n+1) f (by omega) (by omega)with⟨g1,g2⟩ | ⟨k,k1,k2,k3,k4,k5⟩
   ·left
    refine⟨g1,λq' h1 h2=>?_⟩
    rcases Gt h1 with z | z
    ·rw[<-z];exact q
    ·exact g2 q' z h2
   ·right
    refine⟨k,by omega,k2,k3,λq' h1 h2=>?_,k5⟩
    rcases Gt h1 with z | z
    ·rw[<-z];exact q
    ·exact k4 q' z h2
noncomputable def ny(m:Nat)(pl:List Nat)(hs:List Int):Prop:=∀q∈pl.zip hs,Reach m (·∈pl) (SetTable.bits q.2) q.1
theorem yo{α β:Type}{as:List α}{bs:List β}(h:as.length=bs.length)(p:Nat)(a:α)(b:β):(as.take p++a::as.drop p).zip (bs.take p++b::bs.drop p)=(as.take p).zip (bs.take p)++(a,b)::(as.drop p).zip (bs.drop p):=by
 rw[List.zip_append (by simp[h])];rfl
theorem mf{α β:Type}{as:List α}{bs:List β}(h:as.length=bs.length)(p:Nat){q:α×β}(hq:q∈(as.take p).zip (bs.take p)\/q∈(as.drop p).zip (bs.drop p)):q∈as.zip bs:=by
 have:as.zip bs=(as.take p).zip (bs.take p)++(as.drop p).zip (bs.drop p):=by
  rw[<-List.zip_append (by simp[h]),DZ,DZ]
 rw[this]
 exact BA.mpr hq
theorem Dp{m:Nat}{pl:List Nat}{hs:List Int}(P:ny m pl hs)(hl:pl.length=hs.length){j:Nat}{h:Int}(R:Reach m (·∈pl) (SetTable.bits h) j)(p:Nat):ny m (pl.take p++j::pl.drop p) (hs.take p++h::hs.drop p):=by
 have mem:∀k,k∈pl->k∈pl.take p++j::pl.drop p:=λk hk=>by
  rw[<-DZ p pl]at hk
  rcases BA.mp hk with z | z
  ·exact DE _ z
  ·exact BC _ (AI _ z)
 intro q hq
 rw[yo hl]at hq
 rcases BA.mp hq with z | z
 ·exact(P q (mf hl p (.inl z))).mono mem
 ·rcases AS.mp z with rfl | z
  ·exact R.mono mem
  ·exact(P q (mf hl p (.inr z))).mono mem
noncomputable def Occ(owner:Array (Option Nat))(j:Nat):Prop:=owner.getD j (some 0)≠none
theorem wj{m:Nat}(owner:Array (Option Nat))(b:Nat):∀f r n,cv m b n=Ia m (gz m b r)->(∀k,k<n->Occ owner (pos m b k))->(∃r',r<=r'/\r'<r+f/\¬Occ owner (gz m b r').1) ->
  ∃N,SetTable.layClean.free m owner f (gz m b r).1 (gz m b r).2=some (pos m b N)/\¬Occ owner (pos m b N)/\∀k,k<N->Occ owner (pos m b k)
 |0,r,n,_,_,⟨r',h1,h2,_⟩=>by omega
 |f+1,r,n,e,hocc,⟨r',h1,h2,h3⟩=>by
  have ar:=u0 m b (gz m b r) e
  have pq:∀q,q<=SetTable.runEnd m (gz m b r).1-(gz m b r).1->pos m b (n+q)=(gz m b r).1+q:=λq hq=>by
   show(cv m b (n+q)).j=_
   rw[ar q hq]
  have hlen:SetTable.runEnd m (gz m b r).1+1-(gz m b r).1=SetTable.runEnd m (gz m b r).1-(gz m b r).1+1:=by
   have:(gz m b r).1<=SetTable.runEnd m (gz m b r).1:=by unfold SetTable.runEnd;split<;>omega
   omega
  rw[SetTable.layClean.free]
  cases ef:(List.range (SetTable.runEnd m (gz m b r).1+1-(gz m b r).1)).find? λk=>(owner.getD ((gz m b r).1+k) (some 0)).isNone with
  |some k =>
   rw[List.find?_range_eq_some]at ef
   obtain⟨g1,g2,g3⟩:=ef
   have hk:k<=SetTable.runEnd m (gz m b r).1-(gz m b r).1:=by
    have:=CZ.mp g2;omega
   refine⟨n+k,by dsimp only;rw[pq k hk],?_,λq hq=>?_⟩
   ·rw[pq k hk];intro z;apply z;simpa using g1
   ·rcases EF q n with z | z
    ·exact hocc q z
    ·have:=g3 (q-n) (by omega)
     have ep:=pq (q-n) (by omega)
     rw[show n+(q-n)=q by omega]at ep
     rw[ep]
     intro zz
     rw[zz]at this
     simp at this
  |none =>
   dsimp only
   rw[List.find?_range_eq_none]at ef
   have nx:=wd m b (gz m b r) e
   have oc:∀q,q<=SetTable.runEnd m (gz m b r).1-(gz m b r).1->Occ owner (pos m b (n+q)):=λq hq=>by
    rw[pq q hq]
    have:=ef q (by omega)
    intro zz
    rw[zz]at this
    simp at this
   refine wj owner b f (r+1) _ nx (λk hk=>?_) ⟨r',?_,by omega,h3⟩
   ·rcases EF k n with z | z
    ·exact hocc k z
    ·have:=oc (k-n) (by omega)
     rwa [show n+(k-n)=k by omega]at this
   ·rcases Gt h1 with z | z
    ·exfalso
     apply h3
     rw[<-z]
     have:=oc 0 (BW _)
     rwa [pq 0 (BW _),Nat.add_zero]at this
    ·exact z
structure Own (m:Nat) (owner:Array (Option Nat)) (done:List Int):Prop where
 size:owner.size=m+1
 perm:(owner.toList.filterMap id).Perm (List.range done.length)
 way:∀(j i:Nat),owner[j]? = some (some i)->∃h,done[i]? = some h/\Reach m (Occ owner) (SetTable.bits h) j
theorem Ba{owner:Array (Option Nat)}{j:Nat}(hj:j<owner.size):¬Occ owner j↔owner[j]? = some none:=by
 unfold Occ
 simp[hj]
theorem E6(k:Nat):∀(l:List (Option Nat)) (j:Nat),l[j]? = some none->((l.set j (some k)).filterMap id).Perm (k::l.filterMap id)
 | [],j,h=>by simp at h
 |x::l,0,h=>by
  have:x=none:=by simpa using h
  subst this
  simp
 |x::l,j+1,h=>by
  have ih:=E6 k l j (by simpa using h)
  cases x with
  |none=>simpa using ih
  |some y =>
   simp![List.set_cons_succ,EJ (show id (some y)=some y from rfl)]
   exact(ih.cons y).trans (List.Perm.swap k y _)
theorem E7:∀(l:List (Option Nat)),(∀x∈l,x≠none)->(l.filterMap id).length=l.length
 | [],_=>rfl
 |none::l,h=>absurd rfl (h none AN)
 |some y::l,h=>by
  rw[EJ (show id (some y)=some y from rfl),AU,AU,E7 l λx hx=>h x (AI _ hx)]
theorem Dq{m:Nat}{owner:Array (Option Nat)}{done:List Int}(O:Own m owner done)(hd:done.length<=m):∃j,j<=m/\¬Occ owner j:=by
 apply DD
 intro hn
 have all:∀x∈owner.toList,x≠none:=λx hx z=>by
  subst z
  obtain⟨j,hj,e⟩:=CS hx
  have hj':j<owner.size:=by simpa using hj
  exact hn ⟨j,by have:=O.size;omega,(Ba hj').mpr (by rw[BD hj'];simpa using e)⟩
 have h1:=E7 _ all
 have h2:=O.perm.length_eq
 have h3:=O.size
 simp![AZ,GH]at h1 h2
 omega
theorem Dr{m:Nat}(hm:Mask m){owner:Array (Option Nat)}{done:List Int}(O:Own m owner done)(hd:done.length<=m)(h:Int) :
  ∃j,SetTable.layClean.free m owner (SetTable.turns m) (SetTable.bits h % (m+1)) (SetTable.bits h)=some j/\Own m (owner.setIfInBounds j (some done.length)) (done++[h]):=by
 obtain⟨j0,hj0,ho⟩:=Dq O hd
 obtain⟨r,hr,er⟩:=sf hm (A9 h) hj0
 obtain⟨N,e1,e2,e3⟩:=wj owner (SetTable.bits h) (SetTable.turns m) 0 0 rfl (λk hk=>absurd hk (Nat.not_lt_zero _)) ⟨r,BW _,by unfold SetTable.turns;omega,by rw[er];exact ho⟩
 have hin:pos m (SetTable.bits h) N<owner.size:=by
  apply DD
  intro z
  apply e2
  unfold Occ
  simp[z]
 have hnone:=(Ba hin).mp e2
 have eo:∀k,Occ owner k->Occ (owner.setIfInBounds (pos m (SetTable.bits h) N) (some done.length)) k:=λk hk=>by
  unfold Occ at hk ⊢
  by_cases z:pos m (SetTable.bits h) N=k
  ·subst z;simp[hin]
  ·simp![FS,FM,z,if_false]at hk ⊢
   exact hk
 refine⟨_,e1,⟨by simp[O.size],?_,λj i hji=>?_⟩⟩
 ·rw[Array.toList_setIfInBounds]
  refine(E6 done.length owner.toList _ (by simpa using hnone)).trans ?_
  rw[AX,DW,List.range_succ]
  exact(O.perm.cons _).trans (HU (l₁:=[done.length]) (l₂:=List.range done.length))
 ·rw[FM]at hji
  split at hji
  ·rename_i z
   have:done.length=i:=by simpa using hji
   subst this
   refine⟨h,by simp,N,z,λk hk=>eo _ (e3 k hk)⟩
  ·obtain⟨h',d1,d2⟩:=O.way j i hji
   have:=(AK.mp d1).1
   exact⟨h',by rw[AW this];exact d1,d2.mono eo⟩
theorem nz{m:Nat}(hm:Mask m):∀(hs:List Int) {owner:Array (Option Nat)} {done:List Int},Own m owner done->done.length+hs.length<=m ->
  ∃owner',hs.foldl (init:=some (owner,done.length)) (λacc h=>do
   let (owner,k) <-acc
   let j <-SetTable.layClean.free m owner (SetTable.turns m) (SetTable.bits h % (m+1)) (SetTable.bits h)
   pure (owner.setIfInBounds j (some k),k+1))=some (owner',done.length+hs.length)/\Own m owner' (done++hs)
 | [],owner,done,O,_=>⟨owner,rfl,by rw[HG];exact O⟩
 |h::hs,owner,done,O,hl=>by
  simp![AU]at hl
  obtain⟨j,e1,O2⟩:=Dr hm O (by omega) h
  obtain⟨owner',e2,O3⟩:=nz hm hs O2 (by simp;omega)
  refine⟨owner',?_,by simpa using O3⟩
  rw[EL]
  simp![FR,ED,e1,HL]
  simp![FR,HL,AX,DW]at e2
  rw[e2,AU]
  congr 2
  omega
theorem Bb(m:Nat):Own m (Array.replicate (m+1) none) []:=by
 refine⟨by simp,?_,λj i h=>?_⟩
 ·have:((Array.replicate (m+1) (none:Option Nat)).toList.filterMap id)=[]:=by
   simp[List.filterMap_eq_nil_iff]
  rw[this];exact .nil
 ·rw[Array.getElem?_replicate]at h
  split at h<;>simp at h
theorem Ds{m:Nat}(hm:Mask m)(hs:Array Int)(hl:hs.size<=m):∃owner,SetTable.layClean m hs=some owner/\Own m owner hs.toList:=by
 obtain⟨owner,e,O⟩:=nz hm hs.toList (Bb m) (by simpa using hl)
 refine⟨owner,?_,by simpa using O⟩
 unfold SetTable.layClean
 rw[<-Array.foldl_toList]
 rw[show((Array.replicate (m+1) (none:Option Nat),0):Array (Option Nat)×Nat)=(Array.replicate (m+1) none,([]:List Int).length)from rfl,e]
 rfl
theorem Bc{m i:Nat}(h:i<=m):i+(SetTable.runEnd m i-i)<=m:=by
 unfold SetTable.runEnd
 split<;>omega
theorem Bd(m b:Nat):∀n,(cv m b n).j+(cv m b n).more<=m
 |0=>Bc (FD (FY _ (HC _)))
 |n+1=>by
  have ih:=Bd m b n
  show(y8 m (cv m b n)).j+(y8 m (cv m b n)).more<=m
  unfold y8
  split
  ·show(cv m b n).j+1+((cv m b n).more-1)<=m
   omega
  ·exact Bc (FD (FY _ (HC _)))
theorem Li(m b n:Nat):pos m b n<=m:=by
 have:=Bd m b n
 show(cv m b n).j<=m
 omega
theorem Reach.mono2{m b j:Nat}{occ occ':Nat->Prop}(h:Reach m occ b j)(o:∀k,k<=m->occ k->occ' k):Reach m occ' b j:=by
 obtain⟨n,e,q⟩:=h
 exact⟨n,e,λk hk=>o _ (Li m b k) (q k hk)⟩
theorem E8{α β:Type}{f:α->Option β}{g:α->β}:∀{l:List α},(∀x∈l,f x=some (g x))->l.filterMap f=l.map g
 | [],_=>rfl
 |x::l,h=>by
  rw[EJ (h x AN),AL,E8 λy hy=>h y (AI _ hy)]
theorem wm{α β γ:Type}(f:α->β)(g:α->γ):∀l:List α,(l.map f).zip (l.map g)=l.map λx=>(f x,g x)
 | []=>rfl
 |x::l=>by simp![AL,BZ,wm f g l]
theorem laid_ok{m:Nat}(hm:Mask m)(es:Array (Int×Value))(hl:es.size<=m)(fg mv:Nat)(led pl:Bool):∃(t':SetTable) (order:Array Nat),SetTable.laid m fg mv led pl (es.map (·.1))=some (t',order)/\t'.mask=m/\Tidy t' led/\t'.moves=mv/\t'.place.size=es.size /\
  (order.filterMap (es[·]?)).size=es.size/\(order.filterMap (es[·]?)).toList.Perm es.toList/\ny m t'.place.toList ((order.filterMap (es[·]?)).toList.map (·.1)):=by
 obtain⟨owner,e,O⟩:=Ds hm (es.map (·.1)) (by simpa using hl)
 obtain⟨live,hlive⟩:∃live,live=(List.range (m+1)).filterMap λj=>(owner.getD j none).map (j,·):=⟨_,rfl⟩
 have mem:∀j k,(j,k)∈live↔j<=m/\owner[j]? = some (some k):=λj k=>by
  rw[hlive,FU]
  constructor
  ·rintro⟨j',hj',e'⟩
   obtain⟨k',h1,h2⟩:=FA.mp e'
   cases h2
   have hj:j<owner.size:=by have:=O.size;have:=CZ.mp hj';omega
   refine⟨by have:=CZ.mp hj';omega,?_⟩
   simpa[hj]using h1
  ·rintro⟨hj,e'⟩
   have hj2:j<owner.size:=by have:=O.size;omega
   refine⟨j,CZ.mpr (by omega),?_⟩
   have:owner.getD j none=some k:=by simpa[hj2]using e'
   rw[this];rfl
 have snd:live.map (·.2)=owner.toList.filterMap id:=by
  have eo:owner.toList=(List.range (m+1)).map λj=>owner.getD j none:=by
   refine List.ext_getElem (by simp[O.size]) λi h1 h2=>?_
   have hi:i<owner.size:=by simpa using h1
   simp[hi]
  rw[hlive,eo,List.map_filterMap,List.filterMap_map]
  congr 1
  funext j
  show Option.map (·.2) (Option.map (λx=>(j,x)) (owner.getD j none))=owner.getD j none
  cases owner.getD j none<;>rfl
 have pr:(live.map (·.2)).Perm (List.range es.size):=by
  rw[snd]
  have:=O.perm
  simpa using this
 have inr:∀k∈live.map (·.2),k<es.size:=λk hk=>by simpa using pr.mem_iff.mp hk
 have lenL:live.length=es.size:=by have:=pr.length_eq;simpa using this
 have ees:((live.map (·.2)).toArray.filterMap (es[·]?)).toList=live.map λq=>es.getD q.2 (0,.none):=by
  rw[Array.toList_filterMap]
  rw[E8 (g:=λk=>es.getD k (0,.none)) λk hk=>by
   have:=inr k hk
   simp[this]]
  rw[BN];rfl
 refine⟨{mask:=m,place:=(live.map (·.1)).toArray,dummies:=#[],finger:=fg,led:=led,moves:=mv,plain:=pl},(live.map (·.2)).toArray,?_,rfl,⟨?_,rfl,rfl⟩,rfl,?_,?_,?_,?_⟩
 ·unfold SetTable.laid
  rw[e]
  simp![FR,ED,HL,hlive]
 ·rw[ma]
  dsimp only
  rw[FE,hlive]
  refine List.Pairwise.filterMap _ (R:=(· < ·)) ?_ HD
  intro a a' hlt b hb b' hb'
  simp![Option.mem_def,FA]at hb hb'
  obtain⟨_,_,rfl⟩:=hb
  obtain⟨_,_,rfl⟩:=hb'
  exact hlt
 ·simp[lenL]
 ·rw[<-AZ,ees];simp[lenL]
 ·rw[ees,show(live.map λq=>es.getD q.2 (0,.none))=(live.map (·.2)).map λk=>es.getD k (0,.none)by rw[BN];rfl]
  refine(pr.map _).trans (List.Perm.of_eq ?_)
  refine List.ext_getElem (by simp) λi h1 h2=>?_
  have hi:i<es.size:=by simpa using h2
  simp[hi]
 ·dsimp only
  rw[ees,BN]
  intro q hq
  rw[wm]at hq
  obtain⟨⟨j,k⟩,hx,rfl⟩:=BY.mp hq
  obtain⟨hj,ho⟩:=(mem j k).mp hx
  obtain⟨h,d1,d2⟩:=O.way j k ho
  have hk:k<es.size:=inr k (BY.mpr ⟨_,hx,rfl⟩)
  have eh:(es.getD k (0,.none)).1=h:=by simpa[hk]using d1
  dsimp only[Function.comp]
  rw[eh]
  refine d2.mono2 λp hp hocc=>?_
  have hp2:p<owner.size:=by have:=O.size;omega
  unfold Occ at hocc
  cases ev:owner[p]? with
  |none=>simp[hp2]at ev
  |some v =>
   cases v with
   |none =>
    exfalso
    apply hocc
    simpa[hp2]using ev
   |some k' =>
    exact BY.mpr ⟨(p,k'),(mem p k').mpr ⟨hp,ev⟩,rfl⟩
theorem Lj{t:SetTable}{l:Bool}(T:Tidy t l){m:Nat}(h:t.place.size<=m):∃j,j<=m/\j∉t.place.toList:=by
 apply DD
 intro hn
 have sub:(List.range (m+1)) ⊆ t.place.toList:=λj hj=>by
  apply DD
  intro z
  exact hn ⟨j,by have:=CZ.mp hj;omega,z⟩
 have:=List.nodup_range.length_le_of_subset sub
 simp at this
 omega
open PySem PySem.W PyProof.Rows PySem.Calls
section
variable{prog:Program}{w:World}{A:Around}{E:Value -> Shared -> Prop}{s:Shared}
noncomputable abbrev tki(prog:Program)(w:World):HeapKind prog w (List Int):=tupleKind (intKind prog w)
theorem yp(n:Nat){v:Value}(h:carriedByValue v=true):ofAClassStatement n v=pure false:=by
 cases v with
 |ref a=>simp[carriedByValue]at h
 |_=>cases n<;>rfl
theorem mh(n:Nat){ks:List Int}{a:Addr}{Q:Bool->Shared->Prop}(hk:(tki prog w).is s.heap ks a)(h:Q false s):wpAny (model prog w) A (ofAClassStatement (n+1) (.ref a)) Q E s:=by
 have hT:=IB hk
 obtain⟨o,items,m,ho,hc,hd,hi⟩:=hk
 unfold ofAClassStatement
 refine AA (EY hT ?_)
 dsimp only
 refine AA ?_
 refine AC ?_
 simp![GP,AF,if_false]
 refine AA (Go ho hd ?_)
 dsimp only
 refine AA ?_
 rw[<-Array.forIn_toList]
 refine DL _ (λrest r s'=>r.1=none/\s'=s/\∀v∈rest,carriedByValue v=true) _ ?_ ?_ _ _ ⟨rfl,rfl,hi.byValue⟩
 ·rintro v rest r s' ⟨hr,rfl,hall⟩
  rw[yp _ (hall v AN)]
  refine AA (AC ?_)
  simp![AF,if_false]
  exact AC ⟨rfl,rfl,λu hu'=>hall u (AI _ hu')⟩
 ·rintro⟨r1,r2⟩ s' ⟨hr,rfl,_⟩
  simp only at hr
  subst hr
  exact AC h
theorem Dt{ks:List Int}{a:Addr}{stored:List Value}{Q:Bool->Shared->Prop}(hk:(tki prog w).is s.heap ks a)(hst:∀v∈stored,∃k' b,v=.ref b/\(tki prog w).is s.heap k' b)(h:Q false s):wpAny (model prog w) A (searchCouldBeSeen (.ref a) stored) Q E s:=by
 unfold searchCouldBeSeen
 refine AA ?_
 refine DL _ (λrest r s'=>s'=s/\r=(none,())/\∀v∈rest,∃k' b,v=.ref b/\(tki prog w).is s.heap k' b) _ ?_ ?_ _ _ ⟨rfl,rfl,hst⟩
 ·rintro x rest r s' ⟨rfl,rfl,hr⟩
  obtain⟨k',b,rfl,hb⟩:=hr x AN
  dsimp only
  split
  ·exact AC ⟨rfl,rfl,λv hv=>hr v (AI _ hv)⟩
  ·refine AA ((tki prog w).quiet hk ?_)
   simp![GP,AF,if_false]
   refine AA ((tki prog w).quiet hb ?_)
   simp![GP,AF,if_false]
   refine AA (mh 7 hk ?_)
   simp![AF,if_false]
   refine AA (mh 7 hb ?_)
   simp![AF,if_false]
   exact AC ⟨rfl,rfl,λv hv=>hr v (AI _ hv)⟩
 ·rintro r s' ⟨rfl,rfl,_⟩
  exact AC h
theorem Du{ks:List Int}{a:Addr}{Q:Bool->Shared->Prop}(hk:(tki prog w).is s.heap ks a)(h:Q true s):wpAny (model prog w) A (hashByValue 8 (.ref a)) Q E s:=by
 have hT:=IB hk
 obtain⟨o,items,m,ho,hc,hd,hi⟩:=hk
 unfold hashByValue
 refine AA (wpAny_specialOf hT F.slot_tuple_hash.lookup ?_)
 dsimp only
 refine AA (Go ho hd ?_)
 refine AA ?_
 show wpAny _ _ (forIn items _ _) _ _ s
 rw[<-Array.forIn_toList]
 have hint:∀v∈items.toList,hashByValue 7 v=pure true:=by
  have:∀{ks:List Int} {vs:List Value},ItemsAre (intKind prog w) ks vs->∀v∈vs,hashByValue 7 v=pure true:=by
   intro ks vs q
   induction q with
   |nil=>intro v hv;cases hv
   |cons hq _ ih =>
    intro v hv
    rcases AS.mp hv with rfl | hv
    ·cases v<;>first | rfl | (simp[intKind,Value.isInt]at hq)
    ·exact ih v hv
  exact this hi
 refine DL _ (λrest r s'=>r.1=none/\s'=s/\∀v∈rest,hashByValue 7 v=pure true) _ ?_ ?_ _ _ ⟨rfl,rfl,hint⟩
 ·rintro v rest r s' ⟨hr,rfl,hall⟩
  rw[hall v AN]
  refine AA (AC ?_)
  simp![GP,AF,if_false]
  exact AC ⟨rfl,rfl,λu hu'=>hall u (AI _ hu')⟩
 ·rintro⟨r1,r2⟩ s' ⟨hr,rfl,_⟩
  simp only at hr
  subst hr
  exact AC h
end
structure HoldsT (prog:Program) (w:World) (G:List Int->Addr->Prop) (o:Obj) (es:Array (Int×Value)) (ep:Nat) (t:SetTable) (as:List (List Int×Addr)) (l:Bool):Prop extends Laid o es ep t l where
 mask:Mask t.mask
 room:t.place.size*5<t.mask*3
 path:ny t.mask t.place.toList (es.toList.map (·.1))
 els:es.toList.Perm (as.map λp=>((tki prog w).hash p.1,Value.ref p.2))
 good:∀p∈as,G p.1 p.2
section
variable{prog:Program}{w:World}{A:Around}{E:Value -> Shared -> Prop}{s:Shared}{a b:Addr}{o:Obj}{es:Array (Int × Value)}{ep:Nat}{t:SetTable}{as:List (List Int × Addr)}{l:Bool}{G:List Int -> Addr -> Prop}{k:List Int}
theorem HoldsT.size(H:HoldsT prog w G o es ep t as l):t.place.size=es.size:=by
 have:=H.fits
 unfold SetTable.fits at this
 simp![AT,beq_iff_eq]at this
 exact this.1
theorem HoldsT.odd(H:HoldsT prog w G o es ep t as l):t.gaveWay=false:=by
 unfold SetTable.gaveWay
 rcases H.mask with h | h | h<;>rw[h]<;>rfl
theorem HoldsT.elem(H:HoldsT prog w G o es ep t as l){i:Nat}{e:Int×Value}(h:es[i]? = some e):∃p∈as,e=((tki prog w).hash p.1,Value.ref p.2):=by
 have hm:e∈es.toList:=by
  obtain⟨h1,h2⟩:=CK.mp h
  rw[<-h2];simp
 obtain⟨p,hp,e'⟩:=BY.mp (H.els.mem_iff.mp hm)
 exact⟨p,hp,e'.symm⟩
theorem HoldsT.at(H:HoldsT prog w G o es ep t as l){j:Nat}(hj:j∈t.place.toList):∃e,es[SetTable.below t.place j]? = some e:=by
 have h1:=o9 H.tidy hj
 have h2:=(CK.mp h1).1
 exact⟨es[SetTable.below t.place j]'(by rw[<-H.size];exact h2),BD _⟩
theorem HoldsT.lies(H:HoldsT prog w G o es ep t as l){p:List Int×Addr}(hp:p∈as):∃j∈t.place.toList,es[SetTable.below t.place j]? = some ((tki prog w).hash p.1,Value.ref p.2)/\Reach t.mask (·∈t.place.toList) (SetTable.bits ((tki prog w).hash p.1)) j:=by
 have hm:((tki prog w).hash p.1,Value.ref p.2)∈es.toList:=H.els.mem_iff.mpr (BY.mpr ⟨p,hp,rfl⟩)
 obtain⟨i,hi,e⟩:=CS hm
 have hi1:i<es.size:=by simpa using hi
 have hi2:i<t.place.size:=by rw[H.size];exact hi1
 have hj:t.place[i]∈t.place.toList:=by simp
 have hb:SetTable.below t.place t.place[i]=i:=by
  have h1:=o9 H.tidy hj
  obtain⟨h2,h3⟩:=CK.mp h1
  rcases GI (SetTable.below t.place t.place[i]) i with z | z | z
  ·have:=H.tidy.rose _ _ z hi2
   simp[h2,hi2]at this;omega
  ·exact z
  ·have:=H.tidy.rose _ _ z h2
   simp[h2,hi2]at this;omega
 refine⟨t.place[i],hj,?_,?_⟩
 ·rw[hb,BD hi1];simpa using e
 ·refine H.path (t.place[i],(tki prog w).hash p.1) ?_
  rw[List.mem_iff_getElem?]
  refine⟨i,?_⟩
  rw[List.getElem?_zip_eq_some]
  refine⟨by simp[hi2],?_⟩
  rw[BL,AD hi,e];rfl
theorem He{α:Type}{c:Bool}{x:Value}{st:List Value}{u:Sem PUnit}{m:Sem α}{Q:α->Shared->Prop}(hs:∀Q':Bool->Shared->Prop,Q' false s->wpAny (model prog w) A (searchCouldBeSeen x st) Q' E s)(h:wpAny (model prog w) A m Q E s) :
  wpAny (model prog w) A (if c=true then do
   let z <-searchCouldBeSeen x st
   if z=true then do
    u
    m
   else m
  else m) Q E s:=by
 cases c with
 |false=>simpa using h
 |true =>
  simp![if_true]
  refine AA (hs _ ?_)
  simpa using h
theorem u3 (q:s.heap.get? a=some o) (H:HoldsT prog w G o es ep t as l) (hG:∀k b,G k b->(tki prog w).is s.heap k b) (hu:A.units<cLine) (hk:(tki prog w).is s.heap k b) {Q:SetFound->Shared->Prop} {N:Nat}
  (hN:pos t.mask (SetTable.bits ((tki prog w).hash k)) N∉t.place.toList) (hocc:∀q,q<N->pos t.mask (SetTable.bits ((tki prog w).hash k)) q∈t.place.toList) (hN2:N<10*(t.mask+15))
  (h1:k∈as.map (·.1)->Q (.there none) s) (h2:k∉as.map (·.1)->Q (.free (pos t.mask (SetTable.bits ((tki prog w).hash k)) N) false) s) :
  ∀d n fuel (stand:Option SetTable.Probe),n+d=N->d<fuel->stand.getD (t.probeStart ((tki prog w).hash k))=cv t.mask (SetTable.bits ((tki prog w).hash k)) n ->
   (∀q,q<n->∀p∈as,es[SetTable.below t.place (pos t.mask (SetTable.bits ((tki prog w).hash k)) q)]? = some ((tki prog w).hash p.1,Value.ref p.2)->p.1≠k) ->
   wpAny (model prog w) A (setSearchFrom a (.ref b) ((tki prog w).hash k) true fuel stand) Q E s:=by
 intro d
 induction d using Nat.strongRecOn with
 |_ d ih =>
  intro n fuel stand hnd hf hst hne
  cases fuel with
  |zero=>omega
  |succ fuel =>
   unfold setSearchFrom
   refine AA (BR q H.data H.fits ?_)
   dsimp only
   rw[H.odd,hst]
   simp![AF,if_false]
   have gm:=E5 H.tidy (λi=>(es[i]?.map (·.1)).getD 0) ((tki prog w).hash k) hN hocc d n (10*SetTable.turns t.mask) hnd (by unfold SetTable.turns;omega)
   generalize hp:SetTable.probe t _ _ _=met
   rcases gm with⟨g1,g2⟩ | ⟨k1,c1,c2,c3,c4,g1⟩
   ·have e:met=some (.empty (pos t.mask (SetTable.bits ((tki prog w).hash k)) N) none):=hp.symm.trans g1
    rw[e]
    dsimp only
    refine AC (h2 λhmem=>?_)
    obtain⟨p,hp',ep⟩:=BY.mp hmem
    obtain⟨j,hj,he,n',en',ho'⟩:=H.lies hp'
    rw[ep]at en' ho'
    have hn':n'<N:=by
     rcases GI n' N with z | z | z
     ·exact z
     ·subst z;exact absurd (en' ▸ hj) hN
     ·exact absurd (ho' N z) hN
    rcases EF n' n with z | z
    ·exact hne n' z p hp' (by rw[en'];exact he) ep
    ·refine g2 n' z hn' ?_
     rw[en',he]
     show(tki prog w).hash p.1=_
     rw[ep]
   ·have e:met=some (.candidate (pos t.mask (SetTable.bits ((tki prog w).hash k)) k1) (SetTable.below t.place (pos t.mask (SetTable.bits ((tki prog w).hash k)) k1)) (cv t.mask (SetTable.bits ((tki prog w).hash k)) (k1+1))):=hp.symm.trans g1
    rw[e]
    dsimp only
    obtain⟨e0,he0⟩:=H.at (hocc k1 c2)
    obtain⟨p,hp',rfl⟩:=H.elem he0
    have hpis:=hG p.1 p.2 (H.good p hp')
    have hseen:∀v∈List.map (λx=>x.snd) (Array.filter (λx=>x.fst==(tki prog w).hash k) es).toList,∃k' b,v=.ref b/\(tki prog w).is s.heap k' b:=by
     intro v hv
     obtain⟨e1,he1,rfl⟩:=BY.mp hv
     have he2:e1∈es:=by simp at he1;exact he1.1
     obtain⟨p1,hp1,ee⟩:=BY.mp (H.els.mem_iff.mp (by simpa using he2))
     exact⟨p1.1,p1.2,by rw[<-ee],hG _ _ (H.good p1 hp1)⟩
    have sm:t.sameMemory t.moves t.mask=some true:=by unfold SetTable.sameMemory;simp
    have same:isSame (.ref p.2) (.ref p.2)=pure true:=by unfold isSame;simp
    have next:p.1≠k->wpAny (model prog w) A (setSearchFrom a (.ref b) ((tki prog w).hash k) true fuel (some (cv t.mask (SetTable.bits ((tki prog w).hash k)) (k1+1)))) Q E s:=λek=>by
     refine ih (N-(k1+1)) (by omega) (k1+1) fuel _ (by omega) (by omega) rfl λq' hq' p' hp'' he'=>?_
     rcases EF q' n with z | z
     ·exact hne q' z p' hp'' he'
     ·rcases EF q' k1 with z2 | z2
      ·intro ep
       refine c4 q' z z2 ?_
       rw[he']
       show(tki prog w).hash p'.1=_
       rw[ep]
      ·have:q'=k1:=by omega
       subst this
       rw[he0]at he'
       have e3:p.2=p'.2:=by simpa using(Prod.mk.inj (BJ he')).2
       have h3:=hG p'.1 p'.2 (H.good p' hp'')
       rw[<-e3]at h3
       rw[<-(tki prog w).inj hpis h3]
       exact ek
    refine He (λQ' h=>Dt hk hseen h) ?_
    rw[he0]
    dsimp only
    refine AA (BS ((tki prog w).eqBool hu hpis hk ?_))
    refine AA (BR q H.data H.fits ?_)
    dsimp only
    by_cases ek:p.1=k
    ·rw[decide_eq_true ek]
     simp![Bool.and_self,if_true]
     exact AC (h1 (BY.mpr ⟨p,hp',ek⟩))
    ·rw[decide_eq_false ek]
     simp![HW,AF,if_false]
     rw[sm]
     dsimp only
     simp![if_true]
     rw[sg H.tidy (hocc k1 c2)]
     dsimp only
     rw[he0]
     dsimp only
     rw[same]
     refine AA (AA (AC ?_))
     refine AC ?_
     exact next ek
end
noncomputable def yq(as:List (List Int×Addr))(k:List Int)(b:Addr):List (List Int×Addr):=if k∈as.map (·.1)then as else as++[(k,b)]
theorem Dw(a:Addr)(wanted:Nat):setRelay a wanted=(do
  let (es,_,t) <-setState a
  if SetTable.sizeAbove wanted > sizeLine then unsupported "set:memory"
  let (es,t) <-(do
   let some (t,order):=t.relaid (es.map (·.1)) wanted | unsupported "internal:set-table-without-room"
   let es':=order.filterMap (es[·]?)
   if es'.size != es.size then unsupported "internal:set-table-lost-an-element"
   pure (es',t))
  storeSet a es t):=rfl
section
variable{prog:Program}{w:World}{A:Around}{E:Value -> Shared -> Prop}{s:Shared}{a b:Addr}{o:Obj}{es:Array (Int × Value)}{ep:Nat}{t:SetTable}{as:List (List Int × Addr)}{l:Bool}{G:List Int -> Addr -> Prop}{k:List Int}
theorem HoldsT.few60(H:HoldsT prog w G o es ep t as l):es.size<t.mask:=by
 have:=H.room
 rw[<-H.size];omega
theorem Hf(H:HoldsT prog w G o es ep t as l):es.size=as.length:=by
 have:=H.els.length_eq
 simpa using this
theorem Hg {es1:Array (Int×Value)} {t1:SetTable} {o1:Obj} {ep1:Nat} (q:s.heap.get? a=some o1) (hset:o1.ExactSet) (hd:o1.data=.set es1 ep1 t1) (hf:t1.fits es1.size=true) (hl:t1.led=l)
  (hm:(es1.size=5\/es1.size=19)) {Q:Unit->Shared->Prop}
  (h:∀es2 t2,es2.size=es1.size->es2.toList.Perm es1.toList->Tidy t2 l->t2.fits es2.size=true->Mask t2.mask->t2.place.size*5<t2.mask*3->ny t2.mask t2.place.toList (es2.toList.map (·.1))->Q () {s with heap:=s.heap.update a (Obj.putSet es2 t2)}) :
  wpAny (model prog w) A (setRelay a (SetTable.grown es1.size)) Q E s:=by
 rw[Dw]
 refine AA (BR q hd hf ?_)
 dsimp only
 obtain⟨m,hM,hmm,hlt⟩:∃m,SetTable.sizeAbove (SetTable.grown es1.size)=m+1/\Mask m/\es1.size*5<m*3:=by
  rcases hm with z | z
  ·exact⟨31,by rw[z];decide,.inr (.inl rfl),by rw[z];decide⟩
  ·exact⟨127,by rw[z];decide,.inr (.inr rfl),by rw[z];decide⟩
 have hmle:m<=127:=by rcases hmm with z | z | z<;>omega
 rw[if_neg (by rw[hM,DF];omega)]
 obtain⟨t2,order,e,e1,e2,e3,e4,e5,e6,e7⟩:=laid_ok hmm es1 (by omega) t1.finger (t1.movedTo m) t1.led t1.plain
 have er:t1.relaid (es1.map (·.1)) (SetTable.grown es1.size)=some (t2,order):=by
  unfold SetTable.relaid
  rw[hM]
  exact e
 rw[er]
 dsimp only
 have e5':((order.filterMap (es1[·]?)).size != es1.size)=false:=by rw[e5];simp
 rw[if_neg (by rw[e5'];decide)]
 refine AA (AC ?_)
 dsimp only
 have sz:es1.size<=19:=by omega
 refine wpAny_storeSet_of q hd (h _ t2 e5 e6 (by rw[<-hl];exact e2) ?_ (by rw[e1];exact hmm) (by rw[e1,e4];exact hlt) (by rw[e1];exact e7)) (by rw[e5,DF];omega)
 unfold SetTable.fits SetTable.fill
 rw[e4,e5,e2.none,e1]
 simp
 omega
theorem Om{α:Type}{c:Bool}{f:Bool->Sem α}{Q:α->Shared->Prop}(hk:(tki prog w).is s.heap k b)(h:wpAny (model prog w) A (f true) Q E s):wpAny (model prog w) A (if c=true then hashByValue 8 (.ref b)>>=f else pure true>>=f) Q E s:=by
 cases c with
 |false=>exact AA (AC h)
 |true=>exact AA (Du hk h)
theorem Oo (q:s.heap.get? a=some o) (H:HoldsT prog w G o es ep t as l) (hG:∀k b,G k b->(tki prog w).is s.heap k b) (hu:A.units<cLine) (hk:G k b) (few:es.size<60) {Q:Bool->Shared->Prop}
  (h:∀r h' o' es' ep' t',Heap.SameBut a s.heap h'->h'.get? a=some o'->HoldsT prog w G o' es' ep' t' (yq as k b) l->Q r {s with heap:=h'}) :
  wpAny (model prog w) A (setAddHashed a (.ref b) ((tki prog w).hash k)) Q E s:=by
 have hsz:=H.size
 have hmask:t.mask<=127:=by rcases H.mask with z | z | z<;>omega
 obtain⟨j0,hj0,hj1⟩:=Lj H.tidy (m:=t.mask) (by have:=H.few60;omega)
 obtain⟨N,hN2,hN,hocc⟩:=ym H.mask (A9 ((tki prog w).hash k)) (occ:=(·∈t.place.toList)) hj0 hj1
 unfold setAddHashed setAddHashedIn
 refine BS (AA (BR q H.data H.fits ?_))
 dsimp only
 have bs:byScan (.ref b) es=false:=by simp[byScan,Value.scannable]
 rw[bs]
 simp![AF,if_false]
 unfold setSearch
 refine AA (u3 q H hG hu (hG k b hk) hN hocc hN2 (λhmem=>?_) (λhmem=>?_) N 0 100000 none (by omega) (by omega) rfl λq h=>absurd h (Nat.not_lt_zero _))
 ·dsimp only
  refine AC (h false s.heap o es ep t (Heap.SameBut.refl a s.heap) q ?_)
  unfold yq
  rw[if_pos hmem]
  exact H
 ·dsimp only
  refine AA (BR q H.data H.fits ?_)
  dsimp only
  generalize hj:pos t.mask (SetTable.bits ((tki prog w).hash k)) N=j at hN
  have hne:t.place[SetTable.below t.place j]?≠some j:=λe=>hN (by
   obtain⟨x,y⟩:=CK.mp e
   rw[<-y];simp)
  have p2:(t.put j).2=SetTable.below t.place j:=rfl
  have p1:(t.put j).1={t with place:=SetTable.insertAt t.place (SetTable.below t.place j) j}:=by
   unfold SetTable.put
   dsimp only
   have hd0:SetTable.has t.dummies j=false:=by rw[H.tidy.none];exact has_none j
   rw[hd0];rfl
  rw[p1,p2]
  refine Om (hG k b hk) ?_
  simp![if_true]
  obtain⟨t1,ht1⟩:∃t1:SetTable,t1={t with place:=SetTable.insertAt t.place (SetTable.below t.place j) j}:=⟨_,rfl⟩
  obtain⟨es1,hes1⟩:∃es1,es1=SetTable.insertAt es (SetTable.below t.place j) ((tki prog w).hash k,Value.ref b):=⟨_,rfl⟩
  rw[<-ht1,<-hes1]
  have l1:t1.place.toList=t.place.toList.take (SetTable.below t.place j)++j::t.place.toList.drop (SetTable.below t.place j):=by rw[ht1];exact gy _ _ _
  have l2:es1.toList=es.toList.take (SetTable.below t.place j)++((tki prog w).hash k,Value.ref b)::es.toList.drop (SetTable.below t.place j):=by rw[hes1];exact gy _ _ _
  have s1:t1.place.size=t.place.size+1:=by
   have:=congrArg List.length l1
   simp![AZ,AX,DK,AU,FH]at this
   omega
  have s2:es1.size=es.size+1:=by
   have:=congrArg List.length l2
   simp![AZ,AX,DK,AU,FH]at this
   omega
  have T1:Tidy t1 l:=by rw[ht1];exact⟨uv H.tidy.rose hne,H.tidy.none,H.tidy.led⟩
  have m1:t1.mask=t.mask:=by rw[ht1]
  have fill1:t1.fill=t1.place.size:=by unfold SetTable.fill;rw[T1.none];rfl
  have few1:=H.few60
  have F1:t1.fits es1.size=true:=by
   unfold SetTable.fits
   rw[fill1,s1,s2,m1,hsz]
   simp
   omega
  have pl1:ny t1.mask t1.place.toList (es1.toList.map (·.1)):=by
   rw[m1,l1,l2,CP,AL,List.map_take,List.map_drop]
   refine Dp H.path (by simp[hsz]) ?_ _
   exact⟨N,hj,hocc⟩
  have el1:es1.toList.Perm ((yq as k b).map λp=>((tki prog w).hash p.1,Value.ref p.2)):=by
   unfold yq
   rw[if_neg hmem,l2,CP]
   refine List.perm_middle.trans ?_
   rw[DZ]
   refine(H.els.cons _).trans ?_
   exact(HU (l₁:=[((tki prog w).hash k,Value.ref b)]))
  have good1:∀p∈yq as k b,G p.1 p.2:=by
   unfold yq
   rw[if_neg hmem]
   intro p hp
   rcases BA.mp hp with z | z
   ·exact H.good p z
   ·rw[BF.mp z];exact hk
  have B1:es1.size<scanBound:=by rw[s2];have:scanBound=4096:=rfl;omega
  have q1:=DB (Obj.putSet es1 t1) q (by rw[putSet_of es1 t1 H.data];rfl)
  rw[putSet_of es1 t1 H.data]at q1
  refine AA (wpAny_storeSet_of q H.data ?_ (by rw[s2,DF];omega))
  simp![Bool.not_false,Bool.true_and]
  have sb1:=HX s.heap a (Obj.putSet es1 t1)
  by_cases hfull:t1.tooFull=true
  ·rw[if_pos hfull]
   unfold SetTable.tooFull at hfull
   rw[fill1,s1,m1]at hfull
   have hfull':(t.place.size+1)*5≥t.mask*3:=by simpa using hfull
   have hroom:=H.room
   have hn:es1.size=5\/es1.size=19:=by
    rw[s2,<-hsz]
    rcases H.mask with z | z | z<;>rw[z]at hroom hfull'<;>omega
   rw[<-s2]
   refine AA (Hg (s:={s with heap:=s.heap.update a (Obj.putSet es1 t1)}) (l:=l) q1 H.set rfl F1 T1.led hn λes2 t2 f1 f2 f3 f4 f5 f6 f7=>?_)
   refine AC ?_
   have q2:=DB (Obj.putSet es2 t2) q1 (by rw[putSet_of (ep:=ep+1) es2 t2 rfl];rfl)
   rw[putSet_of (ep:=ep+1) es2 t2 rfl]at q2
   refine h true _ _ es2 (ep+1+1) t2 (sb1.trans (HX _ a _)) q2 ⟨⟨H.set,rfl,f3,f4,by rw[f1];exact B1⟩,f5,f6,f7,f2.trans el1,good1⟩
  ·rw[if_neg hfull]
   refine AC (h true _ _ es1 (ep+1) t1 sb1 q1 ⟨⟨H.set,rfl,T1,F1,B1⟩,by rw[m1];exact H.mask,?_,pl1,el1,good1⟩)
   unfold SetTable.tooFull at hfull
   rw[fill1]at hfull
   have:¬(t1.place.size*5≥t1.mask*3):=by simpa using hfull
   omega
end
noncomputable def ij(kv:Nat->List Int×Addr):Nat->List (List Int×Addr)
 |0=>[]
 |i+1=>yq (ij kv i) (kv i).1 (kv i).2
theorem kc(kv:Nat->List Int×Addr):∀i,(ij kv i).length<=i
 |0=>AH _
 |i+1=>by
  have:=kc kv i
  show(yq _ _ _).length<=_
  unfold yq
  split
  ·omega
  ·simp;omega
theorem Be{prog:Program}{w:World}{h h':Heap}{k:List Int}{b:Addr}(x:(tki prog w).is h k b)(e:∀o,h.get? b=some o->h'.get? b=some o):(tki prog w).is h' k b:=by
 obtain⟨o,items,n,h1,h2⟩:=x
 exact⟨o,items,n,e o h1,h2⟩
section
variable{prog:Program}{w:World}{A:Around}{R:Result -> Shared -> Prop}{I:Addr}{fp wr:List Addr}{G:Array GenState -> Array GenState -> Prop}{n:Nat}{P:Nat -> Value -> Prop}{St:Nat -> Shared -> Prop}{l:Bool}
noncomputable def u4(prog:Program)(w:World)(Gd:List Int->Addr->Prop)(h:Heap)(a:Addr)(as:List (List Int×Addr))(l:Bool):Prop:=∃o es ep t,h.get? a=some o/\HoldsT prog w Gd o es ep t as l
theorem u4.at{Gd:List Int->Addr->Prop}{h h':Heap}{a:Addr}{as:List (List Int×Addr)}(H:u4 prog w Gd h a as l)(k:∀o,h.get? a=some o->h'.get? a=some o):u4 prog w Gd h' a as l:=by
 obtain⟨o,es,ep,t,q,z⟩:=H
 exact⟨o,es,ep,t,k o q,z⟩
theorem Lk(W:WalksS prog w A.in1 I fp wr G n P St)(hu:A.in1.units<cLine)(a:Addr)(af:a∉fp)(kv:Nat->List Int×Addr)(base:Heap)(hv:∀i v,P i v->v=.ref (kv i).2/\(kv i).2∉a::wr/\(tki prog w).is base (kv i).1 (kv i).2)(few:n<60) :
  ∀(d i:Nat) (s:Shared),n-i=d->i<=n->St i s->(∀b o,b∉a::wr->base.get? b=some o->s.heap.get? b=some o)->u4 prog w (λk b=>b∉a::wr/\(tki prog w).is base k b) s.heap a (ij kv i) l->(∀s',Moved (a::wr) G s s'->u4 prog w (λk b=>b∉a::wr/\(tki prog w).is base k b) s'.heap a (ij kv n) l->R (.ok (.ret .none)) s') ->
   codeAny (model prog w) A (.builtin "set.update.loop" ⟨[.ref a,.ref I],[]⟩) R s:=by
 have aw:a∉wr:=λz=>af (W.sub _ z)
 intro d
 induction d with
 |zero =>
  intro i s hd hi st hb H fin
  have e:i=n:=by lia
  subst e
  refine DU F.entry_set_update_loop ?_
  rw[DG ET]
  show wpAny (model prog w) A.in1 (pyNext (.ref I)>>=_) _ _ s
  refine AA (W.done s _ _ st λs' m=>?_)
  show wpAny (model prog w) A.in1 (ret Value.none) _ _ s'
  exact AC (fin s' (m.mono λb z=>AI _ z) (H.at λo z=>m.heap a o aw z))
 |succ d ih =>
  intro i s hd hi st hb H fin
  refine DU F.entry_set_update_loop ?_
  rw[DG ET]
  show wpAny (model prog w) A.in1 (pyNext (.ref I)>>=_) _ _ s
  refine AA (W.item i s _ _ (by lia) st λv s' p st' m=>?_)
  obtain⟨rfl,hnw,his⟩:=hv i v p
  obtain⟨o,es,ep,t,q,H'⟩:u4 prog w (λk b=>b∉a::wr/\(tki prog w).is base k b) s'.heap a (ij kv i) l:=H.at λo z=>m.heap a o aw z
  have hb':∀b o,b∉a::wr->base.get? b=some o->s'.heap.get? b=some o:=λb o h1 h2=>m.heap b o (λz=>h1 (AI _ z)) (hb b o h1 h2)
  have hG:∀(s2:Heap),(∀b o,b∉a::wr->base.get? b=some o->s2.get? b=some o)->∀k b,(b∉a::wr/\(tki prog w).is base k b)->(tki prog w).is s2 k b:=λs2 h k b z=>Be z.2 λo e=>h b o z.1 e
  show wpAny (model prog w) A.in1 (holding [Value.ref (kv i).2] (setAdd a (.ref (kv i).2))>>=_) _ _ s'
  unfold setAdd
  refine AA (BS (BS (AA ((tki prog w).pyHash (k:=(kv i).1) hu (hG s'.heap hb' _ _ ⟨hnw,his⟩) ?_))))
  have le:=kc kv i
  have sz:=Hf H'
  refine Oo (s:={s' with toks:=s'.toks+(tki prog w).draws (kv i).1}) q H' (hG s'.heap hb') hu ⟨hnw,his⟩ (by lia) λr h' o' es' ep' t' sb q' H2=>?_
  refine AC ⟨GN ET _,ih (i+1) _ (by lia) (by lia) (W.frame _ s' _ _ st' (GS _ _) λb hb o z=>?_) (λb o h1 h2=>?_) ⟨o',es',ep',t',q',H2⟩ λs2 m2 H3=>?_⟩
  ·rw[sb.2 b λe=>af (e ▸ hb)];exact z
  ·show h'.get? b=some o
   rw[sb.2 b λe=>h1 (e ▸ AN)]
   exact hb' b o h1 h2
  ·refine fin s2 (Moved.trans W.gtrans ((m.mono λb z=>AI _ z).then_heap (GS _ _) λb o hb z=>?_) m2) H3
   rw[sb.2 b λe=>hb (e ▸ AN)];exact z
end
section
variable{prog:Program}{w:World}{A:Around}{E:Value -> Shared -> Prop}{s:Shared}
theorem u5{Gd:List Int->Addr->Prop}{h:Heap}{a:Addr}(q:h.get? a=some (fh w)):u4 prog w Gd h a [] (kj w) :=
 ⟨_,#[],0,_,q,⟨⟨⟨rfl,rfl,rfl⟩,rfl,yi _,rfl,by decide⟩,.inl rfl,by simp[SetTable.fresh],λz hz=>by simp[SetTable.fresh]at hz,.nil,λp hp=>by cases hp⟩⟩
theorem is_lt{h:Heap}{k:List Int}{b:Addr}(x:(tki prog w).is h k b):b<h.objs.size:=by
 obtain⟨o,_,_,h1,_⟩:=x
 exact AM h1
noncomputable def Hh(prog:Program)(w:World)(h:Heap)(a:Addr)(as:List (List Int×Addr)):Prop:=∃o es ep t,h.get? a=some o/\Laid o es ep t (kj w)/\es.toList.Perm (as.map λp=>((tki prog w).hash p.1,Value.ref p.2))
theorem Bf {b:Bool} {a x:Addr} {items:Array Value} {kv:Nat->List Int×Addr} {P:PySem.Fin->Shared->Prop} (hh:A.handled=none) (hu:A.in1.units<cLine) (hL:SQ b s.heap x items) (hi:∀i v,items[i]? = some v->v=.ref (kv i).2/\(tki prog w).is s.heap (kv i).1 (kv i).2/\(kv i).2≠a) (few:items.size<60)
  (q:s.heap.get? a=some (fh w)) (ne:a≠x)
  (fin:∀h' tk,Hh prog w h' a (ij kv items.size)->(∀c o,c≠a->s.heap.get? c=some o->h'.get? c=some o)->P (.done (.ret .none)) {s with heap:=h',toks:=tk}) :
  wpAny (model prog w) A (Builtin.«set.__init__» ⟨[.ref a,.ref x],[]⟩) P E s:=by
 obtain⟨ox,qx,cx⟩:=Ld hL
 obtain⟨n1,n2⟩:=Ha (T:=Lc b) (by cases b<;>simp[Lc])
 have hT:s.TypeIs (.ref x) (Lc b):=⟨ox,qx,cx⟩
 have nd:(Value.type (Lc b)==Value.type "dict")=false:=by cases b<;>decide
 have hS:s.TypeIs (.ref a) "set":=⟨_,q,rfl⟩
 unfold Builtin.«set.__init__» noKeywords Builtin.Frozenset.updateFrom
 generalize hPI:pyIter=PI
 obtain⟨hp,g,d,tk,os⟩:=s
 wp_walk
 subst hPI
 refine G5 hL (AA (wpAny_runValue ?_))
 have lx:x<hp.objs.size:=SQ.lt hL
 have la:a<hp.objs.size:=AM q
 refine Lk ((Di (b:=b) (A:=A.in1) (show A.in1.handled=none from hh) hp.objs.size x (AR lx) items).toS) hu a (l:=kj w) ?_ kv hp (λi v z=>?_) few items.size 0 _ (by lia) (BW _)
  ⟨?_,SQ.push hL _⟩ (λc o _ z=>AB _ z) (u5 (AB _ q)) λs' m H=>?_
 ·simp![AS,CF,or_false,not_or]
  exact⟨AR la,ne⟩
 ·obtain⟨e1,e2,e3⟩:=hi i v z
  refine⟨e1,?_,e2⟩
  simp![AS,CF,or_false,not_or]
  exact⟨e3,AR (is_lt e2)⟩
 ·cases b
  ·exact⟨_,AQ _ rfl,rfl,rfl⟩
  ·exact⟨_,AQ _ rfl,rfl,rfl⟩
 ·rw[Moved.eq_with m]
  obtain⟨o,es,ep,t,q',H'⟩:=H
  refine AC (AC (fin s'.heap s'.toks ⟨o,es,ep,t,q',H'.toLaid,H'.els⟩ λc o hc z=>m.heap c o ?_ (AB _ z)))
  simp![AS,CF,or_false,not_or]
  exact⟨hc,AR (AM z)⟩
theorem Bg {b:Bool} {x:Addr} {items:Array Value} {kv:Nat->List Int×Addr} {Q:Value->Shared->Prop} (hh:A.handled=none) (hu:A.units+8<cLine) (hL:SQ b s.heap x items) (hi:∀i v,items[i]? = some v->v=.ref (kv i).2/\(tki prog w).is s.heap (kv i).1 (kv i).2) (few:items.size<60)
  (h:∀h' tk,Hh prog w h' s.heap.objs.size (ij kv items.size)->(∀c o,s.heap.get? c=some o->h'.get? c=some o)->Q (.ref s.heap.objs.size) {s with heap:=h',toks:=tk}) :
  wpAny (model prog w) A (call (.type "set") [.ref x]) Q E s:=by
 obtain⟨c,tl,hmro⟩:=CA.mro
 have hm:=CA.made
 have hs:=CA.sub
 have hn:=CA.notType
 have hcc:=CA.canCreate
 have hct:=PySem.F.typeCall_set_1 (.ref x)
 refine wpAny_call (codeAny_of_tree ?_)
 show wpAny (model prog w) _ (callAny (.type "set") _) _ _ _
 refine AC ⟨Code.quiet_builtin _ (by decide +kernel),DU PySem.F.entry_type_call ?_⟩
 rw[Around.under_plain (weight_type_call_type "set" [.ref x] []) rfl]
 repeat (any_goals (first | assumption | wp_step))
 refine EV (G9 (w:=w) (.ref x) (E:=E) (Q₁:=λobj s₁=>obj=.ref s.heap.objs.size/\s₁={s with heap:=s.heap.push (fh w)}) ⟨rfl,rfl⟩) λr s₁ hr=>?_
 cases r with
 |error e=>exact hr
 |ok fl =>
  cases fl with
  |ret obj =>
   obtain⟨rfl,rfl⟩:=hr
   have q:(s.heap.push (fh w)).get? s.heap.objs.size=some (fh w):=AQ _ rfl
   have hT:Shared.TypeIs {s with heap:=s.heap.push (fh w)} (.ref s.heap.objs.size) "set":=⟨_,q,rfl⟩
   have hli:=CA.init.lookup
   have hbi:=CA.init.bind (.ref s.heap.objs.size)
   repeat (any_goals (first | assumption | wp_step))
   refine EV (codeAny_call_builtin (R:=wants (λr s₂=>r=.none/\Q (.ref s.heap.objs.size) s₂) E) CA.init.plain PySem.F.entry_set_init (check_set_init_1 hT ?_)) λr₂ s₂ z=>?_
   ·refine Bf (b:=b) (kv:=kv) (s:={s with heap:=s.heap.push (fh w)}) (by simpa using hh) ?_ (SQ.push hL _) (λi v z=>?_) few q (CH (SQ.lt hL)) λh' tk H k=>?_
    ·simp![Around.in1]at *
     lia
    ·obtain⟨e1,e2⟩:=hi i v z
     exact⟨e1,Be e2 λo e=>AB _ e,AR (is_lt e2)⟩
    ·exact⟨rfl,h h' tk H λc o e=>k c o (AR (AM e)) (AB _ e)⟩
   ·cases r₂ with
    |error e=>exact z
    |ok fl₂ =>
     cases fl₂ with
     |ret r =>
      obtain⟨rfl,z⟩:=z
      repeat (any_goals (first | assumption | wp_step))
     |_=>exact z
  |_=>exact hr
end
open PySem PySem.W PyProof.Rows PySem.Calls Lp.Srt
theorem Dx{α β:Type}{f:α->β}:∀{l l':List β},l.Perm l'->∀as:List α,l'=as.map f->∃bs:List α,bs.Perm as/\l=bs.map f:=by
 intro l l' h
 induction h with
 |nil=>exact λas e=>⟨as,.refl _,e⟩
 |cons x _ ih =>
  intro as e
  cases as with
  |nil=>simp at e
  |cons a as =>
   simp![AL,List.cons.injEq]at e
   obtain⟨bs,h1,h2⟩:=ih as e.2
   exact⟨a::bs,h1.cons a,by rw[AL,h2,e.1]⟩
 |swap x y l =>
  intro as e
  match as,e with
  |a::b::as,e =>
   simp![AL,List.cons.injEq]at e
   exact⟨b::a::as,List.Perm.swap _ _ _,by simp[e.1,e.2.1,e.2.2]⟩
 |trans _ _ ih1 ih2 =>
  intro as e
  obtain⟨bs,h1,h2⟩:=ih2 as e
  obtain⟨cs,h3,h4⟩:=ih1 bs h2
  exact⟨cs,h3.trans h1,h4⟩
theorem wo:∀{l m:List (List Int)},l.Perm m->l.Pairwise (λa b=>lexLt b a=false)->m.Pairwise (λa b=>lexLt b a=false)->l=m
 | [],m,p,_,_=>(List.Perm.nil_eq p)
 |a::l,[],p,_,_=>absurd p.length_eq (by simp)
 |a::l,b::m,p,hl,hm=>by
  have h1:a=b\/lexLt a b=false:=by
   rcases AS.mp (p.mem_iff.mp AN)with z | z
   ·exact .inl z
   ·exact .inr ((BP.mp hm).1 a z)
  have h2:b=a\/lexLt b a=false:=by
   rcases AS.mp (p.mem_iff.mpr AN)with z | z
   ·exact .inl z
   ·exact .inr ((BP.mp hl).1 b z)
  have e:a=b:=by
   rcases h1 with z | z
   ·exact z
   ·rcases h2 with y | y
    ·exact y.symm
    ·exact o4 z y
  subst e
  rw[wo (List.Perm.cons_inv p) (BP.mp hl).2 (BP.mp hm).2]
section
variable{prog:Program}{w:World}{A:Around}{E:Value -> Shared -> Prop}{s:Shared}{a:Addr}{as:List (List Int × Addr)}
theorem u6 {Q:Value->Shared->Prop} (hh:A.handled=none) (hS:Hh prog w s.heap a as) (hrow:∀p∈as,o6 s.heap p.1 (.ref p.2)) (few:as.length<64)
  (h:∀(h':Heap) tk d p (out:Array Value) c bs,(∀b o,s.heap.get? b=some o->h'.get? b=some o)->s.heap.objs.size<=p->h'.get? p=some (seqObj "list" out c)->List.Perm bs as->bs.map (·.1)=i9 (as.map (·.1))->out.toList=bs.map (λp=>Value.ref p.2)->Q (.ref p) {s with heap:=h',toks:=tk,drawn:=d}) :
  wpAny (model prog w) A (call (.builtin "sorted") [.ref a]) Q E s:=by
 obtain⟨o,es,ep,t,q,H,pe⟩:=hS
 have hsz:es.size=as.length:=by have:=pe.length_eq;simpa using this
 have small:es.size<=sizeLine:=by rw[DF,hsz];lia
 refine Calls.call_function_entry kind_sorted plain_sorted entry_sorted (args_sorted1 _) ?_
 unfold Builtin.«sorted»
 refine AA (m:=checkCount "sorted" 1 1 _) (AC (AA (uz (show A.in1.handled=none from hh) q H small λh1 tk d us k lz p0=>?_)))
 have pu:us.Perm (as.map λp=>Value.ref p.2):=by
  refine p0.trans ?_
  have:=pe.map (·.2)
  rwa [BN]at this
 obtain⟨bs0,pb,rfl⟩:=Dx pu as rfl
 have lb:bs0.length=as.length:=pb.length_eq
 have sl:(bs0.map λp=>Value.ref p.2).length<=sizeLine:=by rw[DF,AJ];lia
 refine AA (wpAny_newList ?_ sl)
 have qL:(h1.push (seqObj "list" (bs0.map λp=>Value.ref p.2).toArray 0)).get? h1.objs.size=some (seqObj "list" (bs0.map λp=>Value.ref p.2).toArray 0):=AQ _ rfl
 have rows:∀g:Heap,(∀b o,b≠h1.objs.size->(h1.push (seqObj "list" (bs0.map λp=>Value.ref p.2).toArray 0)).get? b=some o->g.get? b=some o)->Paired (o6 g) (bs0.map (·.1)) (bs0.map λp=>Value.ref p.2):=λg hg=>by
  have:∀{l:List (List Int×Addr)},(∀p∈l,o6 s.heap p.1 (.ref p.2))->Paired (o6 g) (l.map (·.1)) (l.map λp=>Value.ref p.2):=by
   intro l
   induction l with
   |nil=>exact λ_=>.nil
   |cons p l ih=>exact λhl=>.cons ((hl p AN).keep λb o e=>hg b o (AR (AM (k b o e))) (AB _ (k b o e))) (ih λp' hp'=>hl p' (AI _ hp'))
  exact this λp hp=>hrow p (pb.mem_iff.mp hp)
 refine AA (BS (CD slot_list_sort ⟨_,qL,rfl⟩ entry_list_sort ?go (args_list_sort _)))
 case go =>
  refine rn (s:={s with heap:=h1.push (seqObj "list" (bs0.map λp=>Value.ref p.2).toArray 0),toks:=tk,drawn:=d}) qL (by rw[AJ];lia) (rkL (bs0.map (·.1))) (λh2 g hg=>⟨tuples' true,λQ' E' q=>?_,λi j C hi hj hC=>?_⟩) λp hp hu=>⟨_,rfl,?_⟩
  ·obtain⟨fs,f1,f2,f3⟩:=r0 (rows g hg)
   exact PySem.W.kat_kind (s:={s with heap:=g,toks:=tk,drawn:=d}) (T:=.type "int") f1 (by rw[f2];exact AO (by decide) h2) (λv hv=>by obtain⟨i,t,rfl⟩:=f3 v hv;exact PySem.W.Looks.of_pure rfl) (by decide) q
  ·have pg:=rows g hg
   rw[AJ]at hi hj
   rw[La (by rw[AJ];exact hi) (by rw[AJ];exact hj)]at hC
   obtain⟨_,a1,i1,e1,⟨o1,g1,_,n1,d1⟩,v1⟩:=ig (d:=[]) (e:=Value.none) pg i (by rw[AJ];exact hi)
   obtain⟨_,a2,i2,e2,⟨o2,g2,_,n2,d2⟩,v2⟩:=ig (d:=[]) (e:=Value.none) pg j (by rw[AJ];exact hj)
   rw[e1,e2]
   refine PySem.W.kat_lt (s:={s with heap:=g,toks:=tk,drawn:=d}) g1 d1 g2 d2 ?_
   have z1:=v1.length
   have z2:=v2.length
   rw[AJ]at z1 z2
   exact A5 _ _ i1 i2 0 v1 v2 (by simp![AG,z1,z2]) hC
  ·rw[AJ]at hp hu
   generalize hout:List.toArray (p.toList.map λi=>(bs0.map λp=>Value.ref p.2).getD i Value.none)=out
   obtain⟨c,qc⟩:∃c,(sortedHeap (h1.push (seqObj "list" (bs0.map λp=>Value.ref p.2).toArray 0)) h1.objs.size (bs0.map λp=>Value.ref p.2) out).get? h1.objs.size=some (seqObj "list" out c) :=
    ⟨_,HK (AB _ (AB _ (HK qL λ_=>#[]))) λ_=>out⟩
   have mem:∀i∈p.toList,i<bs0.length:=λi hi=>by simpa using hp.mem_iff.mp hi
   refine AC ⟨_,rfl,h _ tk d _ out c (p.toList.map λi=>bs0.getD i ([],0)) (λb o z=>?_) (CU lz) qc ?_ ?_ ?_⟩
   ·have zb:b≠h1.objs.size:=AR (AM (k b o z))
    unfold sortedHeap
    rw[DI _ _ _ _ zb]
    refine AB _ (AB _ ?_)
    rw[DI _ _ _ _ zb]
    exact AB _ (k b o z)
   ·refine((hp.map _).trans (List.Perm.of_eq ?_)).trans pb
    exact range_getD ([],0) bs0
   ·have e1:=A4 (rs:=bs0.map (·.1)) (p:=p) (by rw[AJ];exact hp) (by rw[AJ];exact hu)
    rw[BN]
    have e2:p.toList.map ((λx:List Int×Addr=>x.1)∘λi=>bs0.getD i ([],0))=p.toList.map λi=>(bs0.map (·.1)).getD i []:=by
     refine CT λi hi=>?_
     have:=mem i hi
     simp[this]
    rw[e2,e1]
    exact wo ((gp _).trans ((pb.map _).trans (gp _).symm)) (jm _) (jm _)
   ·rw[<-hout,BN]
    refine CT λi hi=>?_
    have:=mem i hi
    simp[this]
end
end Lp.Sets
namespace Lp
open PySem PySem.Spec PyProof.Rows L2 Lp.Srt
noncomputable def Ib(K:PySem.W.Frag)(H:Hp)(r:List Int)(v:V):Prop:=∃a,v=.ref a/\SqT K H a (r.map V.int)
namespace Sets
theorem Bh(kv:Nat->List Int×Addr):∀n,(ij kv n).map (·.1)=y6 ((List.range n).map λi=>(kv i).1)
 |0=>rfl
 |n+1=>by
  have ih:=Bh kv n
  rw[List.range_succ,CP]
  unfold y6 at ih ⊢
  rw[List.foldl_append,<-ih]
  show(yq _ _ _).map _=_
  unfold yq
  simp![AL,CL,EL,List.foldl_nil]
  by_cases h:(kv n).1∈(ij kv n).map (·.1)
  ·rw[if_pos h,if_pos h]
  ·rw[if_neg h,if_neg h,CP];rfl
theorem pd(kv:Nat->List Int×Addr):∀n,∀p∈ij kv n,∃i,i<n/\p=kv i
 |0,p,h=>by cases h
 |n+1,p,h=>by
  have h:p∈yq (ij kv n) (kv n).1 (kv n).2:=h
  unfold yq at h
  split at h
  ·obtain⟨i,hi,e⟩:=pd kv n p h
   exact⟨i,by lia,e⟩
  ·rcases BA.mp h with z | z
   ·obtain⟨i,hi,e⟩:=pd kv n p z
    exact⟨i,by lia,e⟩
   ·exact⟨n,by lia,BF.mp z⟩
theorem n3{prog:Program}{w:World}:∀{r:List Int} {its:List Value},bc (r.map V.int) its->ItemsAre (intKind prog w) r its
 | [],its,h=>by cases h;exact .nil
 |k::r,its,h=>by
  cases h with
  |cons a t =>
   obtain⟨tk,rfl⟩:=a
   exact .cons (by simp[intKind,Value.isInt]) (n3 t)
end Sets
section
variable{X:Cx}{φ:Phi}{a:Expr}{p p2 pos pos2:Pos}{m:Mk}
noncomputable def Ll(K:PySem.W.Frag)(ta:TE):TE:=λσ H Q=>ta σ H λv H1=>∃(b:Addr) (vs:List V) (rs:List (List Int)),v=.ref b/\SqL K H1 b vs/\Paired (Ib K H1) rs vs/\(∀r∈rs,r≠[])/\rs.length<60 /\
 ∀ys,Paired (Ib K H1) (i9 (y6 rs)) ys->∀q,H1 q=none->FQ Q (.ref q) (upd H1 q (.lst ys))
theorem pf {ta:TE} (hu:X.A.units+64<cLine) (hms:X.mg "sorted"=none) (hmt:X.mg "set"=none) (ha:PE X a ta) (hgs:Gl X "sorted") (hgt:Gl X "set") (hc:X.calm=true)
  (hs:starEach [a] X.env=[(false,eval a X.env)]) (hs2:starEach [.Call (.Name "set" p2) [a] [] pos2] X.env=[(false,eval (.Call (.Name "set" p2) [a] [] pos2) X.env)]) :
  PE X (.Call (.Name "sorted" p) [.Call (.Name "set" p2) [a] [] pos2] [] pos) (Ll X.K ta):=by
 intro pins s σ H Q I h
 refine DP (my I hgs hms (by first | exact PyProof.Rows.boot_sorted | decide +kernel) ?_ (by decide) (by decide))
 refine FG ?_ hs2 rfl
 rw[hs2]
 refine DO ?_
 refine DP (my I hgt hmt (by first | exact PyProof.Rows.boot_set | decide +kernel) ?_ (by decide) (by decide))
 refine Ev ?_ hs rfl
 rw[hs]
 refine DO (thn (ha pins s σ H _ I h) λu s1 ⟨v,H1,I1,r1,b,vs,rs,ev,hq,hp,hne,h60,q⟩=>EU ?_)
 subst ev
 cases(show u=Value.ref b from r1)
 obtain⟨its,hv,pl,_⟩:=I1.list hq
 have l1:=DH hp
 have l2:=hv.length
 have ln:its.length=rs.length:=by lia
 -- the items: refs to tuples
 obtain⟨kv,hkv⟩:∃kv:Nat->List Int×Addr,∀i,i<rs.length->(kv i).1=rs.getD i []/\vs.getD i .non=.ref (kv i).2/\SqT X.K H1 (kv i).2 ((rs.getD i []).map V.int):=by
  have ex:∀i,∃z:List Int×Addr,i<rs.length->z.1=rs.getD i []/\vs.getD i .non=.ref z.2/\SqT X.K H1 z.2 ((rs.getD i []).map V.int):=λi=>by
   by_cases hi:i<rs.length
   ·obtain⟨c,e1,e2⟩:=ig (d:=[]) (e:=V.non) hp i hi
    exact⟨(rs.getD i [],c),λ_=>⟨rfl,e1,e2⟩⟩
   ·exact⟨([],0),λz=>absurd z hi⟩
  exact⟨λi=>Classical.choose (ex i),λi hi=>Classical.choose_spec (ex i) hi⟩
 have isk:∀i,i<rs.length->(Sets.tki X.prog X.w).is s1.heap (kv i).1 (kv i).2/\o6 s1.heap (kv i).1 (.ref (kv i).2):=λi hi=>by
  obtain⟨k1,k2,k3⟩:=hkv i hi
  obtain⟨its',rv,it,_⟩:=I1.tuple k3
  have it':=it
  obtain⟨o,g1,g2,n,g3⟩:=it'
  rw[k1]
  refine⟨⟨o,its'.toArray,n,g1,g2,g3,by simpa using Sets.n3 rv⟩,?_,(kv i).2,its',rfl,it,rv⟩
  exact hne _ (by rw[BB,AD hi];exact CW hi)
 refine Sets.Bg (b:=true) (kv:=kv) (I1.ok.hd hc) (by lia) (items:=its.toArray) ?_ (λi v z=>?_) (by rw[AG];lia) λh1 tk1 hH k1=>EU ?_
 ·obtain⟨o,n,e1,e2,e3,e4⟩:=pl
  exact⟨o,e1,e2,n,e4⟩
 ·have z':its[i]? = some v:=by simpa using z
  have hi:i<rs.length:=by have:=(AK.mp z').1;lia
  have rv:=ig (d:=V.non) (e:=Value.none) hv i (by lia)
  rw[(hkv i hi).2.1]at rv
  have ev:its.getD i Value.none=v:=by rw[BB,z'];rfl
  rw[ev]at rv
  exact⟨show v=Value.ref (kv i).2 from rv,(isk i hi).1⟩
 have hsz:its.toArray.size=rs.length:=by rw[AG];exact ln
 rw[hsz]at hH
 have hlen:=Sets.kc kv rs.length
 refine Aa (Sets.u6 (s:={s1 with heap:=h1,toks:=tk1}) (I1.ok.hd hc) hH (λpp hpp=>?_) (by lia) λh2 tk2 d pq out c bs k2 lp qp i1 i2 i3=>?_)
 ·obtain⟨i,hi,rfl⟩:=Sets.pd kv _ pp hpp
  exact(isk i hi).2.keep k1
 have lz:s1.heap.objs.size<h1.objs.size:=by obtain⟨o,_,_,_,z,_⟩:=hH;exact AM z
 have lp':s1.heap.objs.size<=pq:=by
  have:h1.objs.size<=pq:=lp
  lia
 have er:(List.range rs.length).map (λi=>(kv i).1)=rs:=by
  refine Eq.trans (CT λi hi=>(hkv i (by simpa using hi)).1) ?_
  exact Srt.range_getD ([]:List Int) rs
 have e1:bs.map (·.1)=i9 (y6 rs):=by rw[i2,Sets.Bh,er]
 have bsl:bs.length<=rs.length:=by rw[i1.length_eq];exact hlen
 have relp:Paired (Ib X.K H1) (bs.map (·.1)) (bs.map λp=>V.ref p.2):=by
  have:∀{l:List (List Int×Addr)},(∀p∈l,∃i,i<rs.length/\p=kv i)->Paired (Ib X.K H1) (l.map (·.1)) (l.map λp=>V.ref p.2):=by
   intro l
   induction l with
   |nil=>exact λ_=>.nil
   |cons p l ih =>
    intro hl
    obtain⟨i,hi,rfl⟩:=hl p AN
    refine .cons ⟨(kv i).2,rfl,?_⟩ (ih λp' hp'=>hl p' (AI _ hp'))
    show SqT X.K H1 (kv i).2 ((kv i).1.map V.int)
    rw[(hkv i hi).1];exact(hkv i hi).2.2
  exact this λp hp=>Sets.pd kv _ p (i1.mem_iff.mp hp)
 have vl:bc (bs.map λp=>V.ref p.2) out.toList:=by
  rw[i3]
  have:∀l:List (List Int×Addr),bc (l.map λp=>V.ref p.2) (l.map λp=>Value.ref p.2):=λl=>by
   induction l with
   |nil=>exact .nil
   |cons p l ih=>exact .cons rfl ih
  exact this bs
 have I2:=I1.laid (a:=pq) (o:=.lst (bs.map λp=>V.ref p.2)) (h':=h2) (t':=tk2) (λb o z=>k2 b o (k1 b o z)) lp' ⟨by rw[AJ,DF];lia,out.toList,c,vl,by rw[Array.toArray_toList];exact qp⟩
 rw[e1]at relp
 exact⟨.ref pq,_,Sets.drew I2,rfl,q _ relp pq (I1.hok.fresh lp')⟩
end
section
variable{X:Cx}{φ:Phi}{a:Expr}{xa:Ex}{p p2 pos pos2:Pos}{m:Mk}
theorem E9{K:PySem.W.Frag}{ι:List Addr}{H:Hp}:∀{rs:List (List Int)} {vs:List V},ag K ι H (rs.map λr=>D.tup (r.map D.int)) vs->Paired (Ib K H) rs vs
 | [],vs,h=>by
  have e:vs=[]:=by simpa[ag]using h
  subst e
  exact .nil
 |r::rs,vs,h=>by
  simp![AL,ag]at h
  obtain⟨v,vr,rfl,q,t⟩:=h
  obtain⟨b,ys,rfl,hs,hd⟩:=dq q
  have e:ys=r.map V.int:=Lp.ints_of hd (Dh r)
  subst e
  exact .cons ⟨b,rfl,hs⟩ (E9 t)
theorem Fb{K:PySem.W.Frag}{ι:List Addr}{H:Hp}:∀{rs:List (List Int)} {vs:List V},Paired (Ib K H) rs vs->ag K ι H (rs.map λr=>D.tup (r.map D.int)) vs
 | [],_,.nil=>by simp[ag]
 |r::rs,v::vs,.cons ⟨b,e,hs⟩ t=>by
  subst e
  simp![AL,ag]
  refine⟨_,_,rfl,?_,Fb t⟩
  simp![Lp.IsD]
  exact⟨b,_,rfl,hs,ag.ints _⟩
theorem Bi{σv:St}{H:Hp}{Q:VK}(h:tE X.K φ (.blt .sortedST m (.cons xa .nil)) σv H Q):Ll X.K (tE X.K φ xa) σv H Q:=by
 obtain⟨ι,σ,μ,hS,hL,h⟩:=h
 simp![evE,c5]at h
 rw[Res.bind_assoc]at h
 obtain⟨d,μ1,e1,h⟩:=h.bind
 refine⟨ι,σ,μ,hS,hL,?_⟩
 rw[e1]
 intro ι1 v H1 p1 x1 s1 d1
 have h:=h.mono p1 x1
 simp![Res.bg]at h
 simp![btD,iy,uc]at h
 cases el:Lp.listOf μ1 d with
 |none=>rw[el]at h;exact h.elim
 |some zs =>
  rw[el]at h
  simp![ED]at h
  cases er:rowsOf zs with
  |none=>rw[er]at h;exact h.elim
  |some rs =>
   rw[er]at h
   simp only at h
   split at h
   ·rename_i hc
    obtain⟨b,vV,rfl,hq,hz⟩:=gc s1 d1 el
    have ez:=rq er
    subst ez
    refine⟨b,vV,rs,rfl,hq.sq,E9 hz,λr hr=>?_,hc.1,λys hy q z=>j5 s1 (Fb hy) h z⟩
    have:=AY.mp hc.2 r hr
    intro e
    subst e
    simp at this
   ·exact h.elim
theorem yr (hu:X.A.units+64<cLine) (hms:X.mg "sorted"=none) (hmt:X.mg "set"=none) (ha:PE X a (tE X.K φ xa)) (hgs:Gl X "sorted":=by rfl) (hgt:Gl X "set":=by rfl) (hc:X.calm=true:=by rfl)
  (hs:starEach [a] X.env=[(false,eval a X.env)]:=by rfl) (hs2:starEach [.Call (.Name "set" p2) [a] [] pos2] X.env=[(false,eval (.Call (.Name "set" p2) [a] [] pos2) X.env)]:=by rfl) :
  PE X (.Call (.Name "sorted" p) [.Call (.Name "set" p2) [a] [] pos2] [] pos) (tE X.K φ (.blt .sortedST m (.cons xa .nil))) :=
 PE.imp (pf hu hms hmt ha hgs hgt hc hs hs2) λσv H Q h=>Bi h
end
theorem Oq{α:Type}{Q:α->Prop}:∀(j:Nat) e,([]:List α)[j]? = some e->Q e:=λj e h=>by simp at h
theorem gq{α:Type}{Q:α->Prop}{a:α}{l:List α}(h:Q a)(t:∀(j:Nat) e,l[j]? = some e->Q e):∀(j:Nat) e,(a::l)[j]? = some e->Q e
 |0,_,z=>by
  have z':some a=some _:=z
  cases z'
  exact h
 |j+1,_,z=>t j _ z
theorem dmk {T:List Df} {P:Program} {w:World} {K:PySem.W.Frag} {mg:Str->Option Value} {base:Heap} {es:List Ent} {e:Ent}
  (dv:∀(n:Nat) (fa:Addr) (cdv:Value) (A:Around) (outer:List Env) (s:Shared) (H:Hp) (E:XK),(A.deeper (envOfC e.name (av e.st) s.heap.objs.size fa cdv)).units+64<cLine ->
   (∀(j:Nat) e',es[j]? = some e'->Callee P w K mg base (A.deeper (envOfC e.name (av e.st) s.heap.objs.size fa cdv)) (ao T n) e'.id e'.name) ->
   PSs (Ci CX0 P w K mg base e.N e.name (av e.st) fa cdv A outer s H E).nox (gv e.st) (tSs K (ao T n) e.df.body))
  (sc:FnScope e.N e.ps (av e.st):=by exact⟨rfl,rfl,rfl,by decide +kernel,rfl,by decide +kernel,by decide +kernel⟩) (tb:T[e.id]? = some e.df:=by rfl) (np:e.df.np=e.ps.length:=by rfl) (nn:e.df.nn=e.N.length:=by rfl):Derived T P w K mg base es e:=⟨sc,tb,np,nn,dv⟩
noncomputable abbrev EXK:=Value->Hp->Prop
end Lp
namespace PySem
open Builtin Builtin.ObjectAttr
section
variable{prog:Program}{w:World}{A:Around}{E:Value -> Shared -> Prop}{h:Heap}{g:Array GenState}{d:Drawn}{t:Nat}{os:OsState}
variable{nms:List Str}{nm q:Str}{C N x:Addr}{bs bm bmB:List Value}{sn:List Str}{sub:List Value}{ab:Bool}{col:Option Bool}{dd:Option Addr}{k0 k1 k2 k3 k5:Option Value}{B newId sa owner:String}
 {mN mA:Str->Option Value} {name:Str} {v:Value}
end
end PySem
namespace L2
open PySem PySem.Spec PyProof.Rows
section
variable{prog:Program}{w:World}{A:Around}{E:Value -> Shared -> Prop}{h:Heap}{g:Array GenState}{d:Drawn}{t:Nat}{os:OsState}
variable{nms:List Str}{nm q:Str}{C N x:Addr}{bs bm bmB:List Value}{sn:List Str}{sub:List Value}{ab:Bool}{col:Option Bool}{dd:Option Addr}{k0 k1 k2 k3 k5:Option Value}{B newId sa owner:String}
 {mN mA:Str->Option Value} {v:Value}
end
end L2
namespace Lp
open PySem PySem.Spec PyProof.Rows L2
structure MEnt where
 cls:Str
 m:Str
 e:Ent
end Lp
namespace Lp.Tim
open PySem PyProof.Rows
structure Sm (st st':SortSt):Prop where
 kind:kindOf st'=kindOf st
 arr:arrOf st'=arrOf st
 pend:pendingOf st'=pendingOf st
 fail:failedOf st'=failedOf st
end Lp.Tim
namespace Lr
open Lp
open PySem
theorem ph{f:D->Sl->Sto->Res Fl}(I:Nat->Sl->Sto->Prop):∀{ds:List D} {σ:Sl} {μ:Sto} (k:Nat),I k σ μ ->
  (∀(j:Nat) d σ μ,ds[j]? = some d->I (k+j) σ μ->∃σ' μ',f d σ μ=.ok (.nx σ') μ'/\I (k+j+1) σ' μ') ->
  ∃σ' μ',ic none f ds σ μ=.ok (.nx σ') μ'/\I (k+ds.length) σ' μ'
 | [],σ,μ,k,h,_=>⟨σ,μ,by simp[ic],h⟩
 |d::ds,σ,μ,k,h,st=>by
  obtain⟨σ1,μ1,e1,h1⟩:=st 0 d σ μ rfl h
  obtain⟨σ2,μ2,e2,h2⟩:=ph I (ds:=ds) (σ:=σ1) (μ:=μ1) (k+1) h1 λj d σ μ e i=>by
   obtain⟨σ',μ',a,b⟩:=st (j+1) d σ μ (by simpa using e) (by rw[show k+(j+1)=k+1+j by omega];exact i)
   exact⟨σ',μ',a,by rw[show k+1+j+1=k+(j+1)+1 by omega];exact b⟩
  refine⟨σ2,μ2,?_,by rw[show k+(d::ds).length=k+1+ds.length by simp;omega];exact h2⟩
  simp![ic,ud,if_true,e1,Res.bg,e2]
theorem au{T:List Df}{n i:Nat}{d:Df}{ds:List D}{μ:Sto}(h:T[i]? = some d):ao T (n+1) i ds μ=Hy (ao T n) d ds μ:=by
 simp![ao,h]
noncomputable def finD(fl:Fl)(μ:Sto):Res D:=match fl with
 |.nx _=>.ok .non μ
 |.rt d=>.ok d μ
 |_=>.stuck
@[simp] theorem Ot (d:D) (μ:Sto):finD (.rt d) μ=.ok d μ:=rfl
@[simp] theorem Ou (σ:Sl) (μ:Sto):finD (.nx σ) μ=.ok .non μ:=rfl
theorem run_eq{φ:Phi}{f:Df}{ds:List D}{μ:Sto}(h:ds.length=f.np):Hy φ f ds μ=(ji φ f.body (ds.map some++List.replicate (f.nn-f.np) none) μ).bind finD:=by
 rw[Hy,if_pos h];rfl
theorem iz(b:Nat):∀(k:Nat) (d:D),D.pureN k d=true->D.belowN b k d=true
 |0,d,h=>by cases d<;>simp_all[D.pureN,D.belowN]
 |k+1,d,h=>by
  cases d with
  |tup ds =>
   simp![D.pureN,D.belowN,AY]at h ⊢
   exact λx hx=>iz b k x (h x hx)
  |lst ds =>
   simp![D.pureN,D.belowN,AY]at h ⊢
   exact λx hx=>iz b k x (h x hx)
  |loc n=>simp[D.pureN]at h
  |_=>rfl
theorem wq{k:Nat}{ds:List D}:D.pureN (k+1) (.tup ds)=ds.all (D.pureN k):=rfl
theorem sh{k:Nat}{i:Int}:D.pureN k (.int i)=true:=by cases k<;>rfl
noncomputable abbrev wt(μ:Sto):Prop:=μ.all (di μ.length)=true
theorem yt{d:D}{μ:Sto}{b:Nat}(hd:d.pure=true)(hb:μ.length=b)(hr:wt μ):j4 false b (.ok d μ)=.ok d μ:=by
 have e:μ.take b=μ:=DQ (by omega)
 have hr':μ.all (di b)=true:=by rw[<-hb];exact hr
 simp![j4,AF,if_false,e,iz b 8 d hd,hr',and_self,if_true]
@[simp] theorem yu {d:D} {μ:Sto} {b:Nat}:j4 true b (.ok d μ)=.ok d μ:=by simp[j4]
theorem op_mul{i j:Int}{μ:Sto}(h:CMul i j):opI .Mult i j μ=.ok (.int (i*j)) μ:=by simp[opI,h]
theorem wu{i j:Int}{μ:Sto}(h:0<j)(h2:j<1073741824):opI .FloorDiv i j μ=.ok (.int (i / j)) μ:=by simp[opI,h,h2]
theorem op_mod{i j:Int}{μ:Sto}(h:0<j):opI .Mod i j μ=.ok (.int (i % j)) μ:=by simp[opI,h]
theorem op_add{i j:Int}{μ:Sto}:opI .Add i j μ=.ok (.int (i+j)) μ:=rfl
theorem op_sub{i j:Int}{μ:Sto}:opI .Sub i j μ=.ok (.int (i-j)) μ:=rfl
theorem op_pow{i:Int}{j:Int}{μ:Sto}(h:0<=j/\j<=1000000/\i.natAbs<2 ^ 64):opI .Pow i j μ=.ok (.int (i ^ j.toNat)) μ:=by simp[opI,h]
theorem op_shr{i j:Int}{μ:Sto}(h:0<=j):opI .RShift i j μ=.ok (.int (i / 2 ^ j.toNat)) μ:=by simp[opI,h]
theorem Hi{op:Operator}{m:Mk}{i j:Int}{μ:Sto}:opD op m (.int i) (.int j) μ=opI op i j μ:=rfl
theorem _root_.Lp.CMul.left{i j:Int}(h:-(2 ^ 64)<i)(h2:i<2 ^ 64):CMul i j:=.inl ⟨h,h2⟩
theorem _root_.Lp.CMul.right{i j:Int}(h:-(2 ^ 64)<j)(h2:j<2 ^ 64):CMul i j:=.inr ⟨h,h2⟩
theorem Bj(ns:List Int):bo (ns.map D.int)=some ns:=by
 induction ns with
 |nil=>rfl
 |cons n r ih=>simp[bo,ih]
theorem Dy(i:Int):(D.int i).pure=true:=rfl
theorem Hj(i:Bool):(D.bl i).pure=true:=rfl
open PySem
section
variable(φ:Phi)
noncomputable def Qz(o:Option (Option D))(μ:Sto):Res D:=match o with
 |some (some d)=>.ok d μ
 |_=>.stuck
noncomputable def kB(op:Operator)(m:Mk)(b:Ex)(σ:Sl)(x:D)(μ:Sto):Res D:=(evE φ b σ μ).bind (opD op m x)
noncomputable def kNeg(x:D)(μ:Sto):Res D:=match x with
 |.int i=>.ok (.int (-i)) μ
 |_=>.stuck
noncomputable def kNot(x:D)(μ:Sto):Res D:=match x with
 |.bl b=>.ok (.bl (!b)) μ
 |_=>.stuck
noncomputable def Ov(b:Ex)(σ:Sl)(x:D)(μ:Sto):Res D:=match x with
 |.bl c=>if c=true then evE φ b σ μ else .ok (.bl false) μ
 |_=>.stuck
noncomputable def kOr(b:Ex)(σ:Sl)(x:D)(μ:Sto):Res D:=match x with
 |.bl c=>if c=true then .ok (.bl true) μ else evE φ b σ μ
 |_=>.stuck
noncomputable def Ow(a b:Ex)(σ:Sl)(x:D)(μ:Sto):Res D:=match x with
 |.bl c=>if c=true then evE φ a σ μ else evE φ b σ μ
 |_=>.stuck
noncomputable def Q0(r:Cps)(σ:Sl)(x:D)(μ:Sto):Res D:=evC φ r x σ μ
noncomputable def Me(r:Cps)(y:D)(σ:Sl)(z:D)(μ:Sto):Res D:=match z with
 |.bl b=>if b=true then evC φ r y σ μ else .ok (.bl false) μ
 |_=>.stuck
noncomputable def kCh(op:Cp)(x:D)(r:Cps)(σ:Sl)(y:D)(μ:Sto):Res D:=(cpD op x y μ).bind (Me φ r y σ)
noncomputable def mj(keep:Bool)(f:Nat)(ds:List D)(μ:Sto):Res D:=j4 keep μ.length (φ f ds μ)
noncomputable def kM(mt:Mt)(es:Exs)(σ:Sl)(x:D)(μ:Sto):Res D:=if fb mt x μ=true then(c5 φ es σ μ).bind (mtD mt x)else .stuck
noncomputable def kIx(b:Ex)(σ:Sl)(x:D)(μ:Sto):Res D:=(evE φ b σ μ).bind (ixD x)
noncomputable def Ox(m:Mk)(hi:ExO)(σ:Sl)(x:D)(l:Option Int)(μ:Sto):Res D:=(evO φ hi σ μ).bind (slD m x l)
noncomputable def kSl(m:Mk)(lo hi:ExO)(σ:Sl)(x:D)(μ:Sto):Res D:=(evO φ lo σ μ).bind (Ox φ m hi σ x)
noncomputable def kTup(ds:List D)(μ:Sto):Res D:=.ok (.tup ds) μ
noncomputable def Oy(d:D)(ds:List D)(μ:Sto):Res (List D):=.ok (d::ds) μ
noncomputable def kEs(es:Exs)(σ:Sl)(d:D)(μ:Sto):Res (List D):=(c5 φ es σ μ).bind (Oy d)
noncomputable def kInt(x:D)(μ:Sto):Res (Option Int):=match x with
 |.int i=>.ok (some i) μ
 |_=>.stuck
noncomputable def kOne(x:D)(μ:Sto):Res (List D):=.ok [x] μ
noncomputable def Mf(elt:Ex)(σ:Sl)(b:Bool)(μ:Sto):Res (List D):=if b=true then(evE φ elt σ μ).bind kOne else .ok [] μ
noncomputable def Q1(cs:Exs)(elt:Ex)(μ:Sto)(σ:Sl):Res (List D):=(yd φ cs σ μ).bind (Mf φ elt σ)
noncomputable def i8(tg:Tg)(cs:Exs)(elt:Ex)(σ0:Sl)(d:D)(μ:Sto):Res (List D):=ib (eu tg d σ0) (Q1 φ cs elt μ)
noncomputable def g6(m:Mk)(tg:Tg)(cs:Exs)(elt:Ex)(σ0:Sl)(w:List D×Gd)(μ:Sto):Res D:=(mapR w.2 (i8 φ tg cs elt σ0) w.1 μ).bind (mkL m)
noncomputable def kCs(es:Exs)(σ:Sl)(x:D)(μ:Sto):Res Bool:=match x with
 |.bl b=>if b=true then yd φ es σ μ else .ok false μ
 |_=>.stuck
noncomputable def kSeq(x:D)(μ:Sto):Res (List D×Gd):=match h7 μ x with
 |some w=>.ok w μ
 |none=>.stuck
noncomputable def kRng(x:D)(μ:Sto):Res (List D×Gd):=match x with
 |.int j=>if -(lim:Int)<=j/\j<=lim then .ok ((List.range j.toNat).map fun(i:Nat)=>D.int i,none) μ else .stuck
 |_=>.stuck
noncomputable def Fc(x y:D)(μ:Sto):Res (List D×Gd):=match x,y with
 |.int i,.int j=>if -(lim:Int)<=i/\i<=lim/\j<=lim /\ -(lim:Int)<=j/\(j-i)<=lim then .ok ((List.range (j-i).toNat).map fun(k:Nat)=>D.int (i+k),none) μ else .stuck
 |_,_=>.stuck
noncomputable def Lm(b:Ex)(σ:Sl)(x:D)(μ:Sto):Res (List D×Gd):=(evE φ b σ μ).bind (Fc x)
noncomputable def Ln(x y:D)(μ:Sto):Res (List D×Gd):=match h7 μ x,d5 [] y with
 |some w,some ys=>.ok ((w.1.zip ys).map λp=>.tup [p.1,p.2],w.2) μ
 |_,_=>.stuck
noncomputable def Q2(b:Ex)(σ:Sl)(x:D)(μ:Sto):Res (List D×Gd):=(evE φ b σ μ).bind (Ln x)
noncomputable def kEnum(x:D)(μ:Sto):Res (List D×Gd):=match h7 μ x with
 |some w=>.ok ((List.range w.1.length |>.zip w.1).map fun(p:Nat×D)=>.tup [.int p.1,p.2],w.2) μ
 |none=>.stuck
noncomputable def kVals(x:D)(μ:Sto):Res (List D×Gd):=match x with
 |.loc n=>match μ[n]? with
  |some (.d kvs)=>.ok (kvs.map (·.2),none) (μ.set n .dead)
  |_=>.stuck
 |_=>.stuck
noncomputable def Q3(i:Nat)(σ:Sl)(d:D)(μ:Sto):Res Fl:=.ok (.nx (σ.set i (some d))) μ
noncomputable def Oz(o:Option Sl)(μ:Sto):Res Fl:=match o with
 |some σ'=>.ok (.nx σ') μ
 |none=>.stuck
noncomputable def Q4(is:List Nat)(σ:Sl)(d:D)(μ:Sto):Res Fl:=Oz (eu (.many is) d σ) μ
noncomputable def kNx{α:Type}(σ:Sl)(_:α)(μ:Sto):Res Fl:=.ok (.nx σ) μ
noncomputable def O0(σ:Sl)(d x:D)(y:D)(μ:Sto):Res Fl:=(B9 x y d μ).bind (kNx σ)
noncomputable def O1(i:Ex)(σ:Sl)(d:D)(x:D)(μ:Sto):Res Fl:=(evE φ i σ μ).bind (O0 σ d x)
noncomputable def kSx(o i:Ex)(σ:Sl)(d:D)(μ:Sto):Res Fl:=(evE φ o σ μ).bind (O1 φ i σ d)
noncomputable def kIf(a b:Sms)(σ:Sl)(x:D)(μ:Sto):Res Fl:=match x with
 |.bl k=>if k=true then ji φ a σ μ else ji φ b σ μ
 |_=>.stuck
noncomputable def kLp(b:Sms)(μ:Sto)(σ:Sl):Res Fl:=ji φ b σ μ
noncomputable def fLp(tg:Tg)(b:Sms)(d:D)(σ:Sl)(μ:Sto):Res Fl:=ib (eu tg d σ) (kLp φ b μ)
noncomputable def D0(tg:Tg)(b:Sms)(σ:Sl)(w:List D×Gd)(μ:Sto):Res Fl:=ic w.2 (fLp φ tg b) w.1 σ μ
noncomputable def kRet(d:D)(μ:Sto):Res Fl:=.ok (.rt d) μ
noncomputable def kSs(r:Sms)(fl:Fl)(μ:Sto):Res Fl:=match fl with
 |.nx σ'=>ji φ r σ' μ
 |fl=>.ok fl μ
end
section
variable{φ:Phi}{σ:Sl}{μ:Sto}{a b c e o i:Ex}{es:Exs}{m:Mk}{op:Operator}{r:Cps}{s:Sm}{rs:Sms}
theorem Tz{i:Nat}:evE φ (.var i) σ μ=Qz σ[i]? μ:=rfl
theorem T2{d:D}:evE φ (.cst d) σ μ=.ok d μ:=rfl
theorem T3:evE φ (.bin op m a b) σ μ=(evE φ a σ μ).bind (kB φ op m b σ):=rfl
theorem T4:evE φ (.neg a) σ μ=(evE φ a σ μ).bind kNeg:=rfl
theorem T5:evE φ (.not a) σ μ=(evE φ a σ μ).bind kNot:=rfl
theorem T6:evE φ (.and a b) σ μ=(evE φ a σ μ).bind (Ov φ b σ):=rfl
theorem Vc:evE φ (.or a b) σ μ=(evE φ a σ μ).bind (kOr φ b σ):=rfl
theorem T7:evE φ (.ite c a b) σ μ=(evE φ c σ μ).bind (Ow φ a b σ):=rfl
theorem T8:evE φ (.cmp a r) σ μ=(evE φ a σ μ).bind (Q0 φ r σ):=rfl
theorem D1{α:Type}(x:Res α):(x.bind λa μ=>.ok a μ)=x:=by cases x<;>rfl
theorem T9{op:Cp}{x:D}:evC φ (.cons op e .nil) x σ μ=(evE φ e σ μ).bind (cpD op x):=by
 simp![evC,D1]
theorem Q5{op op':Cp}{x:D}{e':Ex}:evC φ (.cons op e (.cons op' e' r)) x σ μ=(evE φ e σ μ).bind (kCh φ op x (.cons op' e' r) σ):=by
 rw[evC]
 all_goals rfl
theorem Q6{keep:Bool}{f:Nat}:evE φ (.call keep f es) σ μ=(c5 φ es σ μ).bind (mj φ keep f):=rfl
theorem Ua{b:Bt}:evE φ (.blt b m es) σ μ=(c5 φ es σ μ).bind (btD b m):=rfl
theorem Ub{c:Cl}:evE φ (.isi a c) σ μ=(evE φ a σ μ).bind (Cw c):=rfl
theorem Q7{mt:Mt}:evE φ (.meth mt o es) σ μ=(evE φ o σ μ).bind (kM φ mt es σ):=rfl
theorem Vd:evE φ (.ix a b) σ μ=(evE φ a σ μ).bind (kIx φ b σ):=rfl
theorem Ve{lo hi:ExO}:evE φ (.sl m a lo hi) σ μ=(evE φ a σ μ).bind (kSl φ m lo hi σ):=rfl
theorem Uc:evE φ (.tup es) σ μ=(c5 φ es σ μ).bind kTup:=rfl
theorem Ud:evE φ (.lst m es) σ μ=(c5 φ es σ μ).bind (mkL m):=rfl
theorem Ue{t:Bool}:evE φ (.dic t es) σ μ=(c5 φ es σ μ).bind (Hx t):=rfl
theorem Q8{cap:List Nat}{nl:Nat}{tg:Tg}{it:It}{cs:Exs}{elt:Ex}:evE φ (.comp m cap nl tg it cs elt) σ μ=(evI φ it σ μ).bind (g6 φ m tg cs elt (cap.map (λi=>(σ[i]?).getD none)++List.replicate nl none)):=rfl
theorem Q9:c5 φ .nil σ μ=.ok [] μ:=rfl
theorem O4:c5 φ (.cons e es) σ μ=(evE φ e σ μ).bind (kEs φ es σ):=rfl
theorem Vf:evO φ .no σ μ=.ok none μ:=rfl
theorem Vg:evO φ (.so e) σ μ=(evE φ e σ μ).bind kInt:=rfl
theorem Ra:yd φ .nil σ μ=.ok true μ:=rfl
theorem O5:yd φ (.cons e es) σ μ=(evE φ e σ μ).bind (kCs φ es σ):=rfl
theorem Ug:evI φ (.seq e) σ μ=(evE φ e σ μ).bind kSeq:=rfl
theorem Uh:evI φ (.rng e) σ μ=(evE φ e σ μ).bind kRng:=rfl
theorem Rb:evI φ (.rng2 a b) σ μ=(evE φ a σ μ).bind (Lm φ b σ):=rfl
theorem Ui:evI φ (.zip a b) σ μ=(evE φ a σ μ).bind (Q2 φ b σ):=rfl
theorem Rc:evI φ (.enum a) σ μ=(evE φ a σ μ).bind kEnum:=rfl
theorem Rf:evI φ (.vals a) σ μ=(evE φ a σ μ).bind kVals:=rfl
theorem Uj{i:Nat}:evS φ (.set i e) σ μ=(evE φ e σ μ).bind (Q3 i σ):=rfl
theorem Uk{is:List Nat}:evS φ (.unp is e) σ μ=(evE φ e σ μ).bind (Q4 is σ):=rfl
theorem Rg:evS φ (.setx o i e) σ μ=(evE φ e σ μ).bind (kSx φ o i σ):=rfl
theorem Vh:evS φ (.ex e) σ μ=(evE φ e σ μ).bind (kNx σ):=rfl
theorem Ul{x y:Sms}:evS φ (.ite c x y) σ μ=(evE φ c σ μ).bind (kIf φ x y σ):=rfl
theorem Rh{tg:Tg}{it:It}{b:Sms}:evS φ (.loop tg it b) σ μ=(evI φ it σ μ).bind (D0 φ tg b σ):=rfl
theorem Um:evS φ (.ret e) σ μ=(evE φ e σ μ).bind kRet:=rfl
theorem Ri:evS φ .pass σ μ=.ok (.nx σ) μ:=rfl
theorem Uo:evS φ .brk σ μ=.ok (.bk σ) μ:=rfl
theorem Rj:evS φ .cont σ μ=.ok (.ct σ) μ:=rfl
theorem Rk:ji φ .nil σ μ=.ok (.nx σ) μ:=rfl
theorem O6:ji φ (.cons s rs) σ μ=(evS φ s σ μ).bind (kSs φ rs):=rfl
theorem ax{f:Nat}{ds:List D}{d:D}{μ':Sto}(h:φ f ds μ=.ok d μ')(hd:d.pure=true)(hl:μ'.length=μ.length)(hr:wt μ'):mj φ false f ds μ=.ok d μ':=by
 rw[mj,h,yt hd hl hr]
theorem Bl{mt:Mt}{x:D}(h:fb mt x μ=true):kM φ mt es σ x μ=(c5 φ es σ μ).bind (mtD mt x):=by rw[kM,if_pos h]
theorem Lo{d:D}:Qz (some (some d)) μ=.ok d μ:=rfl
theorem Mg{i:Int}:kNeg (.int i) μ=.ok (.int (-i)) μ:=rfl
theorem O7{b:Bool}:kNot (.bl b) μ=.ok (.bl (!b)) μ:=rfl
theorem Rl{b:Ex}:Ov φ b σ (.bl true) μ=evE φ b σ μ:=rfl
theorem Rm{b:Ex}:Ov φ b σ (.bl false) μ=.ok (.bl false) μ:=rfl
theorem Uq{b:Ex}:kOr φ b σ (.bl true) μ=.ok (.bl true) μ:=rfl
theorem Ur{b:Ex}:kOr φ b σ (.bl false) μ=evE φ b σ μ:=rfl
theorem Rn:Ow φ a b σ (.bl true) μ=evE φ a σ μ:=rfl
theorem Ro:Ow φ a b σ (.bl false) μ=evE φ b σ μ:=rfl
theorem Rp{y:D}:Me φ r y σ (.bl true) μ=evC φ r y σ μ:=rfl
theorem Rq{y:D}:Me φ r y σ (.bl false) μ=.ok (.bl false) μ:=rfl
theorem Us:kCs φ es σ (.bl true) μ=yd φ es σ μ:=rfl
theorem Ut:kCs φ es σ (.bl false) μ=.ok false μ:=rfl
theorem Rr{elt:Ex}:Mf φ elt σ true μ=(evE φ elt σ μ).bind kOne:=rfl
theorem Rt{elt:Ex}:Mf φ elt σ false μ=.ok [] μ:=rfl
theorem Mh{i:Int}:kInt (.int i) μ=.ok (some i) μ:=rfl
theorem Uu{x y:Sms}:kIf φ x y σ (.bl true) μ=ji φ x σ μ:=rfl
theorem Uv{x y:Sms}:kIf φ x y σ (.bl false) μ=ji φ y σ μ:=rfl
theorem Ru{σ':Sl}:kSs φ rs (.nx σ') μ=ji φ rs σ' μ:=rfl
theorem Rv{d:D}:kSs φ rs (.rt d) μ=.ok (.rt d) μ:=rfl
theorem Rw{σ':Sl}:kSs φ rs (.bk σ') μ=.ok (.bk σ') μ:=rfl
theorem Rx{σ':Sl}:kSs φ rs (.ct σ') μ=.ok (.ct σ') μ:=rfl
theorem Lq{σ':Sl}:Oz (some σ') μ=.ok (.nx σ') μ:=rfl
theorem Mi{ds:List D}:kSeq (.tup ds) μ=.ok (ds,none) μ:=rfl
theorem Mj{ds:List D}:kSeq (.lst ds) μ=.ok (ds,none) μ:=rfl
theorem Hk{j:Int}(h:-1000000<=j/\j<=1000000):kRng (.int j) μ=.ok ((List.range j.toNat).map fun(i:Nat)=>D.int i,none) μ:=by
 have:=j3
 simp![kRng]
 rw[if_pos ⟨by lia,by lia⟩]
theorem jo{n:Nat}(h:n<=1000000):kRng (.int n) μ=.ok ((List.range n).map fun(i:Nat)=>D.int i,none) μ:=by
 rw[Hk ⟨by lia,by lia⟩,BX]
theorem Ls{i:Nat}{d:D}:eu (.one i) d σ=some (σ.set i (some d)):=rfl
theorem Uw{i j:Int}:cpD .lt (.int i) (.int j) μ=.ok (.bl (decide (i<j))) μ:=rfl
theorem Ux{i j:Int}:cpD .le (.int i) (.int j) μ=.ok (.bl (decide (i<=j))) μ:=rfl
theorem Uy{i j:Int}:cpD .gt (.int i) (.int j) μ=.ok (.bl (decide (j<i))) μ:=rfl
theorem Uz{i j:Int}:cpD .ge (.int i) (.int j) μ=.ok (.bl (decide (j<=i))) μ:=rfl
theorem Ry{i j:Int}:cpD .eq (.int i) (.int j) μ=.ok (.bl (decide (i=j))) μ:=rfl
theorem Lu{x y:D}(hx:x.pure=true)(hy:y.pure=true):cpD .ne x y μ=.ok (.bl (!deq x y)) μ:=by simp[cpD,hx,hy]
theorem Rz{i j:Int}:cpD .ne (.int i) (.int j) μ=.ok (.bl (!decide (i=j))) μ:=Lu rfl rfl
theorem R0{i j:Bool}:cpD .ne (.bl i) (.bl j) μ=.ok (.bl (!(i==j))) μ:=Lu rfl rfl
theorem O8{x y:D}(hx:x.pure=true)(hy:y.pure=true):cpD .eq x y μ=.ok (.bl (deq x y)) μ:=by simp[cpD,hx,hy]
theorem bt_len{x:D}{xs:List D}(h:d5 μ x=some xs):btD .len m [x] μ=.ok (.int xs.length) μ:=by simp[btD,seq1,h]
theorem bt_tuple{x:D}{xs:List D}(h:d5 μ x=some xs):btD .tuple m [x] μ=.ok (.tup xs) μ:=by simp[btD,seq1,h]
theorem bt_sum{x:D}{xs:List D}{ns:List Int}(h:d5 μ x=some xs)(h2:bo xs=some ns):btD .sum m [x] μ=.ok (.int ns.sum) μ:=by simp[btD,F8,h,h2]
theorem bt_min{i j:Int}:btD .min m [.int i,.int j] μ=.ok (.int (min i j)) μ:=by
 simp![btD,minD]
 congr 2
 split<;>lia
theorem bt_max{i j:Int}:btD .max m [.int i,.int j] μ=.ok (.int (max i j)) μ:=by
 simp![btD,maxD]
 congr 2
 split<;>lia
theorem si{ds:List D}:d5 μ (.tup ds)=some ds:=rfl
theorem a9{ds:List D}:d5 μ (.lst ds)=some ds:=rfl
theorem ik{ds:List D}:mkL .z ds μ=.ok (.lst ds) μ:=rfl
theorem Bm{x:D}{xs:List D}{k:Nat}{d:D}(h:d5 μ x=some xs)(hd:xs[k]? = some d):ixD x (.int k) μ=.ok d μ:=by
 have hk:k<xs.length:=(AK.mp hd).1
 have e:ixN xs.length (k:Int)=some k:=by simp[ixN,hk]
 simp![ixD,h,e,hd]
theorem O9{i j:Nat}{a b:D}:eu (.many [i,j]) (.tup [a,b]) σ=some ((σ.set i (some a)).set j (some b)):=rfl
theorem Pa{i j k:Nat}{a b c:D}:eu (.many [i,j,k]) (.tup [a,b,c]) σ=some (((σ.set i (some a)).set j (some b)).set k (some c)):=rfl
theorem Pb{i j k l:Nat}{a b c d:D}:eu (.many [i,j,k,l]) (.tup [a,b,c,d]) σ=some ((((σ.set i (some a)).set j (some b)).set k (some c)).set l (some d)):=rfl
theorem Pc{i j k l m:Nat}{a b c d e:D}:eu (.many [i,j,k,l,m]) (.tup [a,b,c,d,e]) σ=some (((((σ.set i (some a)).set j (some b)).set k (some c)).set l (some d)).set m (some e)):=rfl
theorem Lv{α:Type}{xs:List α}{en:α->D}{k:Nat}{a:α}(h:xs[k]? = some a):ixD (.tup (xs.map en)) (.int k) μ=.ok (en a) μ:=Bm si (by rw[BL,h];rfl)
theorem Hl{α:Type}{xs:List α}{en:α->D}{k:Nat}{a:α}(h:xs[k]? = some a):ixD (.lst (xs.map en)) (.int k) μ=.ok (en a) μ:=Bm a9 (by rw[BL,h];rfl)
theorem Hm{α:Type}{tg:Tg}{b:Sms}{xs:List α}{en:α->D}(I:Nat->Sl->Prop)(h0:I 0 σ)(st:∀(k:Nat) a σ,xs[k]? = some a->I k σ->∃σ',fLp φ tg b (en a) σ μ=.ok (.nx σ') μ/\I (k+1) σ') :
  ∃σ',D0 φ tg b σ (xs.map en,none) μ=.ok (.nx σ') μ/\I xs.length σ':=by
 obtain⟨σ',μ',e,rfl,i⟩:=ph (f:=fLp φ tg b) (λk σ μ'=>μ'=μ/\I k σ) (ds:=xs.map en) (σ:=σ) (μ:=μ) 0 ⟨rfl,h0⟩ λj d σ μ' e ⟨q,i⟩=>by
  subst q
  rw[BL]at e
  cases ex:xs[j]? with
  |none=>rw[ex]at e;cases e
  |some a =>
   rw[ex]at e
   cases e
   obtain⟨σ',e',i'⟩:=st j a σ ex (by simpa using i)
   exact⟨σ',_,e',rfl,by simpa using i'⟩
 exact⟨σ',e,by simpa using i⟩
theorem comp_map{α:Type}{tg:Tg}{cs:Exs}{elt:Ex}{σ0:Sl}{xs:List α}{en:α->D}{g:α->D}(h:∀a∈xs,i8 φ tg cs elt σ0 (en a) μ=.ok [g a] μ):g6 φ m tg cs elt σ0 (xs.map en,none) μ=mkL m (xs.map g) μ:=by
 have e:mapR none (i8 φ tg cs elt σ0) (xs.map en) μ=.ok (xs.map g) μ:=by
  induction xs with
  |nil=>simp[mapR]
  |cons a r ih =>
   simp![AL,mapR,ud,if_true,h a AN,Res.bg,ih λx hx=>h x (AI _ hx)]
   rfl
 rw[g6]
 show(mapR none _ (xs.map en) μ).bind _=_
 rw[e];rfl
theorem cc{α:Type}{tg:Tg}{cs:Exs}{elt:Ex}{σ0:Sl}{xs:List α}{en:α->D}{g:α->D}{p:α->Bool}(h:∀a∈xs,i8 φ tg cs elt σ0 (en a) μ=.ok (if p a=true then [g a]else []) μ):g6 φ m tg cs elt σ0 (xs.map en,none) μ=mkL m ((xs.filter p).map g) μ:=by
 have e:mapR none (i8 φ tg cs elt σ0) (xs.map en) μ=.ok ((xs.filter p).map g) μ:=by
  induction xs with
  |nil=>simp[mapR]
  |cons a r ih =>
   simp![AL,mapR,ud,if_true,h a AN,Res.bg,ih λx hx=>h x (AI _ hx)]
   by_cases hp:p a=true
   ·simp[hp]
   ·simp[hp]
 rw[g6]
 show(mapR none _ (xs.map en) μ).bind _=_
 rw[e];rfl
noncomputable def many{S α:Type}(G:S->α×S):Nat->S->List α×S
 |0,s=>([],s)
 |n+1,s=>((G s).1::(many G n (G s).2).1,(many G n (G s).2).2)
theorem U0{x:D}:kB φ op m b σ x μ=(evE φ b σ μ).bind (opD op m x):=rfl
theorem Pd{x:D}:Q0 φ r σ x μ=evC φ r x σ μ:=rfl
theorem R1{o:Cp}{x y:D}:kCh φ o x r σ y μ=(cpD o x y μ).bind (Me φ r y σ):=rfl
theorem R3{x:D}:kIx φ b σ x μ=(evE φ b σ μ).bind (ixD x):=rfl
theorem Pe{hi:ExO}{x:D}{l:Option Int}:Ox φ m hi σ x l μ=(evO φ hi σ μ).bind (slD m x l):=rfl
theorem R4{lo hi:ExO}{x:D}:kSl φ m lo hi σ x μ=(evO φ lo σ μ).bind (Ox φ m hi σ x):=rfl
theorem Pf{ds:List D}:kTup ds μ=.ok (.tup ds) μ:=rfl
theorem Pg{d:D}{ds:List D}:Oy d ds μ=.ok (d::ds) μ:=rfl
theorem R5{d:D}:kEs φ es σ d μ=(c5 φ es σ μ).bind (Oy d):=rfl
theorem Ph{x:D}:kOne x μ=.ok [x] μ:=rfl
theorem Pj{cs:Exs}{elt:Ex}:Q1 φ cs elt μ σ=(yd φ cs σ μ).bind (Mf φ elt σ):=rfl
theorem Ml{x:D}:Lm φ b σ x μ=(evE φ b σ μ).bind (Fc x):=rfl
theorem Pk{x:D}:Q2 φ b σ x μ=(evE φ b σ μ).bind (Ln x):=rfl
theorem Pl{i:Nat}{d:D}:Q3 i σ d μ=.ok (.nx (σ.set i (some d))) μ:=rfl
theorem Pm{is:List Nat}{d:D}:Q4 is σ d μ=Oz (eu (.many is) d σ) μ:=rfl
theorem Pn{d:D}:kNx σ d μ=.ok (.nx σ) μ:=rfl
theorem Po{d:Unit}:kNx σ d μ=.ok (.nx σ) μ:=rfl
theorem Pp{d x y:D}:O0 σ d x y μ=(B9 x y d μ).bind (kNx σ):=rfl
theorem Pq{i:Ex}{d x:D}:O1 φ i σ d x μ=(evE φ i σ μ).bind (O0 σ d x):=rfl
theorem R6{o i:Ex}{d:D}:kSx φ o i σ d μ=(evE φ o σ μ).bind (O1 φ i σ d):=rfl
theorem R7{b:Sms}:kLp φ b μ σ=ji φ b σ μ:=rfl
theorem Pr{d:D}:kRet d μ=.ok (.rt d) μ:=rfl
theorem Mm{n:Nat}:List.replicate (n+1) (none:Option D)=none::List.replicate n none:=rfl
theorem Mn:List.replicate 0 (none:Option D)=[]:=rfl
end
section
variable{φ:Phi}{σ:Sl}{μ:Sto}
noncomputable def R8(φ:Phi)(b:Ex)(σ:Sl)(x:D)(μ:Sto):Res D:=(evE φ b σ μ).bind (L9 x)
noncomputable def Mo(σ:Sl)(x y z:D)(μ:Sto):Res Fl:=(B9 x y z μ).bind (kNx σ)
noncomputable def Mp(op:Operator)(σ:Sl)(x y old d:D)(μ:Sto):Res Fl:=(Qt op old d μ).bind (Mo σ x y)
noncomputable def Pt(φ:Phi)(op:Operator)(e:Ex)(σ:Sl)(x y old:D)(μ:Sto):Res Fl:=(evE φ e σ μ).bind (Mp op σ x y old)
noncomputable def Pu(φ:Phi)(op:Operator)(e:Ex)(σ:Sl)(x y:D)(μ:Sto):Res Fl:=(ixL x y μ).bind (Pt φ op e σ x y)
noncomputable def R9(φ:Phi)(op:Operator)(i e:Ex)(σ:Sl)(x:D)(μ:Sto):Res Fl:=(evE φ i σ μ).bind (Pu φ op e σ x)
theorem U1{a b:Ex}:evE φ (.dix a b) σ μ=(evE φ a σ μ).bind (R8 φ b σ):=rfl
theorem Pw{b:Ex}{x:D}:R8 φ b σ x μ=(evE φ b σ μ).bind (L9 x):=rfl
theorem Sa{op:Operator}{o i e:Ex}:evS φ (.augx op o i e) σ μ=(evE φ o σ μ).bind (R9 φ op i e σ):=rfl
theorem Px{op:Operator}{i e:Ex}{x:D}:R9 φ op i e σ x μ=(evE φ i σ μ).bind (Pu φ op e σ x):=rfl
theorem Py{op:Operator}{e:Ex}{x y:D}:Pu φ op e σ x y μ=(ixL x y μ).bind (Pt φ op e σ x y):=rfl
theorem Pz{op:Operator}{e:Ex}{x y old:D}:Pt φ op e σ x y old μ=(evE φ e σ μ).bind (Mp op σ x y old):=rfl
theorem Mq{x y:D}{i j:Int}:Mp .Add σ x y (.int i) (.int j) μ=Mo σ x y (.int (i+j)) μ:=rfl
theorem Mr{x y:D}{i j:Int}:Mp .Sub σ x y (.int i) (.int j) μ=Mo σ x y (.int (i-j)) μ:=rfl
theorem P0{x y z:D}:Mo σ x y z μ=(B9 x y z μ).bind (kNx σ):=rfl
noncomputable def Sb(φ:Phi)(b:Ex)(σ:Sl)(x:D)(μ:Sto):Res D:=(evE φ b σ μ).bind (Nx x)
noncomputable def P1(φ:Phi)(k1:Bool)(f:Nat)(x:D)(ds:List D)(μ:Sto):Res D:=J7 k1 μ.length (φ f (x::ds) μ)
noncomputable def U2(φ:Phi)(k1:Bool)(c m:Str)(f:Nat)(es:Exs)(σ:Sl)(x:D)(μ:Sto):Res D:=if isObj c m x μ=true then(c5 φ es σ μ).bind (P1 φ k1 f x)else .stuck
noncomputable def kMk(φ:Phi)(c:Str)(f:Nat)(ds:List D)(μ:Sto):Res D:=J8 μ.length (φ f (.loc μ.length::ds) (μ++[.o c []]))
noncomputable def Lw(φ:Phi)(f:Nat)(ds:List D)(μ:Sto):Res D:=Gf μ.length (φ f ds μ)
noncomputable def P2(f:Str)(σ:Sl)(d x:D)(μ:Sto):Res Fl:=(Ge f x d μ).bind (kNx σ)
noncomputable def Sd(φ:Phi)(o:Ex)(f:Str)(σ:Sl)(d:D)(μ:Sto):Res Fl:=(evE φ o σ μ).bind (P2 f σ d)
noncomputable def kWh(φ:Phi)(c:Ex)(b:Sms)(σ:Sl)(μ:Sto):Res Fl:=whR (λσ μ=>(evE φ c σ μ).bind Mb) (λσ μ=>ji φ b σ μ) σ μ
noncomputable def kKeys(x:D)(μ:Sto):Res (List D×Gd):=match x with
 |.loc n=>match μ[n]? with
  |some (.d kvs)=>.ok (kvs.map (·.1),none) (μ.set n (.fd kvs))
  |_=>.stuck
 |_=>.stuck
theorem U3{e:Ex}{f:Str}:evE φ (.att e f) σ μ=(evE φ e σ μ).bind (Qr f):=rfl
theorem P4{k1:Bool}{c m:Str}{f:Nat}{o:Ex}{es:Exs}:evE φ (.mcall k1 c m f o es) σ μ=(evE φ o σ μ).bind (U2 φ k1 c m f es σ):=rfl
theorem Se{c:Str}{f:Nat}{es:Exs}:evE φ (.make c f es) σ μ=(c5 φ es σ μ).bind (kMk φ c f):=rfl
theorem P5{f:Nat}{es:Exs}:evE φ (.callK f es) σ μ=(c5 φ es σ μ).bind (Lw φ f):=rfl
theorem U4{e:Ex}:evE φ (.tru e) σ μ=(evE φ e σ μ).bind truD:=rfl
theorem U5{a b:Ex}:evE φ (.gix a b) σ μ=(evE φ a σ μ).bind (Sb φ b σ):=rfl
theorem P6{b:Ex}{x:D}:Sb φ b σ x μ=(evE φ b σ μ).bind (Nx x):=rfl
theorem Sf:evE φ .dicr σ μ=.ok (.loc μ.length) (μ++[.dr []]):=rfl
theorem Sg{o e:Ex}{f:Str}:evS φ (.seta o f e) σ μ=(evE φ e σ μ).bind (Sd φ o f σ):=rfl
theorem P7{o:Ex}{f:Str}{d:D}:Sd φ o f σ d μ=(evE φ o σ μ).bind (P2 f σ d):=rfl
theorem P8{f:Str}{d x:D}:P2 f σ d x μ=(Ge f x d μ).bind (kNx σ):=rfl
theorem U6{c:Ex}{b:Sms}:evS φ (.whl c b) σ μ=kWh φ c b σ μ:=rfl
theorem Sh{a:Ex}:evI φ (.keys a) σ μ=(evE φ a σ μ).bind kKeys:=rfl
end
section
variable{μ:Sto}
theorem Si{α β:Type}(a:α)(f:α->Sto->Res β):(Res.ok a μ).bind f=f a μ:=rfl
theorem Sj{α β:Type}(a:α)(k:α->Res β):ib (some a) k=k a:=rfl
theorem Vi(d:D):finD (.rt d) μ=.ok d μ:=rfl
theorem Vj(σ:Sl):finD (.nx σ) μ=.ok .non μ:=rfl
theorem Vk{α β:Type}(f:α->β)(a:α)(l:List α):(a::l).map f=f a::l.map f:=rfl
theorem Vl{α β:Type}(f:α->β):([]:List α).map f=[]:=rfl
theorem Vm{α:Type}(a:α)(l m:List α):a::l++m=a::(l++m):=rfl
theorem Vn{α:Type}(m:List α):[]++m=m:=rfl
theorem Vo{α:Type}(a:α)(l:List α):(a::l)[0]? = some a:=rfl
theorem Vp{α:Type}(a:α)(l:List α)(i:Nat):(a::l)[i+1]? = l[i]?:=rfl
theorem Vq{α:Type}(a b:α)(l:List α):(a::l).set 0 b=b::l:=rfl
theorem Vr{α:Type}(a b:α)(l:List α)(i:Nat):(a::l).set (i+1) b=a::l.set i b:=rfl
theorem Vs{α:Type}(a b:α):(some a).getD b=a:=rfl
theorem Vt{op:Operator}{m:Mk}{i j:Int}:opD op m (.int i) (.int j) μ=opI op i j μ:=Hi
theorem Vu{i j:Int}:opI .Add i j μ=.ok (.int (i+j)) μ:=op_add
theorem Vv{i j:Int}:opI .Sub i j μ=.ok (.int (i-j)) μ:=op_sub
theorem Vw{d:D}{b:Nat}:j4 true b (.ok d μ)=.ok d μ:=yu
end
end Lr
namespace Lp
open PySem
noncomputable abbrev bf:Nat:=34
noncomputable abbrev c6:Nat:=82
noncomputable abbrev cq:Nat:=83
noncomputable abbrev fi:Nat:=84
noncomputable abbrev i4:Nat:=93
noncomputable abbrev D2:Nat:=94
noncomputable abbrev jq:Nat:=95
noncomputable abbrev cu:Nat:=99
noncomputable abbrev d7:Nat:=100
noncomputable abbrev g7:Nat:=101
noncomputable abbrev fj:Nat:=102
noncomputable abbrev cz:Nat:=103
noncomputable abbrev jr:Nat:=104
noncomputable abbrev mm:Nat:=105
noncomputable def cf:Sms:=(.cons (.setx (.var 2) (.var 3) (.bin .Sub .z (.bin .Add .z (.meth .get (.var 2) (.cons (.var 3) (.cons (.cst (.int 0)) .nil))) (.var 5)) (.var 4))) .nil)
noncomputable def cg:Ex:=(.meth .get (.var 0) (.cons (.var 1) (.cons (.cst (.int 0)) .nil)))
noncomputable def D_ticks_of_spans:Df:=⟨2,6,(.cons (.set 2 (.dic false .nil)) (.cons (.loop (.many [3,4,5]) (.seq (.var 1)) cf) (.cons (.ret (.blt .tuple .z (.cons (.comp .z [2] 1 (.one 1) (.rng (.var 0)) .nil cg) .nil))) .nil)))⟩
noncomputable def D_law_cell:Df:=⟨2,2,(.cons (.ite (.cmp (.var 1) (.cons .lt (.blt .len .z (.cons (.var 0) .nil)) .nil)) (.cons (.ret (.ix (.var 0) (.var 1))) .nil) .nil) (.cons (.ret (.cst (.int 0))) .nil))⟩
noncomputable def D_law_stir:Df:=⟨2,3,(.cons (.set 2 (.bin .Mod .z (.bin .Add .z (.bin .Add .z (.var 0) (.bin .Mult .z (.cst (.int 7919)) (.var 1))) (.cst (.int 101))) (.cst (.int 2147483647)))) (.cons (.set 2 (.bin .Mod .z (.bin .Mult .z (.var 2) (.var 2)) (.cst (.int 2147483647)))) (.cons (.ret (.bin .FloorDiv .z (.bin .Mod .z (.bin .Mult .z (.var 2) (.cst (.int 48271))) (.cst (.int 2147483629))) (.cst (.int 7)))) .nil)))⟩
noncomputable def D_law_length:Df:=⟨1,2,(.cons (.set 1 (.call false cq (.cons (.var 0) (.cons (.cst (.int 3)) .nil)))) (.cons (.ite (.cmp (.bin .Mod .z (.var 1) (.cst (.int 6))) (.cons .eq (.cst (.int 0)) .nil)) (.cons (.ret (.bin .Sub .z (.bin .Pow .z (.cst (.int 10)) (.cst (.int 15))) (.bin .Mod .z (.bin .FloorDiv .z (.var 1) (.cst (.int 6))) (.cst (.int 3))))) .nil) .nil) (.cons (.ite (.cmp (.bin .Mod .z (.var 1) (.cst (.int 6))) (.cons .eq (.cst (.int 1)) .nil)) (.cons (.ret (.bin .Add .z (.cst (.int 1)) (.bin .Mod .z (.var 0) (.bin .Pow .z (.cst (.int 10)) (.cst (.int 15)))))) .nil) .nil) (.cons (.ret (.bin .Add .z (.cst (.int 1)) (.bin .Mod .z (.bin .FloorDiv .z (.var 1) (.cst (.int 6))) (.cst (.int 12))))) .nil))))⟩
noncomputable def D_ticks_in:Df:=⟨2,2,(.cons (.ret (.call false bf (.cons (.var 0) (.cons (.var 1) .nil)))) .nil)⟩
noncomputable def pj:Sms:=(.cons (.setxT (.var 2) (.cons (.var 3) (.cons (.var 5) .nil)) (.cst (.bl true))) .nil)
noncomputable def kz:Exs:=(.cons (.inT true (.cons (.var 1) (.cons (.var 2) .nil)) (.var 0)) .nil)
noncomputable def k6:Ex:=(.var 1)
noncomputable def pk:Ex:=(.meth .countL (.var 0) (.cons (.var 1) .nil))
noncomputable def D_lit:Df:=⟨2,7,(.cons (.set 2 (.dic true .nil)) (.cons (.loop (.many [3,4,5]) (.seq (.var 1)) pj) (.cons (.set 6 (.comp .z [2] 3 (.many [1,2,3]) (.seq (.var 1)) kz k6)) (.cons (.ret (.blt .tuple .z (.cons (.comp .z [6] 1 (.one 1) (.rng (.var 0)) .nil pk) .nil))) .nil))))⟩
noncomputable def c8:Exs:=(.cons (.cmp (.var 2) (.cons .le (.var 0) (.cons .lt (.var 3) .nil))) .nil)
noncomputable def c9:Ex:=(.var 1)
noncomputable def D_burning:Df:=⟨2,2,(.cons (.ret (.blt .tuple .z (.cons (.comp .z [1] 3 (.many [1,2,3]) (.seq (.var 0)) c8 c9) .nil))) .nil)⟩
noncomputable def g8:Sms:=(.cons (.ite (.not (.call false cu (.cons (.ix (.var 0) (.var 2)) (.cons (.ix (.var 1) (.var 2)) .nil)))) (.cons (.ret (.cst (.bl false))) .nil) .nil) .nil)
noncomputable def D_law_same:Df:=⟨2,3,(.cons (.ite (.isi (.var 1) .tuple) (.cons (.ite (.or (.not (.isi (.var 0) .tuple)) (.cmp (.blt .len .z (.cons (.var 0) .nil)) (.cons .ne (.blt .len .z (.cons (.var 1) .nil)) .nil))) (.cons (.ret (.cst (.bl false))) .nil) .nil) (.cons (.loop (.one 2) (.rng (.blt .len .z (.cons (.var 1) .nil))) g8) (.cons (.ret (.cst (.bl true))) .nil))) .nil) (.cons (.ite (.or (.cmp (.var 1) (.cons .is (.cst .non) .nil)) (.isi (.var 1) .str)) (.cons (.ret (.cmp (.var 0) (.cons .eq (.var 1) .nil))) .nil) .nil) (.cons (.ret (.and (.isi (.var 0) .int) (.and (.not (.isi (.var 0) .bool)) (.cmp (.var 0) (.cons .eq (.var 1) .nil))))) .nil)))⟩
noncomputable def D_law_place:Df:=⟨3,3,(.cons (.ite (.cmp (.bin .Mod .z (.var 0) (.cst (.int 3))) (.cons .eq (.cst (.int 0)) .nil)) (.cons (.ret (.ix (.var 2) (.bin .Mod .z (.bin .FloorDiv .z (.var 0) (.cst (.int 3))) (.blt .len .z (.cons (.var 2) .nil))))) .nil) .nil) (.cons (.ite (.cmp (.bin .Mod .z (.var 0) (.cst (.int 3))) (.cons .eq (.cst (.int 1)) .nil)) (.cons (.ret (.bin .Mod .z (.bin .FloorDiv .z (.var 0) (.cst (.int 3))) (.bin .Add .z (.var 1) (.cst (.int 1))))) .nil) .nil) (.cons (.ret (.blt .min .z (.cons (.var 1) (.cons (.blt .max .z (.cons (.cst (.int 0)) (.cons (.bin .Sub .z (.bin .Add .z (.ix (.var 2) (.bin .Mod .z (.bin .FloorDiv .z (.var 0) (.cst (.int 9))) (.blt .len .z (.cons (.var 2) .nil)))) (.bin .Mod .z (.bin .FloorDiv .z (.var 0) (.cst (.int 3))) (.cst (.int 3)))) (.cst (.int 1))) .nil))) .nil)))) .nil)))⟩
noncomputable def gg:Sms:=(.cons (.set 6 (.call false d7 (.cons (.call false cq (.cons (.var 5) (.cons (.cst (.int 1)) .nil))) (.cons (.var 1) (.cons (.var 4) .nil))))) (.cons (.set 7 (.call false d7 (.cons (.call false cq (.cons (.var 5) (.cons (.cst (.int 2)) .nil))) (.cons (.var 1) (.cons (.var 4) .nil))))) (.cons (.ex (.meth .extend (.var 4) (.cons (.lst .z (.cons (.var 6) (.cons (.var 7) .nil))) .nil))) (.cons (.set 8 (.bin .Mod .z (.call false cq (.cons (.var 5) (.cons (.cst (.int 4)) .nil))) (.var 2))) (.cons (.ex (.meth .append (.var 3) (.cons (.tup (.cons (.var 8) (.cons (.blt .min .z (.cons (.var 6) (.cons (.var 7) .nil))) (.cons (.blt .max .z (.cons (.var 6) (.cons (.var 7) .nil))) .nil)))) .nil))) .nil)))))
noncomputable def D_law_drawn:Df:=⟨3,9,(.cons (.set 3 (.lst .l .nil)) (.cons (.set 4 (.lst .l (.cons (.cst (.int 0)) (.cons (.var 1) .nil)))) (.cons (.loop (.one 5) (.seq (.var 0)) gg) (.cons (.ret (.frz 3)) .nil))))⟩
noncomputable def br:Exs:=(.cons (.and (.cmp (.ix (.var 1) (.cst (.int 0))) (.cons .eq (.ix (.var 0) (.cst (.int 0))) .nil)) (.cmp (.ix (.var 1) (.cst (.int 2))) (.cons .gt (.ix (.var 0) (.cst (.int 1))) .nil))) .nil)
noncomputable def bt:Ex:=(.var 1)
noncomputable def bu:Sms:=(.cons (.set 3 (.comp .z [2] 1 (.one 1) (.seq (.var 1)) br bt)) (.cons (.ite (.and (.cmp (.ix (.var 2) (.cst (.int 1))) (.cons .lt (.ix (.var 2) (.cst (.int 2))) .nil)) (.cmp (.var 3) (.cons .eq (.lst .z .nil) .nil))) (.cons (.ex (.meth .append (.var 1) (.cons (.var 2) .nil))) .nil) .nil) .nil))
noncomputable def D_law_kept_2:Df:=⟨1,4,(.cons (.set 1 (.lst .l .nil)) (.cons (.loop (.one 2) (.seq (.blt .sortedST .z (.cons (.var 0) .nil))) bu) (.cons (.ret (.frz 1)) .nil)))⟩
noncomputable def a7:Exs:=(.cons (.and (.cmp (.ix (.var 2) (.cst (.int 0))) (.cons .eq (.var 0) .nil)) (.and (.cmp (.ix (.var 2) (.cst (.int 1))) (.cons .le (.var 1) .nil)) (.cmp (.var 1) (.cons .lt (.ix (.var 2) (.cst (.int 2))) .nil)))) .nil)
noncomputable def a8:Ex:=(.var 2)
noncomputable def D_law_burns_2:Df:=⟨3,3,(.cons (.ret (.cmp (.blt .len .z (.cons (.comp .z [1,2] 1 (.one 2) (.seq (.var 0)) a7 a8) .nil)) (.cons .gt (.cst (.int 0)) .nil))) .nil)⟩
noncomputable def fk:Exs:=(.cons (.cmp (.ix (.var 1) (.cst (.int 0))) (.cons .eq (.var 0) .nil)) .nil)
noncomputable def fm:Ex:=(.ix (.var 1) (.cst (.int 1)))
noncomputable def da:Exs:=(.cons (.or (.cmp (.var 2) (.cons .eq (.cst (.int 0)) .nil)) (.not (.call false cz (.cons (.var 0) (.cons (.var 1) (.cons (.bin .Sub .z (.var 2) (.cst (.int 1))) .nil)))))) .nil)
noncomputable def de:Ex:=(.var 2)
noncomputable def D_law_lit:Df:=⟨2,3,(.cons (.set 2 (.comp .z [1] 1 (.one 1) (.seq (.var 0)) fk fm)) (.cons (.ret (.blt .len .z (.cons (.comp .z [0,1] 1 (.one 2) (.seq (.var 2)) da de) .nil))) .nil))⟩
noncomputable def fo:Exs:=(.cons (.cmp (.ix (.var 1) (.cst (.int 0))) (.cons .eq (.var 0) .nil)) .nil)
noncomputable def ft:Ex:=(.bin .Sub .z (.ix (.var 1) (.cst (.int 2))) (.ix (.var 1) (.cst (.int 1))))
noncomputable def il:Ex:=(.blt .sum .z (.cons (.comp .z [1] 1 (.one 1) (.seq (.var 0)) fo ft) .nil))
noncomputable def ip:Ex:=(.call false jr (.cons (.var 0) (.cons (.var 1) .nil)))
noncomputable def iq:Sms:=(.cons (.ex (.meth .extend (.var 6) (.cons (.lst .z (.cons (.bin .Sub .z (.ix (.var 7) (.cst (.int 1))) (.cst (.int 1))) (.cons (.ix (.var 7) (.cst (.int 1))) (.cons (.bin .Sub .z (.ix (.var 7) (.cst (.int 2))) (.cst (.int 1))) (.cons (.ix (.var 7) (.cst (.int 2))) .nil))))) .nil))) .nil)
noncomputable def fu:Exs:=(.cons (.call false cz (.cons (.var 0) (.cons (.var 2) (.cons (.var 1) .nil)))) .nil)
noncomputable def fw:Ex:=(.var 2)
noncomputable def dg:Sms:=(.cons (.ite (.and (.cmp (.cst (.int 0)) (.cons .le (.var 8) .nil)) (.cmp (.var 8) (.cons .lt (.var 1) .nil))) (.cons (.set 9 (.blt .tuple .z (.cons (.comp .z [4,8] 1 (.one 2) (.rng (.var 3)) fu fw) .nil))) (.cons (.ite (.not (.call false cu (.cons (.call false jq (.cons (.blt .tuple .z (.cons (.var 4) .nil)) (.cons (.var 8) .nil))) (.cons (.var 9) .nil)))) (.cons (.ret (.cst (.bl false))) .nil) .nil) .nil)) .nil) .nil)
noncomputable def D_law_k16:Df:=⟨1,10,(.cons (.set 1 (.call false fi (.cons (.call false c6 (.cons (.var 0) (.cons (.cst (.int 0)) .nil))) .nil))) (.cons (.set 2 (.call false cq (.cons (.call false c6 (.cons (.var 0) (.cons (.cst (.int 1)) .nil))) (.cons (.cst (.int 0)) .nil)))) (.cons (.set 3 (.bin .Add .z (.cst (.int 1)) (.bin .Mod .z (.var 2) (.cst (.int 8))))) (.cons (.set 4 (.call false fj (.cons (.call false g7 (.cons (.sl .z (.var 0) (.so (.cst (.int 2))) (.so (.cst (.int 26)))) (.cons (.var 1) (.cons (.var 3) .nil)))) .nil))) (.cons (.set 5 (.blt .tuple .z (.cons (.comp .z [4] 1 (.one 1) (.rng (.var 3)) .nil il) .nil))) (.cons (.ite (.not (.call false cu (.cons (.call false i4 (.cons (.var 3) (.cons (.blt .tuple .z (.cons (.var 4) .nil)) .nil))) (.cons (.var 5) .nil)))) (.cons (.ret (.cst (.bl false))) .nil) .nil) (.cons (.ite (.not (.call false cu (.cons (.call false D2 (.cons (.var 3) (.cons (.blt .tuple .z (.cons (.var 4) .nil)) .nil))) (.cons (.blt .tuple .z (.cons (.comp .z [4] 1 (.one 1) (.rng (.var 3)) .nil ip) .nil)) .nil)))) (.cons (.ret (.cst (.bl false))) .nil) .nil) (.cons (.set 6 (.lst .l (.cons (.cst (.int 0)) (.cons (.bin .Sub .z (.var 1) (.cst (.int 1))) (.cons (.bin .Mod .z (.var 2) (.var 1)) .nil))))) (.cons (.loop (.one 7) (.seq (.var 4)) iq) (.cons (.loop (.one 8) (.seq (.var 6)) dg) (.cons (.ret (.cst (.bl true))) .nil)))))))))))⟩
noncomputable def Dz:Df:=⟨0,0,.nil⟩
noncomputable def GL:List Df:=[Dz,Dz,Dz,Dz,Dz,Dz,Dz,Dz,Dz,Dz,Dz,Dz,Dz,Dz,Dz,Dz,Dz,Dz,Dz,Dz,Dz,Dz,Dz,Dz,Dz,Dz,Dz,Dz,Dz,Dz,Dz,Dz,Dz,Dz,D_ticks_of_spans,Dz,Dz,Dz,Dz,Dz,Dz,Dz,Dz,Dz,Dz,Dz,Dz,Dz,Dz,Dz,Dz,Dz,Dz,Dz,Dz,Dz,Dz,Dz,Dz,Dz,Dz,Dz,Dz,Dz,Dz,Dz,Dz,Dz,Dz,Dz,Dz,Dz,Dz,Dz,Dz,Dz,Dz,Dz,Dz,Dz,Dz,Dz,D_law_cell,D_law_stir,D_law_length,Dz,Dz,Dz,Dz,Dz,Dz,Dz,Dz,D_ticks_in,D_lit,D_burning,Dz,Dz,Dz,D_law_same,D_law_place,D_law_drawn,D_law_kept_2,D_law_burns_2,D_law_lit,D_law_k16,Dz,Dz,Dz,Dz,Dz,Dz,Dz,Dz,Dz,Dz,Dz,Dz,Dz,Dz,Dz,Dz,Dz,Dz,Dz,Dz,Dz,Dz,Dz,Dz,Dz,Dz,Dz,Dz,Dz,Dz,Dz,Dz,Dz,Dz,Dz,Dz,Dz,Dz,Dz,Dz,Dz,Dz,Dz,Dz,Dz,Dz,Dz,Dz,Dz,Dz,Dz,Dz,Dz,Dz,Dz,Dz,Dz,Dz,Dz,Dz,Dz,Dz,Dz,Dz,Dz,Dz,Dz,Dz,Dz,Dz,Dz,Dz,Dz,Dz,Dz,Dz,Dz,Dz,Dz,Dz,Dz,Dz,Dz,Dz,Dz,Dz,Dz,Dz,Dz,Dz,Dz,Dz,Dz,Dz,Dz,Dz,Dz,Dz,Dz,Dz,Dz,Dz,Dz,Dz,Dz,Dz,Dz,Dz,Dz,Dz,Dz,Dz,Dz,Dz,Dz,Dz,Dz,Dz,Dz,Dz,Dz,Dz,Dz,Dz,Dz,Dz,Dz,Dz,Dz,Dz,Dz,Dz,Dz,Dz,Dz,Dz,Dz,Dz,Dz,Dz,Dz,Dz,Dz,Dz,Dz,Dz,Dz,Dz,Dz,Dz,Dz,Dz]
theorem ko:GL[bf]? = some D_ticks_of_spans:=rfl
theorem yw:GL[c6]? = some D_law_cell:=rfl
theorem yx:GL[cq]? = some D_law_stir:=rfl
theorem sj:GL[fi]? = some D_law_length:=rfl
theorem yy:GL[i4]? = some D_ticks_in:=rfl
theorem P9:GL[D2]? = some D_lit:=rfl
theorem Bn:GL[jq]? = some D_burning:=rfl
theorem n4:GL[cu]? = some D_law_same:=rfl
theorem u7:GL[d7]? = some D_law_place:=rfl
theorem u9:GL[g7]? = some D_law_drawn:=rfl
theorem sk:GL[fj]? = some D_law_kept_2:=rfl
theorem p5:GL[cz]? = some D_law_burns_2:=rfl
theorem Bo:GL[jr]? = some D_law_lit:=rfl
theorem Bp:GL[mm]? = some D_law_k16:=rfl
end Lp
local macro_rules | `(tactic| simp! only [$ls,*]) => do
  let mut a := ls.getElems
  for s in "Tz T2 T3 T4 T5 T6 Vc T7 T8 T9 Q5 Q6 Ua Ub Q7 Vd Ve Uc Ud Ue Q8 Q9 O4 Vf Vg Ra O5 Ug Uh Rb Ui Rc Rf Uj Uk Rg Vh Ul Rh Um Ri Uo Rj Rk O6 Lo Mg O7 Rl Rm Uq Ur Rn Ro Rp Rq Us Ut Rr Rt Mh Uu Uv Ru Rv Rw Rx Lq Mi Mj Ls Uw Ux Uy Uz Ry Rz R0 bt_min bt_max ik O9 Pa Pb Pc U0 Pd R1 R3 Pe R4 Pf Pg R5 Ph Pj Ml Pk Pl Pm Pn Po Pp Pq R6 R7 Pr Mm Mn U1 Pw Sa Px Py Pz Mq Mr P0 U3 P4 Se P5 U4 U5 P6 Sf Sg P7 P8 U6 Sh Si Sj Vi Vj Vk Vl Vm Vn Vo Vp Vq Vr Vs Vt Vu Vv Vw Nat.reduceSub decide_true decide_false Bool.not_true Bool.not_false".splitOn " " do
    a := a.push ⟨(<- `(Lean.Parser.Tactic.simpLemma| $(Lean.mkIdent ((s.splitOn ".").foldl Lean.Name.mkStr .anonymous)):ident)).raw⟩
  `(tactic| simp only [$a,*])
namespace Lr
open Lp
open PySem
noncomputable def Lf(cs:List Int):O:=.l (cs.reverse.map D.int)
@[simp] theorem Sk (cs:List Int):noR (Lf cs)=true:=rfl
open PySem
noncomputable def cj(ns:List Int):D:=.tup (ns.map D.int)
theorem jt{k:Nat}(ns:List Int):D.pureN (k+1) (cj ns)=true:=by
 simp![cj,wq,EZ,AY]
 exact λx _=>sh
section
variable{n:Nat}{μ ρ:Sto}
theorem p15:opI .Pow 10 15 μ=.ok (.int (10 ^ 15)) μ:=op_pow (by decide)
end
section
variable{n:Nat}{μ:Sto}
theorem Bq(ns:List Int):(ns.map D.int).all flat=true:=by
 rw[EZ,AY]
 exact λ_ _=>rfl
theorem yz(ns:List Int)(k:Int):((ns.map D.int).countP λy=>deq y (.int k))=ns.count k:=by
 rw[List.countP_map]
 induction ns with
 |nil=>rfl
 |cons a r ih =>
  simp![CY,ih,Function.comp,deq,List.count_cons,decide_eq_true_eq,beq_iff_eq]
end
open PySem
section
variable{n:Nat}{μ ρ:Sto}{m:Mk}{φ:Phi}{σ:Sl}{es:Exs}
theorem i5{f:Nat}{ds:List D}{d:D}(h:φ f ds μ=.ok d (μ++ρ))(hd:d.pure=true)(hr:wt μ):mj φ false f ds μ=.ok d μ:=by
 rw[mj,h]
 have e:(μ++ρ).take μ.length=μ:=by simp
 have hr':μ.all (di μ.length)=true:=hr
 simp![j4,AF,if_false,e,iz _ 8 d hd,hr',and_self,if_true]
theorem d8{o:O}:(μ++[o])[μ.length]? = some o:=by simp
theorem ju{o o':O}:(μ++[o]).set μ.length o'=μ++[o']:=by simp
theorem Ms{ds:List D}(h:ds.all (D.pureN 8)=true):mkL .l ds μ=.ok (.loc μ.length) (μ++[.l ds]):=by simp![mkL,h,if_true]
theorem Br{mt:Mt}{ds:List D}(h:∀d μ,fb mt d μ=(Lp.listOf μ d).isSome):kM φ mt es σ (.loc μ.length) (μ++[.l ds])=(c5 φ es σ (μ++[.l ds])).bind (mtD mt (.loc μ.length)):=by
 refine Bl ?_
 rw[h]
 simp![Lp.listOf,d8];rfl
theorem Lx{ds:List D}:kM φ .append es σ (.loc μ.length) (μ++[.l ds])=(c5 φ es σ (μ++[.l ds])).bind (mtD .append (.loc μ.length)):=Br λ_ _=>rfl
theorem Ly{ds:List D}{d:D}(hd:d.pure=true)(hl:ds.length<1000000):mtD .append (.loc μ.length) [d] (μ++[.l ds])=.ok .non (μ++[.l (ds++[d])]):=by
 have:=j3
 simp![mtD,yc,d8,gh,mtL,iy,fits,hd,putL,ju]
 rw[if_pos ⟨trivial,by lia⟩]
theorem mn{α:Type}{tg:Tg}{b:Sms}{xs:List α}{en:α->D}(I:Nat->Sl->Sto->Prop)(h0:I 0 σ μ)(st:∀(k:Nat) a σ μ,xs[k]? = some a->I k σ μ->∃σ' μ',fLp φ tg b (en a) σ μ=.ok (.nx σ') μ'/\I (k+1) σ' μ') :
  ∃σ' μ',D0 φ tg b σ (xs.map en,none) μ=.ok (.nx σ') μ'/\I xs.length σ' μ':=by
 obtain⟨σ',μ',e,i⟩:=ph (f:=fLp φ tg b) I (ds:=xs.map en) (σ:=σ) (μ:=μ) 0 h0 λj d σ μ' e i=>by
  rw[BL]at e
  cases ex:xs[j]? with
  |none=>rw[ex]at e;cases e
  |some a =>
   rw[ex]at e
   cases e
   obtain⟨σ',μ'',e',i'⟩:=st j a σ μ' ex (by simpa using i)
   exact⟨σ',μ'',e',by simpa using i'⟩
 exact⟨σ',μ',e,by simpa using i⟩
end
open PySem
noncomputable def dy(c k:Int):Int :=
 let near:=((c+7919*k+101) % 2147483647)*((c+7919*k+101) % 2147483647) % 2147483647
 near*48271 % 2147483629 / 7
noncomputable def ir(c:Int):Int:=if dy c 3 % 6=0 then 10 ^ 15-dy c 3 / 6 % 3 else if dy c 3 % 6=1 then 1+c % 10 ^ 15 else 1+dy c 3 / 6 % 12
theorem y0(c:Int):1<=ir c/\ir c<=10 ^ 15:=by
 unfold ir
 split
 ·lia
 ·split<;>lia
section
variable{n:Nat}{μ ρ:Sto}
theorem Bs(ns:List Int)(k:Nat):ao GL (n+1) c6 [.lst (ns.map D.int),.int k] μ=.ok (.int (ns.getD k 0)) μ:=by
 rw[au yw,run_eq rfl]
 by_cases h:k<ns.length
 ·have h':(k:Int)<(ns.length:Nat):=by lia
  have e:ns[k]? = some ns[k]:=AD h
  have e2:ns.getD k 0=ns[k]:=by rw[BB,e];rfl
  simp! only[D_law_cell,bt_len a9,AJ,h',Hl e,e2]
 ·have h':¬(k:Int)<(ns.length:Nat):=by lia
  have e2:ns.getD k 0=0:=by rw[BB,DX (by lia)];rfl
  simp! only[D_law_cell,bt_len a9,AJ,h',e2]
theorem mq(c k:Int):ao GL (n+1) cq [.int c,.int k] μ=.ok (.int (dy c k)) μ:=by
 rw[au yx,run_eq rfl]
 have a1:(0:Int)<=(c+7919*k+101) % 2147483647:=DV _ (by decide)
 have a2:(c+7919*k+101) % 2147483647<2147483647:=DA _ (by decide)
 have hm:CMul ((c+7919*k+101) % 2147483647) ((c+7919*k+101) % 2147483647):=.left (by lia) (by lia)
 have hm0:∀x,CMul 7919 x:=λx=>.left (by decide) (by decide)
 have hm1:∀x,CMul x 48271:=λx=>.right (by decide) (by decide)
 simp! only[D_law_stir,op_mul (hm0 k),op_mod (show(0:Int)<2147483647 by decide),op_mul hm,op_mul (hm1 _),op_mod (show(0:Int)<2147483629 by decide),wu (show(0:Int)<7 by decide) (by decide),dy]
theorem Bu(hr:wt μ)(c:Int):ao GL (n+2) fi [.int c] μ=.ok (.int (ir c)) μ:=by
 rw[au sj,run_eq rfl]
 have e:=ax (mq (n:=n) (μ:=μ) c 3) rfl rfl hr
 have m6:opI .Mod (dy c 3) 6 μ=.ok (.int (dy c 3 % 6)) μ:=op_mod (by decide)
 have d6:opI .FloorDiv (dy c 3) 6 μ=.ok (.int (dy c 3 / 6)) μ:=wu (by decide) (by decide)
 by_cases h0:dy c 3 % 6=0
 ·simp! only[D_law_length,e,m6,h0,p15,d6,op_mod (show(0:Int)<3 by decide),ir,if_true]
 ·by_cases h1:dy c 3 % 6=1
  ·have hp:(0:Int)<10 ^ 15:=by decide
   simp! only[D_law_length,e,m6,h0,h1,p15,op_mod hp,ir,if_true,if_false,Int.reduceEq]
  ·simp! only[D_law_length,e,m6,h0,h1,d6,op_mod (show(0:Int)<12 by decide),ir,if_false]
structure Span where
 lamp:Int
 start:Int
 fin:Int
noncomputable def eSpan(s:Span):D:=.tup [.int s.lamp,.int s.start,.int s.fin]
noncomputable def jv(k st much L:Int):List Span:=if much=0 then []else if st+much<=L then [⟨k,st,st+much⟩]else [⟨k,0,st+much-L⟩,⟨k,st,L⟩]
theorem jw{k:Nat}(s:Span):D.pureN (k+1) (eSpan s)=true:=by simp![eSpan,wq,BI,List.all_nil,Bool.and_true,sh]
end
open PySem
noncomputable def sr(L:Int):List Int->Int->Int->List Span
 | [],_,_=>[]
 |t::r,k,st=>jv k st t L++sr L r (k+1) ((st+t) % L)
theorem jx{b c:Nat}(h:b<=c):∀(k:Nat) (d:D),D.belowN b k d=true->D.belowN c k d=true
 |0,d,e=>by cases d<;>simp_all[D.belowN];lia
 |k+1,d,e=>by
  cases d with
  |tup ds =>
   simp![D.belowN,AY]at e ⊢
   exact λx hx=>jx h k x (e x hx)
  |lst ds =>
   simp![D.belowN,AY]at e ⊢
   exact λx hx=>jx h k x (e x hx)
  |loc n=>simp_all[D.belowN];lia
  |_=>rfl
section
variable{n:Nat}{μ ρ:Sto}{φ:Phi}{es:Exs}{σ:Sl}
theorem Lz{ds:List D}:kM φ .extend es σ (.loc μ.length) (μ++[.l ds])=(c5 φ es σ (μ++[.l ds])).bind (mtD .extend (.loc μ.length)):=Br λ_ _=>rfl
theorem Fd{ds ys:List D}(hd:ys.all D.pure=true)(hl:ds.length+ys.length<=1000000):mtD .extend (.loc μ.length) [.lst ys] (μ++[.l ds])=.ok .non (μ++[.l (ds++ys)]):=by
 have:=j3
 have hf:ys.all (fits (.l ds))=true:=hd
 simp![mtD,yc,d8,gh,mtL,iy,Lp.listOf,hf,putL,ju]
 rw[if_pos ⟨trivial,by lia⟩]
theorem Bv(hr:wt μ)(ds:List D):wt (μ++[.l ds]):=by
 unfold wt at hr ⊢
 rw[AY]at hr ⊢
 intro o ho
 rcases BA.mp ho with h | h
 ·have:=hr o h
  cases o with
  |r xs =>
   simp![di,AY]at this ⊢
   exact λx hx=>jx (by simp) 8 x (this x hx)
  |o _ _ =>
   simp![di,AY]at this ⊢
   exact λx hx=>jx (by simp) 8 _ (this x hx)
  |dr _ =>
   simp![di,AY]at this ⊢
   exact λx hx=>jx (by simp) 8 _ (this x hx)
  |_=>rfl
 ·simp![BF]at h
  subst h;rfl
end
open PySem
section
variable{n:Nat}{μ ρ:Sto}{φ:Phi}{σ:Sl}
theorem L0{i:Nat}{k:Nat}{ds:List D}(h:σ[i]? = some (some (.loc k)))(h2:μ[k]? = some (.l ds)):evE φ (.frz i) σ μ=.ok (.lst ds) (μ.set k .dead):=by simp![evE,h,h2]
end
open PySem
noncomputable def encM(m:List (Int×Int)):List (D×D):=m.map λp=>(D.int p.1,D.int p.2)
noncomputable def dn:List (Int×Int)->Int->Option Int
 | [],_=>none
 |p::r,k=>if p.1=k then some p.2 else dn r k
noncomputable def D3(m:List (Int×Int))(k v:Int):List (Int×Int):=if(m.any λp=>decide (p.1=k))=true then m.map (λp=>if p.1=k then(p.1,v)else p)else m++[(k,v)]
theorem wx(k:Int):∀m:List (Int×Int),p9 (.int k) (encM m)=(dn m k).map D.int
 | []=>rfl
 |p::r=>by
  have ih:=wx k r
  simp![encM,AL]at ih ⊢
  rw[p9,dn,deq]
  by_cases h:p.1=k
  ·simp[h]
  ·simp![h,decide_false,if_false,AF];exact ih
theorem Hn(k:Int)(m:List (Int×Int)):((encM m).any λp=>deq p.1 (.int k))=m.any λp=>decide (p.1=k):=by
 simp![encM,List.any_map]
 congr 1
theorem D4(m:List (Int×Int))(k v:Int):dput (.int k) (.int v) (encM m)=encM (D3 m k v):=by
 unfold dput D3
 rw[Hn]
 split
 ·simp![encM,BN]
  refine CT λp _=>?_
  simp![Function.comp,deq]
  by_cases h:p.1=k
  ·simp[h]
  ·simp[h]
 ·simp[encM]
theorem wy:∀(m:List (Int×Int)) (k:Int),(m.any λp=>decide (p.1=k))=(dn m k).isSome
 | [],_=>rfl
 |p::r,k=>by
  rw[BU,dn,wy r k]
  by_cases h:p.1=k<;>simp[h]
theorem wz(k v k':Int):∀m:List (Int×Int),dn (m.map λp=>if p.1=k then(p.1,v)else p) k'=if k'=k then(dn m k).map λ_=>v else dn m k'
 | []=>by simp[dn]
 |p::r=>by
  have ih:=wz k v k' r
  simp![AL,dn]
  by_cases h:p.1=k
  ·by_cases h':k'=k
   ·subst h';simp[h]
   ·have:¬p.1=k':=λz=>h' (z.symm.trans h)
    simp![h,if_true,ih,h',if_false]
    have h2:¬k=k':=λz=>h' z.symm
    simp[h2]
  ·by_cases h':k'=k
   ·subst h';simp![h,if_false,ih,if_true]
   ·simp![h,if_false,ih,h']
theorem su(k v k':Int):∀m:List (Int×Int),dn (m++[(k,v)]) k'=match dn m k' with
  |some x=>some x
  |none=>if k=k' then some v else none
 | []=>by simp[dn]
 |p::r=>by
  have ih:=su k v k' r
  simp![List.cons_append,dn]
  by_cases h:p.1=k'
  ·simp[h]
  ·simp![h,if_false,ih]
theorem D5(m:List (Int×Int))(k v k':Int):dn (D3 m k v) k'=if k'=k then some v else dn m k':=by
 unfold D3
 rw[wy]
 split
 ·rename_i h
  rw[wz]
  obtain⟨x,hx⟩:=EG.mp h
  simp[hx]
 ·rename_i h
  have hn:dn m k=none:=by simpa using h
  rw[su]
  by_cases h':k'=k
  ·subst h';simp[hn]
  ·have h2:¬k=k':=λz=>h' z.symm
   simp![h',h2,if_false]
   cases dn m k'<;>rfl
theorem D6(m:List (Int×Int))(k v:Int):(D3 m k v).length<=m.length+1:=by
 unfold D3
 split<;>simp
section
variable{n:Nat}{μ ρ:Sto}{φ:Phi}{σ:Sl}
theorem w4{m:List (Int×Int)}{k x:Int}:mtD .get (.loc μ.length) [.int k,.int x] (μ++[.d (encM m)])=.ok (.int ((dn m k).getD x)) (μ++[.d (encM m)]):=by
 simp![mtD,Gc,dictAt,d8,qo,if_true,wx]
 cases dn m k<;>rfl
theorem Fe{es:Exs}{m:List (Int×Int)}:kM φ .get es σ (.loc μ.length) (μ++[.d (encM m)])=(c5 φ es σ (μ++[.d (encM m)])).bind (mtD .get (.loc μ.length)):=Bl (by simp![fb,d8])
theorem set_dict{m:List (Int×Int)}{k v:Int}(h:m.length<1000000):B9 (.loc μ.length) (.int k) (.int v) (μ++[.d (encM m)])=.ok () (μ++[.d (encM (D3 m k v))]):=by
 have:=j3
 have hl:(encM m).length<lim:=by simp![encM,AJ];lia
 simp![B9,d8,qo,Dy,hl,and_self,if_true,D4,ju]
noncomputable def bx(ss:List Span)(k:Int):Int:=(ss.map λs=>if s.lamp=k then s.fin-s.start else 0).sum
theorem vc(F:D)(lamps:Nat)(ss:List Span)(hF:∀ν:Sto,kSeq F ν=.ok (ss.map eSpan,none) ν)(hn:ss.length<=1000)(hl:lamps<=1000):∃ρ,ao GL (n+1) bf [.int lamps,F] μ=.ok (cj ((List.range lamps).map fun(k:Nat)=>bx ss k)) (μ++ρ):=by
 rw[au ko,run_eq rfl]
 obtain⟨σ',μ',el,m,⟨v3,v4,v5,rfl⟩,rfl,hm,hk⟩:=mn (φ:=ao GL n) (μ:=μ++[.d []]) (tg:=.many [3,4,5]) (b:=cf) (xs:=ss) (en:=eSpan)
  (σ:=[some (.int lamps),some (F),some (.loc μ.length),none,none,none])
  (λj σ μ'=>∃m,(∃v3 v4 v5,σ=[some (.int lamps),some (F),some (.loc μ.length),v3,v4,v5])/\μ'=μ++[.d (encM m)]/\m.length<=j/\∀k,(dn m k).getD 0=bx (ss.take j) k)
  ⟨[],⟨none,none,none,rfl⟩,rfl,by simp,λk=>by simp[dn,bx]⟩ (by
   rintro j s σ μ' hs ⟨m,⟨v3,v4,v5,rfl⟩,rfl,hm,hk⟩
   have hj:j<ss.length:=(AK.mp hs).1
   refine⟨[some (.int lamps),some (F),some (.loc μ.length),some (.int s.lamp),some (.int s.start),some (.int s.fin)],μ++[.d (encM (D3 m s.lamp ((dn m s.lamp).getD 0+s.fin-s.start)))],?_,D3 m s.lamp ((dn m s.lamp).getD 0+s.fin-s.start),⟨_,_,_,rfl⟩,rfl,?_,λk=>?_⟩
   ·simp! only[fLp,cf,eSpan,Fe,w4,set_dict (show m.length<1000000 by lia)]
   ·have:=D6 m s.lamp ((dn m s.lamp).getD 0+s.fin-s.start);lia
   ·have et:bx (ss.take (j+1)) k=bx (ss.take j) k+if s.lamp=k then s.fin-s.start else 0:=by
     rw[GJ,hs]
     simp[bx,List.sum_append]
    rw[D5,et]
    by_cases h:k=s.lamp
    ·subst h
     have:=hk s.lamp
     simp![if_true,Option.getD_some]
     lia
    ·have h2:¬s.lamp=k:=λz=>h z.symm
     simp![h,h2,if_false,hk k];lia)
 rw[DQ (AH _)]at hk
 have hc:g6 (ao GL n) .z (.one 1) .nil cg [some (.loc μ.length),none] ((List.range lamps).map fun(k:Nat)=>D.int k,none) (μ++[.d (encM m)])=.ok (.lst (((List.range lamps).map fun(k:Nat)=>bx ss k).map D.int)) (μ++[.d (encM m)]):=by
  rw[comp_map (en:=fun(k:Nat)=>D.int k) (g:=fun(k:Nat)=>D.int (bx ss k)) λk _=>by
   simp! only[i8,cg,Fe,w4,hk]]
  rw[ik,BN];rfl
 refine⟨[.d (encM m)],?_⟩
 have d0:Hx false [] μ=.ok (.loc μ.length) (μ++[.d []]):=rfl
 simp! only[D_ticks_of_spans,d0,hF,el,jo (show lamps<=1000000 by lia),hc,bt_tuple a9,cj]
theorem y3(lamps:Nat)(ss:List Span)(hn:ss.length<=1000)(hl:lamps<=1000):∃ρ,ao GL (n+1) bf [.int lamps,.tup (ss.map eSpan)] μ=.ok (cj ((List.range lamps).map fun(k:Nat)=>bx ss k)) (μ++ρ):=vc _ lamps ss (λ_=>rfl) hn hl
theorem y4(ss:List Span)(t:Int):ao GL (n+1) jq [.tup (ss.map eSpan),.int t] μ=.ok (cj ((ss.filter λs=>decide (s.start<=t/\t<s.fin)).map (·.lamp))) μ:=by
 rw[au Bn,run_eq rfl]
 have hc:g6 (ao GL n) .z (.many [1,2,3]) c8 c9 [some (.int t),none,none,none] (ss.map eSpan,none) μ=.ok (.lst (((ss.filter λs=>decide (s.start<=t/\t<s.fin)).map (·.lamp)).map D.int)) μ:=by
  rw[cc (g:=λs:Span=>D.int s.lamp) (p:=λs:Span=>decide (s.start<=t/\t<s.fin)) λs _=>by
   by_cases h1:s.start<=t
   ·by_cases h2:t<s.fin
    ·simp! only[i8,c8,c9,eSpan,h1,h2,and_self,if_true]
    ·simp! only[i8,c8,c9,eSpan,h1,h2,and_false,if_false,AF]
   ·simp! only[i8,c8,c9,eSpan,h1,false_and,if_false,AF]]
  rw[ik,BN];rfl
 simp! only[D_burning,hc,bt_tuple a9,cj]
end
open PySem
noncomputable def Nb(a b:Span):Prop:=a.lamp<b.lamp\/(a.lamp=b.lamp/\a.start<b.start/\a.fin<=b.start)
structure Good (L:Int) (lo hi:Int) (s:Span):Prop where
 lamp:lo<=s.lamp/\s.lamp<hi
 start:0<=s.start
 run:s.start<s.fin
 fin:s.fin<=L
theorem Ho{L k st x:Int}(h0:0<=st)(h1:st<L)(hx:0<=x)(hx2:x<=L):(jv k st x L).Pairwise Nb/\∀s∈jv k st x L,Good L k (k+1) s:=by
 unfold jv
 split
 ·exact⟨.nil,λs h=>by simp at h⟩
 ·split
  ·refine⟨by simp,λs h=>?_⟩
   simp![BF]at h
   subst h
   exact⟨⟨GK _,by show k<k+1;lia⟩,h0,by show st<st+x;lia,by show st+x<=L;lia⟩
  ·refine⟨?_,λs h=>?_⟩
   ·simp![BP,BF,CF,false_implies,implies_true,List.Pairwise.nil,and_true]
    rintro s rfl
    exact .inr ⟨rfl,by show(0:Int)<st;lia,by show st+x-L<=st;lia⟩
   ·simp![AS,CF,or_false]at h
    rcases h with rfl | rfl
    ·exact⟨⟨GK _,by show k<k+1;lia⟩,GK _,by show(0:Int)<st+x-L;lia,by show st+x-L<=L;lia⟩
    ·exact⟨⟨GK _,by show k<k+1;lia⟩,h0,by show st<L;lia,GK _⟩
theorem laid_ok{L:Int}:∀(ts:List Int) (k st:Int),0<=st->st<L->(∀x∈ts,0<=x/\x<=L)->(sr L ts k st).Pairwise Nb/\∀s∈sr L ts k st,Good L k (k+ts.length) s
 | [],k,st,_,_,_=>⟨.nil,λs h=>by simp[sr]at h⟩
 |x::r,k,st,h0,h1,hb=>by
  have hx:=hb x AN
  obtain⟨f1,f2⟩:=Ho (k:=k) h0 h1 hx.1 hx.2
  have hm:0<=(st+x) % L/\(st+x) % L<L:=⟨DV _ (by lia),DA _ (by lia)⟩
  obtain⟨g1,g2⟩:=laid_ok r (k+1) ((st+x) % L) hm.1 hm.2 λy hy=>hb y (AI _ hy)
  have e:((x::r).length:Int)=r.length+1:=by simp
  refine⟨?_,λs hs=>?_⟩
  ·rw[sr,FK]
   exact⟨f1,g1,λa ha b hb=>.inl (by have:=(f2 a ha).lamp;have:=(g2 b hb).lamp;lia)⟩
  ·rw[e]
   rcases BA.mp hs with h | h
   ·obtain⟨a,b,c,d⟩:=f2 s h
    exact⟨by lia,b,c,d⟩
   ·obtain⟨a,b,c,d⟩:=g2 s h
    exact⟨by lia,b,c,d⟩
open PySem
noncomputable def sq(b:Bool)(ds:List D):D:=match b with
 |true=>.lst ds
 |false=>.tup ds
open PySem
section
variable{n:Nat}{μ ρ:Sto}{φ:Phi}{σ:Sl}
theorem sv{s:Span}:ixD (eSpan s) (.int 0) μ=.ok (.int s.lamp) μ:=rfl
theorem p6{s:Span}:ixD (eSpan s) (.int 1) μ=.ok (.int s.start) μ:=rfl
theorem vd{s:Span}:ixD (eSpan s) (.int 2) μ=.ok (.int s.fin) μ:=rfl
end
open PySem
noncomputable def mw(m:List (Int×Int)):List (D×D):=m.map λp=>(D.tup [.int p.1,.int p.2],D.bl true)
noncomputable def Ff(m:List (Int×Int))(p:Int×Int):List (Int×Int):=if p∈m then m else m++[p]
theorem w6(a b c d:Int):deq (.tup [.int a,.int b]) (.tup [.int c,.int d])=decide ((a,b)=(c,d)):=by
 simp![deq,ub,Bool.and_true,Prod.mk.injEq,Bool.decide_and]
theorem D7(m:List (Int×Int))(p:Int×Int):((mw m).any λq=>deq q.1 (.tup [.int p.1,.int p.2]))=decide (p∈m):=by
 induction m with
 |nil=>rfl
 |cons q r ih =>
  simp![mw,AL,BU,w6]at ih ⊢
  rw[ih]
  by_cases h:q=p
  ·simp[h]
  ·have h2:¬p=q:=λz=>h z.symm
   simp[h,h2]
theorem Bw(m:List (Int×Int))(p:Int×Int):(p9 (.tup [.int p.1,.int p.2]) (mw m)).isSome=decide (p∈m):=by
 induction m with
 |nil=>rfl
 |cons q r ih =>
  simp![mw,AL]at ih ⊢
  rw[p9,w6]
  by_cases h:q=p
  ·simp[h]
  ·have h2:¬p=q:=λz=>h z.symm
   simp![h,decide_false,AF,if_false,ih,AS,h2,false_or]
theorem Bx(m:List (Int×Int))(p:Int×Int):dput (.tup [.int p.1,.int p.2]) (.bl true) (mw m)=mw (Ff m p):=by
 unfold dput Ff
 rw[D7]
 by_cases h:p∈m
 ·simp![h,decide_true,if_true]
  simp![mw,BN]
  refine CT λq _=>?_
  simp![Function.comp]
  split<;>rfl
 ·simp![h,decide_false,AF,if_false]
  simp[mw]
theorem D8(m:List (Int×Int))(p q:Int×Int):q∈Ff m p↔q∈m\/q=p:=by
 unfold Ff
 split
 ·rename_i h
  constructor
  ·exact .inl
  ·rintro(z | rfl)
   ·exact z
   ·exact h
 ·simp
noncomputable def fresh(ss:List Span)(s:Span):Bool:=!(ss.any λu=>decide (u.lamp=s.lamp/\u.fin=s.start))
noncomputable def litN(ss:List Span)(k:Int):Nat:=((ss.filter (fresh ss)).map (·.lamp)).count k
section
variable{n:Nat}{μ ρ:Sto}{φ:Phi}{σ:Sl}
theorem By{m:List (Int×Int)}{a b:Int}(h:m.length<1000000):qq (.loc μ.length) [.int a,.int b] (.bl true) (μ++[.dt (mw m)])=.ok () (μ++[.dt (mw (Ff m (a,b)))]):=by
 have:=j3
 have hl:(mw m).length<lim:=by simp![mw,AJ];omega
 have hk:[D.int a,D.int b].all qo=true:=rfl
 have e:=Bx m (a,b)
 simp only at e
 simp![qq,d8,hk,Hj,hl,and_self,if_true,e,ju]
theorem w8{m:List (Int×Int)}{a b:Int}:J5 true [.int a,.int b] (.loc μ.length) (μ++[.dt (mw m)])=.ok (.bl (!decide ((a,b)∈m))) (μ++[.dt (mw m)]):=by
 have hk:[D.int a,D.int b].all qo=true:=rfl
 have e:=Bw m (a,b)
 simp only at e
 simp![J5,gb,d8,hk,if_true,e,Bool.true_bne,Bool.xor_true,Bool.true_xor]
theorem Hq{o:Ex}{i:Exs}{e:Ex}:evS φ (.setxT o i e) σ μ=(evE φ e σ μ).bind λd μ=>(evE φ o σ μ).bind λx μ=>(c5 φ i σ μ).bind λy μ=>(qq x y d μ).bind λ_ μ=>.ok (.nx σ) μ:=by simp![evS]
theorem L1{neg:Bool}{es:Exs}{d:Ex}:evE φ (.inT neg es d) σ μ=(c5 φ es σ μ).bind λds μ=>(evE φ d σ μ).bind λx μ=>J5 neg ds x μ:=by simp![evE]
theorem mt_countL{ns:List Int}{k:Int}:mtD .countL (.lst (ns.map D.int)) [.int k] μ=.ok (.int (ns.count k)) μ:=by
 simp![mtD,Nv,Lp.listOf,Nu,iy,flat,Bq,and_self,if_true,yz]
theorem Bz{es:Exs}{ns:List Int}:kM φ .countL es σ (.lst (ns.map D.int)) μ=(c5 φ es σ μ).bind (mtD .countL (.lst (ns.map D.int))):=Bl rfl
theorem L3(lamps:Nat)(ss:List Span)(hn:ss.length<=1000)(hl:lamps<=1000):∃ρ,ao GL (n+1) D2 [.int lamps,.tup (ss.map eSpan)] μ=.ok (cj ((List.range lamps).map fun(k:Nat)=>((litN ss k:Nat):Int))) (μ++ρ):=by
 rw[au P9,run_eq rfl]
 obtain⟨σ',μ',el,m,⟨v3,v4,v5,rfl⟩,rfl,hm,hk⟩:=mn (φ:=ao GL n) (μ:=μ++[.dt []]) (tg:=.many [3,4,5]) (b:=pj) (xs:=ss) (en:=eSpan)
  (σ:=[some (.int lamps),some (.tup (ss.map eSpan)),some (.loc μ.length),none,none,none,none])
  (λj σ μ'=>∃m,(∃v3 v4 v5,σ=[some (.int lamps),some (.tup (ss.map eSpan)),some (.loc μ.length),v3,v4,v5,none])/\μ'=μ++[.dt (mw m)]/\m.length<=j/\∀p,p∈m↔∃u∈ss.take j,p=(u.lamp,u.fin))
  ⟨[],⟨none,none,none,rfl⟩,rfl,by simp,λp=>by simp⟩ (by
   rintro j s σ μ' hs ⟨m,⟨v3,v4,v5,rfl⟩,rfl,hm,hk⟩
   have hj:j<ss.length:=(AK.mp hs).1
   refine⟨[some (.int lamps),some (.tup (ss.map eSpan)),some (.loc μ.length),some (.int s.lamp),some (.int s.start),some (.int s.fin),none],μ++[.dt (mw (Ff m (s.lamp,s.fin)))],?_,Ff m (s.lamp,s.fin),⟨_,_,_,rfl⟩,rfl,?_,λp=>?_⟩
   ·simp! only[fLp,pj,eSpan,Hq,By (show m.length<1000000 by omega),Res.bg]
   ·unfold Ff
    split
    ·omega
    ·simp![AX,DW];omega
   ·rw[D8,hk,GJ,hs]
    simp![Option.toList_some,BA,BF]
    constructor
    ·rintro(⟨u,h1,h2⟩ | rfl)
     ·exact⟨u,.inl h1,h2⟩
     ·exact⟨s,.inr rfl,rfl⟩
    ·rintro⟨u,h1 | rfl,h2⟩
     ·exact .inl ⟨u,h1,h2⟩
     ·exact .inr h2)
 rw[DQ (AH _)]at hk
 have hf:∀s:Span,(!decide ((s.lamp,s.start)∈m))=fresh ss s:=λs=>by
  unfold fresh
  congr 1
  rw[HM]
  simp![decide_eq_true_eq,hk,EE,Prod.mk.injEq]
  constructor
  ·rintro⟨u,a,b,c⟩;exact⟨u,a,b.symm,c.symm⟩
  ·rintro⟨u,a,b,c⟩;exact⟨u,a,b.symm,c.symm⟩
 have c1:g6 (ao GL n) .z (.many [1,2,3]) kz k6 [some (.loc μ.length),none,none,none] (ss.map eSpan,none) (μ++[.dt (mw m)])=.ok (.lst (((ss.filter (fresh ss)).map (·.lamp)).map D.int)) (μ++[.dt (mw m)]):=by
  rw[cc (g:=λs:Span=>D.int s.lamp) (p:=fresh ss) λs _=>by
   have e:=hf s
   cases hs:fresh ss s with
   |true =>
    rw[hs]at e
    simp! only[i8,kz,k6,eSpan,L1,w8,e,if_true,Res.bg]
   |false =>
    rw[hs]at e
    simp! only[i8,kz,k6,eSpan,L1,w8,e,AF,if_false,Res.bg]]
  rw[ik,BN];rfl
 have c2:g6 (ao GL n) .z (.one 1) .nil pk [some (.lst (((ss.filter (fresh ss)).map (·.lamp)).map D.int)),none] ((List.range lamps).map fun(k:Nat)=>D.int k,none) (μ++[.dt (mw m)])=.ok (.lst (((List.range lamps).map fun(k:Nat)=>((litN ss k:Nat):Int)).map D.int)) (μ++[.dt (mw m)]):=by
  rw[comp_map (en:=fun(k:Nat)=>D.int k) (g:=fun(k:Nat)=>D.int ((litN ss k:Nat):Int)) λk _=>by
   simp! only[i8,pk,Bz,mt_countL,litN]]
  rw[ik,BN];rfl
 refine⟨[.dt (mw m)],?_⟩
 have d0:Hx true [] μ=.ok (.loc μ.length) (μ++[.dt []]):=rfl
 simp! only[D_lit,d0,el,c1,jo (show lamps<=1000000 by omega),c2,bt_tuple a9,cj]
end
open PySem
section
variable{n:Nat}{μ ρ:Sto}{φ:Phi}
noncomputable def mx(s:Span):List Int:=[s.lamp,s.start,s.fin]
noncomputable def unS(r:List Int):Span:=⟨r.getD 0 0,r.getD 1 0,r.getD 2 0⟩
theorem n8:∀ss:List Span,rowsOf (ss.map eSpan)=some (ss.map mx)
 | []=>rfl
 |s::r=>by simp[eSpan,rowsOf,bo,n8 r,mx]
end
open PySem
noncomputable def mr(turn len:Int)(ms:List Int):Int:=if turn % 3=0 then ms.getD (turn / 3 % (ms.length:Int)).toNat 0 else if turn % 3=1 then turn / 3 % (len+1)else min len (max 0 (ms.getD (turn / 9 % (ms.length:Int)).toNat 0+turn / 3 % 3-1))
theorem ve(x:Int){n:Nat}(h:1<=n):∃k:Nat,k<n/\x % (n:Int)=k:=by
 have h1:=DV x (show(n:Int)≠0 by lia)
 have h2:=DA x (show(0:Int)<n by lia)
 exact⟨(x % (n:Int)).toNat,by lia,by lia⟩
theorem xg{turn len:Int}{ms:List Int}(hl:0<=len)(h1:1<=ms.length)(hm:∀x∈ms,0<=x/\x<=len):0<=mr turn len ms/\mr turn len ms<=len:=by
 unfold mr
 split
 ·obtain⟨k,hk,e⟩:=ve (turn / 3) h1
  rw[e,BX]
  refine hm _ ?_
  rw[BB,AD hk]
  exact CW hk
 ·split
  ·have h1:=DV (turn / 3) (show len+1≠0 by lia)
   have h2:=DA (turn / 3) (show 0<len+1 by lia)
   lia
  ·lia
section
variable{n:Nat}{μ ρ:Sto}{φ:Phi}{σ:Sl}
theorem B0{x:D}{ns:List Int}{k:Nat}(h:d5 μ x=some (ns.map D.int))(hk:k<ns.length):ixD x (.int k) μ=.ok (.int (ns.getD k 0)) μ:=by
 refine Bm h ?_
 rw[BL,AD hk]
 simp[hk]
theorem xj{F:D}{ms:List Int}(hF:d5 μ F=some (ms.map D.int))(h1:1<=ms.length)(turn:Int){len:Int}(hl:1<=len):ao GL (n+1) d7 [.int turn,.int len,F] μ=.ok (.int (mr turn len ms)) μ:=by
 rw[au u7,run_eq rfl]
 have hp:(0:Int)<(ms.length:Int):=by lia
 obtain⟨k,hk,e⟩:=ve (turn / 3) h1
 obtain⟨k2,hk2,e2⟩:=ve (turn / 9) h1
 have i1:=B0 hF hk
 have i2:=B0 hF hk2
 have bl:btD .len .z [F] μ=.ok (.int ms.length) μ:=by rw[bt_len hF,AJ]
 unfold mr
 rw[e,e2,BX,BX]
 have q3:∀ν:Sto,opI .Mod turn 3 ν=.ok (.int (turn % 3)) ν:=λν=>op_mod (by decide)
 have d3:∀ν:Sto,opI .FloorDiv turn 3 ν=.ok (.int (turn / 3)) ν:=λν=>wu (by decide) (by decide)
 have d9:∀ν:Sto,opI .FloorDiv turn 9 ν=.ok (.int (turn / 9)) ν:=λν=>wu (by decide) (by decide)
 have m3:∀ν:Sto,opI .Mod (turn / 3) 3 ν=.ok (.int (turn / 3 % 3)) ν:=λν=>op_mod (by decide)
 have ml:∀ν:Sto,opI .Mod (turn / 3) ms.length ν=.ok (.int k) ν:=λν=>by rw[<-e];exact op_mod hp
 have ml2:∀ν:Sto,opI .Mod (turn / 9) ms.length ν=.ok (.int k2) ν:=λν=>by rw[<-e2];exact op_mod hp
 have mL:∀ν:Sto,opI .Mod (turn / 3) (len+1) ν=.ok (.int (turn / 3 % (len+1))) ν:=λν=>op_mod (by lia)
 by_cases h0:turn % 3=0
 ·simp! only[D_law_place,q3,h0,d3,bl,ml,i1,if_true]
 ·by_cases h2:turn % 3=1
  ·have h3:¬(1:Int)=0:=by decide
   simp! only[D_law_place,q3,h2,h3,d3,mL,if_true,if_false]
  ·simp! only[D_law_place,q3,h0,h2,d3,d9,bl,ml2,i2,m3,bt_max,bt_min,if_false]
end
open PySem
structure In (len:Int) (lamps:Nat) (s:Span):Prop where
 lamp:0<=s.lamp/\s.lamp<lamps
 start:0<=s.start
 le:s.start<=s.fin
 fin:s.fin<=len
section
variable{n:Nat}{μ ρ:Sto}{φ:Phi}{σ:Sl}
theorem at2{o p:O}:(μ++[o,p])[μ.length]? = some o:=by simp
theorem Sn{o p:O}:(μ++[o,p])[μ.length+1]? = some p:=by simp
theorem So{o p o':O}:(μ++[o,p]).set μ.length o'=μ++[o',p]:=by simp
theorem Qa{ds:List D}{o:O}{d:D}(hd:d.pure=true)(hl:ds.length<1000000):mtD .append (.loc μ.length) [d] (μ++[.l ds,o])=.ok .non (μ++[.l (ds++[d]),o]):=by
 have:=j3
 simp![mtD,yc,at2,gh,mtL,iy,fits,hd,putL,So]
 rw[if_pos ⟨trivial,by lia⟩]
theorem U7{es:Exs}{ds:List D}{o:O}:kM φ .append es σ (.loc μ.length) (μ++[.l ds,o])=(c5 φ es σ (μ++[.l ds,o])).bind (mtD .append (.loc μ.length)):=Bl (by simp![fb,Lp.listOf,at2];rfl)
theorem Qb{ds ys:List D}{o:O}(hy:ys.all D.pure=true)(hl:ds.length+ys.length<=1000000):mtD .extend (.loc (μ.length+1)) [.lst ys] (μ++[o,.l ds])=.ok .non (μ++[o,.l (ds++ys)]):=by
 have:=Fd (μ:=μ++[o]) (ds:=ds) (ys:=ys) hy hl
 simpa using this
theorem Qc{es:Exs}{ds:List D}{o:O}:kM φ .extend es σ (.loc (μ.length+1)) (μ++[o,.l ds])=(c5 φ es σ (μ++[o,.l ds])).bind (mtD .extend (.loc (μ.length+1))):=Bl (by simp![fb,Lp.listOf,Sn];rfl)
theorem Fg(hr:wt μ)(xs ys:List D):wt (μ++[.l xs,.l ys]):=by
 have:=Bv (Bv hr xs) ys
 simpa using this
theorem D9(hr:wt μ)(cs:List Int)(hc:cs.length<=100){len:Int}(hl:1<=len){lamps:Nat}(hL:1<=lamps):∃(ss:List Span) (ρ:Sto),ss.length<=cs.length/\(∀s∈ss,In len lamps s)/\ao GL (n+2) g7 [.lst (cs.map D.int),.int len,.int lamps] μ=.ok (.lst (ss.map eSpan)) (μ++ρ):=by
 rw[au u9,run_eq rfl]
 obtain⟨σ',μ',el,X,ms,v5,v6,v7,v8,rfl,rfl,h1,h2,h3,h4⟩:=mn (φ:=ao GL (n+1)) (μ:=μ++[.l (([]:List Span).map eSpan),.l ([0,len].map D.int)]) (tg:=.one 5) (b:=gg) (xs:=cs) (en:=D.int)
  (σ:=[some (.lst (cs.map D.int)),some (.int len),some (.int lamps),some (.loc μ.length),some (.loc (μ.length+1)),none,none,none,none])
  (λj σ μ'=>∃(X:List Span) (ms:List Int) (v5 v6 v7 v8:Option D),σ=[some (.lst (cs.map D.int)),some (.int len),some (.int lamps),some (.loc μ.length),some (.loc (μ.length+1)),v5,v6,v7,v8]/\μ'=μ++[.l (X.map eSpan),.l (ms.map D.int)]/\X.length<=j/\(2<=ms.length/\ms.length<=2+2*j)/\(∀x∈ms,0<=x/\x<=len)/\∀s∈X,In len lamps s)
  ⟨[],[0,len],none,none,none,none,rfl,rfl,AH _,⟨by simp,by simp⟩,λx hx=>by simp at hx;rcases hx with rfl | rfl<;>lia,λs hs=>by cases hs⟩ (by
   rintro j c σ μ' hk ⟨X,ms,v5,v6,v7,v8,rfl,rfl,h1,h2,h3,h4⟩
   have hj:=(AK.mp hk).1
   have H:=Fg hr (X.map eSpan) (ms.map D.int)
   have sq:d5 (μ++[.l (X.map eSpan),.l (ms.map D.int)]) (.loc (μ.length+1))=some (ms.map D.int):=by simp![d5,Sn]
   have k1:=ax (mq (n:=n) (μ:=μ++[.l (X.map eSpan),.l (ms.map D.int)]) c 1) rfl rfl H
   have k2:=ax (mq (n:=n) (μ:=μ++[.l (X.map eSpan),.l (ms.map D.int)]) c 2) rfl rfl H
   have p1:=ax (xj (n:=n) sq (by lia) (dy c 1) hl) rfl rfl H
   have p2:=ax (xj (n:=n) sq (by lia) (dy c 2) hl) rfl rfl H
   have b1:=xg (turn:=dy c 1) (len:=len) (ms:=ms) (by lia) (by lia) h3
   have b2:=xg (turn:=dy c 2) (len:=len) (ms:=ms) (by lia) (by lia) h3
   generalize mr (dy c 1) len ms=a at *
   generalize mr (dy c 2) len ms=b at *
   have ex:mtD .extend (.loc (μ.length+1)) [.lst [.int a,.int b]] (μ++[.l (X.map eSpan),.l (ms.map D.int)])=.ok .non (μ++[.l (X.map eSpan),.l ((ms++[a,b]).map D.int)]):=by
    rw[Qb rfl (by simp;lia),CP];rfl
   have H2:=Fg hr (X.map eSpan) ((ms++[a,b]).map D.int)
   have k4:=ax (mq (n:=n) (μ:=μ++[.l (X.map eSpan),.l ((ms++[a,b]).map D.int)]) c 4) rfl rfl H2
   obtain⟨sp,hsp⟩:∃sp:Span,sp=⟨dy c 4 % lamps,min a b,max a b⟩:=⟨_,rfl⟩
   have es:(D.tup [.int (dy c 4 % lamps),.int (min a b),.int (max a b)])=eSpan sp:=by rw[hsp];rfl
   have ap:mtD .append (.loc μ.length) [eSpan sp] (μ++[.l (X.map eSpan),.l ((ms++[a,b]).map D.int)])=.ok .non (μ++[.l ((X++[sp]).map eSpan),.l ((ms++[a,b]).map D.int)]):=by
    rw[Qa (jw _) (by rw[AJ];lia),CP (l₁:=X)];rfl
   refine⟨[some (.lst (cs.map D.int)),some (.int len),some (.int lamps),some (.loc μ.length),some (.loc (μ.length+1)),some (.int c),some (.int a),some (.int b),some (.int (dy c 4 % lamps))],_,?_,X++[sp],ms++[a,b],_,_,_,_,rfl,rfl,by simp![AX,AU,BK];lia,by simp![AX,AU,BK];lia,λx hx=>?_,λs hs=>?_⟩
   ·generalize (ms++[a,b]).map D.int=M2 at *
    simp! only[fLp,gg,k1,k2,p1,p2,Qc,ik,ex,k4,op_mod (show(0:Int)<(lamps:Int)by lia),U7,bt_min,bt_max,es,ap]
   ·rcases BA.mp hx with z | z
    ·exact h3 x z
    ·simp at z;rcases z with rfl | rfl
     ·exact b1
     ·exact b2
   ·rcases BA.mp hs with z | z
    ·exact h4 s z
    ·rw[BF.mp z,hsp]
     have m1:=DV (dy c 4) (show(lamps:Int)≠0 by lia)
     have m2:=DA (dy c 4) (show(0:Int)<lamps by lia)
     exact⟨⟨m1,m2⟩,by dsimp only;lia,by dsimp only;lia,by dsimp only;lia⟩)
 refine⟨X,[.dead,.l (ms.map D.int)],h1,h4,?_⟩
 have e0:mkL .l [] μ=.ok (.loc μ.length) (μ++[.l []]):=Ms rfl
 have e1:mkL .l [.int 0,.int len] (μ++[.l []])=.ok (.loc (μ.length+1)) (μ++[.l [],.l [.int 0,.int len]]):=by
  rw[Ms rfl];simp
 rw[CL,AL,AL,CL]at el
 have ef:∀v5 v6 v7 v8 (ds:List D) (o:O),evE (ao GL (n+1)) (.frz 3) [some (.lst (cs.map D.int)),some (.int len),some (.int lamps),some (.loc μ.length),some (.loc (μ.length+1)),v5,v6,v7,v8] (μ++[.l ds,o])=.ok (.lst ds) (μ++[.dead,o]):=λv5 v6 v7 v8 ds o=>by
  rw[L0 rfl at2,So]
 have ks:∀ν:Sto,kSeq (.lst (cs.map D.int)) ν=.ok (cs.map D.int,none) ν:=λ_=>rfl
 generalize X.map eSpan=XD at *
 generalize ms.map D.int=MD at *
 simp! only[D_law_drawn,e0,e1,ks,el,ef]
end
open PySem
noncomputable def p7(T:List Span)(s:Span):List Span:=if s.start<s.fin/\∀o∈T,¬(o.lamp=s.lamp/\o.fin > s.start)then T++[s]else T
theorem B2:∀(rs acc:List (List Int)),∀r∈rs.foldl (λσ k=>if k∈σ then σ else σ++[k]) acc,r∈acc\/r∈rs
 | [],acc,r,h=>.inl h
 |k::rs,acc,r,h=>by
  rw[EL]at h
  rcases B2 rs _ r h with z | z
  ·split at z
   ·exact .inl z
   ·rcases BA.mp z with y | y
    ·exact .inl y
    ·rw[BF.mp y];exact .inr AN
  ·exact .inr (AI _ z)
theorem xk:∀(rs acc:List (List Int)),(rs.foldl (λσ k=>if k∈σ then σ else σ++[k]) acc).length<=acc.length+rs.length
 | [],acc=>by simp
 |k::rs,acc=>by
  rw[EL]
  refine BQ (xk rs _) ?_
  split
  ·simp![AU];lia
  ·simp![AX,AU,BK];lia
theorem Hr{o s:Span}(h:Lp.lexLt (mx s) (mx o)=false):o.lamp<=s.lamp:=by
 unfold mx at h
 rw[Lp.lexLt]at h
 split at h
 ·lia
 ·have:=of_decide_eq_false h
  lia
theorem Hs{T:List Span}{s:Span}(hT:T.Pairwise Nb)(h1:∀o∈T,o.start<o.fin)(h2:∀o∈T,Lp.lexLt (mx s) (mx o)=false):(p7 T s).Pairwise Nb/\∀o∈p7 T s,o.start<o.fin:=by
 unfold p7
 split
 ·rename_i hc
  refine⟨?_,λo ho=>?_⟩
  ·rw[FK]
   refine⟨hT,List.pairwise_singleton _ _,λo ho x hx=>?_⟩
   rw[BF.mp hx]
   have a1:=Hr (h2 o ho)
   have a2:=h1 o ho
   have a3:=hc.2 o ho
   unfold Nb
   by_cases e:o.lamp=s.lamp
   ·right
    have:¬o.fin > s.start:=λz=>a3 ⟨e,z⟩
    exact⟨e,by lia,by lia⟩
   ·left;lia
  ·rcases BA.mp ho with z | z
   ·exact h1 o z
   ·rw[BF.mp z];exact hc.1
 ·exact⟨hT,h1⟩
section
variable{n:Nat}{μ ρ:Sto}{φ:Phi}{σ:Sl}
theorem tf{α:Type}{mk:Mk}{tg:Tg}{cs:Exs}{elt:Ex}{σ0:Sl}{xs:List α}{en:α->D}{g:α->D}{p:α->Bool}{g0:Gd}(hg:gd g0 μ)(h:∀a∈xs,i8 φ tg cs elt σ0 (en a) μ=.ok (if p a=true then [g a]else []) μ):g6 φ mk tg cs elt σ0 (xs.map en,g0) μ=mkL mk ((xs.filter p).map g) μ:=by
 have e:mapR g0 (i8 φ tg cs elt σ0) (xs.map en) μ=.ok ((xs.filter p).map g) μ:=by
  induction xs with
  |nil=>simp[mapR,hg]
  |cons a r ih =>
   simp![AL,mapR,hg,if_true,h a AN,Res.bg,ih λx hx=>h x (AI _ hx),List.filter_cons]
   split<;>simp
 rw[g6,e];rfl
theorem B3(ss:List Span)(hl:ss.length<60):∃ks:List Span,ks.length<=ss.length/\(∀s∈ks,s∈ss)/\(ks.Pairwise λa b=>Lp.lexLt (mx b) (mx a)=false)/\∀ν:Sto,btD .sortedST .z [.lst (ss.map eSpan)] ν=.ok (.lst (ks.map eSpan)) ν:=by
 have hp:=Srt.gp (y6 (ss.map mx))
 have hm:∀r∈i9 (y6 (ss.map mx)),∃s∈ss,r=mx s:=λr hr=>by
  rcases B2 (ss.map mx) [] r (hp.mem_iff.mp hr)with z | z
  ·cases z
  ·obtain⟨s,hs,e⟩:=BY.mp z
   exact⟨s,hs,e.symm⟩
 refine⟨(i9 (y6 (ss.map mx))).map unS,?_,λs hs=>?_,?_,λν=>?_⟩
 ·have:=xk (ss.map mx) []
  rw[AJ,hp.length_eq]
  unfold y6
  simpa using this
 ·obtain⟨r,hr,rfl⟩:=BY.mp hs
  obtain⟨s,h1,rfl⟩:=hm r hr
  exact h1
 ·rw[FE]
  have up:=Srt.jm (y6 (ss.map mx))
  refine List.Pairwise.imp_of_mem ?_ up
  intro a b ha hb h
  obtain⟨s,_,rfl⟩:=hm a ha
  obtain⟨t,_,rfl⟩:=hm b hb
  exact h
 ·have hne:((ss.map mx).all λr=>!r.isEmpty)=true:=by rw[EZ,AY];intro x _;rfl
  have e:((i9 (y6 (ss.map mx))).map λr=>D.tup (r.map D.int))=((i9 (y6 (ss.map mx))).map unS).map eSpan:=by
   rw[BN]
   refine CT λr hr=>?_
   obtain⟨s,_,rfl⟩:=hm r hr
   rfl
  simp![btD,iy,uc,Lp.listOf,ED,n8,AJ,hl,hne,and_self,if_true,e,ik]
theorem Ea(ss:List Span)(hl:ss.length<60){len:Int}{lamps:Nat}(hI:∀s∈ss,In len lamps s):∃T:List Span,T.length<=ss.length/\T.Pairwise Nb/\(∀s∈T,Good len 0 lamps s)/\ao GL (n+1) fj [.lst (ss.map eSpan)] μ=.ok (.lst (T.map eSpan)) (μ++[.dead]):=by
 rw[au sk,run_eq rfl]
 obtain⟨ks,k1,k2,k3,ek⟩:=B3 ss hl
 have x0:∀(s:Span) (ν:Sto),ixD (eSpan s) (.int 0) ν=.ok (.int s.lamp) ν:=λ_ _=>rfl
 have x1:∀(s:Span) (ν:Sto),ixD (eSpan s) (.int 1) ν=.ok (.int s.start) ν:=λ_ _=>rfl
 have x2:∀(s:Span) (ν:Sto),ixD (eSpan s) (.int 2) ν=.ok (.int s.fin) ν:=λ_ _=>rfl
 obtain⟨σ',μ',el,T,v2,v3,rfl,rfl,h1,h2,h3,h4⟩:=mn (φ:=ao GL n) (μ:=μ++[.l (([]:List Span).map eSpan)]) (tg:=.one 2) (b:=bu) (xs:=ks) (en:=eSpan)
  (σ:=[some (.lst (ss.map eSpan)),some (.loc μ.length),none,none])
  (λj σ μ'=>∃(T:List Span) (v2 v3:Option D),σ=[some (.lst (ss.map eSpan)),some (.loc μ.length),v2,v3]/\μ'=μ++[.l (T.map eSpan)]/\T.length<=j/\T.Pairwise Nb/\(∀t∈T,t.start<t.fin)/\∀t∈T,t∈ks.take j)
  ⟨[],none,none,rfl,rfl,AH _,.nil,(λt ht=>nomatch ht),(λt ht=>nomatch ht)⟩ (by
   rintro j s σ μ' hs ⟨T,v2,v3,rfl,rfl,h1,h2,h3,h4⟩
   have hj:=(AK.mp hs).1
   have hlex:∀o∈T,Lp.lexLt (mx s) (mx o)=false:=λo ho=>by
    obtain⟨i,hi,e⟩:=CS (h4 o ho)
    have hi2:i<j:=by simp at hi;lia
    have e1:ks[i]'(by lia)=o:=by rw[<-e];simp
    have e2:ks[j]=s:=(AK.mp hs).2
    rw[<-e1,<-e2]
    exact(DC.mp k3) i j (by lia) hj hi2
   have nb:=Hs h2 h3 hlex
   have c1:g6 (ao GL n) .z (.one 1) br bt [some (eSpan s),none] (T.map eSpan,some (μ.length,.l (T.map eSpan))) (μ++[.l (T.map eSpan)])=.ok (.lst ((T.filter λo=>decide (o.lamp=s.lamp/\o.fin > s.start)).map eSpan)) (μ++[.l (T.map eSpan)]):=by
    rw[tf (g:=eSpan) (p:=λo:Span=>decide (o.lamp=s.lamp/\o.fin > s.start)) (show gd (some (μ.length,O.l (T.map eSpan))) (μ++[.l (T.map eSpan)])from d8) λo _=>by
     by_cases e1:o.lamp=s.lamp
     ·by_cases e2:o.fin > s.start
      ·simp! only[i8,br,bt,x0,x1,x2,e1,e2,and_self,if_true]
      ·simp! only[i8,br,bt,x0,x1,x2,e1,e2,and_false,if_false,AF]
     ·simp! only[i8,br,bt,x0,x1,x2,e1,false_and,if_false,AF]]
    rw[ik]
   have kq:kSeq (.loc μ.length) (μ++[.l (T.map eSpan)])=.ok (T.map eSpan,some (μ.length,.l (T.map eSpan))) (μ++[.l (T.map eSpan)]):=by simp![kSeq,h7,d8]
   have pm:∀l:List Span,(D.lst (l.map eSpan)).pure=true:=λl=>by
    show((l.map eSpan).all (D.pureN 7))=true
    rw[EZ,AY];exact λx _=>jw x
   have ce:∀ν:Sto,cpD .eq (.lst ((T.filter λo=>decide (o.lamp=s.lamp/\o.fin > s.start)).map eSpan)) (.lst []) ν=.ok (.bl (decide ((T.filter λo=>decide (o.lamp=s.lamp/\o.fin > s.start))=[]))) ν:=λν=>by
    rw[O8 (pm _) rfl]
    generalize T.filter (λo=>decide (o.lamp=s.lamp/\o.fin > s.start))=l
    cases l with
    |nil=>rfl
    |cons a r=>rfl
   have fe:(T.filter λo=>decide (o.lamp=s.lamp/\o.fin > s.start))=[]↔∀o∈T,¬(o.lamp=s.lamp/\o.fin > s.start):=by
    rw[List.filter_eq_nil_iff];simp
   have ap:=Ly (μ:=μ) (ds:=T.map eSpan) (d:=eSpan s) (jw s) (by rw[AJ];lia)
   refine⟨[some (.lst (ss.map eSpan)),some (.loc μ.length),some (eSpan s),some (.lst ((T.filter λo=>decide (o.lamp=s.lamp/\o.fin > s.start)).map eSpan))],μ++[.l ((p7 T s).map eSpan)],?_,p7 T s,_,_,rfl,rfl,?_,nb.1,nb.2,?_⟩
   ·generalize hm:(T.filter λo=>decide (o.lamp=s.lamp/\o.fin > s.start))=M at *
    have ek:p7 T s=if s.start<s.fin/\M=[]then T++[s]else T:=by
     unfold p7
     by_cases q:M=[]
     ·simp![q,and_true,fe.mp q]
      congr 1
      exact propext ⟨λz=>z.1,λz=>⟨z,fe.mp q⟩⟩
     ·rw[if_neg λz=>q (fe.mpr z.2),if_neg λz=>q z.2]
    rw[ek]
    by_cases e1:s.start<s.fin
    ·by_cases e2:M=[]
     ·rw[if_pos ⟨e1,e2⟩,CP,AL,CL]
      have c3:∀ν:Sto,cpD .eq (.lst (M.map eSpan)) (.lst []) ν=.ok (.bl true) ν:=λν=>by rw[ce,decide_eq_true e2]
      simp! only[fLp,bu,kq,c1,x1,x2,e1,ik,c3,Lx,ap]
     ·rw[if_neg λz=>e2 z.2]
      have c3:∀ν:Sto,cpD .eq (.lst (M.map eSpan)) (.lst []) ν=.ok (.bl false) ν:=λν=>by rw[ce,decide_eq_false e2]
      simp! only[fLp,bu,kq,c1,x1,x2,e1,ik,c3]
    ·rw[if_neg λz=>e1 z.1]
     simp! only[fLp,bu,kq,c1,x1,x2,e1]
   ·unfold p7
    split
    ·simp![AX,AU,BK];lia
    ·lia
   ·intro t ht
    rw[GJ,hs]
    unfold p7 at ht
    split at ht
    ·rcases BA.mp ht with z | z
     ·exact DE _ (h4 t z)
     ·rw[BF.mp z];simp
    ·exact DE _ (h4 t ht))
 rw[CL]at el
 have e0:mkL .l [] μ=.ok (.loc μ.length) (μ++[.l []]):=Ms rfl
 refine⟨T,by lia,h2,λs hs=>?_,?_⟩
 ·have i:=hI s (k2 s (List.mem_of_mem_take (h4 s hs)))
  have:=h3 s hs
  exact⟨i.lamp,i.start,this,i.fin⟩
 ·have ef:∀v2 v3 (ds:List D),evE (ao GL n) (.frz 1) [some (.lst (ss.map eSpan)),some (.loc μ.length),v2,v3] (μ++[.l ds])=.ok (.lst ds) (μ++[.dead]):=λv2 v3 ds=>by
   rw[L0 rfl d8,ju]
  have kk:∀ν:Sto,kSeq (.lst (ks.map eSpan)) ν=.ok (ks.map eSpan,none) ν:=λ_=>rfl
  generalize ks.map eSpan=KD at *
  simp! only[D_law_kept_2,e0,ek,kk,el,ef]
end
open PySem
noncomputable def own(ss:List Span)(k:Int):List Span:=ss.filter λs=>decide (s.lamp=k)
theorem Ht(ss:List Span)(k:Int):litN ss k=((own ss k).filter (fresh (own ss k))).length:=by
 have hf:∀s∈ss,s.lamp=k->fresh (own ss k) s=fresh ss s:=λs _ hk=>by
  unfold fresh own
  congr 1
  rw[List.any_filter]
  refine List.any_congr rfl λu=>?_
  by_cases h:u.lamp=s.lamp
  ·simp[h,hk]
  ·simp[h]
 unfold litN
 rw[List.count_eq_countP,List.countP_map,List.countP_filter,<-FN,own,List.countP_filter]
 refine List.countP_congr λs hs=>?_
 simp![Function.comp,AT,beq_iff_eq,decide_eq_true_eq]
 constructor
 ·rintro⟨a,b⟩;exact⟨by have:=hf s hs a;rw[own]at this;rw[this];exact b,a⟩
 ·rintro⟨a,b⟩;exact⟨b,by have:=hf s hs b;rw[own]at this;rw[<-this];exact a⟩
open PySem
section
variable{n:Nat}{μ:Sto}
theorem Eb(i:Int):ao GL (n+1) cu [.int i,.int i] μ=.ok (.bl true) μ:=by
 rw[au n4,run_eq rfl]
 have t1:Cw .tuple (.int i) μ=.ok (.bl false) μ:=rfl
 have t2:cpD .is (.int i) .non μ=.ok (.bl false) μ:=rfl
 have t3:Cw .str (.int i) μ=.ok (.bl false) μ:=rfl
 have t4:Cw .int (.int i) μ=.ok (.bl true) μ:=rfl
 have t5:Cw .bool (.int i) μ=.ok (.bl false) μ:=rfl
 simp! only[D_law_same,t1,t2,t3,t4,t5]
theorem p8(hr:wt μ){xs:List Int}(hx:xs.length<=1000):ao GL (n+2) cu [.tup (xs.map D.int),.tup (xs.map D.int)] μ=.ok (.bl true) μ:=by
 rw[au n4,run_eq rfl]
 have hlen:btD .len .z [.tup (xs.map D.int)] μ=.ok (.int xs.length) μ:=by rw[bt_len si,AJ]
 have t7:Cw .tuple (.tup (xs.map D.int)) μ=.ok (.bl true) μ:=rfl
 obtain⟨σ',e,v2,rfl⟩:=Hm (φ:=ao GL (n+1)) (μ:=μ) (tg:=.one 2) (b:=g8) (xs:=List.range xs.length) (en:=fun(k:Nat)=>D.int k)
  (σ:=[some (.tup (xs.map D.int)),some (.tup (xs.map D.int)),none])
  (λ_ σ=>∃v2,σ=[some (.tup (xs.map D.int)),some (.tup (xs.map D.int)),v2]) ⟨_,rfl⟩ (by
   rintro i k σ hk ⟨v2,rfl⟩
   have hk:k<xs.length:=by have:=EC hk;simpa using this
   have i0:=Lv (μ:=μ) (en:=D.int) (AD hk)
   refine⟨_,?_,some (.int k),rfl⟩
   simp! only[fLp,g8,i0,ax (Eb (n:=n) (μ:=μ) xs[k]) rfl rfl hr])
 simp! only[D_law_same,t7,hlen,jo (show xs.length<=1000000 by lia),e]
end
open PySem
noncomputable def dh(ss:List Span)(k t:Int):Bool:=ss.any λs=>decide (s.lamp=k/\s.start<=t/\t<s.fin)
theorem L4{α:Type}{R:α->α->Prop}{l:List α}(h:l.Pairwise R){a b:α}(ha:a∈l)(hb:b∈l):a=b\/R a b\/R b a:=by
 obtain⟨i,hi,rfl⟩:=CS ha
 obtain⟨j,hj,rfl⟩:=CS hb
 have:=DC.mp h
 rcases GI i j with z | rfl | z
 ·exact .inr (.inl (this i j hi hj z))
 ·exact .inl rfl
 ·exact .inr (.inr (this j i hj hi z))
theorem B4:∀{a b:List Int},a.Pairwise (· < ·)->b.Pairwise (· < ·)->(∀x,x∈a↔x∈b)->a=b
 | [],[],_,_,_=>rfl
 | [],y::b,_,_,h=>by have:=(h y).mpr AN;cases this
 |x::a,[],_,_,h=>by have:=(h x).mp AN;cases this
 |x::a,y::b,ha,hb,h=>by
  rw[BP]at ha hb
  have e:x=y:=by
   rcases AS.mp ((h x).mp AN)with z | z
   ·exact z
   ·rcases AS.mp ((h y).mpr AN)with w | w
    ·exact w.symm
    ·have:=ha.1 y w;have:=hb.1 x z;lia
  subst e
  rw[B4 ha.2 hb.2 λz=>?_]
  constructor
  ·intro hz
   rcases AS.mp ((h z).mp (AI _ hz))with w | w
   ·have:=ha.1 z hz;lia
   ·exact w
  ·intro hz
   rcases AS.mp ((h z).mpr (AI _ hz))with w | w
   ·have:=hb.1 z hz;lia
   ·exact w
theorem B5{ss:List Span}{L:Int}{lamps:Int}(hN:ss.Pairwise Nb)(hG:∀s∈ss,Good L 0 lamps s){k:Int}{s:Span}(hs:s∈own ss k):fresh (own ss k) s=(decide (s.start=0) || !(dh ss k (s.start-1))):=by
 have m:∀u,u∈own ss k↔u∈ss/\u.lamp=k:=λu=>by unfold own;simp
 obtain⟨h1,h2⟩:=(m s).mp hs
 have g:=hG s h1
 rw[HM]
 unfold fresh dh
 simp![Bool.not_eq_true',List.any_eq_false,decide_eq_true_eq,Bool.or_eq_true,m]
 constructor
 ·intro h
  by_cases e:s.start=0
  ·exact .inl e
  ·right
   rintro u hu ⟨a,b,c⟩
   have q:=h u ⟨hu,a⟩
   have gu:=hG u hu
   have:=gu.run
   have:=g.run
   rcases L4 hN hu h1 with z | z | z
   ·subst z;lia
   ·unfold Nb at z
    exact q ⟨by lia,by lia⟩
   ·unfold Nb at z;lia
 ·rintro(h | h) u ⟨hu,a⟩ ⟨b,c⟩
  ·have:=(hG u hu).run;have:=(hG u hu).start;lia
  ·have:=(hG u hu).run
   exact h u hu ⟨a,by lia,by lia⟩
theorem Ec{ss:List Span}{L:Int}{lamps:Nat}(hN:ss.Pairwise Nb)(hG:∀s∈ss,Good L 0 lamps s)(t:Int):(ss.filter λs=>decide (s.start<=t/\t<s.fin)).map (·.lamp)=((List.range lamps).filter λk=>dh ss (k:Nat) t).map fun(k:Nat)=>(k:Int):=by
 refine B4 ?_ ?_ λx=>?_
 ·rw[FE,List.pairwise_filter]
  refine hN.imp ?_
  intro a b h h1 h2
  rw[decide_eq_true_eq]at h1 h2
  unfold Nb at h
  lia
 ·rw[FE]
  refine List.Pairwise.sublist List.filter_sublist ?_
  exact HD.imp λh=>by lia
 ·simp![BY,HF,decide_eq_true_eq,CZ,dh,EE]
  constructor
  ·rintro⟨s,⟨h1,h2⟩,rfl⟩
   have:=(hG s h1).lamp
   exact⟨s.lamp.toNat,⟨by lia,s,h1,by lia,h2⟩,by lia⟩
  ·rintro⟨k,⟨h1,s,h2,h3,h4⟩,rfl⟩
   exact⟨s,⟨h2,h4⟩,h3⟩
section
variable{n:Nat}{μ ρ:Sto}{φ:Phi}{σ:Sl}
theorem tj(ss:List Span)(k t:Int):ao GL (n+1) cz [.lst (ss.map eSpan),.int k,.int t] μ=.ok (.bl (dh ss k t)) μ:=by
 rw[au p5,run_eq rfl]
 have c1:g6 (ao GL n) .z (.one 2) a7 a8 [some (.int k),some (.int t),none] (ss.map eSpan,none) μ=.ok (.lst ((ss.filter λs=>decide (s.lamp=k/\s.start<=t/\t<s.fin)).map eSpan)) μ:=by
  rw[cc (g:=eSpan) (p:=λs:Span=>decide (s.lamp=k/\s.start<=t/\t<s.fin)) λs _=>by
   by_cases e1:s.lamp=k
   ·by_cases e2:s.start<=t
    ·by_cases e3:t<s.fin
     ·simp! only[i8,a7,a8,sv,p6,vd,e1,e2,e3,and_self,if_true]
     ·simp! only[i8,a7,a8,sv,p6,vd,e1,e2,e3,and_false,if_false,AF]
    ·simp! only[i8,a7,a8,sv,p6,vd,e1,e2,and_false,false_and,if_false,AF]
   ·simp! only[i8,a7,a8,sv,p6,vd,e1,false_and,if_false,AF]]
  rw[ik]
 have e:decide ((0:Int)<((ss.filter λs=>decide (s.lamp=k/\s.start<=t/\t<s.fin)).length:Int))=dh ss k t:=by
  rw[HM,decide_eq_true_eq]
  unfold dh
  rw[<-FN,EE,Int.natCast_pos,List.countP_pos_iff]
 have ks:kSeq (.lst (ss.map eSpan)) μ=.ok (ss.map eSpan,none) μ:=rfl
 generalize ss.map eSpan=SD at *
 simp! only[D_law_burns_2,ks,c1,bt_len a9,AJ,e]
theorem B6(hr:wt μ){ss:List Span}{L:Int}{lamps:Int}(hN:ss.Pairwise Nb)(hG:∀s∈ss,Good L 0 lamps s)(k:Int):ao GL (n+2) jr [.lst (ss.map eSpan),.int k] μ=.ok (.int (litN ss k)) μ:=by
 rw[au Bo,run_eq rfl]
 have c1:g6 (ao GL (n+1)) .z (.one 1) fk fm [some (.int k),none] (ss.map eSpan,none) μ=.ok (.lst (((own ss k).map (·.start)).map D.int)) μ:=by
  rw[cc (g:=λs:Span=>D.int s.start) (p:=λs:Span=>decide (s.lamp=k)) λs _=>by
   by_cases e1:s.lamp=k
   ·simp! only[i8,fk,fm,sv,p6,e1,if_true]
   ·simp! only[i8,fk,fm,sv,p6,e1,if_false,AF]]
  rw[ik,BN];rfl
 have c2:g6 (ao GL (n+1)) .z (.one 2) da de [some (.lst (ss.map eSpan)),some (.int k),none] (((own ss k).map (·.start)).map D.int,none) μ=.ok (.lst ((((own ss k).map (·.start)).filter λx=>decide (x=0) || !(dh ss k (x-1))).map D.int)) μ:=by
  rw[cc (g:=D.int) (p:=λx=>decide (x=0) || !(dh ss k (x-1))) λx _=>by
   have kb:=ax (tj (n:=n) (μ:=μ) ss k (x-1)) rfl rfl hr
   generalize ss.map eSpan=SD at *
   generalize dh ss k (x-1)=bb at *
   by_cases e1:x=0
   ·simp! only[i8,da,de,e1,Bool.true_or,if_true]
   ·cases bb
    ·simp! only[i8,da,de,e1,kb,Bool.or_true,if_true]
    ·simp! only[i8,da,de,e1,kb,HY,if_false,AF]]
  rw[ik]
 have e:(((own ss k).map (·.start)).filter λx=>decide (x=0) || !(dh ss k (x-1))).length=litN ss k:=by
  rw[Ht,List.filter_map,AJ]
  congr 1
  refine List.filter_congr λs hs=>?_
  rw[B5 hN hG hs];rfl
 have ks:kSeq (.lst (ss.map eSpan)) μ=.ok (ss.map eSpan,none) μ:=rfl
 have ks2:kSeq (.lst (((own ss k).map (·.start)).map D.int)) μ=.ok (((own ss k).map (·.start)).map D.int,none) μ:=rfl
 generalize ss.map eSpan=SD at *
 generalize ((own ss k).map (·.start)).map D.int=OD at *
 simp! only[D_law_lit,ks,c1,ks2,c2,bt_len a9,AJ,e]
end
open PySem
section
variable{n:Nat}{μ ρ:Sto}{φ:Phi}{σ:Sl}
theorem L5{α:Type}{tg:Tg}{b:Sms}{xs:List α}{en:α->D}{g:Gd}(hg:gd g μ)(I:Sl->Prop)(h0:I σ)(st:∀a∈xs,∀σ,I σ->∃σ',fLp φ tg b (en a) σ μ=.ok (.nx σ') μ/\I σ') :
  ∃σ',D0 φ tg b σ (xs.map en,g) μ=.ok (.nx σ') μ/\I σ':=by
 show ∃σ',ic g (fLp φ tg b) (xs.map en) σ μ=.ok (.nx σ') μ/\I σ'
 induction xs generalizing σ with
 |nil=>exact⟨σ,by simp[ic,hg],h0⟩
 |cons a r ih =>
  obtain⟨σ1,e1,i1⟩:=st a AN σ h0
  obtain⟨σ2,e2,i2⟩:=ih i1 λx hx=>st x (AI _ hx)
  exact⟨σ2,by simp![AL,ic,hg,if_true,e1,Res.bg,e2],i2⟩
end
open PySem
theorem B7(ss:List Span)(k:Int):((own ss k).map λs=>s.fin-s.start).sum=bx ss k:=by
 unfold own bx
 induction ss with
 |nil=>rfl
 |cons s r ih =>
  rw[List.filter_cons,AL,List.sum_cons]
  by_cases h:s.lamp=k
  ·simp![h,decide_true,if_true,AL,List.sum_cons,ih]
  ·simp![h,decide_false,AF,if_false,ih];lia
section
variable{n:Nat}{μ ρ:Sto}{φ:Phi}{σ:Sl}
theorem Qd(ns:List Int)(hn:ns.length<=63):∃μ',ao GL 6 mm [.lst (ns.map D.int)] []=.ok (.bl true) μ':=by
 rw[au Bp,run_eq rfl]
 have hr:wt []:=rfl
 have c0:mj (ao GL 5) false c6 [.lst (ns.map D.int),.int 0] []=_:=ax (Bs (n:=4) (μ:=[]) ns 0) rfl rfl hr
 have c1:mj (ao GL 5) false c6 [.lst (ns.map D.int),.int 1] []=_:=ax (Bs (n:=4) (μ:=[]) ns 1) rfl rfl hr
 have hl:=ax (Bu (n:=3) hr (ns.getD 0 0)) rfl rfl hr
 have hL:=y0 (ns.getD 0 0)
 generalize ir (ns.getD 0 0)=L at hl hL
 have hs:=ax (mq (n:=4) (μ:=[]) (ns.getD 1 0) 0) rfl rfl hr
 generalize dy (ns.getD 1 0) 0=h at hs
 obtain⟨lamps,el,h1,h8⟩:∃lamps:Nat,1+h % 8=(lamps:Int)/\1<=lamps/\lamps<=8:=⟨(1+h % 8).toNat,by lia,by lia,by lia⟩
 have scut:slD .z (.lst (ns.map D.int)) (some 2) (some 26) []=.ok (.lst (((ns.drop 2).take 24).map D.int)) []:=by
  show mkL .z (cut (ns.map D.int) (some 2) (some 26)) []=_
  have:cut (ns.map D.int) (some 2) (some 26)=((ns.drop 2).take 24).map D.int:=by
   unfold cut sIx
   simp![AJ,show ¬(2:Int)<0 by decide,show ¬(26:Int)<0 by decide,if_false,List.map_take,List.map_drop]
   by_cases q:ns.length<=2
   ·rw[HE (by rw[AJ];simp;lia),HE (by rw[AJ];lia)];simp
   ·have e2:min (2:Int).toNat ns.length=2:=by simp;lia
    rw[e2,List.take_eq_take_iff]
    simp;lia
  rw[this];rfl
 obtain⟨ss,ρ1,q1,q2,ed⟩:=D9 (n:=3) (μ:=[]) hr ((ns.drop 2).take 24) (by simp;lia) (len:=L) (by lia) h1
 have ql:ss.length<=24:=by
  have:((ns.drop 2).take 24).length<=24:=by simp;lia
  lia
 have psp:∀l:List Span,(D.lst (l.map eSpan)).pure=true:=λl=>by
  show((l.map eSpan).all (D.pureN 7))=true
  rw[EZ,AY];exact λx _=>jw x
 have kd:=i5 ed (psp _) hr
 obtain⟨T,t1,hN,hG,ek⟩:=Ea (n:=4) (μ:=[]) ss (by lia) q2
 have kk:=i5 ek (psp _) hr
 have hT:T.length<=24:=by lia
 have kt:g6 (ao GL 5) .z (.one 1) .nil il [some (.lst (T.map eSpan)),none] ((List.range lamps).map fun(k:Nat)=>D.int k,none) []=.ok (.lst (((List.range lamps).map fun(k:Nat)=>bx T k).map D.int)) []:=by
  rw[comp_map (en:=fun(k:Nat)=>D.int k) (g:=fun(k:Nat)=>D.int (bx T k)) λk _=>by
   have ci:g6 (ao GL 5) .z (.one 1) fo ft [some (.int (k:Nat)),none] (T.map eSpan,none) []=.ok (.lst (((own T k).map λs=>s.fin-s.start).map D.int)) []:=by
    rw[cc (g:=λs:Span=>D.int (s.fin-s.start)) (p:=λs:Span=>decide (s.lamp=(k:Nat))) λs _=>by
     by_cases e1:s.lamp=(k:Nat)
     ·simp! only[i8,fo,ft,sv,p6,vd,e1,if_true]
     ·simp! only[i8,fo,ft,sv,p6,vd,e1,if_false,AF]]
    rw[ik,BN];rfl
   have ks:kSeq (.lst (T.map eSpan)) []=.ok (T.map eSpan,none) []:=rfl
   have sm:=bt_sum (m:=.z) (μ:=[]) (x:=.lst (((own T k).map λs=>s.fin-s.start).map D.int)) a9 (Bj _)
   rw[B7]at sm
   generalize T.map eSpan=TD at *
   generalize ((own T k).map λs=>s.fin-s.start).map D.int=OD at *
   simp! only[i8,il,ks,ci,sm]]
  rw[ik,BN];rfl
 obtain⟨ρ2,e2⟩:=y3 (n:=3) (μ:=[]) lamps T (by lia) (by lia)
 have k2:mj (ao GL 5) false i4 [.int lamps,.tup (T.map eSpan)] []=.ok (cj ((List.range lamps).map fun(k:Nat)=>bx T k)) []:=by
  refine ax ?_ (jt _) rfl hr
  rw[au yy,run_eq rfl]
  have kx:=i5 e2 (jt _) hr
  generalize T.map eSpan=TD at *
  simp! only[D_ticks_in,kx]
 have s2:=ax (p8 (n:=3) (μ:=[]) hr (xs:=(List.range lamps).map fun(k:Nat)=>bx T k) (by simp;lia)) rfl rfl hr
 obtain⟨ρ3,e3⟩:=L3 (n:=4) (μ:=[]) lamps T (by lia) (by lia)
 have k3:=i5 e3 (jt _) hr
 have kl:g6 (ao GL 5) .z (.one 1) .nil ip [some (.lst (T.map eSpan)),none] ((List.range lamps).map fun(k:Nat)=>D.int k,none) []=.ok (.lst (((List.range lamps).map fun(k:Nat)=>((litN T k:Nat):Int)).map D.int)) []:=by
  rw[comp_map (en:=fun(k:Nat)=>D.int k) (g:=fun(k:Nat)=>D.int ((litN T k:Nat):Int)) λk _=>by
   have kx:=ax (B6 (n:=3) (μ:=[]) hr hN hG k) rfl rfl hr
   generalize T.map eSpan=TD at *
   simp! only[i8,ip,kx]]
  rw[ik,BN];rfl
 have s3:=ax (p8 (n:=3) (μ:=[]) hr (xs:=(List.range lamps).map fun(k:Nat)=>((litN T k:Nat):Int)) (by simp;lia)) rfl rfl hr
 have m8:opI .Mod h 8 []=.ok (.int (h % 8)) []:=op_mod (by decide)
 have mL:opI .Mod h L []=.ok (.int (h % L)) []:=op_mod (by lia)
 generalize eq1:((List.range lamps).map fun(k:Nat)=>bx T k)=TK at *
 generalize eq2:((List.range lamps).map fun(k:Nat)=>((litN T k:Nat):Int))=LK at *
 have m0:∀(x y z:Int),mkL .l [.int x,.int y,.int z] []=.ok (.loc 0) [.l ([x,y,z].map D.int)]:=λx y z=>Ms rfl
 obtain⟨σ2,μ2,l2,ms,⟨v7,rfl⟩,rfl,hms⟩:=mn (φ:=ao GL 5) (μ:=[.l ([0,L-1,h % L].map D.int)]) (tg:=.one 7) (b:=iq) (xs:=T) (en:=eSpan)
  (σ:=[some (.lst (ns.map D.int)),some (.int L),some (.int h),some (.int lamps),some (.lst (T.map eSpan)),some (cj TK),some (.loc 0),none,none,none])
  (λj σ μ'=>∃ms:List Int,(∃v7,σ=[some (.lst (ns.map D.int)),some (.int L),some (.int h),some (.int lamps),some (.lst (T.map eSpan)),some (cj TK),some (.loc 0),v7,none,none])/\μ'=[.l (ms.map D.int)]/\ms.length<=3+4*j)
  ⟨[0,L-1,h % L],⟨none,rfl⟩,rfl,by simp⟩ (by
   rintro j s σ μ' hs ⟨ms,⟨v7,rfl⟩,rfl,hm⟩
   have hj:j<T.length:=(AK.mp hs).1
   have ex:=Fd (μ:=[]) (ds:=ms.map D.int) (ys:=[s.start-1,s.start,s.fin-1,s.fin].map D.int) rfl (by simp;lia)
   rw[<-CP]at ex
   have ex':mtD .extend (.loc 0) [.lst [D.int (s.start-1),.int s.start,.int (s.fin-1),.int s.fin]] [.l (ms.map D.int)]=.ok .non [.l ((ms++[s.start-1,s.start,s.fin-1,s.fin]).map D.int)]:=ex
   have km:∀(es:Exs) (σ:Sl) (X:List D),kM (ao GL 5) .extend es σ (.loc 0) [.l X]=(c5 (ao GL 5) es σ [.l X]).bind (mtD .extend (.loc 0)):=λes σ X=>Lz (μ:=[])
   refine⟨[some (.lst (ns.map D.int)),some (.int L),some (.int h),some (.int lamps),some (.lst (T.map eSpan)),some (cj TK),some (.loc 0),some (eSpan s),none,none],[.l ((ms++[s.start-1,s.start,s.fin-1,s.fin]).map D.int)],?_,ms++[s.start-1,s.start,s.fin-1,s.fin],⟨_,rfl⟩,rfl,by simp;lia⟩
   generalize (ms++[s.start-1,s.start,s.fin-1,s.fin]).map D.int=M2 at *
   generalize ms.map D.int=MD at *
   generalize T.map eSpan=TD at *
   simp! only[fLp,iq,km,p6,vd,ik,ex'])
 have hS2:wt [.l (ms.map D.int)]:=Bv hr (ms.map D.int)
 simp![AL,CL]at l2 m0
 have hgd:gd (some (0,O.l (ms.map D.int))) [.l (ms.map D.int)]:=rfl
 obtain⟨σ3,l3,v8,v9,rfl⟩:=L5 (φ:=ao GL 5) (μ:=[.l (ms.map D.int)]) (tg:=.one 8) (b:=dg) (xs:=ms) (en:=D.int) hgd
  (σ:=[some (.lst (ns.map D.int)),some (.int L),some (.int h),some (.int lamps),some (.lst (T.map eSpan)),some (cj TK),some (.loc 0),v7,none,none])
  (λσ=>∃v8 v9,σ=[some (.lst (ns.map D.int)),some (.int L),some (.int h),some (.int lamps),some (.lst (T.map eSpan)),some (cj TK),some (.loc 0),v7,v8,v9]) ⟨none,none,rfl⟩ (by
   rintro t ht σ ⟨v8,v9,rfl⟩
   by_cases a:0<=t
   ·by_cases b:t<L
    ·have kb:=ax (y4 (n:=4) (μ:=[.l (ms.map D.int)]) T t) (jt _) rfl hS2
     rw[Ec hN hG t]at kb
     have cb:g6 (ao GL 5) .z (.one 2) fu fw [some (.lst (T.map eSpan)),some (.int t),none] ((List.range lamps).map fun(k:Nat)=>D.int k,none) [.l (ms.map D.int)]=.ok (.lst ((((List.range lamps).filter λk=>dh T (k:Nat) t).map fun(k:Nat)=>(k:Int)).map D.int)) [.l (ms.map D.int)]:=by
      rw[cc (en:=fun(k:Nat)=>D.int k) (g:=fun(k:Nat)=>D.int k) (p:=λk=>dh T (k:Nat) t) λk _=>by
       have kx:=ax (tj (n:=4) (μ:=[.l (ms.map D.int)]) T k t) rfl rfl hS2
       generalize T.map eSpan=TD at *
       generalize ms.map D.int=MD at *
       cases hb:dh T (k:Nat) t with
       |true=>rw[hb]at kx;simp! only[i8,fu,fw,kx,if_true]
       |false=>rw[hb]at kx;simp! only[i8,fu,fw,kx,if_false,AF]]
      rw[ik,BN];rfl
     have sx:=ax (p8 (n:=3) (μ:=[.l (ms.map D.int)]) hS2 (xs:=((List.range lamps).filter λk=>dh T (k:Nat) t).map fun(k:Nat)=>(k:Int)) (by
      have:=List.length_filter_le (λk=>dh T (k:Nat) t) (List.range lamps)
      rw[GH]at this
      rw[AJ];lia)) rfl rfl hS2
     generalize (((List.range lamps).filter λk=>dh T (k:Nat) t).map fun(k:Nat)=>(k:Int))=XS at *
     refine⟨[some (.lst (ns.map D.int)),some (.int L),some (.int h),some (.int lamps),some (.lst (T.map eSpan)),some (cj TK),some (.loc 0),v7,some (.int t),some (cj XS)],?_,_,_,rfl⟩
     have tt:∀ν:Sto,btD .tuple .z [.lst (T.map eSpan)] ν=.ok (.tup (T.map eSpan)) ν:=λν=>bt_tuple a9
     have tx:∀ν:Sto,btD .tuple .z [.lst (XS.map D.int)] ν=.ok (cj XS) ν:=λν=>bt_tuple a9
     change mj _ _ _ [cj XS,cj XS] _=_ at sx
     generalize cj XS=XE at *
     generalize XS.map D.int=XD at *
     generalize T.map eSpan=TD at *
     generalize ms.map D.int=MD at *
     simp! only[fLp,dg,a,b,jo (show lamps<=1000000 by lia),cb,tx,tt,kb,sx]
    ·refine⟨[some (.lst (ns.map D.int)),some (.int L),some (.int h),some (.int lamps),some (.lst (T.map eSpan)),some (cj TK),some (.loc 0),v7,some (.int t),v9],?_,_,_,rfl⟩
     generalize T.map eSpan=TD at *
     generalize ms.map D.int=MD at *
     simp! only[fLp,dg,a,b]
   ·refine⟨[some (.lst (ns.map D.int)),some (.int L),some (.int h),some (.int lamps),some (.lst (T.map eSpan)),some (cj TK),some (.loc 0),v7,some (.int t),v9],?_,_,_,rfl⟩
    generalize T.map eSpan=TD at *
    generalize ms.map D.int=MD at *
    simp! only[fLp,dg,a])
 have ks:kSeq (.loc 0) [.l (ms.map D.int)]=.ok (ms.map D.int,some (0,O.l (ms.map D.int))) [.l (ms.map D.int)]:=rfl
 have kT:∀ν:Sto,kSeq (.lst (T.map eSpan)) ν=.ok (T.map eSpan,none) ν:=λν=>rfl
 have tt:∀ν:Sto,btD .tuple .z [.lst (T.map eSpan)] ν=.ok (.tup (T.map eSpan)) ν:=λν=>bt_tuple a9
 have tk:∀ν:Sto,btD .tuple .z [.lst (TK.map D.int)] ν=.ok (cj TK) ν:=λν=>bt_tuple a9
 have tl:∀ν:Sto,btD .tuple .z [.lst (LK.map D.int)] ν=.ok (cj LK) ν:=λν=>bt_tuple a9
 change mj _ _ _ [cj TK,cj TK] _=_ at s2
 change mj _ _ _ [cj LK,cj LK] _=_ at s3
 refine⟨[.l (ms.map D.int)],?_⟩
 generalize cj TK=TE at *
 generalize cj LK=LE at *
 generalize TK.map D.int=TKD at *
 generalize LK.map D.int=LKD at *
 generalize T.map eSpan=TD at *
 generalize ms.map D.int=MD at *
 simp! only[D_law_k16,c0,c1,hl,hs,m8,el,scut,kd,kk,jo (show lamps<=1000000 by lia),kt,tk,tt,k2,s2,k3,kl,tl,s3,mL,m0,kT,l2,ks,l3]
end
end Lr
namespace Lp.Law
open PySem PySem.Spec PyProof.Rows L2 Lp
noncomputable def top(i:Nat):Stmt:=PySem.Challenge.pw_lamprota_k16_ticks_and_lamps_lit.main.body.getD i (.Pass ⟨0,0,0,0⟩)
noncomputable def e0:Ent:=⟨bf,"ticks_of_spans",top 1,["lamps","spans","ticks","lamp","start","end"],["lamps","spans"],D_ticks_of_spans⟩
noncomputable def e1:Ent:=⟨i4,"ticks_in",top 3,["lamps","spans"],["lamps","spans"],D_ticks_in⟩
noncomputable def e2:Ent:=⟨D2,"lit",top 4,["lamps","spans","ends","lamp","start","end","lightings"],["lamps","spans"],D_lit⟩
noncomputable def e3:Ent:=⟨jq,"burning",top 5,["spans","tick"],["spans","tick"],D_burning⟩
noncomputable def e4:Ent:=⟨c6,"_law_cell",top 7,["script","k"],["script","k"],D_law_cell⟩
noncomputable def e5:Ent:=⟨cq,"_law_stir",top 8,["cell","k","near"],["cell","k"],D_law_stir⟩
noncomputable def e6:Ent:=⟨cu,"_law_same",top 9,["found","due","k"],["found","due"],D_law_same⟩
noncomputable def e7:Ent:=⟨fi,"_law_length",top 10,["cell","size"],["cell"],D_law_length⟩
noncomputable def e8:Ent:=⟨d7,"_law_place",top 11,["turn","length","marks"],["turn","length","marks"],D_law_place⟩
noncomputable def e9:Ent:=⟨g7,"_law_drawn",top 12,["cells","length","lamps","spans","marks","cell","start","end","lamp"],["cells","length","lamps"],D_law_drawn⟩
noncomputable def e10:Ent:=⟨fj,"_law_kept",top 13,["spans","kept","span","met"],["spans"],D_law_kept_2⟩
noncomputable def e11:Ent:=⟨cz,"_law_burns",top 14,["spans","lamp","tick"],["spans","lamp","tick"],D_law_burns_2⟩
noncomputable def e12:Ent:=⟨jr,"_law_lit",top 15,["spans","lamp","starts"],["spans","lamp"],D_law_lit⟩
noncomputable def e13:Ent:=⟨mm,"law",top 16,["script","length","head","lamps","spans","ticks","marks","span","tick","due"],["script"],D_law_k16⟩
noncomputable def ents:List Ent:=[e0,e1,e2,e3,e4,e5,e6,e7,e8,e9,e10,e11,e12,e13]
noncomputable def vf:List Str:=["range","tuple","len","isinstance","str","int","bool","max","min","sorted","set","sum"]
theorem arS{k:Nat}{Q:List Value->Prop}(h:∀a us,us.length=k->Q (a::us)):∀us:List Value,us.length=k+1->Q us
 | [],e=>nomatch e
 |a::us,e=>h a us (Nat.succ.inj e)
theorem ar0{Q:List Value->Prop}(h:∀(_:Unit),Q []):∀us:List Value,us.length=0->Q us
 | [],_=>h ()
theorem ar1{Q:List Value->Prop}(h:∀(a0:Value),Q [a0]):∀us:List Value,us.length=1->Q us:=arS λa0=>ar0 (Q:=λus=>Q (a0::us)) (λ_=>h a0)
theorem ar2{Q:List Value->Prop}(h:∀(a0 a1:Value),Q [a0,a1]):∀us:List Value,us.length=2->Q us:=arS λa0=>ar1 (Q:=λus=>Q (a0::us)) (h a0)
theorem ar3{Q:List Value->Prop}(h:∀(a0 a1 a2:Value),Q [a0,a1,a2]):∀us:List Value,us.length=3->Q us:=arS λa0=>ar2 (Q:=λus=>Q (a0::us)) (h a0)
section
variable{P:Program}{w:World}{K:PySem.W.Frag}{mg:Str -> Option Value}{base:Heap}
theorem dv0(B:∀(j:Nat) x,vf[j]? = some x->mg x=none):Derived GL P w K mg base ents e0:=dmk λn fa cdv A outer s H E hu C =>
 (bh (gx 2 (Ey false)) (bh (uo (gn (aa 1)) (vw (dk 3 (dk 4 (dk 5 vv)))) (bh (K6 hu (aa 2) (aa 3) (az (az (Ax hu (aa 2) (aa 3) ah) (aa 5)) (aa 4))) dw)) (bh (c7 (cy (B 1 _ rfl) (ae (i6 ["ticks","lamp"] (nr (B 0 _ rfl) (aa 0)) (λ_ _ _ _=>⟨(bz 1),dm,(Ax hu (aa 0) (aa 1) ah)⟩)) aj))) dw)))
theorem dv1(B:∀(j:Nat) x,vf[j]? = some x->mg x=none):Derived GL P w K mg base ents e1:=dmk λn fa cdv A outer s H E hu C =>
 (bh (c7 (bq (C 0 _ rfl) (ae (aa 0) (ae (aa 1) aj)))) dw)
theorem dv2(B:∀(j:Nat) x,vf[j]? = some x->mg x=none):Derived GL P w K mg base ents e2:=dmk λn fa cdv A outer s H E hu C =>
 (bh (gx 2 (Ey true)) (bh (uo (gn (aa 1)) (vw (dk 3 (dk 4 (dk 5 vv)))) (bh (G7 hu (aa 2) (ae (aa 3) (ae (aa 5) aj)) Et) dw)) (bh (gx 6 (i6 ["ends","lamp","start","end"] (gn (aa 1)) (λ_ _ _ _=>⟨(vw (dk 1 (dk 2 (dk 3 vv)))),(ff (G6 hu (ae (aa 1) (ae (aa 2) aj)) (aa 0)) dm),(aa 1)⟩))) (bh (c7 (cy (B 1 _ rfl) (ae (i6 ["lightings","lamp"] (nr (B 0 _ rfl) (aa 0)) (λ_ _ _ _=>⟨(bz 1),dm,(uq (aa 0) (ae (aa 1) aj))⟩)) aj))) dw))))
theorem dv3(B:∀(j:Nat) x,vf[j]? = some x->mg x=none):Derived GL P w K mg base ents e3:=dmk λn fa cdv A outer s H E hu C =>
 (bh (c7 (cy (B 1 _ rfl) (ae (i6 ["tick","lamp","start","end"] (gn (aa 0)) (λ_ _ _ _=>⟨(vw (dk 1 (dk 2 (dk 3 vv)))),(ff (cm (aa 2) (Tw hu .le (aa 0) (gk hu .lt (aa 3)))) dm),(aa 1)⟩)) aj))) dw)
theorem dv4(B:∀(j:Nat) x,vf[j]? = some x->mg x=none):Derived GL P w K mg base ents e4:=dmk λn fa cdv A outer s H E hu C =>
 (bh (vx (cm (aa 1) (gk hu .lt (ie (B 2 _ rfl) (ae (aa 0) aj)))) (bh (c7 (l5 (aa 0) (aa 1))) dw) dw) (bh (c7 ah) dw))
theorem dv5(B:∀(j:Nat) x,vf[j]? = some x->mg x=none):Derived GL P w K mg base ents e5:=dmk λn fa cdv A outer s H E hu C =>
 (bh (gx 2 (az (az (az (aa 0) (az ah (aa 1))) ah) ah)) (bh (gx 2 (az (az (aa 2) (aa 2)) ah)) (bh (c7 (az (az (az (aa 2) ah) ah) ah)) dw)))
theorem dv6(B:∀(j:Nat) x,vf[j]? = some x->mg x=none):Derived GL P w K mg base ents e6:=dmk λn fa cdv A outer s H E hu C =>
 (bh (vx (gw (Av (aa 1) (B 3 _ rfl) (B 1 _ rfl))) (bh (vx (G3 (G2 (nq (gw (Av (aa 0) (B 3 _ rfl) (B 1 _ rfl)))) (Ar (cm (ie (B 2 _ rfl) (ae (aa 0) aj)) (gk hu .ne (ie (B 2 _ rfl) (ae (aa 1) aj))))))) (bh (c7 Et) dw) dw) (bh (uo (nr (B 0 _ rfl) (ie (B 2 _ rfl) (ae (aa 1) aj))) (bz 2) (bh (vx (nq (gw (bq (C 6 _ rfl) (ae (l5 (aa 0) (aa 2)) (ae (l5 (aa 1) (aa 2)) aj))))) (bh (c7 Et) dw) dw) dw)) (bh (c7 Et) dw))) dw) (bh (vx (G3 (G2 (cm (aa 1) (gk hu .is Oh)) (Ar (gw (Av (aa 1) (B 3 _ rfl) (B 4 _ rfl)))))) (bh (c7 (G1 (aa 0) (G0 hu .eq (aa 1)))) dw) dw) (bh (c7 (K3 (Av (aa 0) (B 3 _ rfl) (B 5 _ rfl)) (K3 (Oi (Av (aa 0) (B 3 _ rfl) (B 6 _ rfl))) (K4 (G1 (aa 0) (G0 hu .eq (aa 1))))))) dw)))
theorem dv7(B:∀(j:Nat) x,vf[j]? = some x->mg x=none):Derived GL P w K mg base ents e7:=dmk λn fa cdv A outer s H E hu C =>
 (bh (gx 1 (bq (C 5 _ rfl) (ae (aa 0) (ae ah aj)))) (bh (vx (cm (az (aa 1) ah) (gk hu .eq ah)) (bh (c7 (az (az ah ah) (az (az (aa 1) ah) ah))) dw) dw) (bh (vx (cm (az (aa 1) ah) (gk hu .eq ah)) (bh (c7 (az ah (az (aa 0) (az ah ah)))) dw) dw) (bh (c7 (az ah (az (az (aa 1) ah) ah))) dw))))
theorem dv8(B:∀(j:Nat) x,vf[j]? = some x->mg x=none):Derived GL P w K mg base ents e8:=dmk λn fa cdv A outer s H E hu C =>
 (bh (vx (cm (az (aa 0) ah) (gk hu .eq ah)) (bh (c7 (l5 (aa 2) (az (az (aa 0) ah) (ie (B 2 _ rfl) (ae (aa 2) aj))))) dw) dw) (bh (vx (cm (az (aa 0) ah) (gk hu .eq ah)) (bh (c7 (az (az (aa 0) ah) (az (aa 1) ah))) dw) dw) (bh (c7 (As (B 8 _ rfl) (ae (aa 1) (ae (Au (B 7 _ rfl) (ae ah (ae (az (az (l5 (aa 2) (az (az (aa 0) ah) (ie (B 2 _ rfl) (ae (aa 2) aj)))) (az (az (aa 0) ah) ah)) ah) aj))) aj)))) dw)))
theorem dv9(B:∀(j:Nat) x,vf[j]? = some x->mg x=none):Derived GL P w K mg base ents e9:=dmk λn fa cdv A outer s H E hu C =>
 (bh (gx 3 (um aj)) (bh (gx 4 (um (ae ah (ae (aa 1) aj)))) (bh (uo (gn (aa 0)) (bz 5) (bh (gx 6 (bq (C 8 _ rfl) (ae (bq (C 5 _ rfl) (ae (aa 5) (ae ah aj))) (ae (aa 1) (ae (aa 4) aj))))) (bh (gx 7 (bq (C 8 _ rfl) (ae (bq (C 5 _ rfl) (ae (aa 5) (ae ah aj))) (ae (aa 1) (ae (aa 4) aj))))) (bh (Md (l8 (aa 4) (ae (um (ae (aa 6) (ae (aa 7) aj))) aj))) (bh (gx 8 (az (bq (C 5 _ rfl) (ae (aa 5) (ae ah aj))) (aa 2))) (bh (Md (l7 (aa 3) (ae (Oj (ae (aa 8) (ae (As (B 8 _ rfl) (ae (aa 6) (ae (aa 7) aj))) (ae (Au (B 7 _ rfl) (ae (aa 6) (ae (aa 7) aj))) aj)))) aj))) dw)))))) (bh (c7 (K2 3)) dw))))
theorem U8(B:∀(j:Nat) x,vf[j]? = some x->mg x=none):Derived GL P w K mg base ents e10:=dmk λn fa cdv A outer s H E hu C =>
 (bh (gx 1 (um aj)) (bh (uo (gn (yr hu (B 9 _ rfl) (B 10 _ rfl) (aa 0))) (bz 2) (bh (rh 3 ["span","other"] (gn (aa 1)) (λ_ _ _ _=>⟨(bz 1),(ff (G3 (rg (cm (l5 (aa 1) ah) (gk hu .eq (l5 (aa 0) ah))) (oy (cm (l5 (aa 1) ah) (gk hu .gt (l5 (aa 0) ah)))))) dm),(aa 1)⟩)) (bh (vx (G3 (rg (cm (l5 (aa 2) ah) (gk hu .lt (l5 (aa 2) ah))) (oy (cm (aa 3) (gk hu .eq (um aj)))))) (bh (Md (l7 (aa 1) (ae (aa 2) aj))) dw) dw) dw))) (bh (c7 (K2 1)) dw)))
theorem U9(B:∀(j:Nat) x,vf[j]? = some x->mg x=none):Derived GL P w K mg base ents e11:=dmk λn fa cdv A outer s H E hu C =>
 (bh (c7 (G1 (ie (B 2 _ rfl) (ae (i6 ["lamp","tick","span"] (gn (aa 0)) (λ_ _ _ _=>⟨(bz 2),(ff (G3 (rg (cm (l5 (aa 2) ah) (gk hu .eq (aa 0))) (rg (cm (l5 (aa 2) ah) (gk hu .le (aa 1))) (oy (cm (aa 1) (gk hu .lt (l5 (aa 2) ah))))))) dm),(aa 2)⟩)) aj)) (G0 hu .gt ah))) dw)
theorem Va(B:∀(j:Nat) x,vf[j]? = some x->mg x=none):Derived GL P w K mg base ents e12:=dmk λn fa cdv A outer s H E hu C =>
 (bh (rh 2 ["lamp","span"] (gn (aa 0)) (λ_ _ _ _=>⟨(bz 1),(ff (cm (l5 (aa 1) ah) (gk hu .eq (aa 0))) dm),(l5 (aa 1) ah)⟩)) (bh (c7 (ie (B 2 _ rfl) (ae (i6 ["spans","lamp","start"] (gn (aa 2)) (λ_ _ _ _=>⟨(bz 2),(ff (G3 (G2 (cm (aa 2) (gk hu .eq ah)) (Ar (nq (gw (bq (C 11 _ rfl) (ae (aa 0) (ae (aa 1) (ae (az (aa 2) ah) aj))))))))) dm),(aa 2)⟩)) aj))) dw))
theorem Vb(B:∀(j:Nat) x,vf[j]? = some x->mg x=none):Derived GL P w K mg base ents e13:=dmk λn fa cdv A outer s H E hu C =>
 (bh (gx 1 (bq (C 7 _ rfl) (ae (bq (C 4 _ rfl) (ae (aa 0) (ae ah aj))) aj))) (bh (gx 2 (bq (C 5 _ rfl) (ae (bq (C 4 _ rfl) (ae (aa 0) (ae ah aj))) (ae ah aj)))) (bh (gx 3 (az ah (az (aa 2) ah))) (bh (gx 4 (bq (C 10 _ rfl) (ae (bq (C 9 _ rfl) (ae (Tv (aa 0) (Qy ah) (Qy ah)) (ae (aa 1) (ae (aa 3) aj)))) aj))) (bh (gx 5 (cy (B 1 _ rfl) (ae (i6 ["spans","lamp"] (nr (B 0 _ rfl) (aa 3)) (λ_ _ _ _=>⟨(bz 1),dm,(G4 (B 11 _ rfl) (ae (i6 ["lamp","span"] (gn (aa 0)) (λ_ _ _ _=>⟨(bz 1),(ff (cm (l5 (aa 1) ah) (gk hu .eq (aa 0))) dm),(az (l5 (aa 1) ah) (l5 (aa 1) ah))⟩)) aj))⟩)) aj))) (bh (vx (nq (gw (bq (C 6 _ rfl) (ae (bq (C 1 _ rfl) (ae (aa 3) (ae (cy (B 1 _ rfl) (ae (aa 4) aj)) aj))) (ae (aa 5) aj))))) (bh (c7 Et) dw) dw) (bh (vx (nq (gw (bq (C 6 _ rfl) (ae (bq (C 2 _ rfl) (ae (aa 3) (ae (cy (B 1 _ rfl) (ae (aa 4) aj)) aj))) (ae (cy (B 1 _ rfl) (ae (i6 ["spans","lamp"] (nr (B 0 _ rfl) (aa 3)) (λ_ _ _ _=>⟨(bz 1),dm,(bq (C 12 _ rfl) (ae (aa 0) (ae (aa 1) aj)))⟩)) aj)) aj))))) (bh (c7 Et) dw) dw) (bh (gx 6 (um (ae ah (ae (az (aa 1) ah) (ae (az (aa 2) (aa 1)) aj))))) (bh (uo (gn (aa 4)) (bz 7) (bh (Md (l8 (aa 6) (ae (um (ae (az (l5 (aa 7) ah) ah) (ae (l5 (aa 7) ah) (ae (az (l5 (aa 7) ah) ah) (ae (l5 (aa 7) ah) aj))))) aj))) dw)) (bh (uo (gn (aa 6)) (bz 8) (bh (vx (G3 (rg (cm ah (gk hu .le (aa 8))) (oy (cm (aa 8) (gk hu .lt (aa 1)))))) (bh (gx 9 (cy (B 1 _ rfl) (ae (i6 ["spans","tick","lamp"] (nr (B 0 _ rfl) (aa 3)) (λ_ _ _ _=>⟨(bz 2),(ff (gw (bq (C 11 _ rfl) (ae (aa 0) (ae (aa 2) (ae (aa 1) aj))))) dm),(aa 2)⟩)) aj))) (bh (vx (nq (gw (bq (C 6 _ rfl) (ae (bq (C 3 _ rfl) (ae (cy (B 1 _ rfl) (ae (aa 4) aj)) (ae (aa 8) aj))) (ae (aa 9) aj))))) (bh (c7 Et) dw) dw) dw)) dw) dw)) (bh (c7 Et) dw)))))))))))
theorem dvs(B:∀(j:Nat) x,vf[j]? = some x->mg x=none):∀(j:Nat) e,ents[j]? = some e->Derived GL P w K mg base ents e:=(Lp.gq (dv0 B) (Lp.gq (dv1 B) (Lp.gq (dv2 B) (Lp.gq (dv3 B) (Lp.gq (dv4 B) (Lp.gq (dv5 B) (Lp.gq (dv6 B) (Lp.gq (dv7 B) (Lp.gq (dv8 B) (Lp.gq (dv9 B) (Lp.gq (U8 B) (Lp.gq (U9 B) (Lp.gq (Va B) (Lp.gq (Vb B) Lp.Oq))))))))))))))
end
end Lp.Law
namespace PySem.W.Fast
noncomputable def tw4023274329727386887:=0
noncomputable def tw18255567630290677743:=0
noncomputable def tw7399044159964628580:=0
noncomputable def tw7609839526123053207:=0
noncomputable def tw1262194706075930687:=0
noncomputable def tw3401765537042839219:=0
noncomputable def tw2976837550617105469:=0
noncomputable def tw2626921595044583798:=0
noncomputable def tw13182052279168348980:=0
noncomputable def tw17762212772273586172:=0
noncomputable def tw15612680449047355772:=0
noncomputable def tw4226451997569004550:=0
noncomputable def tw8021574009366677502:=0
noncomputable def tw8776339853758848821:=0
noncomputable def tw1127640250595566751:=0
noncomputable def tw18154287923972369038:=0
noncomputable def tw8167578294465874639:=0
noncomputable def tw17774883279291490419:=0
noncomputable def tw5115887935403451986:=0
noncomputable def tw3997940319536239432:=0
noncomputable def tw10111520564247966166:=0
noncomputable def tw1984123528270069642:=0
noncomputable def tw12970561212339773744:=0
noncomputable def tw8701258747187899099:=0
noncomputable def tw12288675626384509175:=0
noncomputable def tw2844975067230838758:=0
noncomputable def tw13367517815377178294:=0
noncomputable def tw11310080531980055231:=0
noncomputable def tw14902404620450077378:=0
noncomputable def tw7487229997026833483:=0
end PySem.W.Fast
open PySem PySem.W PyProof.Rows Lp.Law
open Lp (ModOf)
set_option maxHeartbeats 0 in
theorem PySem.Challenge.cw_lamprota_k16_ticks_and_lamps_lit_holds : PySem.Challenge.rw_lamprota_k16_ticks_and_lamps_lit.Holds := by
 w_on;o_law;k_head;(case hw=>w_witness2)
 k_fill
 refine Lp.Dc (l:=PySem.Challenge.rw_lamprota_k16_ticks_and_lamps_lit) (n:=6) ⟨rfl,by decide,by decide⟩ rfl rfl (λw h Y=>PySem.W.kIn_of Y) ?F
 case F =>
  intro w mg fa h KX G hmg
  have m0:ModOf (L2.KOf KX) mg e0:=by
   dsimp only[L2.KOf]
   refine' Lp.fc (e:=e0) KX G ?a ?l ?c ?k λ_ _ _ _ _ _=>ar2 λ_ _=>rfl
   all_goals try dsimp only[e0]
   (case a=>k_is);(case l=>k_is);(case c=>k_is);(case k=>k_is)
  have m1:ModOf (L2.KOf KX) mg e1:=by
   dsimp only[L2.KOf]
   refine' Lp.fc (e:=e1) KX G ?a ?l ?c ?k λ_ _ _ _ _ _=>ar2 λ_ _=>rfl
   all_goals try dsimp only[e1]
   (case a=>k_is);(case l=>k_is);(case c=>k_is);(case k=>k_is)
  have m2:ModOf (L2.KOf KX) mg e2:=by
   dsimp only[L2.KOf]
   refine' Lp.fc (e:=e2) KX G ?a ?l ?c ?k λ_ _ _ _ _ _=>ar2 λ_ _=>rfl
   all_goals try dsimp only[e2]
   (case a=>k_is);(case l=>k_is);(case c=>k_is);(case k=>k_is)
  have m3:ModOf (L2.KOf KX) mg e3:=by
   dsimp only[L2.KOf]
   refine' Lp.fc (e:=e3) KX G ?a ?l ?c ?k λ_ _ _ _ _ _=>ar2 λ_ _=>rfl
   all_goals try dsimp only[e3]
   (case a=>k_is);(case l=>k_is);(case c=>k_is);(case k=>k_is)
  have m4:ModOf (L2.KOf KX) mg e4:=by
   dsimp only[L2.KOf]
   refine' Lp.fc (e:=e4) KX G ?a ?l ?c ?k λ_ _ _ _ _ _=>ar2 λ_ _=>rfl
   all_goals try dsimp only[e4]
   (case a=>k_is);(case l=>k_is);(case c=>k_is);(case k=>k_is)
  have m5:ModOf (L2.KOf KX) mg e5:=by
   dsimp only[L2.KOf]
   refine' Lp.fc (e:=e5) KX G ?a ?l ?c ?k λ_ _ _ _ _ _=>ar2 λ_ _=>rfl
   all_goals try dsimp only[e5]
   (case a=>k_is);(case l=>k_is);(case c=>k_is);(case k=>k_is)
  have m6:ModOf (L2.KOf KX) mg e6:=by
   dsimp only[L2.KOf]
   refine' Lp.fc (e:=e6) KX G ?a ?l ?c ?k λ_ _ _ _ _ _=>ar2 λ_ _=>rfl
   all_goals try dsimp only[e6]
   (case a=>k_is);(case l=>k_is);(case c=>k_is);(case k=>k_is)
  have m7:ModOf (L2.KOf KX) mg e7:=by
   dsimp only[L2.KOf]
   refine' Lp.fc (e:=e7) KX G ?a ?l ?c ?k λ_ _ _ _ _ _=>ar1 λ_=>rfl
   all_goals try dsimp only[e7]
   (case a=>k_is);(case l=>k_is);(case c=>k_is);(case k=>k_is)
  have m8:ModOf (L2.KOf KX) mg e8:=by
   dsimp only[L2.KOf]
   refine' Lp.fc (e:=e8) KX G ?a ?l ?c ?k λ_ _ _ _ _ _=>ar3 λ_ _ _=>rfl
   all_goals try dsimp only[e8]
   (case a=>k_is);(case l=>k_is);(case c=>k_is);(case k=>k_is)
  have m9:ModOf (L2.KOf KX) mg e9:=by
   dsimp only[L2.KOf]
   refine' Lp.fc (e:=e9) KX G ?a ?l ?c ?k λ_ _ _ _ _ _=>ar3 λ_ _ _=>rfl
   all_goals try dsimp only[e9]
   (case a=>k_is);(case l=>k_is);(case c=>k_is);(case k=>k_is)
  have m10:ModOf (L2.KOf KX) mg e10:=by
   dsimp only[L2.KOf]
   refine' Lp.fc (e:=e10) KX G ?a ?l ?c ?k λ_ _ _ _ _ _=>ar1 λ_=>rfl
   all_goals try dsimp only[e10]
   (case a=>k_is);(case l=>k_is);(case c=>k_is);(case k=>k_is)
  have m11:ModOf (L2.KOf KX) mg e11:=by
   dsimp only[L2.KOf]
   refine' Lp.fc (e:=e11) KX G ?a ?l ?c ?k λ_ _ _ _ _ _=>ar3 λ_ _ _=>rfl
   all_goals try dsimp only[e11]
   (case a=>k_is);(case l=>k_is);(case c=>k_is);(case k=>k_is)
  have m12:ModOf (L2.KOf KX) mg e12:=by
   dsimp only[L2.KOf]
   refine' Lp.fc (e:=e12) KX G ?a ?l ?c ?k λ_ _ _ _ _ _=>ar2 λ_ _=>rfl
   all_goals try dsimp only[e12]
   (case a=>k_is);(case l=>k_is);(case c=>k_is);(case k=>k_is)
  have m13:ModOf (L2.KOf KX) mg e13:=by
   dsimp only[L2.KOf]
   refine' Lp.fc (e:=e13) KX G ?a ?l ?c ?k λ_ _ _ _ _ _=>ar1 λ_=>rfl
   all_goals try dsimp only[e13]
   (case a=>k_is);(case l=>k_is);(case c=>k_is);(case k=>k_is)
  have b0:mg "range"=none:=BH KX G (by k_is)
  have b1:mg "tuple"=none:=BH KX G (by k_is)
  have b2:mg "len"=none:=BH KX G (by k_is)
  have b3:mg "isinstance"=none:=BH KX G (by k_is)
  have b4:mg "str"=none:=BH KX G (by k_is)
  have b5:mg "int"=none:=BH KX G (by k_is)
  have b6:mg "bool"=none:=BH KX G (by k_is)
  have b7:mg "max"=none:=BH KX G (by k_is)
  have b8:mg "min"=none:=BH KX G (by k_is)
  have b9:mg "sorted"=none:=BH KX G (by k_is)
  have b10:mg "set"=none:=BH KX G (by k_is)
  have b11:mg "sum"=none:=BH KX G (by k_is)
  exact Lp.Gz (T:=Lp.GL) (es:=ents) (n:=6) (j:=13) (e:=e13) (Lp.gq m0 (Lp.gq m1 (Lp.gq m2 (Lp.gq m3 (Lp.gq m4 (Lp.gq m5 (Lp.gq m6 (Lp.gq m7 (Lp.gq m8 (Lp.gq m9 (Lp.gq m10 (Lp.gq m11 (Lp.gq m12 (Lp.gq m13 Lp.Oq)))))))))))))) (λbase=>dvs (Lp.gq b0 (Lp.gq b1 (Lp.gq b2 (Lp.gq b3 (Lp.gq b4 (Lp.gq b5 (Lp.gq b6 (Lp.gq b7 (Lp.gq b8 (Lp.gq b9 (Lp.gq b10 (Lp.gq b11 Lp.Oq))))))))))))) rfl hmg rfl (λns hn=>Lr.Qd ns hn)
