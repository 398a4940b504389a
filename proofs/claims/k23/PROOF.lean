import PyProof.Rows.All
import Wide.All
import OpenK.AllK
import Wide.FinOn
import Lean
import PyProof.EqAt
import PyProof.EqKinds
import PyProof.TupleCall
import PySem.Syntax
import KE.BitLaws
import PyProof.Rows.ZipGen
import PyProof.EnumMake
import PyProof.EnumFor
import PyProof.Rows.EnumRows
import PyProof.DictValues
import KE.KSortTup
import PyProof.Rows.SetFrom
import PyProof.WalksMore
import PyProof.FactsAll.set
import PyProof.ForAny
import PyProof.CollectWalk
import PyProof.ListRange
import PyProof.Rows.SortShell
import PyProof.AttrMissHeap
import PyProof.ExcClass3
import PyProof.ExcInit
import PyProof.InstStoreFacts
import PyProof.InstLoad
import PyProof.ExcArgsOwn
import PyProof.ExcAttrAll.ValueError
import PyProof.StationsW
import KE.KDictList
import PyProof.MaxThree
import PyProof.Rows.SortRuns
import PySem.Challenge.RW_lamprota_k23_whole_webs_alike
noncomputable section
local macro_rules | `(tactic| simp! [$ls,*] $[$l:location]?) => `(tactic| simp only [$ls,*] $[$l]?)
open List renaming getElem?_eq_getElem -> AA, getElem?_eq_some_iff -> AC, getElem?_set_ne -> AD, getD_eq_getElem?_getD -> AF, mem_cons -> AG, prefix_refl -> AH, size_toArray -> AI, mem_cons_of_mem -> AJ, getElem?_append_left -> AK, length_map -> AM, map_cons -> AO, all_eq_true -> AR, mem_cons_self -> AT, length_cons -> AU, getElem?_set_self -> AW, getElem?_map -> AX, getElem?_append_right -> AZ, mem_of_getElem? -> BC, length_append -> BD, mem_map -> BK, lookup_cons -> BL, all_cons -> BM, mem_append -> BN, map_append -> BO, not_mem_nil -> BS, nodup_cons -> BU, mem_append_right -> BV, append_assoc -> BY, mem_iff_getElem -> BZ, length_nil -> CD, length_take -> CG, pairwise_cons -> CI, nil_prefix -> CK, cons_append -> CL, replicate_succ -> CM, getElem?_replicate -> CN, getElem?_cons_succ -> CO, sum_cons -> CP, length_singleton -> CS, getElem?_eq_none -> CT, getElem?_take_of_lt -> CU, any_cons -> CV, map_nil -> CZ, map_map -> Da, mem_append_left -> Db, take_of_length_le -> DG, filterMap_cons -> DH, getElem?_zip_eq_some -> DJ, mem_singleton -> DK, take_add_one -> DO, append_nil -> DP, sum_append -> DQ, take_length -> DU, zip_cons_cons -> DV, nodup_iff_pairwise_ne -> DZ, getElem?_eq_none_iff -> Ev, drop_eq_getElem_cons -> EA, flatten_cons -> EE, mem_of_mem_take -> EF, getElem_mem -> EG, length_set -> EI, find?_cons -> EJ, nil_append -> EL, length_replicate -> EN, getElem_inj -> ES, mem_filter -> EW, of_mem_zip -> EX, forIn_cons -> EY, lookup_append -> FC, range_succ_eq_map -> FH, eraseIdxIfInBounds_toArray -> FJ, getLast?_concat -> FP, getElem?_range -> FU, zip_nil_right -> Gt, set_cons_zero -> GB, set_cons_succ -> GC, any_eq_false -> GG, zip_nil_left -> GH, nodup_append -> GM, length_range -> GO, ext_getElem? -> GQ, map_take -> GV, eraseIdx_cons_succ -> GY, getElem?_cons_zero -> HA, filter_cons -> HB, all_nil -> HG, set_set -> HI, foldl_cons -> HK, lookup_nil -> HP, length_zip -> HQ, dropLast_eq_take -> HU, getElem?_toArray -> HV, singleton_append -> HX, take_append_drop -> HY, forIn_nil -> IA, map_drop -> IG, any_map -> IM
open PySem renaming wpAny_bind -> AB, wpAny_pure -> AL, wpAny_field -> BW, wpAny_setField_rec -> CA, wpAny_callSpecial?_slot -> CH, mem_of_lookup -> CQ, wpAny_loadPart' -> CY, wpAny_call_entry -> DA, wpAny_mono -> DD, wpAny_newObj_type -> DE, sizeLine_eq -> DL, wpAny_pyIter_tuple -> DW, wpAny_seqItems -> DY, wpAny_passesOwn -> EB, wpAny_truthy_bool -> ED, wpAny_holding -> EM, wpAny_Call_Name_kw -> EZ, tupleKind_room_in1 -> FA, richCompare_meets_room -> FF, call_meets -> FL, wpAny_updateSeq_pair -> FO, codeAny_mono -> FV, wpAny_Constant_int -> FX, wpAny_rule -> GD, slot_list_getitem -> GI, wpAny_pyIter_list -> GN, wpAny_attempt -> GR, wpAny_onRaise -> GS, wpAny_forIn_list -> GW, noFill_tuple_add -> GX, seqIndex_neg -> HD, wpAny_execs_nil -> HJ, seqIndex_of -> Ix, wpAny_letGo -> IC
open PySem.Heap renaming get?_push_of_some -> AE, lt_size -> AQ, get?_push_size -> AS, size_push -> CJ, get?_update_other -> HE, get?_update_self -> HR
open Nat renaming le_refl -> AN, lt_of_lt_of_le -> AV, ne_of_lt -> BA, le_trans -> BX, ne_of_gt -> CW, lt_succ_self -> Do, lt_irrefl -> DC, lt_succ_of_lt -> DF, le_of_lt -> EC, le_succ -> GJ, zero_le -> If
open Bool renaming and_eq_true -> AY, false_ne_true -> BB, false_eq_true -> BF, beq_eq_decide_eq -> EO, and_self -> FM, and_true -> FN, or_eq_true -> HM, false_and -> HZ, and_false -> IB, not_true -> IH
open Option.some renaming inj -> BH, injEq -> BP
open Option renaming isSome_iff_exists -> BJ, bind_some -> DT, map_eq_some_iff -> EH, map_some -> EK, getD_some -> ET, isSome_some -> GA, isSome_map -> GK
open Int renaming emod_lt_of_pos -> BQ, emod_nonneg -> BR, toNat_natCast -> DN, toNat_of_nonneg -> DR, le_refl -> FE, fdiv_eq_ediv_of_nonneg -> FZ, one_mul -> GP, mul_comm -> HH, le_antisymm -> HN
open PySem.W renaming mg_none_of -> CB, methodCall_KW -> FK, plainGet_of -> FT, callWith_K -> Go, cellsFrom_some -> HC
open PyProof.Rows renaming slot_tuple_getitem -> CC, callWith_type1 -> DS, boot_min -> HW
open PySem.Paired renaming length -> DB
open Array renaming length_toList -> DI, getElem?_toList -> HS, toArray_toList -> ID
open PySem.F renaming slot_tuple_iterator_next -> DX, slot_enumerate_next -> ER, args_tuple_add_2 -> EV, entry_tuple_add -> FD, slot_tuple_add -> FG, plainAttrs_list -> FI, args_tuple_iterator_next_1 -> FR, slot_zip_next -> FS, entry_tuple_iterator_next -> FW, slot_dict_getitem -> GF, plain_list_iadd -> GZ, slot_list_pop -> HL
open PySem.AutoSeq1 renaming sub_tuple_tuple -> EU
open PySem.Calls renaming Name_function_global -> FY, callWith_builtin -> HF
open Prod.mk renaming injEq -> GU
open PySem.Around renaming under_plainId -> IE
open PySem.Heap.SameBut renaming update -> IF
open PySem.SeqAt.EqAt renaming int_str -> II, str_int -> IJ, int_int -> IK
open PySem.Heap.IsSliceOf renaming new -> IL
open Classical renaming not_not -> IN
set_option Elab.async false
set_option linter.all false
set_option maxRecDepth 100000
namespace L2
open PySem PySem.Spec PyProof.Rows
abbrev Key:=Sum Int Str
def wy:Key->Value->Bool
 | .inl k,v=>Value.isInt k v
 | .inr x,v=>Value.isStrOf x v
def aac (w:World):Key->Int
 | .inl k=>hashInt k
 | .inr x=>hashStr w x
theorem bg:∀{k:Key} {v:Value},wy k v=true->(∃i t,k=Sum.inl i/\v=Value.int i t)\/(∃x t,k=Sum.inr x/\v=Value.str x t)
 | .inl i,v,h=>by
  obtain⟨t,e⟩:=Value.isInt_shape (k:=i) (v:=v) h
  exact .inl ⟨i,t,rfl,e⟩
 | .inr x,v,h=>by
  obtain⟨t,e⟩:=Value.isStrOf_shape (x:=x) (v:=v) h
  exact .inr ⟨x,t,rfl,e⟩
theorem Ee (i:Int) (t:Tok):wy (.inl i) (.int i t)=true:=by simp[wy,Value.isInt]
theorem Ef (x:Str) (t:Tok):wy (.inr x) (.str x t)=true:=by simp[wy,Value.isStrOf]
theorem Rk (a b:Int):decide ((Sum.inl a:Key)=Sum.inl b)=(a==b):=by
 by_cases e:a=b
 ·subst e;simp
 ·have h:¬(Sum.inl a:Key)=Sum.inl b:=λq=>e (Sum.inl.inj q)
  rw[decide_eq_false h]
  exact(beq_eq_false_iff_ne.mpr e).symm
theorem Rn (a b:Str):decide ((Sum.inr a:Key)=Sum.inr b)=decide (a=b):=by
 by_cases e:a=b
 ·subst e;simp
 ·have h:¬(Sum.inr a:Key)=Sum.inr b:=λq=>e (Sum.inr.inj q)
  rw[decide_eq_false h,decide_eq_false e]
theorem Ro (a:Int) (b:Str):decide ((Sum.inl a:Key)=Sum.inr b)=false:=decide_eq_false (λq=>nomatch q)
theorem Rp (a:Str) (b:Int):decide ((Sum.inr a:Key)=Sum.inl b)=false:=decide_eq_false (λq=>nomatch q)
def bx (prog:Program) (w:World):PySem.KeyKind prog w Key where
 is:=wy
 hash:=aac w
 inj:=λv a b ha hb=>by
  rcases bg ha with⟨i,t,rfl,rfl⟩ | ⟨x,t,rfl,rfl⟩
  ·rcases bg hb with⟨j,u,rfl,e⟩ | ⟨y,u,rfl,e⟩
   ·injection e with e1 _;rw[e1]
   ·exact nomatch e
  ·rcases bg hb with⟨j,u,rfl,e⟩ | ⟨y,u,rfl,e⟩
   ·exact nomatch e
   ·injection e with e1 _;rw[e1]
 byValue:=λk v h=>by
  rcases bg h with⟨i,t,rfl,rfl⟩ | ⟨x,t,rfl,rfl⟩<;>rfl
 pyHash:=λhv h=>by
  rcases bg hv with⟨i,t,rfl,rfl⟩ | ⟨x,t,rfl,rfl⟩
  ·exact wpAny_pyHash_int h
  ·exact wpAny_pyHash_str h
 eqBool:=λhu hv h=>by
  rcases bg hu with⟨i,t,rfl,rfl⟩ | ⟨x,t,rfl,rfl⟩
  ·rcases bg hv with⟨j,u,rfl,rfl⟩ | ⟨y,u,rfl,rfl⟩
   ·rw[Rk]at h;exact wpAny_eqBool_int h
   ·rw[Ro]at h;exact II i t y u _ _ _ _ h
  ·rcases bg hv with⟨j,u,rfl,rfl⟩ | ⟨y,u,rfl,rfl⟩
   ·rw[Rp]at h;exact IJ x t j u _ _ _ _ h
   ·rw[Rn]at h;exact wpAny_eqBool_str h
 «strs»:=λk x t v h=>by
  rcases bg h with⟨i,u,rfl,e⟩ | ⟨y,u,rfl,e⟩
  ·exact nomatch e
  ·injection e with e1 _
   subst e1
   cases v<;>rfl
theorem z5 (prog:Program) (w:World) (i:Int) (t:Tok):(bx prog w).is (.inl i) (.int i t)=true:=Ee i t
theorem z6 (prog:Program) (w:World) (x:Str) (t:Tok):(bx prog w).is (.inr x) (.str x t)=true:=Ef x t
inductive V where
 | non | bl (b:Bool) | int (i:Int) | str (x:Str) | byt (b:Array UInt8) | flt (b:UInt64) | ref (a:Addr) | ty (n:String)
 deriving DecidableEq
def RelV:V->Value->Prop
 | .non,u=>u=Value.none
 | .bl b,u=>u=Value.bool b
 | .int i,u=>∃t,u=Value.int i t
 | .str x,u=>∃t,u=Value.str x t
 | .byt b,u=>∃t,u=Value.bytes b t
 | .flt b,u=>∃t,u=Value.float b t
 | .ref a,u=>u=Value.ref a
 | .ty n,u=>u=Value.type n
abbrev bh:List V->List Value->Prop:=Paired RelV
theorem bh.length {xs:List V} {us:List Value} (r:bh xs us):xs.length=us.length:=DB r
theorem bh.get:∀{xs:List V} {us:List Value} {i:Nat} {x:V},bh xs us->xs[i]? = some x->∃u,us[i]? = some u/\RelV x u
 | _,_,_,_,.nil,e=>by simp at e
 | _,_,0,_,.cons r _,e=>by simp at e;subst e;exact⟨_,rfl,r⟩
 | _,_,i+1,x,.cons _ t,e=>by
  obtain⟨u,h1,h2⟩:=bh.get (i:=i) (x:=x) t (by simpa using e)
  exact⟨u,by simpa using h1,h2⟩
theorem bh.set {x:V} {u:Value} (r:RelV x u):∀{xs:List V} {us:List Value} (i:Nat),bh xs us->bh (xs.set i x) (us.set i u)
 | _,_,_,.nil=>.nil
 | _,_,0,.cons _ t=>.cons r t
 | _,_,i+1,.cons q t=>.cons q (bh.set r i t)
theorem bh.append:∀{xs ys:List V} {us ws:List Value},bh xs us->bh ys ws->bh (xs++ys) (us++ws)
 | _,_,_,_,.nil,s=>s
 | _,_,_,_,.cons r t,s=>.cons r (bh.append t s)
theorem bh.take:∀{xs:List V} {us:List Value} (n:Nat),bh xs us->bh (xs.take n) (us.take n)
 | _,_,0,_=>.nil
 | _,_,_+1,.nil=>.nil
 | _,_,n+1,.cons r t=>.cons r (bh.take n t)
theorem bh.drop:∀{xs:List V} {us:List Value} (n:Nat),bh xs us->bh (xs.drop n) (us.drop n)
 | _,_,0,r=>r
 | _,_,_+1,.nil=>.nil
 | _,_,n+1,.cons _ t=>bh.drop n t
theorem bh.none_of:∀{xs:List V} {us:List Value} {i:Nat},bh xs us->xs[i]? = none->us[i]? = none:=λ{xs us i} r e=>by
 have h1:=r.length
 have h2:xs.length<=i:=Ev.mp e
 exact Ev.mpr (by lia)
def zx:Option V->Option Value->Prop
 | some v,some u=>RelV v u
 | none,none=>True
 | _,_=>False
def KV {κ:Type}:List (κ×V)->List (κ×Value)->Prop:=Paired fun(p:κ×V) (q:κ×Value)=>p.1=q.1/\RelV p.2 q.2
def kV:Key->V
 | .inl i=>.int i
 | .inr x=>.str x
inductive HO where
 /-- a list -/
 | lst (xs:List V)
 /-- a tuple (never changes) -/
 | tup (xs:List V)
 /-- a dict whose keys are ints and texts;one whose keys are tuples of ints and texts (the empty one is both) -/
 | dK (kvs:List (Key×V)) | dT (kvs:List (List Key×V))
 /-- a set of ints: its members,its size -/
 | set (S:Int->Bool) (n:Nat)
 /-- an instance of the class at C,its dict at dx,its attributes -/
 | ins (C dx:Addr) (fs:List (Str×V))
 /-- the dict of the instance at x -/
 | own (x:Addr)
 /-- the dict of an exception -/
 | xd (fs:List (Str×V))
 /-- a bound method,f of x -/
 | met (f x:Addr)
 /-- a range object lo,lo+1,.. below hi -/
 | rng (lo hi:Int)
 /-- a thing that is known to the object (the script;a dict while a loop walks it): read,never written while it is so -/
 | frz (o:Obj) (u:HO)
 /-- a code object's table -/
 | tbl (ps:Array Value)
 /-- any other thing,by what is true of its one object (a def of one's own: SetO a S n:=HO.ext λh=>..) -/
 | ext (φ:Heap->Prop)
abbrev Hp:=Addr->Option HO
def upd (H:Hp) (a:Addr) (o:HO):Hp:=λb=>if b=a then some o else H b
theorem aq {H:Hp} {a:Addr} {o:HO}:upd H a o a=some o:=by unfold upd;rw[if_pos rfl]
theorem ao {H:Hp} {a b:Addr} {o:HO} (h:b≠a):upd H a o b=H b:=by unfold upd;rw[if_neg h]
theorem Eg {H:Hp} {a:Addr} {o u:HO}:upd (upd H a o) a u=upd H a u:=by
 funext b;unfold upd;split<;>rfl
theorem jw {H:Hp} {a b:Addr} {o u:HO} (h:H a=some o) (h':H b=some u) (d:o≠u):a≠b:=by
 intro e;subst e;rw[h]at h';exact d (BH h')
theorem bf {H:Hp} {a b:Addr} {o:HO} (h:H a=some o) (h':H b=none):a≠b:=by
 intro e;subst e;rw[h]at h';cases h'
def om (h:Heap) (a:Addr) (items:Array Value):Prop:=∃o,h.get? a=some o/\o.cls=.type "tuple"/\o.dict=none/\∃n,o.data=.seq items n
theorem om.tup {h:Heap} {a:Addr} {items:Array Value} (x:om h a items):IsTup h a items:=let ⟨o,e,c,_,d⟩:=x;⟨o,e,c,d⟩
theorem om.new (h:Heap) (items:Array Value):om (h.push {cls:=.type "tuple",data:=.seq items}) h.objs.size items:=⟨_,AS _ rfl,rfl,rfl,_,rfl⟩
section
variable (P : Program) (w : World)
def fu (H:Hp) (h:Heap) (a:Addr):HO->Prop
 | .lst xs=>xs.length<=sizeLine/\∃(its:List Value) (n:Nat),bh xs its/\h.get? a=some {cls:=.type "list",data:=.seq its.toArray n}
 | .tup xs=>xs.length<=sizeLine/\∃its:List Value,bh xs its/\om h a its.toArray
 | .dK kvs=>kvs.length<=sizeLine/\(a==sysModules)=false/\∃vs,KV kvs vs/\h.DictOf (bx P w) a vs
 | .dT kvs=>kvs.length<=sizeLine/\(a==sysModules)=false/\∃xs:List (List Key×Addr×Value),
   Paired (fun(p:List Key×V) (q:List Key×Addr×Value)=>p.1=q.1/\H q.2.1=some (.tup (p.1.map kV))/\RelV p.2 q.2.2) kvs xs /\
   ∃o es ep,h.get? a=some o/\o.ExactDict/\o.data=.dict es ep/\es.toList=xs.map (entryOfKey (tupleKind (bx P w)))/\(xs.map (·.1)).Nodup
 | .set S n=>h.SetOf (intKind P w) a S n
 | .ins C dx fs=>H dx=some (.own a)/\fs.length<=1000/\dx≠a/\h.get? a=some (PySem.W.instObj C dx) /\
   ∃mA,h.Ns1 dx mA/\(∀f,zx (fs.lookup f) (mA f))/\PySem.Within mA (fs.map (·.1))
 | .own _=>∃o,h.get? a=some o
 | .xd fs=>∃mA,h.Ns1 a mA/\∀f,zx (fs.lookup f) (mA f)
 | .rng lo hi=>∃t u v,h.get? a=some {cls:=.type "range",data:=.fields #[.int lo t,.int hi u,.int 1 v]}
 | .frz o u=>h.get? a=some o/\fu H h a u
 | .tbl ps=>h.get? a=some {cls:=.none,data:=.fields ps}
 | .met f x=>h.get? a=some (PySem.W.methodObj (.ref f) (.ref x))
 | .ext φ=>φ h/\(∃o,h.get? a=some o)/\∀h1 h2:Heap,φ h1->(∀o,h1.get? a=some o->h2.get? a=some o)->φ h2
def HOk (H:Hp) (h:Heap):Prop:=∀a o,H a=some o->fu P w H h a o
end
section
variable {P : Program} {w : World} {H H' : Hp} {h h' : Heap} {a : Addr} {o : HO}
theorem fu.lt (x:fu P w H h a o):a<h.objs.size:=by
 cases o with
 | lst xs=>obtain⟨_,_,_,_,e⟩:=x;exact AQ e
 | tup xs=>obtain⟨_,_,_,p⟩:=x;exact p.tup.lt
 | dK kvs=>obtain⟨_,_,_,_,o,_,_,e,_⟩:=x;exact AQ e
 | dT kvs=>obtain⟨_,_,_,_,o,_,_,e,_⟩:=x;exact AQ e
 | set S n=>obtain⟨o,_,_,_,e,_⟩:=x;exact AQ e
 | ins C dx fs=>obtain⟨_,_,_,e,_⟩:=x;exact AQ e
 | own y=>obtain⟨_,e⟩:=x;exact AQ e
 | xd fs=>obtain⟨_,⟨_,_,_,e,_⟩,_⟩:=x;exact AQ e
 | rng lo hi=>obtain⟨_,_,_,e⟩:=x;exact AQ e
 | frz ob u=>obtain⟨e,_⟩:=x;exact AQ e
 | tbl ps=>exact AQ (show h.get? a=some _ from x)
 | met f y=>exact AQ (show h.get? a=some _ from x)
 | ext φ=>obtain⟨_,⟨_,e⟩,_⟩:=x;exact AQ e
theorem Paired.mapP {α β:Type} {F G:α->β->Prop}:∀{l₁:List α} {l₂:List β},Paired F l₁ l₂->(∀a b,F a b->G a b)->Paired G l₁ l₂
 | _,_,.nil,_=>.nil
 | _,_,.cons r t,f=>.cons (f _ _ r) (Paired.mapP t f)
theorem fu.stay (x:fu P w H h a o) (k:∀b u,(b=a\/H b=some (.own a))->h.get? b=some u->h'.get? b=some u)
  (ho:∀b,H b=some (.own a)->H' b=some (.own a)) (ht:∀b xs,H b=some (.tup xs)->H' b=some (.tup xs)):fu P w H' h' a o:=by
 induction o with
 | lst xs=>obtain⟨z,its,n,r,e⟩:=x;exact⟨z,its,n,r,k _ _ (.inl rfl) e⟩
 | tup xs=>obtain⟨z,its,r,ob,e,c⟩:=x;exact⟨z,its,r,ob,k _ _ (.inl rfl) e,c⟩
 | dK kvs=>obtain⟨z,y,vs,r,ob,es,ep,e,c⟩:=x;exact⟨z,y,vs,r,ob,es,ep,k _ _ (.inl rfl) e,c⟩
 | dT kvs =>
  obtain⟨z,y,xs,r,ob,es,ep,e,c⟩:=x
  exact⟨z,y,xs,Paired.mapP r λp q z=>⟨z.1,ht _ _ z.2.1,z.2.2⟩,ob,es,ep,k _ _ (.inl rfl) e,c⟩
 | set S n=>obtain⟨ob,es,ep,t,e,c⟩:=x;exact⟨ob,es,ep,t,k _ _ (.inl rfl) e,c⟩
 | ins C dx fs =>
  obtain⟨d,z,ne,e,mA,⟨od,es,ep,e2,c⟩,r⟩:=x
  exact⟨ho _ d,z,ne,k _ _ (.inl rfl) e,mA,⟨od,es,ep,k _ _ (.inr d) e2,c⟩,r⟩
 | own y=>obtain⟨ob,e⟩:=x;exact⟨ob,k _ _ (.inl rfl) e⟩
 | xd fs=>obtain⟨mA,⟨od,es,ep,e,c⟩,r⟩:=x;exact⟨mA,⟨od,es,ep,k _ _ (.inl rfl) e,c⟩,r⟩
 | rng lo hi=>obtain⟨t,u,v,e⟩:=x;exact⟨t,u,v,k _ _ (.inl rfl) e⟩
 | frz ob u ih=>obtain⟨e,q⟩:=x;exact⟨k _ _ (.inl rfl) e,ih q⟩
 | tbl ps =>
  have e:h.get? a=some {cls:=.none,data:=.fields ps}:=x
  show h'.get? a=some {cls:=.none,data:=.fields ps}
  exact k a _ (.inl rfl) e
 | met f y =>
  have e:h.get? a=some (PySem.W.methodObj (.ref f) (.ref y)):=x
  show h'.get? a=some (PySem.W.methodObj (.ref f) (.ref y))
  exact k a _ (.inl rfl) e
 | ext φ=>obtain⟨p,⟨o,e⟩,st⟩:=x;exact⟨st _ _ p λo q=>k _ _ (.inl rfl) q,⟨o,k _ _ (.inl rfl) e⟩,st⟩
theorem HOk.lt (x:HOk P w H h) (e:H a=some o):a<h.objs.size:=(x a o e).lt
theorem HOk.fresh (x:HOk P w H h) (e:h.objs.size<=a):H a=none:=by
 cases q:H a with
 | none=>rfl
 | some u=>exact absurd (AV (x.lt q) e) (DC _)
theorem HOk.kept (x:HOk P w H h) (k:∀b u,h.get? b=some u->h'.get? b=some u):HOk P w H h':=λa o e =>
 (x a o e).stay (λb u _ q=>k b u q) (λ_ q=>q) λ_ _ q=>q
theorem HOk.laid (x:HOk P w H h) (k:∀b u,h.get? b=some u->h'.get? b=some u) (hp:h.objs.size<=a) (new:fu P w (upd H a o) h' a o):HOk P w (upd H a o) h':=λb u e=>by
 have hn:=x.fresh hp
 by_cases hb:b=a
 ·subst hb;rw[aq]at e;cases e;exact new
 ·rw[ao hb]at e
  exact(x b u e).stay (λc v _ q=>k c v q) (λc q=>by rw[ao (bf q hn)];exact q) λc xs q=>by rw[ao (bf q hn)];exact q
end
def Rd (H:Hp) (a:Addr) (u:HO):Prop:=H a=some u\/∃o,H a=some (.frz o u)
theorem Rd.ok {P:Program} {w:World} {H:Hp} {h:Heap} {a:Addr} {u:HO} (r:Rd H a u) (x:HOk P w H h):fu P w H h a u:=by
 rcases r with r | ⟨o,r⟩
 ·exact x a u r
 ·obtain⟨_,q⟩:=x a _ r
  exact q
def Mut:Option HO->Prop
 | some (.lst _)=>True
 | some (.dK _)=>True
 | some (.dT _)=>True
 | some (.set _ _)=>True
 | some (.ins _ _ _)=>True
 | some (.ext _)=>True
 | _=>False
section
variable {P : Program} {w : World} {H : Hp} {h h' : Heap} {x e : Addr} {o' : HO}
theorem HOk.write (ok:HOk P w H h) (mu:Mut (H x)) (he:e=x\/H e=some (.own x)) (k:∀b u,b≠e->h.get? b=some u->h'.get? b=some u) (heo:∃u,h'.get? e=some u)
  (new:fu P w (upd H x o') h' x o'):HOk P w (upd H x o') h':=λb u q=>by
 have nown:∀c y,H c=some (.own y)->c≠x:=λc y r z=>by subst z;rw[r]at mu;exact mu
 have ntup:∀c xs,H c=some (.tup xs)->c≠x:=λc xs r z=>by subst z;rw[r]at mu;exact mu
 by_cases hb:b=x
 ·subst hb;rw[aq]at q;cases q;exact new
 ·rw[ao hb]at q
  by_cases hbe:b=e
  ·have q':H b=some (.own x):=by
    rcases he with z | z
    ·exact absurd (hbe.trans z) hb
    ·rw[hbe];exact z
   rw[q]at q';cases q'
   obtain⟨v,hv⟩:=heo
   exact⟨v,by rw[hbe];exact hv⟩
  ·refine(ok b u q).stay (λc v hc r=>k c v ?_ r) (λc r=>by rw[ao (nown c b r)];exact r) λc xs r=>by rw[ao (ntup c xs r)];exact r
   rcases hc with rfl | hc
   ·exact hbe
   ·rintro rfl
    rcases he with z | z
    ·exact nown c b hc z
    ·rw[hc]at z;cases z;exact hb rfl
end
structure Un (fs ex:List Addr) (H H':Hp) (h h':Heap):Prop where
 keep:∀b o,h.get? b=some o->H b=none->b∉fs->b∉ex->h'.get? b=some o
 slot:∀b o,h.get? b=some o->H b=none->b∈fs->b∉ex->∃sl,h'.get? b=some {o with slots:=sl}
 free:∀b o,h.get? b=some o->H b=none->b∉ex->H' b=none
 there:∀b o,h.get? b=some o->b∉ex->∃o',h'.get? b=some o'
 tups:∀b xs,H b=some (.tup xs)->H' b=some (.tup xs)
 frzs:∀b o u,H b=some (.frz o u)->H' b=some (.frz o u)
 tbls:∀b ps,H b=some (.tbl ps)->∃more,H' b=some (.tbl (ps++more))
section
variable {fs fs' ex ex' : List Addr} {H H1 H2 : Hp} {h h1 h2 h' : Heap} {a x e : Addr} {o : HO}
theorem Un.any (u:Un fs ex H H1 h h1) {b:Addr} {ob:Obj} (q:h.get? b=some ob) (n:H b=none) (hx:b∉ex):∃sl,h1.get? b=some {ob with slots:=sl}:=by
 by_cases hb:b∈fs
 ·exact u.slot b ob q n hb hx
 ·exact⟨ob.slots,u.keep b ob q n hb hx⟩
theorem Un.kept (k:∀b u,h.get? b=some u->h'.get? b=some u):Un fs ex H H h h' :=
 ⟨λb ob q _ _ _=>k b ob q,λb ob q _ _ _=>⟨ob.slots,k b ob q⟩,λ_ _ _ n _=>n,λb ob q _=>⟨ob,k b ob q⟩,λ_ _ q=>q,λ_ _ _ q=>q,λ_ ps q=>⟨#[],by rw[q];simp⟩⟩
theorem Un.refl:Un fs ex H H h h:=Un.kept λ_ _ q=>q
theorem Un.laid (k:∀b u,h.get? b=some u->h'.get? b=some u) (hp:h.objs.size<=a) (hn:H a=none):Un fs ex H (upd H a o) h h' where
 keep:=λb u q _ _ _=>k b u q
 slot:=λb u q _ _ _=>⟨u.slots,k b u q⟩
 free:=λb u q n _=>by rw[ao (BA (AV (AQ q) hp))];exact n
 there:=λb u q _=>⟨u,k b u q⟩
 tups:=λb xs q=>by rw[ao (bf q hn)];exact q
 frzs:=λb u xs q=>by rw[ao (bf q hn)];exact q
 tbls:=λb ps q=>⟨#[],by rw[ao (bf q hn),q];simp⟩
theorem Un.write (mu:Mut (H x)) (he:e=x\/H e=some (.own x)) (k:∀b u,b≠e->h.get? b=some u->h'.get? b=some u) (heo:∃u,h'.get? e=some u):Un fs ex H (upd H x o) h h':=by
 have hx:∀b,H b=none->b≠x:=λb n z=>by subst z;rw[n]at mu;exact mu
 have hb:∀b,H b=none->b≠e:=λb n z=>by
  subst z
  rcases he with r | r
  ·exact hx b n r
  ·rw[n]at r;cases r
 have hm:∀b u,H b=some u->¬Mut (some u)->b≠x:=λb u q nm z=>by subst z;rw[q]at mu;exact nm mu
 refine⟨λb u q n _ _=>k b u (hb b n) q,λb u q n _ _=>⟨u.slots,k b u (hb b n) q⟩,λb u q n _=>by rw[ao (hx b n)];exact n,λb u q _=>?_,
  λb xs q=>by rw[ao (hm b _ q λz=>z)];exact q,λb u xs q=>by rw[ao (hm b _ q λz=>z)];exact q,λb ps q=>⟨#[],by rw[ao (hm b _ q λz=>z),q];simp⟩⟩
 by_cases hbe:b=e
 ·subst hbe;exact heo
 ·exact⟨u,k b u hbe q⟩
end
def trk (h:Heap) (H:Hp):List Addr:=(List.range h.objs.size).filter λa=>(H a).isSome
def Jo (h:Heap) (H:Hp):Heap:=PySem.W.hideAll h (trk h H)
theorem Eh (h:Heap) (H:Hp):(Jo h H).objs.size=h.objs.size:=PySem.W.hideAll_size _ _
theorem Jp {h:Heap} {H:Hp} {b:Addr} {o:Obj} (e:h.get? b=some o) (n:H b=none):(Jo h H).get? b=some o :=
 PySem.W.hideAll_get _ e λhm=>by
  have q:(H b).isSome=true:=(EW.mp hm).2
  rw[n]at q;simp at q
theorem N5 {h:Heap} {H:Hp} {b:Addr} {o:Obj} (e:(Jo h H).get? b=some o):h.get? b=some o/\H b=none:=by
 have e':h.get? b=some o:=PySem.W.of_hideAll (trk h H) e
 refine⟨e',?_⟩
 cases q:H b with
 | none=>rfl
 | some x =>
  have hm:b∈trk h H:=EW.mpr ⟨List.mem_range.mpr (AQ e'),by simp[q]⟩
  have z:(Jo h H).get? b=none:=PySem.W.hideAll_none (trk h H) hm
  rw[z]at e;cases e
def N6 (g h:Heap) (L:Addr):List (Addr×Obj):=(List.range h.objs.size).filterMap λa=>if a=L\/(g.get? a).isSome=true then none else(h.get? a).map λo=>(a,o)
def rest (g h:Heap) (L d:Addr):List (Addr×Obj):=(N6 g h L).filter λp=>decide (p.1≠d)
structure Mod (K:PySem.W.Frag) (mg:Str->Option Value) (base:Heap):Prop where
 kin:K.In base
 glob:base.Ns mainGlobals mg
 blt:∃mb,base.Ns builtinsNs mb/\∀x:Str,x≠"__name__"->mb x=bootBuiltins x
 nolimit:base.NoLimit
structure Cx where
 prog:Program
 w:World
 K:PySem.W.Frag
 mg:Str->Option Value
 base:Heap
 A:Around
 N:List Str
 s₀:Shared
 H₀:Hp
 env:Env
 outer:List Env
 stack:List Env
 ex:List Addr
 fn:Str->Bool
 calm:Bool
 pn:List (Addr×Obj)
 xe:Value->Shared->Prop
def frs (l:List Env):List Addr:=l.filterMap (·.frame)
abbrev Cx.fs (X:Cx):List Addr:=frs X.outer
def Vis (sc:Scope) (x:Str):Prop:=sc.names.lookup x=some .local\/sc.names.lookup x=some .cell\/sc.names.lookup x=some .free
def Loc (sc:Scope) (x:Str):Prop:=sc.names.lookup x=some .local\/sc.names.lookup x=some .cell
def Look (env:Env) (h:Heap) (m:Str->Option Value) (x:Str) (u:Value):Prop :=
 (env.kindOf x=some .local/\m x=some u)\/((env.kindOf x=some .cell\/env.kindOf x=some .free)/\∃c,env.cells.lookup x=some c/\h.IsCell c (some u))
structure Cx.Ok (X:Cx):Prop where
 mod:Mod X.K X.mg X.base
 kind:X.env.scope.kind=.function
 glob:X.env.globals=mainGlobals
 blt:X.env.builtins=builtinsNs
 above:X.s₀.heap.objs.size<=X.env.locals
 inj:∀x y c,X.env.cells.lookup x=some c->X.env.cells.lookup y=some c->x=y
 has:∀x,(X.env.kindOf x=some .cell\/X.env.kindOf x=some .free)->∃c,X.env.cells.lookup x=some c
 cab:∀x c,X.fn x=true->X.env.cells.lookup x=some c->X.s₀.heap.objs.size<=c
 hd:X.calm=true->X.A.handled=none
 frames:X.A.frames=some X.stack
 stk:X.stack=X.outer\/(X.stack=X.env::X.outer/\X.env.frame=some X.env.locals)
 exf:∀b∈X.ex,b≠X.env.locals/\∀x c,X.env.cells.lookup x=some c->c≠b
 bs:∀b o,X.base.get? b=some o->X.s₀.heap.get? b=some o/\X.H₀ b=none
 bsz:X.base.objs.size<=X.s₀.heap.objs.size
 noex:∀b o,X.base.get? b=some o->b∉X.ex
 exfs:∀b∈X.ex,b∉X.fs
 funs:X.s₀.heap.FunFrames X.base X.outer
 frf:∀b∈X.fs,X.H₀ b=none
structure Inv (X:Cx) (pins:List (Addr×Obj)) (σ:List (Option V)) (H:Hp) (s:Shared):Prop where
 ok:X.Ok
 os:s.os=X.s₀.os
 bare:AllBare s.gens
 base:Un X.fs X.ex X.H₀ H X.s₀.heap s.heap
 loc:∃m,s.heap.Ns X.env.locals m/\∀(i:Nat) (x:Str) (v:V),X.N[i]? = some x->σ[i]? = some (some v)->Vis X.env.scope x->∃u,RelV v u/\Look X.env s.heap m x u
 cell:∀x c,X.env.cells.lookup x=some c->∃v,s.heap.IsCell c v
 free:H X.env.locals=none
 freeC:∀x c,X.env.cells.lookup x=some c->H c=none
 pin:∀p∈X.pn++pins,s.heap.get? p.1=some p.2/\H p.1=none/\p.1≠X.env.locals/\p.1∉X.fs/\∀v,p.2.data≠.cell v
 hok:HOk X.prog X.w H s.heap
 len:σ.length=X.N.length
section
variable {X : Cx} {pins : List (Addr × Obj)} {σ : List (Option V)} {H H' : Hp} {s : Shared} {h' : Heap}
theorem Cx.Ok.nofr (ok:X.Ok) {b:Addr} {o:Obj} (e:X.base.get? b=some o):b∉X.fs:=λhb=>by
 have:=(ok.funs.mem hb).1
 rw[e]at this;cases this
theorem Inv.bs (I:Inv X pins σ H s):∀b o,X.base.get? b=some o->s.heap.get? b=some o/\H b=none:=λb o e =>
 ⟨I.base.keep b o (I.ok.bs b o e).1 (I.ok.bs b o e).2 (I.ok.nofr e) (I.ok.noex b o e),I.base.free b o (I.ok.bs b o e).1 (I.ok.bs b o e).2 (I.ok.noex b o e)⟩
theorem Inv.bk (I:Inv X pins σ H s):∀b o,X.base.get? b=some o->s.heap.get? b=some o:=λb o e=>(I.bs b o e).1
theorem Inv.mod (I:Inv X pins σ H s):Mod X.K X.mg X.base:=I.ok.mod
theorem Inv.kIn (I:Inv X pins σ H s):X.K.In s.heap:=I.ok.mod.kin.keeps I.bk
theorem Inv.fr (I:Inv X pins σ H s):∃m,Fr X.base X.env.locals s.heap m :=
 let ⟨m,hn,_⟩:=I.loc
 ⟨m,hn,I.bk,BX I.ok.bsz I.ok.above⟩
theorem Inv.lt (I:Inv X pins σ H s):X.env.locals<s.heap.objs.size:=let ⟨_,hn,_⟩:=I.loc;hn.lt
theorem Inv.sz (I:Inv X pins σ H s):X.s₀.heap.objs.size<=s.heap.objs.size:=BX I.ok.above (EC I.lt)
theorem Inv.nofs (I:Inv X pins σ H s) {a:Addr} (h:s.heap.objs.size<=a):a∉X.fs:=λhb=>by
 obtain⟨_,o,ho,_⟩:=I.ok.funs.mem hb
 exact absurd (AV (AQ ho) (BX I.sz h)) (DC _)
theorem Inv.cne (I:Inv X pins σ H s):∀x c,X.env.cells.lookup x=some c->c≠X.env.locals:=λx c e z=>by
 obtain⟨v,o,ho,hd⟩:=I.cell x c e
 obtain⟨m,⟨o',es,ep,ho',hd',_⟩,_⟩:=I.loc
 rw[z,ho']at ho;cases ho;rw[hd']at hd;cases hd
theorem Inv.funs (I:Inv X pins σ H s):s.heap.FunFrames X.base X.outer:=by
 have all:∀(l:List Env),(∀b∈frs l,b∈X.fs)->X.s₀.heap.FunFrames X.base l->s.heap.FunFrames X.base l:=by
  intro l
  induction l with
  | nil=>intro _ _;trivial
  | cons env r ih =>
   intro hs hl
   obtain⟨hk,⟨L,o,hf,hn,ho,hd⟩,hr⟩:=hl
   have hL:L∈X.fs:=hs L (by unfold frs;rw[DH,hf];exact AT)
   obtain⟨sl,e⟩:=I.base.slot L o ho (I.ok.frf L hL) hL λz=>I.ok.exfs L z hL
   exact⟨hk,⟨L,_,hf,hn,e,hd⟩,ih (λb hb=>hs b (by unfold frs;rw[DH,hf];exact AJ _ hb)) hr⟩
 exact all X.outer (λ_ hb=>hb) I.ok.funs
theorem Inv.stack (I:Inv X pins σ H s):s.heap.FunFrames X.base X.stack:=by
 rcases I.ok.stk with e | ⟨e,hf⟩
 ·rw[e];exact I.funs
 ·rw[e]
  obtain⟨m,hn,_⟩:=I.loc
  refine .cons (by rw[I.ok.kind];decide) hf hn ?_ I.funs
  exact Heap.get?_none_of_le (BX I.ok.bsz I.ok.above)
theorem Inv.stkSub (I:Inv X pins σ H s):∀b∈frs X.stack,b∈X.env.locals::X.fs:=λb hb=>by
 rcases I.ok.stk with e | ⟨e,hf⟩
 ·rw[e]at hb;exact AJ _ hb
 ·rw[e]at hb
  unfold frs at hb
  rw[DH,hf]at hb
  exact hb
theorem Inv.stkFree (I:Inv X pins σ H s):∀b∈frs X.stack,H b=none:=λb hb=>by
 rcases AG.mp (I.stkSub b hb)with e | hb
 ·rw[e];exact I.free
 ·obtain⟨_,o,ho,_⟩:=I.ok.funs.mem hb
  exact I.base.free b o ho (I.ok.frf b hb) λz=>I.ok.exfs b z hb
theorem Inv.step {g':Array GenState} {t':Nat} {d':Drawn} {ch:List Addr} (I:Inv X pins σ H s)
  (hch:∀b∈ch,(b∈X.ex\/X.s₀.heap.objs.size<=b)/\b≠X.env.locals/\(∀x c,X.env.cells.lookup x=some c->c≠b)/\∀p∈X.pn++pins,p.1≠b)
  (keep:∀b o,b≠X.env.locals->b∉X.fs->b∉ch->s.heap.get? b=some o->H b=none->h'.get? b=some o)
  (slot:∀b o,b≠X.env.locals->b∈X.fs->b∉ch->s.heap.get? b=some o->H b=none->∃sl,h'.get? b=some {o with slots:=sl}) (free:∀b o,b∉ch->s.heap.get? b=some o->H b=none->H' b=none)
  (there:∀b o,b∉ch->s.heap.get? b=some o->∃o',h'.get? b=some o')
  (tups:∀b xs,H b=some (.tup xs)->H' b=some (.tup xs)) (frzs:∀b o u,H b=some (.frz o u)->H' b=some (.frz o u)) (tbls:∀b ps,H b=some (.tbl ps)->∃more,H' b=some (.tbl (ps++more)))
  (ns:∀m,s.heap.Ns X.env.locals m->h'.Ns X.env.locals m) (hok:HOk X.prog X.w H' h') (hg:AllBare g') :
  Inv X pins σ H' {s with heap:=h',gens:=g',drawn:=d',toks:=t'}:=by
 have neL:∀b o,X.s₀.heap.get? b=some o->b≠X.env.locals:=λb o e=>BA (AV (AQ e) I.ok.above)
 have neC:∀b o,X.s₀.heap.get? b=some o->b∉X.ex->b∉ch:=λb o e hx hb=>by
  rcases(hch b hb).1 with z | z
  ·exact hx z
  ·exact absurd (AV (AQ e) z) (DC _)
 have cellK:∀x c,X.env.cells.lookup x=some c->∀v,s.heap.IsCell c v->h'.IsCell c v:=λx c e v ⟨o,ho,hd⟩=>by
  have nch:c∉ch:=λz=>(hch c z).2.2.1 x c e rfl
  by_cases hc:c∈X.fs
  ·obtain⟨sl,q⟩:=slot c o (I.cne x c e) hc nch ho (I.freeC x c e)
   exact⟨_,q,hd⟩
  ·exact⟨o,keep c o (I.cne x c e) hc nch ho (I.freeC x c e),hd⟩
 refine⟨I.ok,I.os,hg,⟨λb o e n hb hx=>?_,λb o e n hb hx=>?_,λb o e n hx=>?_,λb o e hx=>?_,λb xs e=>tups b xs (I.base.tups b xs e),λb o xs e=>frzs b o xs (I.base.frzs b o xs e),λb ps e=>?_⟩,?_,λx c e=>?_,?_,λx c e=>?_,λp hp=>?_,hok,I.len⟩
 ·exact keep b o (neL b o e) hb (neC b o e hx) (I.base.keep b o e n hb hx) (I.base.free b o e n hx)
 ·obtain⟨sl,e1⟩:=I.base.slot b o e n hb hx
  obtain⟨sl',e2⟩:=slot b _ (neL b o e) hb (neC b o e hx) e1 (I.base.free b o e n hx)
  exact⟨sl',e2⟩
 ·obtain⟨o',e1⟩:=I.base.there b o e hx
  exact free b o' (neC b o e hx) e1 (I.base.free b o e n hx)
 ·obtain⟨o',e1⟩:=I.base.there b o e hx
  exact there b o' (neC b o e hx) e1
 ·obtain⟨m1,e1⟩:=I.base.tbls b ps e
  obtain⟨m2,e2⟩:=tbls b _ e1
  exact⟨m1++m2,by rw[e2,Array.append_assoc]⟩
 ·obtain⟨m,hn,hl⟩:=I.loc
  refine⟨m,ns m hn,λi x v e1 e2 e3=>?_⟩
  obtain⟨u,r,l⟩:=hl i x v e1 e2 e3
  refine⟨u,r,?_⟩
  rcases l with l | ⟨k,c,e,z⟩
  ·exact .inl l
  ·exact .inr ⟨k,c,e,cellK x c e _ z⟩
 ·obtain⟨v,z⟩:=I.cell x c e
  exact⟨v,cellK x c e v z⟩
 ·obtain⟨m,⟨o,_,_,ho,_⟩,_⟩:=I.loc
  exact free _ o (λz=>(hch _ z).2.1 rfl) ho I.free
 ·obtain⟨v,o,ho,hd⟩:=I.cell x c e
  exact free c o (λz=>(hch c z).2.2.1 x c e rfl) ho (I.freeC x c e)
 ·obtain⟨e,n,ne,nf,d⟩:=I.pin p hp
  have nch:p.1∉ch:=λz=>(hch p.1 z).2.2.2 p hp rfl
  exact⟨keep p.1 p.2 ne nf nch e n,free p.1 p.2 nch e n,ne,nf,d⟩
theorem Inv.un {t':Nat} (I:Inv X pins σ H s) (u:Un X.fs [] H H' s.heap h') (hok:HOk X.prog X.w H' h'):Inv X pins σ H' {s with heap:=h',toks:=t'}:=by
 obtain⟨m,⟨o,es,ep,ho,r⟩,_⟩:=id I.loc
 obtain⟨sl,hL⟩:=u.any ho I.free (by simp)
 exact I.step (g':=s.gens) (d':=s.drawn) (ch:=[]) (λ_ z=>nomatch z) (λb o _ hb _ e n=>u.keep b o e n hb (by simp)) (λb o _ hb _ e n=>u.slot b o e n hb (by simp)) (λb o _ e n=>u.free b o e n (by simp)) (λb o _ e=>u.there b o e (by simp)) u.tups u.frzs u.tbls (λm' hm=>by
  obtain⟨o',es',ep',ho',r'⟩:=hm
  rw[ho]at ho';cases ho'
  exact⟨_,es',ep',hL,r'⟩) hok I.bare
theorem Inv.call {g':Array GenState} {t':Nat} {d':Drawn} {ch:List Addr} (I:Inv X pins σ H s) (u:Un (frs X.stack) ch H H' s.heap h') (hok:HOk X.prog X.w H' h') (hg:AllBare g')
  (hch:∀b∈ch,(b∈X.ex\/X.s₀.heap.objs.size<=b)/\b≠X.env.locals/\(∀x c,X.env.cells.lookup x=some c->c≠b)/\∀p∈X.pn++pins,p.1≠b) :
  Inv X pins σ H' {s with heap:=h',gens:=g',drawn:=d',toks:=t'}:=by
 obtain⟨m,⟨o,es,ep,ho,r⟩,_⟩:=id I.loc
 obtain⟨sl,hL⟩:=u.any ho I.free λz=>(hch _ z).2.1 rfl
 exact I.step (ch:=ch) hch (λb o hL hb hc e n=>u.keep b o e n (λz=>(AG.mp (I.stkSub b z)).elim hL hb) hc) (λb o _ _ hc e n=>u.any e n hc) (λb o hc e n=>u.free b o e n hc) (λb o hc e=>u.there b o e hc) u.tups u.frzs u.tbls (λm' hm=>by
  obtain⟨o',es',ep',ho',r'⟩:=hm
  rw[ho]at ho';cases ho'
  exact⟨_,es',ep',hL,r'⟩) hok hg
theorem Inv.turned {t':Nat} {it:Addr} (I:Inv X pins σ H s) (k:∀b o,b≠it->s.heap.get? b=some o->h'.get? b=some o) (hn:H it=none) (hL:it≠X.env.locals)
  (h1:it∈X.ex\/X.s₀.heap.objs.size<=it) (h2:∀x c,X.env.cells.lookup x=some c->c≠it) (h3:∀p∈X.pn++pins,p.1≠it):Inv X pins σ H {s with heap:=h',toks:=t'}:=by
 have nit:∀b u,H b=some u->b≠it:=λb u e z=>by rw[z,hn]at e;cases e
 refine I.step (g':=s.gens) (d':=s.drawn) (ch:=[it]) (λb hb=>?_) (λb o _ _ hc e _=>k b o (λz=>hc (by simp[z])) e) (λb o _ _ hc e _=>⟨o.slots,k b o (λz=>hc (by simp[z])) e⟩) (λ_ _ _ _ n=>n)
  (λb o hc e=>⟨o,k b o (λz=>hc (by simp[z])) e⟩) (λ_ _ e=>e) (λ_ _ _ e=>e) (λb ps e=>⟨#[],by rw[e];simp⟩) (λm hm=>?_) (λb u e=>?_) I.bare
 ·have e:b=it:=by simpa using hb
  subst e
  exact⟨h1,hL,h2,h3⟩
 ·obtain⟨o,es,ep,ho,r⟩:=hm
  exact⟨o,es,ep,k _ o (Ne.symm hL) ho,r⟩
 ·refine(I.hok b u e).stay (λc v hc q=>k c v ?_ q) (λ_ q=>q) λ_ _ q=>q
  rcases hc with z | z
  ·rw[z];exact nit b u e
  ·exact nit c _ z
theorem Inv.tok (I:Inv X pins σ H s) (t:Nat):Inv X pins σ H {s with toks:=t}:=I.un (h':=s.heap) (t':=t) Un.refl I.hok
theorem Inv.kept {t':Nat} (I:Inv X pins σ H s) (k:∀b u,s.heap.get? b=some u->h'.get? b=some u):Inv X pins σ H {s with heap:=h',toks:=t'}:=I.un (Un.kept k) (I.hok.kept k)
theorem Inv.laid {a:Addr} {o:HO} {t':Nat} (I:Inv X pins σ H s) (k:∀b u,s.heap.get? b=some u->h'.get? b=some u) (hp:s.heap.objs.size<=a) (new:fu X.prog X.w (upd H a o) h' a o) :
  Inv X pins σ (upd H a o) {s with heap:=h',toks:=t'}:=I.un (Un.laid k hp (I.hok.fresh hp)) (I.hok.laid k hp new)
theorem Inv.write {x e:Addr} {o:HO} {t':Nat} (I:Inv X pins σ H s) (mu:Mut (H x)) (he:e=x\/H e=some (.own x)) (k:∀b u,b≠e->s.heap.get? b=some u->h'.get? b=some u) (heo:∃u,h'.get? e=some u)
  (new:fu X.prog X.w (upd H x o) h' x o):Inv X pins σ (upd H x o) {s with heap:=h',toks:=t'}:=I.un (Un.write mu he k heo) (I.hok.write mu he k heo new)
theorem Inv.weak {σ':List (Option V)} (I:Inv X pins σ H s) (hl:σ'.length=σ.length) (w:∀(i:Nat) v,σ'[i]? = some (some v)->σ[i]? = some (some v)):Inv X pins σ' H s :=
 ⟨I.ok,I.os,I.bare,I.base,let ⟨m,hn,hl'⟩:=I.loc;⟨m,hn,λi x v e1 e2 e3=>hl' i x v e1 (w i v e2) e3⟩,I.cell,I.free,I.freeC,I.pin,I.hok,hl.trans I.len⟩
theorem Inv.pins_of {pins':List (Addr×Obj)} (I:Inv X pins σ H s) (h:∀p∈pins',s.heap.get? p.1=some p.2/\H p.1=none/\p.1≠X.env.locals/\p.1∉X.fs/\∀v,p.2.data≠.cell v):Inv X pins' σ H s :=
 ⟨I.ok,I.os,I.bare,I.base,I.loc,I.cell,I.free,I.freeC,λp hp=>(BN.mp hp).elim (λz=>I.pin p (Db _ z)) (h p),I.hok,I.len⟩
theorem Bd {N:List Str} (hN:N.Nodup) {i j:Nat} {x:Str} (a:N[i]? = some x) (b:N[j]? = some x):i=j:=by
 obtain⟨h1,e1⟩:=AC.mp a
 obtain⟨h2,e2⟩:=AC.mp b
 exact(ES hN).mp (e1.trans e2.symm)
theorem wz {M:Model} {A:Around} {E:Value->Shared->Prop} {i:Nat} {x:Str} {v:V} {u:Value} {Q:Unit->Shared->Prop} (I:Inv X pins σ H s) (hN:X.N.Nodup) (hi:X.N[i]? = some x) (hx:Loc X.env.scope x) (r:RelV v u)
  (h:∀s',Inv X pins (σ.set i (some v)) H s'->(∃a,Heap.SameBut a s.heap s'.heap/\(a=X.env.locals\/X.env.cells.lookup x=some a))->Q () s') (hf:X.fn x=true\/X.env.scope.names.lookup x=some .local:=by first | exact .inl rfl | exact .inr rfl | assumption):wpAny M A (storeName X.env x u) Q E s:=by
 obtain⟨m,hn,hl⟩:=id I.loc
 have hcls:(X.env.scope.kind==.class || (X.env.scope.kind==.module&&X.env.locals != X.env.globals))=false:=by rw[I.ok.kind];rfl
 have hiσ:i<σ.length:=by rw[I.len];exact(AC.mp hi).1
 have cne:=I.cne
 have tracked:∀{a:Addr} {h':Heap},(∃o,s.heap.get? a=some o/\H a=none)->Heap.SameBut a s.heap h'->HOk X.prog X.w H h':=λ{a h'} ha hs b ob e=>by
  obtain⟨_,_,hfree⟩:=ha
  refine(I.hok b ob e).stay (λc w' hc q=>(hs.2 c ?_).trans q) (λ_ q=>q) λ_ _ q=>q
  rintro rfl
  rcases hc with rfl | hc
  ·rw[hfree]at e;cases e
  ·rw[hfree]at hc;cases hc
 rcases hx with hk | hk
 ·refine wpAny_storeName_local hk hn (λh' hn' hs=>?_) hcls
  obtain⟨oL,_,_,hoL,_⟩:=id hn
  refine h _ ⟨I.ok,I.os,I.bare,⟨λb o e n hb hx=>?_,λb o e n hb hx=>?_,I.base.free,λb o e hx=>?_,I.base.tups,I.base.frzs,I.base.tbls⟩,⟨_,hn',λj y v' e1 e2 e3=>?_⟩,λy c e=>?_,I.free,I.freeC,λp hp=>?_,tracked ⟨oL,hoL,I.free⟩ hs,by simpa using I.len⟩ ⟨_,hs,.inl rfl⟩
  ·exact(hs.2 b (BA (AV (AQ e) I.ok.above))).trans (I.base.keep b o e n hb hx)
  ·obtain⟨sl,e1⟩:=I.base.slot b o e n hb hx
   exact⟨sl,(hs.2 b (BA (AV (AQ e) I.ok.above))).trans e1⟩
  ·obtain⟨o',e1⟩:=I.base.there b o e hx
   exact⟨o',(hs.2 b (BA (AV (AQ e) I.ok.above))).trans e1⟩
  ·by_cases hj:j=i
   ·subst hj
    rw[hi]at e1;cases e1
    rw[AW hiσ]at e2
    cases e2
    exact⟨u,r,.inl ⟨hk,by simp⟩⟩
   ·rw[AD (Ne.symm hj)]at e2
    obtain⟨u',r',q⟩:=hl j y v' e1 e2 e3
    refine⟨u',r',?_⟩
    rcases q with⟨k,e⟩ | ⟨k,c,e,z⟩
    ·refine .inl ⟨k,?_⟩
     have:y≠x:=λe=>hj (Bd hN e1 (e ▸ hi))
     simp[this,e]
    ·exact .inr ⟨k,c,e,z.sameBut hs (cne y c e)⟩
  ·obtain⟨w',z⟩:=I.cell y c e
   exact⟨w',z.sameBut hs (cne y c e)⟩
  ·obtain⟨e,n,ne,nf,d⟩:=I.pin p hp
   exact⟨(hs.2 p.1 ne).trans e,n,ne,nf,d⟩
 ·have hfn:X.fn x=true:=by
   rcases hf with z | z
   ·exact z
   ·rw[z]at hk;cases hk
  obtain⟨c,hc⟩:=I.ok.has x (.inl hk)
  obtain⟨w',z⟩:=I.cell x c hc
  refine wpAny_storeName_cell I.ok.kind hk hc z (λh' hc' hs=>?_)
  obtain⟨oc,hoc,hocd⟩:=id z
  refine h {s with heap:=h'} ⟨I.ok,I.os,I.bare,⟨λb o e n hb hx=>?_,λb o e n hb hx=>?_,I.base.free,λb o e hx=>?_,I.base.tups,I.base.frzs,I.base.tbls⟩,⟨m,hn.sameBut hs (Ne.symm (cne x c hc)),λj y v' e1 e2 e3=>?_⟩,λy c' e=>?_,I.free,I.freeC,λp hp=>?_,tracked ⟨oc,hoc,I.freeC x c hc⟩ hs,by simpa using I.len⟩ ⟨c,hs,.inr hc⟩
  ·exact(hs.2 b (BA (AV (AQ e) (I.ok.cab x c hfn hc)))).trans (I.base.keep b o e n hb hx)
  ·obtain⟨sl,e1⟩:=I.base.slot b o e n hb hx
   exact⟨sl,(hs.2 b (BA (AV (AQ e) (I.ok.cab x c hfn hc)))).trans e1⟩
  ·obtain⟨o',e1⟩:=I.base.there b o e hx
   exact⟨o',(hs.2 b (BA (AV (AQ e) (I.ok.cab x c hfn hc)))).trans e1⟩
  ·by_cases hj:j=i
   ·subst hj
    rw[hi]at e1;cases e1
    rw[AW hiσ]at e2
    cases e2
    exact⟨u,r,.inr ⟨.inl hk,c,hc,hc'⟩⟩
   ·rw[AD (Ne.symm hj)]at e2
    obtain⟨u',r',q⟩:=hl j y v' e1 e2 e3
    refine⟨u',r',?_⟩
    rcases q with q | ⟨k,c',e,z'⟩
    ·exact .inl q
    ·refine .inr ⟨k,c',e,z'.sameBut hs ?_⟩
     rintro rfl
     exact hj (Bd hN e1 (I.ok.inj _ _ _ e hc ▸ hi))
  ·by_cases hcc:c'=c
   ·subst hcc;exact⟨_,hc'⟩
   ·obtain⟨w2,z2⟩:=I.cell y c' e
    exact⟨w2,z2.sameBut hs hcc⟩
  ·obtain⟨e,n,ne,nf,d⟩:=I.pin p hp
   refine⟨(hs.2 p.1 ?_).trans e,n,ne,nf,d⟩
   intro q
   rw[q,hoc]at e
   have q':oc=p.2:=BH e
   exact d w' (by rw[<-q'];exact hocd)
theorem Be {M:Model} {A:Around} {E:Value->Shared->Prop} {i:Nat} {x:Str} {v:V} {u:Value} {Q:Unit->Shared->Prop} (I:Inv X pins σ H s) (hN:X.N.Nodup) (hi:X.N[i]? = some x) (hx:Loc X.env.scope x) (r:RelV v u)
  (h:∀s',Inv X pins (σ.set i (some v)) H s'->Q () s') (hf:X.fn x=true\/X.env.scope.names.lookup x=some .local:=by first | exact .inl rfl | exact .inr rfl | assumption):wpAny M A (storeName X.env x u) Q E s :=
 wz I hN hi hx r (λs' I' _=>h s' I') hf
theorem Inv.call' {s':Shared} {ch:List Addr} (I:Inv X pins σ H s) (ho:s'.os=s.os) (u:Un (frs X.stack) ch H H' s.heap s'.heap) (hok:HOk X.prog X.w H' s'.heap) (hg:AllBare s'.gens)
  (hch:∀b∈ch,(b∈X.ex\/X.s₀.heap.objs.size<=b)/\b≠X.env.locals/\(∀x c,X.env.cells.lookup x=some c->c≠b)/\∀p∈X.pn++pins,p.1≠b):Inv X pins σ H' s':=by
 obtain⟨h',g',d',t',o'⟩:=s'
 have e:o'=s.os:=ho
 subst e
 exact I.call (g':=g') (t':=t') (d':=d') u hok hg hch
end
abbrev XK:=Value->Option Addr->Hp->Prop
abbrev St:=List (Option V)
abbrev VK:=V->Hp->Prop
abbrev TE:=St->Hp->VK->Prop
abbrev TT:=St->Hp->(Bool->Hp->Prop)->Prop
abbrev TA:=St->Hp->(List V->Hp->Prop)->Prop
structure Ends where
 nx:St->Hp->Prop
 rt:VK
 bk:St->Hp->Prop:=λ_ _=>False
 ct:St->Hp->Prop:=λ_ _=>False
abbrev TS:=Ends->St->Hp->Prop
def EP (X:Cx) (pins:List (Addr×Obj)) (σ:St) (Q:VK) (u:Value) (s':Shared):Prop:=∃v H',Inv X pins σ H' s'/\RelV v u/\Q v H'
def TP (X:Cx) (pins:List (Addr×Obj)) (σ:St) (Q:Bool->Hp->Prop) (b:Bool) (s':Shared):Prop:=∃H',Inv X pins σ H' s'/\Q b H'
def AP (X:Cx) (pins:List (Addr×Obj)) (σ:St) (Q:List V->Hp->Prop) (us:List Value) (s':Shared):Prop:=∃vs H',Inv X pins σ H' s'/\bh vs us/\Q vs H'
def SP (X:Cx) (pins:List (Addr×Obj)) (D:Ends) (f:Flow) (s':Shared):Prop :=
 match f with
 | .next=>∃σ' H',Inv X pins σ' H' s'/\D.nx σ' H'
 | .brk=>∃σ' H',Inv X pins σ' H' s'/\D.bk σ' H'
 | .cont=>∃σ' H',Inv X pins σ' H' s'/\D.ct σ' H'
 | .ret u=>∃v σ' H',Inv X pins σ' H' s'/\RelV v u/\D.rt v H'
def PE (X:Cx) (e:Expr) (t:TE):Prop :=
 ∀(pins:List (Addr×Obj)) (s:Shared) (σ:St) (H:Hp) (Q:VK),Inv X pins σ H s->t σ H Q->wpAny (model X.prog X.w) X.A (eval e X.env) (EP X pins σ Q) X.xe s
def PT (X:Cx) (e:Expr) (t:TT):Prop :=
 ∀(pins:List (Addr×Obj)) (s:Shared) (σ:St) (H:Hp) (Q:Bool->Hp->Prop),Inv X pins σ H s->t σ H Q->wpAny (model X.prog X.w) X.A (isTrue e X.env (eval e X.env)) (TP X pins σ Q) X.xe s
def PW (X:Cx) (e:Expr) (t:TT):Prop :=
 ∀(whole:Sem Value) (pins:List (Addr×Obj)) (s:Shared) (σ:St) (H:Hp) (Q:Bool->Hp->Prop),Inv X pins σ H s->t σ H Q->wpAny (model X.prog X.w) X.A (isTrue e X.env whole) (TP X pins σ Q) X.xe s
theorem PW.pt {X:Cx} {e:Expr} {t:TT} (h:PW X e t):PT X e t:=h _
def PA (X:Cx) (es:List Expr) (t:TA):Prop :=
 ∀(pos:Pos) (pins:List (Addr×Obj)) (s:Shared) (σ:St) (H:Hp) (Q:List V->Hp->Prop),Inv X pins σ H s->t σ H Q->wpAny (model X.prog X.w) X.A (spliced (backTo pos (starEach es X.env))) (AP X pins σ Q) X.xe s
def PS (X:Cx) (st:Stmt) (t:TS):Prop :=
 ∀(pins:List (Addr×Obj)) (s:Shared) (σ:St) (H:Hp) (D:Ends),Inv X pins σ H s->t D σ H->wpAny (model X.prog X.w) X.A (exec st X.env) (SP X pins D) X.xe s
def PSs (X:Cx) (st:List Stmt) (t:TS):Prop :=
 ∀(pins:List (Addr×Obj)) (s:Shared) (σ:St) (H:Hp) (D:Ends),Inv X pins σ H s->t D σ H->wpAny (model X.prog X.w) X.A (execs st X.env) (SP X pins D) X.xe s
theorem thn {α:Type} {t:Sem α} {Q Q':α->Shared->Prop} {M:Model} {A:Around} {E:Value->Shared->Prop} {s:Shared} (h:wpAny M A t Q E s) (hQ:∀a s,Q a s->Q' a s):wpAny M A t Q' E s:=DD h hQ λ_ _ x=>x
section
variable {X : Cx}
theorem bin {a b:Expr} {ta tb:TE} (ha:PE X a ta) (hb:PE X b tb) {pins:List (Addr×Obj)} {s:Shared} {σ:St} {H:Hp} {R:V->V->Hp->Prop} (I:Inv X pins σ H s) (h:ta σ H λx H1=>tb σ H1 λy H2=>R x y H2)
  {α:Type} {Q:α->Shared->Prop} {f:Value->Value->Sem α}
  (hf:∀v u s2 x y H2,Inv X pins σ H2 s2->RelV x v->RelV y u->R x y H2->wpAny (model X.prog X.w) X.A (f v u) Q X.xe s2) :
  wpAny (model X.prog X.w) X.A (eval a X.env) (λv s₁=>wpAny (model X.prog X.w) X.A (eval b X.env) (λu s₂=>wpAny (model X.prog X.w) X.A (f v u) Q X.xe s₂) X.xe s₁) X.xe s:=by
 refine thn (ha pins s σ H _ I h) λv s1 ⟨x,H1,I1,r1,q1⟩=>?_
 refine thn (hb pins s1 σ H1 _ I1 q1) λu s2 ⟨y,H2,I2,r2,q2⟩=>?_
 exact hf v u s2 x y H2 I2 r1 r2 q2
def Y6 (i:Nat):TE:=λσ H Q=>∃v,σ[i]? = some (some v)/\Q v H
def tC (v:V):TE:=λ_ H Q=>Q v H
theorem Bf {i:Nat} {x:Str} {pos:Pos} (hN:X.N[i]? = some x) (hv:Vis X.env.scope x) (hd:(x==("__debug__":Str))=false:=by decide) (hcd:(x==("__classdict__":Str))=false:=by decide):PE X (.Name x pos) (Y6 i):=by
 intro pins s σ H Q I h
 obtain⟨v,e,h⟩:=h
 obtain⟨m,hn,hl⟩:=I.loc
 obtain⟨u,r,l⟩:=hl i x v hN e hv
 have fin:EP X pins σ Q u s:=⟨v,H,I,r,h⟩
 rcases l with⟨hk,hm⟩ | ⟨hk,c,hc,hcell⟩
 ·exact wpAny_Name (wpAny_loadName_local I.ok.kind hk hn hm fin) hd
 ·rcases hk with hk | hk
  ·exact wpAny_Name (wpAny_loadName_cell I.ok.kind hk hc hcell fin) hd
  ·exact wpAny_Name (wpAny_loadName_free I.ok.kind hk hc hcell fin hcd) hd
theorem Lx {i j pos}:PE X (.Constant (.int i) j pos) (tC (.int i)):=λ_ _ _ H _ I h=>FX ⟨.int i,H,I.tok _,⟨_,rfl⟩,h⟩
theorem Wt {b j pos}:PE X (.Constant (.bool b) j pos) (tC (.bl b)):=λ_ _ _ H _ I h=>Constant_bool ⟨.bl b,H,I,rfl,h⟩
theorem Rq {j pos}:PE X (.Constant .none j pos) (tC .non):=λ_ _ _ H _ I h=>Constant_none ⟨.non,H,I,rfl,h⟩
def Gl (X:Cx) (x:Str):Prop:=X.env.kindOf x=some .globalImplicit
theorem Ei {E:Value->Shared->Prop} {pins:List (Addr×Obj)} {s:Shared} {σ:St} {H:Hp} {x:Str} {u:Value} {pos:Pos} {Q:Value->Shared->Prop} (I:Inv X pins σ H s) (hg:Gl X x) (hm:X.mg x=some u) (h:Q u s)
  (hd:(x==("__debug__":Str))=false:=by decide):wpAny (model X.prog X.w) X.A (eval (.Name x pos) X.env) Q E s :=
 FY I.ok.kind hg (Calls.loadGlobal_global (by rw[I.ok.glob];exact I.mod.glob.keeps I.bk) hm h) hd
theorem w4 {E:Value->Shared->Prop} {pins:List (Addr×Obj)} {s:Shared} {σ:St} {H:Hp} {x:Str} {u:Value} {pos:Pos} {Q:Value->Shared->Prop} (I:Inv X pins σ H s) (hg:Gl X x) (hm:X.mg x=none) (hv:bootBuiltins x=some u) (h:Q u s)
  (hn:x≠"__name__":=by decide) (hd:(x==("__debug__":Str))=false:=by decide):wpAny (model X.prog X.w) X.A (eval (.Name x pos) X.env) Q E s:=by
 obtain⟨mb,h1,h2⟩:=I.mod.blt
 exact FY I.ok.kind hg (Calls.loadGlobal_builtin (by rw[I.ok.glob];exact I.mod.glob.keeps I.bk) hm (by rw[I.ok.blt];exact h1.keeps I.bk) ((h2 x hn).trans hv) h) hd
variable {a b : Expr} {ta tb : TE} {pos : Pos}
variable {tA tB' : TT} {rest : List Expr}
def aad (t u:TT):TT:=λσ H Q=>t σ H λc H1=>if c=true then u σ H1 Q else Q false H1
def aae (t:TT):TT:=λσ H Q=>t σ H λc H1=>Q (!c) H1
theorem N7 (ha:PT X a tA):PW X (.BoolOp .And [a] pos) tA:=by
 intro wh pins s σ H Q I h
 refine isTrue_and (thn (ha pins s σ H Q I h) λc s1 e=>?_)
 cases c with
 | true=>exact isTrue_and_nil e
 | false=>exact e
theorem Rr (ha:PT X a tA) (hb:PW X (.BoolOp .And (b::rest) pos) tB'):PW X (.BoolOp .And (a::b::rest) pos) (aad tA tB'):=by
 intro wh pins s σ H Q I h
 refine isTrue_and (thn (ha pins s σ H _ I h) λc s1 ⟨H1,I1,q1⟩=>?_)
 cases c with
 | true=>exact hb wh pins s1 σ H1 Q I1 q1
 | false=>exact⟨H1,I1,q1⟩
theorem Rt (ha:PT X a tA):PT X (.UnaryOp .Not a pos) (aae tA):=by
 intro pins s σ H Q I h
 exact isTrue_not (ha pins s σ H (λc H1=>Q (!c) H1) I h)
def Wu (ta:TE):TE:=λσ H Q=>ta σ H λx H1=>∃c,x=.bl c/\Q (.bl (!c)) H1
theorem Ru (ha:PE X a ta):PE X (.UnaryOp .Not a pos) (Wu ta):=by
 intro pins s σ H Q I h
 refine UnaryOp_ (thn (ha pins s σ H _ I h) λv s1 ⟨x,H1,I1,r1,q1⟩=>?_)
 obtain⟨c,rfl,q1⟩:=q1
 cases r1
 exact not_of (ED ⟨.bl (!c),H1,I1,rfl,q1⟩)
def tIf (t:TT) (ta tb:TE):TE:=λσ H Q=>t σ H λc H1=>if c=true then ta σ H1 Q else tb σ H1 Q
theorem Jq {c:Expr} (hc:PT X c tA) (ha:PE X a ta) (hb:PE X b tb):PE X (.IfExp c a b pos) (tIf tA ta tb):=by
 intro pins s σ H Q I h
 refine wpAny_IfExp (thn (hc pins s σ H _ I h) λd s1 ⟨H1,I1,q1⟩=>?_)
 cases d with
 | true=>exact ha pins s1 σ H1 Q I1 q1
 | false=>exact hb pins s1 σ H1 Q I1 q1
end
def SqL (K:PySem.W.Frag) (H:Hp) (a:Addr) (xs:List V):Prop :=
 Rd H a (.lst xs) \/
  ∃(o:Obj) (its:Array Value) (n:Nat),K.lookup a=some o/\o.cls=.type "list"/\o.dict=none/\o.data=.seq its n/\its.size<=sizeLine/\bh xs its.toList
def SqT (K:PySem.W.Frag) (H:Hp) (a:Addr) (xs:List V):Prop :=
 Rd H a (.tup xs) \/
  ∃(o:Obj) (its:Array Value) (n:Nat),K.lookup a=some o/\o.cls=.type "tuple"/\o.data=.seq its n/\its.size<=sizeLine/\bh xs its.toList/\o.dict=none
def aaf:Value->Option V
 | .none=>some .non
 | .bool b=>some (.bl b)
 | .int i _=>some (.int i)
 | .str x _=>some (.str x)
 | .bytes b _=>some (.byt b)
 | .float b _=>some (.flt b)
 | .ref a=>some (.ref a)
 | .type n=>some (.ty n)
 | _=>none
theorem RelV.abs {x:V} {u:Value} (r:RelV x u):aaf u=some x:=by
 cases x with
 | non=>cases r;rfl
 | bl _=>cases r;rfl
 | int _=>obtain⟨t,rfl⟩:=r;rfl
 | str _=>obtain⟨t,rfl⟩:=r;rfl
 | byt _=>obtain⟨t,rfl⟩:=r;rfl
 | flt _=>obtain⟨t,rfl⟩:=r;rfl
 | ref _=>cases r;rfl
 | ty _=>cases r;rfl
theorem RelV.inj {x y:V} {u:Value} (r:RelV x u) (q:RelV y u):x=y:=BH (r.abs.symm.trans q.abs)
theorem bh.inj:∀{xs ys:List V} {us:List Value},bh xs us->bh ys us->xs=ys
 | _,_,_,.nil,.nil=>rfl
 | _,_,_,.cons r t,.cons r' t'=>by rw[r.inj r',bh.inj t t']
section
variable {X : Cx} {pins : List (Addr × Obj)} {σ : St} {H : Hp} {s : Shared} {a : Addr} {xs ys : List V}
theorem SqL.of {K:PySem.W.Frag} (h:H a=some (.lst xs)):SqL K H a xs:=.inl (.inl h)
theorem SqT.of {K:PySem.W.Frag} (h:H a=some (.tup xs)):SqT K H a xs:=.inl (.inl h)
theorem Inv.list (I:Inv X pins σ H s) (h:SqL X.K H a xs):∃its:List Value,bh xs its/\PlainL s.heap a its.toArray/\xs.length<=sizeLine:=by
 rcases h with h | ⟨o,its,n,hk,hc,hd,hs,hz,r⟩
 ·obtain⟨z,its,n,r,e⟩:=h.ok I.hok
  exact⟨its,r,⟨_,n,e,rfl,rfl,rfl⟩,z⟩
 ·refine⟨its.toList,r,⟨o,n,I.kIn a o hk,hc,hd,by simpa using hs⟩,?_⟩
  have e:=r.length
  simp![DI]at e
  lia
theorem Inv.tuple (I:Inv X pins σ H s) (h:SqT X.K H a xs):∃its:List Value,bh xs its/\IsTup s.heap a its.toArray/\xs.length<=sizeLine:=by
 rcases h with h | ⟨o,its,n,hk,hc,hs,hz,r,_⟩
 ·obtain⟨z,its,r,p⟩:=h.ok I.hok
  exact⟨its,r,p.tup,z⟩
 ·refine⟨its.toList,r,⟨o,I.kIn a o hk,hc,n,by simpa using hs⟩,?_⟩
  have e:=r.length
  simp![DI]at e
  lia
theorem Inv.list_inj (I:Inv X pins σ H s) (h:SqL X.K H a xs) (h':SqL X.K H a ys):xs=ys:=by
 obtain⟨its,r,⟨o,n,e,_,_,d⟩,_⟩:=I.list h
 obtain⟨its',r',⟨o',n',e',_,_,d'⟩,_⟩:=I.list h'
 rw[e]at e';cases e'
 rw[d]at d'
 injection d' with d1 _
 have:its=its':=by simpa using congrArg Array.toList d1
 subst this
 exact r.inj r'
theorem Inv.tuple_inj (I:Inv X pins σ H s) (h:SqT X.K H a xs) (h':SqT X.K H a ys):xs=ys:=by
 obtain⟨its,r,⟨o,e,_,n,d⟩,_⟩:=I.tuple h
 obtain⟨its',r',⟨o',e',_,n',d'⟩,_⟩:=I.tuple h'
 rw[e]at e';cases e'
 rw[d]at d'
 injection d' with d1 _
 have:its=its':=by simpa using congrArg Array.toList d1
 subst this
 exact r.inj r'
end
abbrev Cx.wish (X:Cx) (E:Value->Shared->Prop):Cx:={X with xe:=E}
abbrev Cx.nox (X:Cx):Cx:=X.wish λ_ _=>False
theorem Cx.Ok.wish {X:Cx} (ok:X.Ok) (E:Value->Shared->Prop):(X.wish E).Ok :=
 ⟨ok.mod,ok.kind,ok.glob,ok.blt,ok.above,ok.inj,ok.has,ok.cab,ok.hd,ok.frames,ok.stk,ok.exf,ok.bs,ok.bsz,ok.noex,ok.exfs,ok.funs,ok.frf⟩
theorem Cx.Ok.unwish {X:Cx} {E:Value->Shared->Prop} (ok:(X.wish E).Ok):X.Ok :=
 ⟨ok.mod,ok.kind,ok.glob,ok.blt,ok.above,ok.inj,ok.has,ok.cab,ok.hd,ok.frames,ok.stk,ok.exf,ok.bs,ok.bsz,ok.noex,ok.exfs,ok.funs,ok.frf⟩
section
variable {X : Cx} {pins : List (Addr × Obj)} {σ : St} {H : Hp} {s : Shared} {E : Value -> Shared -> Prop}
theorem Inv.wish (I:Inv X pins σ H s) (E:Value->Shared->Prop):Inv (X.wish E) pins σ H s:=⟨I.ok.wish E,I.os,I.bare,I.base,I.loc,I.cell,I.free,I.freeC,I.pin,I.hok,I.len⟩
theorem Inv.unwish (I:Inv (X.wish E) pins σ H s):Inv X pins σ H s:=⟨I.ok.unwish,I.os,I.bare,I.base,I.loc,I.cell,I.free,I.freeC,I.pin,I.hok,I.len⟩
theorem SP.unwish {D:Ends} {f:Flow} {s':Shared} (h:SP (X.wish E) pins D f s'):SP X pins D f s':=by
 cases f with
 | next=>obtain⟨σ',H',I,q⟩:=h;exact⟨σ',H',I.unwish,q⟩
 | brk=>obtain⟨σ',H',I,q⟩:=h;exact⟨σ',H',I.unwish,q⟩
 | cont=>obtain⟨σ',H',I,q⟩:=h;exact⟨σ',H',I.unwish,q⟩
 | ret u=>obtain⟨v,σ',H',I,r,q⟩:=h;exact⟨v,σ',H',I.unwish,r,q⟩
theorem PSs.nox {st:List Stmt} {t:TS} (h:PSs X.nox st t):PSs X st t:=λpins s σ H D I hw =>
 DD (h pins s σ H D (I.wish _) hw) (λ_ _ q=>q.unwish) λ_ _ z=>False.elim z
end
section
variable {X : Cx} {st : Stmt} {rest : List Stmt} {t u : TS} {e : Expr} {te : TE} {pos : Pos}
def tNext:TS:=λD σ H=>D.nx σ H
def aag (t u:TS):TS:=λD σ H=>t {D with nx:=u D} σ H
theorem N8:PSs X [] tNext:=λ_ _ σ H _ I h=>HJ ⟨σ,H,I,h⟩
theorem Jr (h1:PS X st t) (h2:PSs X rest u):PSs X (st::rest) (aag t u):=by
 intro pins s σ H D I h
 refine wpAny_execs_cons (thn (h1 pins s σ H {D with nx:=u D} I h) λf s1 q=>?_)
 cases f with
 | next =>
  obtain⟨σ',H',I',q⟩:=q
  exact h2 pins s1 σ' H' D I' q
 | ret v=>exact q
 | brk=>exact q
 | cont=>exact q
theorem Inv.quiet {pins:List (Addr×Obj)} {σ:St} {H:Hp} {s:Shared} (I:Inv X pins σ H s):interactive X.env=false:=by simp[interactive,I.ok.kind]
def Wv (te:TE):TS:=λD σ H=>te σ H λ_ H1=>D.nx σ H1
theorem N9 (he:PE X e te) (hs:swapsWith e none pos.line X.env=pure false:=by rfl):PS X (.Expr e pos) (Wv te):=by
 intro pins s σ H D I h
 exact wpAny_Expr_any (thn (he pins s σ H _ I h) λv s1 ⟨x,H1,I1,r1,q1⟩=>⟨σ,H1,I1,q1⟩) I.quiet hs
def aah (te:TE):TS:=λD σ H=>te σ H D.rt
theorem Rv (he:PE X e te):PS X (.Return (some e) pos) (aah te):=by
 intro pins s σ H D I h
 exact wpAny_Return_some (thn (he pins s σ H _ I h) λv s1 ⟨x,H1,I1,r1,q1⟩=>⟨x,σ,H1,I1,r1,q1⟩)
def aai (c:TT) (t u:TS):TS:=λD σ H=>c σ H λb H1=>if b=true then t D σ H1 else u D σ H1
theorem Ww {c:Expr} {a b:List Stmt} {tc:TT} (hc:PT X c tc) (ha:PSs X a t) (hb:PSs X b u):PS X (.If c a b pos) (aai tc t u):=by
 intro pins s σ H D I h
 refine wpAny_If (thn (hc pins s σ H _ I h) λd s1 ⟨H1,I1,q1⟩=>?_)
 cases d with
 | true=>exact ha pins s1 σ H1 D I1 q1
 | false=>exact hb pins s1 σ H1 D I1 q1
end
abbrev TG:=V->St->Hp->(St->Hp->Prop)->Prop
abbrev TGs:=List V->St->Hp->(St->Hp->Prop)->Prop
def PG (X:Cx) (target:Expr) (t:TG):Prop :=
 ∀(pins:List (Addr×Obj)) (s:Shared) (σ:St) (H:Hp) (v:V) (u:Value) (Q:St->Hp->Prop),Inv X pins σ H s->RelV v u->t v σ H Q ->
  wpAny (model X.prog X.w) X.A (assign target X.env u) (λ_ s'=>∃σ' H',Inv X pins σ' H' s'/\Q σ' H') X.xe s
def PGs (X:Cx) (ts:List Expr) (t:TGs):Prop :=
 ∀(pins:List (Addr×Obj)) (s:Shared) (σ:St) (H:Hp) (vs:List V) (us:List Value) (Q:St->Hp->Prop),Inv X pins σ H s->bh vs us->t vs σ H Q ->
  wpAny (model X.prog X.w) X.A (assignInOrder ((assignEach ts X.env).map (·.2)) us) (λ_ s'=>∃σ' H',Inv X pins σ' H' s'/\Q σ' H') X.xe s
abbrev TSet:=V->V->V->Hp->(Hp->Prop)->Prop
def Rw (X:Cx) (t:TSet):Prop :=
 ∀(pins:List (Addr×Obj)) (s:Shared) (σ:St) (H:Hp) (o i v:V) (ov iv u:Value) (Q:Hp->Prop),Inv X pins σ H s->RelV o ov->RelV i iv->RelV v u->t o i v H Q ->
  wpAny (model X.prog X.w) X.A (setItem ov iv u) (λ_ s'=>∃H',Inv X pins σ H' s'/\Q H') X.xe s
abbrev TIp:=V->V->Hp->VK->Prop
def PIp (X:Cx) (op:Operator) (t:TIp):Prop :=
 ∀(pins:List (Addr×Obj)) (s:Shared) (σ:St) (H:Hp) (x y:V) (v u:Value) (Q:VK),Inv X pins σ H s->RelV x v->RelV y u->t x y H Q ->
  wpAny (model X.prog X.w) X.A (inplaceOp op v u) (EP X pins σ Q) X.xe s
section
variable {X : Cx} {pos : Pos}
def Oa (i:Nat):TG:=λv σ H Q=>Q (σ.set i (some v)) H
theorem Ej {i:Nat} {x:Str} (hN:X.N.Nodup) (hi:X.N[i]? = some x) (hx:Loc X.env.scope x) (hf:X.fn x=true\/X.env.scope.names.lookup x=some .local:=by first | exact .inl rfl | exact .inr rfl | assumption):PG X (.Name x pos) (Oa i):=by
 intro pins s σ H v u Q I r h
 exact wpAny_assign_Name (Be I hN hi hx r (λs' I'=>⟨_,H,I',h⟩) hf)
def gNil:TGs:=λvs σ H Q=>vs=[]/\Q σ H
def Wx (t:TG) (u:TGs):TGs:=λvs σ H Q=>∃v r,vs=v::r/\t v σ H λσ' H'=>u r σ' H' Q
theorem Ob:PGs X [] gNil:=by
 intro pins s σ H vs us Q I r h
 obtain⟨e,h⟩:=h
 subst e
 cases r
 exact assignInOrder_nil ⟨σ,H,I,h⟩
theorem Js {e:Expr} {es:List Expr} {t:TG} {u:TGs} (h1:PG X e t) (h2:PGs X es u)
  (hs:(assignEach (e::es) X.env).map (·.2)=assign e X.env::(assignEach es X.env).map (·.2):=by rfl):PGs X (e::es) (Wx t u):=by
 intro pins s σ H vs us Q I r h
 obtain⟨v,vr,e1,h⟩:=h
 subst e1
 cases r with
 | cons r rr =>
  rw[hs]
  refine assignInOrder_cons (thn (h1 pins s σ H _ _ _ I r h) λ_ s1 ⟨σ1,H1,I1,q1⟩=>?_)
  exact h2 pins s1 σ1 H1 _ _ Q I1 rr q1
def aaj (K:PySem.W.Frag) (n:Nat) (t:TGs):TG:=λv σ H Q=>∃a xs,v=.ref a/\SqT K H a xs/\xs.length=n/\t xs σ H Q
theorem Rx {es:List Expr} {k:Nat} {t:TGs} {n:Nat} (hc:X.calm=true) (h:PGs X es t)
  (hn:(assignEach es X.env).length=n:=by rfl) (hst:(assignEach es X.env).findIdx? (·.1)=none:=by rfl):PG X (.Tuple es k pos) (aaj X.K n t):=by
 intro pins s σ H v u Q I r hw
 obtain⟨a,xs,e1,hq,hl,hw⟩:=hw
 subst e1
 cases r
 obtain⟨its,rv,ht,hz⟩:=I.tuple hq
 refine assign_Tuple_tuple (I.ok.hd hc) ht (by simp[hn,<-hl,rv.length]) hst λh' hx=>?_
 have I1:Inv X pins σ H {s with heap:=h'}:=I.kept (t':=s.toks) λb o e=>hx b o (BA (AQ e)) e
 exact h pins _ σ H xs _ Q I1 (by simpa using rv) hw
def aak (to ti:TE) (t:TSet):TG:=λv σ H Q=>to σ H λo H1=>ti σ H1 λi H2=>t o i v H2 λH3=>Q σ H3
theorem Ry {o i:Expr} {to ti:TE} {t:TSet} (ho:PE X o to) (hi:PE X i ti) (hs:Rw X t)
  (ha:∀v,assign (.Subscript o i pos) X.env v=(do
   let ov <-holding [v] (eval o X.env)
   let iv <-holding [v,ov] (eval i X.env)
   standAt pos
   holding [v,ov,iv] (setItem ov iv v)
   release [v,ov,iv] []):=by intro _;rfl):PG X (.Subscript o i pos) (aak to ti t):=by
 intro pins s σ H v u Q I r h
 rw[ha]
 refine AB (EM (thn (ho pins s σ H _ I h) λov s1 ⟨x,H1,I1,r1,q1⟩=>?_))
 refine AB (EM (thn (hi pins s1 σ H1 _ I1 q1) λiv s2 ⟨y,H2,I2,r2,q2⟩=>?_))
 refine AB (wpAny_standAt (AB (EM (thn (hs pins s2 σ H2 x y v ov iv u _ I2 r1 r2 r q2) λ_ s3 ⟨H3,I3,q3⟩=>?_))))
 exact wpAny_release ⟨σ,H3,I3,q3⟩
def Y7 (te:TE) (g:TG):TS:=λD σ H=>te σ H λx H1=>g x σ H1 D.nx
theorem Ly {tg e:Expr} {te:TE} {g:TG} (he:PE X e te) (hg:PG X tg g) (hs:swapsWithSole [tg] e pos.line X.env=pure false:=by rfl) (hw:swappedStores [tg] e X.env=pure none:=by rfl)
  (h1:(assignEach [tg] X.env).map (·.2)=[assign tg X.env]:=by rfl):PS X (.Assign [tg] e pos) (Y7 te g):=by
 intro pins s σ H D I h
 refine wpAny_Assign_stores (thn (he pins s σ H _ I h) λv s1 ⟨x,H1,I1,r1,q1⟩=>?_) hs hw
 rw[h1]
 exact thn (hg pins s1 σ H1 x v _ I1 r1 q1) λ_ s2 q=>q
theorem Rz {i:Nat} {x:Str} {e:Expr} {te:TE} {pos':Pos} (hN:X.N.Nodup) (hi:X.N[i]? = some x) (hx:Loc X.env.scope x) (he:PE X e te) (hs:swapsWith e (some (.Name x pos')) pos.line X.env=pure false:=by rfl) (hf:X.fn x=true\/X.env.scope.names.lookup x=some .local:=by first | exact .inl rfl | exact .inr rfl | assumption) :
  PS X (.Assign [.Name x pos'] e pos) (Y7 te (Oa i)):=by
 intro pins s σ H D I h
 refine wpAny_Assign_Name (thn (he pins s σ H _ I h) λv s1 ⟨y,H1,I1,r1,q1⟩=>?_) hs
 exact Be I1 hN hi hx r1 (λs2 I2=>⟨_,H1,I2,q1⟩) hf
def Wy (to ti te:TE) (tget:V->V->Hp->VK->Prop) (tip:TIp) (tset:TSet):TS:=λD σ H=>to σ H λo H1=>ti σ H1 λi H2=>tget o i H2 λx H3=>te σ H3 λy H4=>tip x y H4 λz H5=>tset o i z H5 λH6=>D.nx σ H6
def Wz (X:Cx) (t:V->V->Hp->VK->Prop):Prop :=
 ∀(pins:List (Addr×Obj)) (s:Shared) (σ:St) (H:Hp) (o i:V) (ov iv:Value) (Q:VK),Inv X pins σ H s->RelV o ov->RelV i iv->t o i H Q ->
  wpAny (model X.prog X.w) X.A (getItem ov iv) (EP X pins σ Q) X.xe s
theorem Oc {o i e:Expr} {to ti te:TE} {tget:V->V->Hp->VK->Prop} {tip:TIp} {tset:TSet} {op:Operator} {tpos:Pos} (ho:PE X o to) (hi:PE X i ti) (hg:Wz X tget) (he:PE X e te) (hp:PIp X op tip) (hs:Rw X tset)
  (ha:∀ov iv new,augStore i ov iv new=(do holding [new,ov,iv] (setItem ov iv new);release [new,ov,iv] [];pure .next):=by intros;rfl):PS X (.AugAssign (.Subscript o i tpos) op e pos) (Wy to ti te tget tip tset):=by
 intro pins s σ H D I h
 refine wpAny_AugAssign_SubscriptAny (thn (ho pins s σ H _ I h) λov s1 ⟨x1,H1,I1,r1,q1⟩=>?_) ha
 refine thn (hi pins s1 σ H1 _ I1 q1) λiv s2 ⟨x2,H2,I2,r2,q2⟩=>?_
 refine thn (hg pins s2 σ H2 x1 x2 ov iv _ I2 r1 r2 q2) λold s3 ⟨x3,H3,I3,r3,q3⟩=>?_
 refine thn (he pins s3 σ H3 _ I3 q3) λv s4 ⟨x4,H4,I4,r4,q4⟩=>?_
 refine thn (hp pins s4 σ H4 x3 x4 old v _ I4 r3 r4 q4) λnew s5 ⟨x5,H5,I5,r5,q5⟩=>?_
 exact thn (hs pins s5 σ H5 x1 x2 x5 ov iv new _ I5 r1 r2 r5 q5) λ_ s6 ⟨H6,I6,q6⟩=>⟨σ,H6,I6,q6⟩
def ipI (f:Int->Int->Int):TIp:=λx y H Q=>∃i j,x=.int i/\y=.int j/\Q (.int (f i j)) H
theorem R5:PIp X .Add (ipI λi j=>i+j):=by
 intro pins s σ H x y v u Q I r1 r2 h
 obtain⟨i,j,e1,e2,q⟩:=h
 subst e1;subst e2
 obtain⟨t,rfl⟩:=r1
 obtain⟨t',rfl⟩:=r2
 exact iadd_int ⟨.int _,H,I.tok _,⟨_,rfl⟩,q⟩
theorem R6:PIp X .Sub (ipI λi j=>i-j):=by
 intro pins s σ H x y v u Q I r1 r2 h
 obtain⟨i,j,e1,e2,q⟩:=h
 subst e1;subst e2
 obtain⟨t,rfl⟩:=r1
 obtain⟨t',rfl⟩:=r2
 exact isub_int ⟨.int _,H,I.tok _,⟨_,rfl⟩,q⟩
def R7 (c:TT) (tb:TS):TS:=λD σ H=>∃W:Nat->St->Hp->Prop,(∃m,W m σ H)/\∀m σ H,W m σ H ->
 c σ H λb H1=>if b=true then ∃N:St->Hp->Prop,(∀σ' H',N σ' H'->∃m',m'<m/\W m' σ' H')/\tb {D with nx:=N,ct:=N,bk:=D.nx} σ H1 else D.nx σ H1
theorem Jt {c:Expr} {body:List Stmt} {tc:TT} {tb:TS} (hp:PassesOwn (model X.prog X.w) X.A X.env X.xe) (hc:PT X c tc) (hb:PSs X body tb):PS X (.While c body [] pos) (R7 tc tb):=by
 intro pins s σ H D I h
 obtain⟨W,⟨m0,w0⟩,turn⟩:=h
 refine wpAny_While (codeAny_whileLoop (λn s'=>∃σ' H',Inv X pins σ' H' s'/\W n σ' H') ?_ m0 ⟨σ,H,I,w0⟩)
 rintro n s1 ⟨σ1,H1,I1,w1⟩
 refine EB hp (thn (hc pins s1 σ1 H1 _ I1 (turn n σ1 H1 w1)) λb s2 ⟨H2,I2,q2⟩=>?_)
 cases b with
 | true =>
  obtain⟨N,hN,q2⟩:=q2
  rw[if_pos rfl]
  refine EB hp (thn (hb pins s2 σ1 H2 _ I2 q2) λf s3 q3=>?_)
  cases f with
  | next =>
   obtain⟨σ3,H3,I3,n3⟩:=q3
   obtain⟨m',hm,w3⟩:=hN σ3 H3 n3
   exact⟨m',hm,σ3,H3,I3,w3⟩
  | cont =>
   obtain⟨σ3,H3,I3,n3⟩:=q3
   obtain⟨m',hm,w3⟩:=hN σ3 H3 n3
   exact⟨m',hm,σ3,H3,I3,w3⟩
  | brk=>exact q3
  | ret v=>exact q3
 | false =>
  rw[if_neg BB]
  exact HJ ⟨σ1,H2,I2,q2⟩
end
structure It where
 go:Nat->Hp->Prop
 yld:Nat->Hp->V->Hp->Prop
 stop:Nat->Hp->Prop
def C0 (X:Cx) (pins:List (Addr×Obj)) (H:Hp) (b:Addr):Prop :=
 H b=none/\b≠X.env.locals/\b∉X.fs/\(b∈X.ex\/X.s₀.heap.objs.size<=b)/\(∀x c,X.env.cells.lookup x=some c->c≠b)/\∀p∈X.pn++pins,p.1≠b
theorem Inv.fpOk {X:Cx} {pins:List (Addr×Obj)} {σ:St} {H H':Hp} {s:Shared} {b:Addr} (I:Inv X pins σ H s) (hb:s.heap.objs.size<=b) (hn:H' b=none):C0 X pins H' b:=by
 refine⟨hn,CW (AV I.lt hb),I.nofs hb,.inr (BX I.sz hb),λx c e z=>?_,λp hp z=>?_⟩
 ·obtain⟨v,q⟩:=I.cell x c e
  exact absurd (AV q.lt (by rw[z];exact hb)) (DC _)
 ·exact absurd (AV (AQ (I.pin p hp).1) (by rw[z];exact hb)) (DC _)
structure Turn (P:Program) (w:World) (K:PySem.W.Frag) (tg:Expr) (J:It) (fp:List Addr) (it:Addr) (tn:Nat->Heap->Prop):Prop where
 mem:it∈fp
 obj:∀i h,tn i h->∀b∈fp,∃o,h.get? b=some o/\∀v,o.data≠.cell v
 keep:∀i h h',tn i h->(∀b∈fp,∀o,h.get? b=some o->h'.get? b=some o)->tn i h'
 item:∀(X:Cx),X.prog=P->X.w=w->X.K=K->X.calm=true->∀(i:Nat) (pins:List (Addr×Obj)) (s:Shared) (σ:St) (H:Hp) (E:Value->Shared->Prop),Inv X pins σ H s->(∀b∈fp,C0 X pins H b)->tn i s.heap->J.go i H ->
  wpAny (model P w) X.A (pyNext (.ref it)) (λr s1=>∃u,r=some u /\
   wpAny (model P w) X.A (letOwnedTupleGo tg (.ref it) u) (λ_ s2=>∃x H',Inv X pins σ H' s2/\RelV x u/\J.yld i H x H'/\tn (i+1) s2.heap/\∀b∈fp,H' b=none) E s1) E s
 done:∀(X:Cx),X.prog=P->X.w=w->X.K=K->X.calm=true->∀(i:Nat) (pins:List (Addr×Obj)) (s:Shared) (σ:St) (H:Hp) (E:Value->Shared->Prop),Inv X pins σ H s->(∀b∈fp,C0 X pins H b)->tn i s.heap->J.stop i H ->
  wpAny (model P w) X.A (pyNext (.ref it)) (λr s1=>r=none/\Inv X pins σ H s1) E s
 self:∀(A:Around) (i:Nat) (s:Shared) (Q:Value->Shared->Prop) (E:Value->Shared->Prop),tn i s.heap->Q (.ref it) s->wpAny (model P w) A (pyIter (.ref it)) Q E s
abbrev TI:=St->Hp->(It->Hp->Prop)->Prop
def PIE (X:Cx) (pins:List (Addr×Obj)) (σ:St) (tg:Expr) (R:It->Hp->Prop) (itv:Value) (s2:Shared):Prop :=
 ∃(it:Addr) (fp:List Addr) (tn:Nat->Heap->Prop) (J:It) (H':Hp),itv=.ref it/\Inv X pins σ H' s2/\Turn X.prog X.w X.K tg J fp it tn/\tn 0 s2.heap/\(∀b∈fp,C0 X pins H' b)/\R J H'
def PI (X:Cx) (tg iter:Expr) (wi:TI):Prop :=
 ∀(pins:List (Addr×Obj)) (s:Shared) (σ:St) (H:Hp) (R:It->Hp->Prop),Inv X pins σ H s->wi σ H R ->
  wpAny (model X.prog X.w) X.A (eval iter X.env) (λv s1=>wpAny (model X.prog X.w) X.A (pyIter v) (PIE X pins σ tg R) X.xe s1) X.xe s
theorem Ju {M:Model} {A:Around} {E:Value->Shared->Prop} {s:Shared} {tg:Expr} {it:Addr} {u:Value} {o:Obj} {n:String} {vs:Array Value} {Q:Unit->Shared->Prop} (ho:s.heap.get? it=some o) (hc:o.cls=.type n) (hd:o.data=.fields vs)
  (hn:["enumerate","zip","dict_itemiterator","dict_reverseitemiterator","odict_iterator","itertools.zip_longest","itertools.pairwise"].contains n=false) (hQ:Q () s):wpAny M A (letOwnedTupleGo tg (.ref it) u) Q E s:=by
 unfold letOwnedTupleGo
 cases tg<;>first
  | exact AL hQ
  | (cases u<;>first
    | exact AL hQ
    | (
     refine AB (wpAny_load ho ?_)
     rw[hc,hd]
     show wpAny M A (if(["enumerate","zip","dict_itemiterator","dict_reverseitemiterator","odict_iterator","itertools.zip_longest","itertools.pairwise"].contains n&&vs[0]?==some (rawInt _))=true then _ else _) Q E s
     rw[if_neg (by intro h;rw[hn,HZ]at h;cases h)]
     exact AL hQ))
def Itl (K:PySem.W.Frag) (a:Addr):It :=
 ⟨λi H=>∃xs x,SqL K H a xs/\xs[i]? = some x,λi H x H'=>H'=H/\∀xs,SqL K H a xs->xs[i]? = some x,λi H=>∃xs,SqL K H a xs/\xs.length<=i⟩
def Itt (K:PySem.W.Frag) (a:Addr):It :=
 ⟨λi H=>∃xs x,SqT K H a xs/\xs[i]? = some x,λi H x H'=>H'=H/\∀xs,SqT K H a xs->xs[i]? = some x,λi H=>∃xs,SqT K H a xs/\xs.length<=i⟩
def Itr (lo:Int) (n:Nat):It:=⟨λi _=>i<n,λi H x H'=>H'=H/\x=.int (lo+i),λi _=>n<=i⟩
theorem Ek {P:Program} {w:World} {K:PySem.W.Frag} {tg:Expr} (a it:Addr):Turn P w K tg (Itl K a) [it] it (λi h=>h.IsListIter it a i) where
 mem:=by simp
 obj:=λi h st b hb=>by
  have e:b=it:=by simpa using hb
  subst e
  obtain⟨o,e,c,d⟩:=st
  exact⟨o,e,λv z=>by rw[d]at z;cases z⟩
 keep:=λi h h' st k=>st.at λo e=>k it (by simp) o e
 item:=by
  intro X hP hw hK hc i pins s σ H E I hf st hg
  subst hP hw hK
  obtain⟨xs,x,hq,hx⟩:=hg
  obtain⟨its,rv,p,hz⟩:=I.list hq
  obtain⟨u,hu,ru⟩:=rv.get hx
  obtain⟨f0,f1,f2,f3,f4,f5⟩:=hf it (by simp)
  refine wpAny_pyNext_list_item st p.isList (x:=u) (by simpa using hu) λh' st' sb=>?_
  have I1:Inv X pins σ H {s with heap:=h'}:=I.turned (t':=s.toks) (λb o hb e=>(sb.2 b hb).trans e) f0 f1 f3 f4 f5
  obtain⟨o,e,c,d⟩:=id st'
  exact⟨u,rfl,Ju (s:={s with heap:=h'}) e c d (by decide) ⟨x,H,I1,ru,⟨rfl,λys hy=>by rw[I.list_inj hy hq];exact hx⟩,st',λb hb=>(hf b hb).1⟩⟩
 done:=by
  intro X hP hw hK hc i pins s σ H E I hf st hg
  subst hP hw hK
  obtain⟨xs,hq,hx⟩:=hg
  obtain⟨its,rv,p,hz⟩:=I.list hq
  obtain⟨f0,f1,f2,f3,f4,f5⟩:=hf it (by simp)
  have hl:=rv.length
  exact wpAny_pyNext_list_end (I.ok.hd hc) st p.isList (by simp;lia) λh' eb=>⟨rfl,I.turned (t':=s.toks) (λb o hb e=>eb b o hb e) f0 f1 f3 f4 f5⟩
 self:=λ_ _ _ _ _ st h=>wpAny_pyIter_listiter st h
theorem C1 {P:Program} {w:World} {K:PySem.W.Frag} {tg:Expr} (a it:Addr):Turn P w K tg (Itt K a) [it] it (λi h=>h.IsTupleIter it a i) where
 mem:=by simp
 obj:=λi h st b hb=>by
  have e:b=it:=by simpa using hb
  subst e
  obtain⟨o,e,c,d⟩:=st
  exact⟨o,e,λv z=>by rw[d]at z;cases z⟩
 keep:=λi h h' st k=>st.at λo e=>k it (by simp) o e
 item:=by
  intro X hP hw hK hc i pins s σ H E I hf st hg
  subst hP hw hK
  obtain⟨xs,x,hq,hx⟩:=hg
  obtain⟨its,rv,p,hz⟩:=I.tuple hq
  obtain⟨u,hu,ru⟩:=rv.get hx
  obtain⟨f0,f1,f2,f3,f4,f5⟩:=hf it (by simp)
  refine wpAny_pyNext_tuple_item st (show s.heap.IsTuple a its.toArray from p) (x:=u) (by simpa using hu) λh' st' sb=>?_
  have I1:Inv X pins σ H {s with heap:=h'}:=I.turned (t':=s.toks) (λb o hb e=>(sb.2 b hb).trans e) f0 f1 f3 f4 f5
  obtain⟨o,e,c,d⟩:=id st'
  exact⟨u,rfl,Ju (s:={s with heap:=h'}) e c d (by decide) ⟨x,H,I1,ru,⟨rfl,λys hy=>by rw[I.tuple_inj hy hq];exact hx⟩,st',λb hb=>(hf b hb).1⟩⟩
 done:=by
  intro X hP hw hK hc i pins s σ H E I hf st hg
  subst hP hw hK
  obtain⟨xs,hq,hx⟩:=hg
  obtain⟨its,rv,p,hz⟩:=I.tuple hq
  obtain⟨f0,f1,f2,f3,f4,f5⟩:=hf it (by simp)
  have hl:=rv.length
  exact wpAny_pyNext_tuple_end (I.ok.hd hc) st (show s.heap.IsTuple a its.toArray from p) (by simp;lia) λh' eb=>⟨rfl,I.turned (t':=s.toks) (λb o hb e=>eb b o hb e) f0 f1 f3 f4 f5⟩
 self:=λ_ _ _ _ _ st h=>wpAny_pyIter_tupleiter st h
theorem C2 {P:Program} {w:World} {K:PySem.W.Frag} {tg:Expr} (it:Addr) (lo:Int) (n:Nat):Turn P w K tg (Itr lo n) [it] it (λi h=>IsRangeIter h it (lo+(i:Nat)*1) ((n:Int)-(i:Nat)) 1) where
 mem:=by simp
 obj:=λi h st b hb=>by
  have e:b=it:=by simpa using hb
  subst e
  exact⟨_,st,λv z=>by
   have z':Data.fields _=Data.cell v:=z
   cases z'⟩
 keep:=λi h h' st k=>k it (by simp) _ st
 item:=by
  intro X hP hw hK hc i pins s σ H E I hf st hg
  subst hP hw hK
  obtain⟨f0,f1,f2,f3,f4,f5⟩:=hf it (by simp)
  have W:=Walks.range (prog:=X.prog) (w:=X.w) (I.ok.hd hc) it lo 1 n
  refine W.item i s _ _ hg st λv h' tk hv st' kk=>?_
  obtain⟨t,rfl⟩:=hv
  have I1:Inv X pins σ H {s with heap:=h',toks:=tk}:=I.turned (λb o hb e=>kk b o (by simpa using hb) e) f0 f1 f3 f4 f5
  refine⟨_,rfl,Ju (s:={s with heap:=h',toks:=tk}) (n:="range_iterator") st' rfl rfl (by decide) ⟨.int (lo+i),H,I1,⟨t,?_⟩,⟨rfl,rfl⟩,st',λb hb=>(hf b hb).1⟩⟩
  rw[Int.mul_one]
 done:=by
  intro X hP hw hK hc i pins s σ H E I hf st hg
  subst hP hw hK
  obtain⟨f0,f1,f2,f3,f4,f5⟩:=hf it (by simp)
  exact wpAny_pyNext_range_end (I.ok.hd hc) st (by have:n<=i:=hg;lia) λh' eb=>⟨rfl,I.turned (t':=s.toks) (λb o hb e=>eb b o hb e) f0 f1 f3 f4 f5⟩
 self:=λ_ _ _ _ _ st h=>wpAny_pyIter_rangeiter st h
section
variable {X : Cx} {tg : Expr}
theorem Jv {pins:List (Addr×Obj)} {σ:St} {H:Hp} {s:Shared} {R:It->Hp->Prop} {E:Value->Shared->Prop} {lo hi:Int} {t u v:Tok} {tk:Nat} (I:Inv X pins σ H s) (h1:-(2 ^ 62)<=lo) (h2:lo<2 ^ 62) (h3:-(2 ^ 62)<=hi) (h4:hi<2 ^ 62)
  (q:R (Itr lo (hi-lo).toNat) H):wpAny (model X.prog X.w) X.A (pyIter (.ref s.heap.objs.size)) (PIE X pins σ tg R) E {s with heap:=s.heap.push {cls:=.type "range",data:=.fields #[.int lo t,.int hi u,.int 1 v]},toks:=tk}:=by
 refine wpAny_pyIter_range (IsRange.new ..) (small_one h1 h2 h3 h4) ?_
 have I1:Inv X pins σ H {s with heap:=s.heap.push {cls:=.type "range",data:=.fields #[.int lo t,.int hi u,.int 1 v]},toks:=tk}:=I.kept λb o e=>AE _ e
 refine⟨(s.heap.push {cls:=.type "range",data:=.fields #[.int lo t,.int hi u,.int 1 v]}).objs.size,[(s.heap.push {cls:=.type "range",data:=.fields #[.int lo t,.int hi u,.int 1 v]}).objs.size],_,_,H,rfl,
  I1.kept (t':=tk) λb o e=>AE _ e,C2 _ lo (hi-lo).toNat,?_,λb hb=>?_,q⟩
 ·have e1:lo+((0:Nat):Int)*1=lo:=by simp
  have e2:(((hi-lo).toNat:Nat):Int)-((0:Nat):Int)=Builtin.Range.rangeSize lo hi 1:=by rw[rangeSize_one];split<;>lia
  show IsRangeIter _ _ (lo+((0:Nat):Int)*1) ((((hi-lo).toNat:Nat):Int)-((0:Nat):Int)) 1
  rw[e1,e2]
  exact AS _ rfl
 ·have e:b=(s.heap.push {cls:=.type "range",data:=.fields #[.int lo t,.int hi u,.int 1 v]}).objs.size:=by simpa using hb
  subst e
  exact I1.fpOk (AN _) (I1.hok.fresh (AN _))
def W1 (ta:TA):TI:=λσ H R=>ta σ H λvs H1=>∃j:Int,vs=[.int j] /\ -(2 ^ 62)<=j/\j<2 ^ 62/\R (Itr 0 j.toNat) H1
theorem El {a:Expr} {ta:TA} {p pos:Pos} (hg:Gl X "range") (hm:X.mg "range"=none) (ha:PA X [a] ta) (hs:starEach [a] X.env=[(false,eval a X.env)]:=by rfl):PI X tg (.Call (.Name "range" p) [a] [] pos) (W1 ta):=by
 intro pins s σ H R I h
 refine Call_ (w4 I hg hm boot_range (DS (thn (ha pos pins s σ H _ I h) λus s1 ⟨vs,H1,I1,r1,q1⟩=>?_) hs rfl))
 obtain⟨j,e,q1,q2,q⟩:=q1
 subst e
 cases r1 with
 | cons r rr =>
  cases rr
  obtain⟨t,rfl⟩:=r
  exact call_range_1 (Jv I1 (by lia) (by lia) q1 q2 (by simpa using q))
def aal (wi:TI) (g:TG) (tb:TS):TS:=λD σ H=>wi σ H λJ H1=>∃W:Nat->Nat->St->Hp->Prop,(∃m,W 0 m σ H1)/\∀i m σ H,W i m σ H ->
 (J.stop i H/\D.nx σ H)\/(J.go i H/\∃N:St->Hp->Prop,(∀σ' H',N σ' H'->∃m',m'<m/\W (i+1) m' σ' H')/\∀x H',J.yld i H x H'->g x σ H' λσ2 H2=>tb {D with nx:=N,ct:=N,bk:=D.nx} σ2 H2)
def w6 (fp:List Addr) (h:Heap):List (Addr×Obj):=fp.filterMap λb=>(h.get? b).map λo=>(b,o)
theorem kf {fp:List Addr} {h:Heap} {b:Addr} {o:Obj} (hb:b∈fp) (e:h.get? b=some o):(b,o)∈w6 fp h:=List.mem_filterMap.mpr ⟨b,hb,by rw[e];rfl⟩
theorem Em {fp:List Addr} {h:Heap} {p:Addr×Obj} (hp:p∈w6 fp h):p.1∈fp/\h.get? p.1=some p.2:=by
 obtain⟨b,hb,e⟩:=List.mem_filterMap.mp hp
 cases q:h.get? b with
 | none=>rw[q]at e;cases e
 | some o =>
  rw[q]at e
  have e':(b,o)=p:=BH e
  subst e'
  exact⟨hb,q⟩
theorem Inv.pinned {pins:List (Addr×Obj)} {σ:St} {H:Hp} {s:Shared} {fp:List Addr} (I:Inv X pins σ H s) (hf:∀b∈fp,C0 X pins H b) (ho:∀b∈fp,∃o,s.heap.get? b=some o/\∀v,o.data≠.cell v):Inv X (pins++w6 fp s.heap) σ H s :=
 I.pins_of λp hp=>(BN.mp hp).elim (λz=>I.pin p (BV _ z)) λz=>by
  obtain⟨hb,e⟩:=Em z
  obtain⟨f0,f1,f2,_⟩:=hf p.1 hb
  obtain⟨o,e',d⟩:=ho p.1 hb
  rw[e]at e';cases e'
  exact⟨e,f0,f1,f2,d⟩
theorem Inv.unpinned {pins pl:List (Addr×Obj)} {σ:St} {H:Hp} {s:Shared} (I:Inv X (pins++pl) σ H s):Inv X pins σ H s:=I.pins_of λp hp=>I.pin p (BV _ (Db _ hp))
theorem R8 {iter:Expr} {body:List Stmt} {wi:TI} {g:TG} {tb:TS} {pos:Pos} (hp:PassesOwn (model X.prog X.w) X.A X.env X.xe) (hc:X.calm=true) (hi:PI X tg iter wi) (hg:PG X tg g) (hb:PSs X body tb)
  (hs:∀x,foldedSetIterable iter X.env x=pure x:=by intro _;rfl):PS X (.For tg iter body [] pos) (aal wi g tb):=by
 intro pins s σ H D I h
 refine wpAny_For (thn (hi pins s σ H _ I h) λv s1 h1=>thn h1 λitv s2 h2=>?_) hs
 obtain⟨it,fp,tn,J,H2,e,I2,T,st2,f2,W,⟨m0,w0⟩,turn⟩:=h2
 subst e
 -- what stays true of the iterator's objects through the loop
 have stat:∀{H':Hp},(∀b∈fp,H' b=none)->∀b∈fp,C0 X pins H' b:=λhn b hb=>⟨hn b hb,(f2 b hb).2⟩
 refine codeAny_forLoop_any (λn s'=>∃i σ' H',Inv X pins σ' H' s'/\tn i s'.heap/\(∀b∈fp,H' b=none)/\W i n σ' H') ?_ m0 ⟨0,σ,H2,I2,st2,λb hb=>(f2 b hb).1,w0⟩
 rintro n s3 ⟨i,σ3,H3,I3,st3,fr3,w3⟩
 rcases turn i n σ3 H3 w3 with⟨stop,qn⟩ | ⟨go,N,hN,step⟩
 ·refine EB hp (thn (T.done X rfl rfl rfl hc i pins s3 σ3 H3 X.xe I3 (stat fr3) st3 stop) λr s4 ⟨hr,I4⟩=>?_)
  subst hr
  exact HJ ⟨σ3,H3,I4,qn⟩
 ·refine EB hp (thn (T.item X rfl rfl rfl hc i pins s3 σ3 H3 X.xe I3 (stat fr3) st3 go) λr s4 ⟨u,hr,h4⟩=>?_)
  subst hr
  refine EB hp (thn h4 λ_ s5 ⟨x,H5,I5,r5,y5,st5,fr5⟩=>?_)
  have I5':=I5.pinned (stat fr5) (T.obj _ _ st5)
  refine EB hp (thn (hg _ s5 σ3 H5 x u _ I5' r5 (step x H5 y5)) λ_ s6 ⟨σ6,H6,I6,q6⟩=>?_)
  refine EB hp (thn (hb _ s6 σ6 H6 _ I6 q6) λf s7 q7=>?_)
  have again:∀{σ7:St} {H7:Hp},Inv X (pins++w6 fp s5.heap) σ7 H7 s7->N σ7 H7->∃m,m<n/\∃i σ' H',Inv X pins σ' H' s7/\tn i s7.heap/\(∀b∈fp,H' b=none)/\W i m σ' H':=λ{σ7 H7} I7 n7=>by
   obtain⟨m',hm,w7⟩:=hN σ7 H7 n7
   refine⟨m',hm,i+1,σ7,H7,I7.unpinned,T.keep _ _ _ st5 λb hb o e=>(I7.pin (b,o) (BV _ (BV _ (kf hb e)))).1,λb hb=>?_,w7⟩
   obtain⟨o,e,d⟩:=T.obj _ _ st5 b hb
   exact(I7.pin (b,o) (BV _ (BV _ (kf hb e)))).2.1
  cases f with
  | next=>obtain⟨σ7,H7,I7,n7⟩:=q7;exact again I7 n7
  | cont=>obtain⟨σ7,H7,I7,n7⟩:=q7;exact again I7 n7
  | brk=>obtain⟨σ7,H7,I7,q7⟩:=q7;exact⟨σ7,H7,I7.unpinned,q7⟩
  | ret v=>obtain⟨x7,σ7,H7,I7,r7,q7⟩:=q7;exact⟨x7,σ7,H7,I7.unpinned,r7,q7⟩
end
abbrev R2:=V->V->Hp->VK->Prop
def OpR (X:Cx) (f:Value->Value->Sem Value) (r:R2):Prop :=
 ∀(pins:List (Addr×Obj)) (s:Shared) (σ:St) (H:Hp) (x y:V) (v u:Value) (Q:VK),Inv X pins σ H s->RelV x v->RelV y u->r x y H Q ->
  wpAny (model X.prog X.w) X.A (f v u) (EP X pins σ Q) X.xe s
def UnR (X:Cx) (f:Value->Sem Value) (r:V->Hp->VK->Prop):Prop :=
 ∀(pins:List (Addr×Obj)) (s:Shared) (σ:St) (H:Hp) (x:V) (v:Value) (Q:VK),Inv X pins σ H s->RelV x v->r x H Q ->
  wpAny (model X.prog X.w) X.A (f v) (EP X pins σ Q) X.xe s
def dk (X:Cx) (f:Value) (r:List V->Hp->VK->Prop):Prop :=
 ∀(pins:List (Addr×Obj)) (s:Shared) (σ:St) (H:Hp) (xs:List V) (us:List Value) (Q:VK),Inv X pins σ H s->bh xs us->r xs H Q ->
  wpAny (model X.prog X.w) X.A (call f us) (EP X pins σ Q) X.xe s
def aam (X:Cx) (r:V->Hp->(Bool->Hp->Prop)->Prop):Prop :=
 ∀(pins:List (Addr×Obj)) (s:Shared) (σ:St) (H:Hp) (x:V) (v:Value) (Q:Bool->Hp->Prop),Inv X pins σ H s->RelV x v->r x H Q ->
  wpAny (model X.prog X.w) X.A (truthy v) (TP X pins σ Q) X.xe s
def tOp (r:R2) (ta tb:TE):TE:=λσ H Q=>ta σ H λx H1=>tb σ H1 λy H2=>r x y H2 Q
def tUn (r:V->Hp->VK->Prop) (ta:TE):TE:=λσ H Q=>ta σ H λx H1=>r x H1 Q
def rI (C:Int->Int->Prop) (g:Int->Int->V):R2:=λx y H Q=>∃i j,x=.int i/\y=.int j/\C i j/\Q (g i j) H
def rI0 (g:Int->Int->V):R2:=λx y H Q=>∃i j,x=.int i/\y=.int j/\Q (g i j) H
def rU (g:Int->V):V->Hp->VK->Prop:=λx H Q=>∃i,x=.int i/\Q (g i) H
section
variable {X : Cx} {a b c : Expr} {ta tb tc : TE} {pos : Pos}
theorem Y8 (ha:PE X a ta) (hb:PE X b tb) {pins:List (Addr×Obj)} {s:Shared} {σ:St} {H:Hp} {R:V->V->Hp->Prop} (I:Inv X pins σ H s)
  (h:ta σ H λx H1=>tb σ H1 λy H2=>R x y H2) {Q:Value->Shared->Prop} {f:Value->Value->Sem Value}
  (hf:∀v u s2 x y H2,Inv X pins σ H2 s2->RelV x v->RelV y u->R x y H2->wpAny (model X.prog X.w) X.A (f v u) Q X.xe s2) :
  wpAny (model X.prog X.w) X.A (eval a X.env) (λv s₁=>wpAny (model X.prog X.w) X.A (eval b X.env) (λu s₂=>wpAny (model X.prog X.w) X.A (f v u) Q X.xe s₂) X.xe s₁) X.xe s:=by
 refine thn (ha pins s σ H _ I h) λv s1 ⟨x,H1,I1,r1,q1⟩=>?_
 refine thn (hb pins s1 σ H1 _ I1 q1) λu s2 ⟨y,H2,I2,r2,q2⟩=>?_
 exact hf v u s2 x y H2 I2 r1 r2 q2
theorem W2 {op:Operator} {r:R2} (ho:OpR X (binaryOp op) r) (ha:PE X a ta) (hb:PE X b tb):PE X (.BinOp a op b pos) (tOp r ta tb):=by
 intro pins s σ H Q I h
 exact wpAny_BinOp (Y8 ha hb I h λv u s2 x y H2 I2 rx ry q=>ho pins s2 σ H2 x y v u Q I2 rx ry q)
theorem W3 {op:UnaryOp} {r:V->Hp->VK->Prop} (ho:UnR X (unaryOp op) r) (ha:PE X a ta):PE X (.UnaryOp op a pos) (tUn r ta):=by
 intro pins s σ H Q I h
 exact UnaryOp_ (thn (ha pins s σ H _ I h) λv s1 ⟨x,H1,I1,r1,q1⟩=>ho pins s1 σ H1 x v Q I1 r1 q1)
theorem opI {f:Value->Value->Sem Value} {C:Int->Int->Prop} {g:Int->Int->Int}
  (rule:∀(i j:Int) (t u:Tok) (s:Shared) (Q:Value->Shared->Prop) (E:Value->Shared->Prop),C i j->Q (.int (g i j) s.toks) {s with toks:=s.toks+1}->wpAny (model X.prog X.w) X.A (f (.int i t) (.int j u)) Q E s) :
  OpR X f (rI C λi j=>.int (g i j)):=by
 intro pins s σ H x y v u Q I rx ry h
 obtain⟨i,j,rfl,rfl,hc,q⟩:=h
 obtain⟨t,rfl⟩:=rx
 obtain⟨t',rfl⟩:=ry
 exact rule i j t t' s _ _ hc ⟨.int (g i j),H,I.tok _,⟨_,rfl⟩,q⟩
theorem W4 {f:Value->Value->Sem Value} {g:Int->Int->Int}
  (rule:∀(i j:Int) (t u:Tok) (s:Shared) (Q:Value->Shared->Prop) (E:Value->Shared->Prop),Q (.int (g i j) s.toks) {s with toks:=s.toks+1}->wpAny (model X.prog X.w) X.A (f (.int i t) (.int j u)) Q E s) :
  OpR X f (rI0 λi j=>.int (g i j)):=by
 intro pins s σ H x y v u Q I rx ry h
 obtain⟨i,j,rfl,rfl,q⟩:=h
 obtain⟨t,rfl⟩:=rx
 obtain⟨t',rfl⟩:=ry
 exact rule i j t t' s _ _ ⟨.int (g i j),H,I.tok _,⟨_,rfl⟩,q⟩
theorem Wh {f:Value->Value->Sem Value} {g:Int->Int->Bool}
  (rule:∀(i j:Int) (t u:Tok) (s:Shared) (Q:Value->Shared->Prop) (E:Value->Shared->Prop),Q (.bool (g i j)) s->wpAny (model X.prog X.w) X.A (f (.int i t) (.int j u)) Q E s) :
  OpR X f (rI0 λi j=>.bl (g i j)):=by
 intro pins s σ H x y v u Q I rx ry h
 obtain⟨i,j,rfl,rfl,q⟩:=h
 obtain⟨t,rfl⟩:=rx
 obtain⟨t',rfl⟩:=ry
 exact rule i j t t' s _ _ ⟨.bl (g i j),H,I,rfl,q⟩
def aan (i j:Int):Prop:=0<j/\j<1073741824
def Y9 (i j:Int):Prop:=0<=j/\j<=1000000/\i.natAbs<2 ^ 64
def CMul (i j:Int):Prop:=(-(2 ^ 64)<i/\i<2 ^ 64)\/(-(2 ^ 64)<j/\j<2 ^ 64)
theorem CMul.ok {i j:Int} (h:CMul i j):IntMulOk i j:=by
 rcases h with⟨h1,h2⟩ | ⟨h1,h2⟩
 ·exact .of_left (intBits_le_64 h1 h2)
 ·exact .of_right (intBits_le_64 h1 h2)
theorem C3 (k:Nat):(0:Int)<=2 ^ k:=by
 rw[two_pow_cast]
 exact Int.natCast_nonneg _
theorem op_add:OpR X (binaryOp .Add) (rI0 λi j=>.int (i+j)):=W4 λ_ _ _ _ _ _ _ q=>add_int q
theorem op_sub:OpR X (binaryOp .Sub) (rI0 λi j=>.int (i-j)):=W4 λ_ _ _ _ _ _ _ q=>sub_int q
theorem op_mul:OpR X (binaryOp .Mult) (rI CMul λi j=>.int (i*j)):=opI λ_ _ _ _ _ _ _ hc q=>mul_int q hc.ok
theorem Od:OpR X (binaryOp .FloorDiv) (rI aan λi j=>.int (i / j)):=opI λi j _ _ _ _ _ hc q=>by
 have h1:(0:Int)<j:=hc.1
 have h2:j<1073741824:=hc.2
 exact floordiv_int (by lia) (by rw[FZ i (by lia)];exact q) (.inl (PyProof.noPylong_small (by lia)))
theorem op_mod:OpR X (binaryOp .Mod) (rI (λ_ j=>0<j) λi j=>.int (i % j)):=opI λi j _ _ _ _ _ hc q=>by
 have h1:(0:Int)<j:=hc
 exact mod_int' (by lia) (by rw[Int.fmod_eq_emod_of_nonneg i (by lia)];exact q)
theorem op_pow:OpR X (binaryOp .Pow) (rI Y9 λi j=>.int (i ^ j.toNat)):=opI λ_ _ _ _ _ _ _ hc q=>pow_int_small hc.1 hc.2.1 hc.2.2 q
theorem R9:OpR X (binaryOp .LShift) (rI Y9 λi j=>.int (i*2 ^ j.toNat)):=opI λ_ _ _ _ _ _ _ hc q=>lshift_int_small hc.1 hc.2.1 hc.2.2 q
theorem op_shr:OpR X (binaryOp .RShift) (rI (λ_ j=>0<=j) λi j=>.int (i / 2 ^ j.toNat)):=opI λi j _ _ _ _ _ hc q =>
 rshift_int hc (by rw[FZ i (C3 _)];exact q)
theorem Sa:OpR X (binaryOp .BitXor) (rI0 λi j=>.int (Builtin.bitXor i j)):=W4 λ_ _ _ _ _ _ _ q=>xor_int q
theorem unI {f:Value->Sem Value} {g:Int->Int}
  (rule:∀(i:Int) (t:Tok) (s:Shared) (Q:Value->Shared->Prop) (E:Value->Shared->Prop),Q (.int (g i) s.toks) {s with toks:=s.toks+1}->wpAny (model X.prog X.w) X.A (f (.int i t)) Q E s) :
  UnR X f (rU λi=>.int (g i)):=by
 intro pins s σ H x v Q I rx h
 obtain⟨i,rfl,q⟩:=h
 obtain⟨t,rfl⟩:=rx
 exact rule i t s _ _ ⟨.int (g i),H,I.tok _,⟨_,rfl⟩,q⟩
theorem Sb:UnR X (unaryOp .USub) (rU λi=>.int (-i)):=unI λ_ _ _ _ _ q=>neg_int q
theorem Lz {pins:List (Addr×Obj)} {σ:St} {H:Hp} {s:Shared} {Q:VK} {k k':Bool} (I:Inv X pins σ H s) (q:Q (.bl k) H) (e:k=k'):EP X pins σ Q (.bool k') s:=by
 subst e
 exact⟨.bl k,H,I,rfl,q⟩
theorem W5:OpR X (compareOp .Lt) (rI0 λi j=>.bl (decide (i<j))):=Wh λ_ _ _ _ _ _ _ q=>lt_int q
theorem W6:OpR X (compareOp .LtE) (rI0 λi j=>.bl (decide (i<=j))):=Wh λ_ _ _ _ _ _ _ q=>le_int q
theorem W7:OpR X (compareOp .Gt) (rI0 λi j=>.bl (decide (j<i))):=Wh λ_ _ _ _ _ _ _ q=>gt_int q
theorem W8:OpR X (compareOp .GtE) (rI0 λi j=>.bl (decide (j<=i))):=Wh λ_ _ _ _ _ _ _ q=>ge_int q
theorem Sd:OpR X (compareOp .Is) (λx y H Q=>y=.non/\Q (.bl (decide (x=.non))) H):=by
 intro pins s σ H x y v u Q I rx ry h
 obtain⟨rfl,q⟩:=h
 cases ry
 refine is_none_gen (Lz I q ?_)
 cases x<;>first
  | (cases rx;rfl)
  | (obtain⟨t,rfl⟩:=rx;rfl)
theorem Oe:OpR X (compareOp .IsNot) (λx y H Q=>y=.non/\Q (.bl (!decide (x=.non))) H):=by
 intro pins s σ H x y v u Q I rx ry h
 obtain⟨rfl,q⟩:=h
 cases ry
 refine isnot_none_gen (Lz I q ?_)
 cases x<;>first
  | (cases rx;rfl)
  | (obtain⟨t,rfl⟩:=rx;rfl)
def isObj:HO->Bool
 | .lst _=>true
 | .ins _ _ _=>true
 | _=>false
def Za (K:PySem.W.Frag) (x:V) (H:Hp) (k:Bool):Prop :=
 match x with
 | .non=>k=false
 | .bl b=>k=b
 | .int i=>k=(i != 0)
 | .str y=>y.length<=sizeLine/\k=((y.length:Int) != 0)
 | .byt y=>y.size<=sizeLine/\k=((y.size:Int) != 0)
 | .ref p=>(∃xs,SqL K H p xs/\k=!xs.isEmpty)\/(∃xs,SqT K H p xs/\k=!xs.isEmpty)\/∃kvs,H p=some (.dK kvs)/\k=!kvs.isEmpty
 | _=>False
theorem C4 {κ:Type} {kvs:List (κ×V)} {vs:List (κ×Value)} (r:KV kvs vs):(!vs.isEmpty)=!kvs.isEmpty:=by
 cases r<;>rfl
theorem sx {xs:List V} {its:List Value} (r:bh xs its):(!its.toArray.isEmpty)=!xs.isEmpty:=by
 cases r<;>simp
theorem pk:(sizeLine:Nat)<2 ^ 63:=by rw[DL];decide
theorem Se:aam X (λx H Q=>∃k,Za X.K x H k/\Q k H):=by
 intro pins s σ H x v Q I rx h
 obtain⟨k,e,q⟩:=h
 have hl:=pk
 have hs:sizeLine=16777216:=DL
 cases x with
 | non =>
  cases rx
  have e':k=false:=e
  subst e'
  exact truthy_none ⟨H,I,q⟩
 | bl b =>
  cases rx
  have e':k=b:=e
  subst e'
  exact ED ⟨H,I,q⟩
 | int i =>
  obtain⟨t,rfl⟩:=rx
  have e':k=(i != 0):=e
  subst e'
  exact PySem.P.truthy_int ⟨H,I,q⟩
 | str y =>
  obtain⟨t,rfl⟩:=rx
  obtain⟨hy,e'⟩:y.length<=sizeLine/\k=((y.length:Int) != 0):=e
  subst e'
  exact PySem.P.truthy_str (by lia) ⟨H,I.tok _,q⟩
 | byt y =>
  obtain⟨t,rfl⟩:=rx
  obtain⟨hy,e'⟩:y.size<=sizeLine/\k=((y.size:Int) != 0):=e
  subst e'
  exact PySem.W.truthy_bytes (by lia) ⟨H,I.tok _,q⟩
 | ref p =>
  cases rx
  have e':(∃xs,SqL X.K H p xs/\k=!xs.isEmpty)\/(∃xs,SqT X.K H p xs/\k=!xs.isEmpty)\/∃kvs,H p=some (.dK kvs)/\k=!kvs.isEmpty:=e
  rcases e' with⟨xs,hx,e'⟩ | ⟨xs,hx,e'⟩ | ⟨kvs,hx,e'⟩
  ·subst e'
   obtain⟨its,r,pl,hz⟩:=I.list hx
   have hlen:=r.length
   exact wpAny_truthy_list pl.isList (by simp![AI];lia) ⟨H,I.tok _,by rw[sx r];exact q⟩
  ·subst e'
   obtain⟨its,r,pl,hz⟩:=I.tuple hx
   have hlen:=r.length
   exact truthy_tuple pl (by simp![AI];lia) ⟨H,I.tok _,by rw[sx r];exact q⟩
  ·subst e'
   obtain⟨hz,hS,vs,r,m⟩:kvs.length<=sizeLine/\(p==sysModules)=false/\∃vs,KV kvs vs/\s.heap.DictOf (bx X.prog X.w) p vs:=I.hok p _ hx
   have hlen:kvs.length=vs.length:=DB r
   exact wpAny_truthy_dict hS m (by lia) ⟨H,I.tok _,by rw[C4 r];exact q⟩
 | _=>exact(show False from e).elim
theorem Bg (ha:PE X a ta) (he:∀whole,isTrue a X.env whole=(do let v <-whole;standAt a.pos;holding [v] (truthy v))) :
  PT X a (λσ H Q=>ta σ H λx H'=>∃k,Za X.K x H' k/\Q k H'):=by
 intro pins s σ H Q I h
 exact isTrue_plain (thn (ha pins s σ H _ I h) λv s1 ⟨x,H1,I1,r1,q1⟩=>Se pins s1 σ H1 x v Q I1 r1 q1) (he _)
theorem vals1 {x:V} {us:List Value} (r:bh [x] us):∃u,us=[u]/\RelV x u:=by
 cases r with
 | cons r1 r2=>cases r2;exact⟨_,rfl,r1⟩
theorem vals2 {x y:V} {us:List Value} (r:bh [x,y] us):∃u w',us=[u,w']/\RelV x u/\RelV y w':=by
 cases r with
 | cons r1 r2 =>
  cases r2 with
  | cons r3 r4=>cases r4;exact⟨_,_,rfl,r1,r3⟩
theorem En (hc:X.calm=true):dk X (.builtin "max") (λxs H Q=>∃i j,xs=[.int i,.int j]/\Q (.int (if j > i then j else i)) H):=by
 intro pins s σ H xs us Q I r h
 obtain⟨i,j,rfl,q⟩:=h
 obtain⟨u,w',rfl,⟨t,rfl⟩,⟨t',rfl⟩⟩:=vals2 r
 refine max_two_ints (I.ok.hd hc) λh' tk k=>⟨_,H,I.kept k,?_,q⟩
 by_cases hj:j > i
 ·rw[if_pos hj,if_pos hj];exact⟨_,rfl⟩
 ·rw[if_neg hj,if_neg hj];exact⟨_,rfl⟩
theorem Eo (hc:X.calm=true):dk X (.builtin "min") (λxs H Q=>∃i j,xs=[.int i,.int j]/\Q (.int (if j<i then j else i)) H):=by
 intro pins s σ H xs us Q I r h
 obtain⟨i,j,rfl,q⟩:=h
 obtain⟨u,w',rfl,⟨t,rfl⟩,⟨t',rfl⟩⟩:=vals2 r
 refine min_two_ints (I.ok.hd hc) λh' tk k=>⟨_,H,I.kept k,?_,q⟩
 by_cases hj:j<i
 ·rw[if_pos hj,if_pos hj];exact⟨_,rfl⟩
 ·rw[if_neg hj,if_neg hj];exact⟨_,rfl⟩
end
structure ObjM (h:Heap) (x dx C:Addr) (mA:Str->Option Value):Prop where
 obj:h.get? x=some (PySem.W.instObj C dx)
 ns:h.Ns1 dx mA
 ne:dx≠x
theorem Ep {h:Heap} {dx:Addr} {mA:Str->Option Value} (n:h.Ns1 dx mA):∃od,h.get? dx=some od/\∀name,PySem.W.lookIn name od=some (mA name):=by
 obtain⟨o,es,ep,ho,hd,hk,_,hm⟩:=n
 refine⟨o,ho,λname=>?_⟩
 have e:=hm name
 unfold nsFind findBy at e
 rw[<-Array.find?_toList]at e
 unfold PySem.W.lookIn
 rw[hd]
 dsimp only
 split
 ·rename_i y q
  rw[q]at e
  exact congrArg some e
 ·rename_i q
  rw[q]at e
  have a:es.toList.any (·.refKey)=false:=by
   rw[GG]
   intro y hy
   obtain⟨z,t,hkey⟩:=hk y (Array.mem_toList_iff.mp hy)
   simp[DictEntry.refKey,hkey]
  have a':¬es.toList.any (·.refKey)=true:=by rw[a];exact BB
  rw[if_neg a']
  exact congrArg some e
theorem ObjM.look {h:Heap} {x dx C:Addr} {mA:Str->Option Value} (I:ObjM h x dx C mA):∃od,PySem.W.InstAt h x (PySem.W.instObj C dx) C (some od)/\∀name,PySem.W.lookIn name od=some (mA name) :=
 let ⟨od,ho,hl⟩:=Ep I.ns
 ⟨od,⟨I.obj,rfl,rfl,ho⟩,hl⟩
section
variable {prog : Program} {w : World} {A : Around} {E : Value -> Shared -> Prop} {s : Shared} {K : PySem.W.Frag} {x dx C f : Addr} {mA : Str -> Option Value} {name : Str} {v : Value}
theorem get_map {expr:Bool} {Q:Value->Shared->Prop} (X:K.In s.heap) (I:ObjM s.heap x dx C mA) (hg:PySem.W.plainGet K C name=true) (hh:PySem.W.hasDictIn K C=true)
  (ha:PySem.W.findIn K (.ref C) name=some none) (hv:mA name=some v) (hv':PySem.W.handedIn v=true) (h:Q v {s with toks:=s.toks+1}) :
  wpAny (model prog w) A (getAttr (.ref x) name expr) Q E s:=by
 obtain⟨od,J,hl⟩:=I.look
 exact PySem.W.get_value X J (FT hg).1 (PySem.W.findObj_own hh ha rfl (by rw[hl,hv])) hv' h
theorem Jw {pl:Sem Bool} {Q:Value×List Value->Shared->Prop} (X:K.In s.heap) (I:ObjM s.heap x dx C mA) (hg:PySem.W.plainGet K C name=true)
  (hf:PySem.W.findIn K (.ref C) name=some (some (.ref f))) (ht:PySem.W.isFn K (.ref f)=true) (hv:mA name=none) (h:Q (.ref f,[.ref x]) s) :
  wpAny (model prog w) A (getMethod (.ref x) name pl) Q E s:=by
 obtain⟨od,J,hl⟩:=I.look
 exact PySem.W.method_fn X J (FT hg).1 (FT hg).2 hf (beq_iff_eq.mp ht) (by show(PySem.W.lookIn name od).map (·.isSome)=some false;rw[hl,hv];rfl) h
theorem Of {ns:List Str} {Q:Unit->Shared->Prop} (X:K.In s.heap) (I:ObjM s.heap x dx C mA)
  (hs:PySem.W.findIn K (.ref C) "__setattr__"=some (some (.builtin "object.__setattr__"))) (hp:PySem.W.plainOver K C=true) (ht:PySem.W.takerIn K C name=some none) (hh:PySem.W.hasDictIn K C=true)
  (hw:PySem.Within mA ns) (hsz:ns.length<=sizeLine)
  (h:∀h',ObjM h' x dx C (λy=>if y=name then some v else mA y)->Heap.SameBut dx s.heap h'->Q () {s with heap:=h',toks:=s.toks+2}) :
  wpAny (model prog w) A (setAttr (.ref x) name v) Q E s:=by
 obtain⟨od,J,hl⟩:=I.look
 refine PySem.W.set_plain X J hs (PySem.W.osa_open (s:={s with toks:=s.toks+1}) (r:=none) X J hp ht λb=>?_)
 obtain⟨cd,hc,hd'⟩:=PySem.W.any_some hh
 have hx:s.heap.get? x=some ⟨.ref C,some dx,.plain,#[]⟩:=I.obj
 refine AB (AL (AB (AB (wpAny_loadPart hx (AB (PySem.W.Looks.here (s:={s with toks:=s.toks+1}) (PySem.W.looks_clsIn X hc) ?_))))))
 rw[hd']
 refine AL (a:=some dx) (AB (AL (AB ?_)))
 refine wpAny_nsSet1 (s:={s with toks:=s.toks+1}) I.ns λh' hn2 hs2=>?_
 obtain⟨oD,esD,epD,hoD,hdD,hcD⟩:=hn2.count (PySem.Within.cons name v hw)
 refine AB (wpAny_lookBehind hoD (by rw[hdD];exact pastItsLine_dict (BX hcD (by rw[AU];lia))) ?_)
 exact AL (h _ ⟨(hs2.2 _ (Ne.symm I.ne)).trans I.obj,hn2,I.ne⟩ hs2)
theorem Jx {R:Result->Shared->Prop} {vs:List Value} {kw:List (Str×Value)} (X:K.In s.heap) (hm:PySem.W.makesIn K C=true)
  (hi:PySem.W.findIn K (.ref C) "__init__"=some (some (.ref f))) (hf:PySem.W.typeIn K (.ref f)=some (.type "function"))
  (h:codeAny (model prog w) (A.under (.builtin "type.__call__" ⟨.ref C::vs,kw⟩)) (.call (.ref f) ⟨.ref (s.heap.objs.size+1)::vs,kw⟩) (PySem.W.InitBack (s.heap.objs.size+1) R)
   {s with heap:=(s.heap.push PySem.W.emptyDict).push (PySem.W.instObj C s.heap.objs.size)}) :
  codeAny (model prog w) A (.call (.ref C) ⟨vs,kw⟩) R s:=by
 obtain⟨hh,g,d,t,os⟩:=s
 exact PySem.W.make_core (PySem.W.makes_of X hm) (PySem.W.looks_findIn X hi) (λself=>PySem.W.bind_fn X self hf) (.inl rfl) h
end
def uo (f:Str) (v:V):List (Str×V)->List (Str×V)
 | []=>[(f,v)]
 | (g,x)::r=>if g=f then(g,v)::r else(g,x)::uo f v r
theorem pq (f g:Str) (v:V):∀fs:List (Str×V),(uo f v fs).lookup g=if g=f then some v else fs.lookup g
 | []=>by
  show List.lookup g [(f,v)]=_
  by_cases h:g=f
  ·have hb:(g==f)=true:=beq_iff_eq.mpr h
   simp![List.lookup,hb,if_pos h]
  ·have hb:(g==f)=false:=beq_eq_false_iff_ne.mpr h
   simp![List.lookup,hb,if_neg h]
 | (k,x)::r=>by
  have ih:=pq f g v r
  rw[show uo f v ((k,x)::r)=(if k=f then(k,v)::r else(k,x)::uo f v r)from rfl]
  by_cases hk:k=f
  ·rw[if_pos hk]
   by_cases h:g=k
   ·have hb:(g==k)=true:=beq_iff_eq.mpr h
    simp![List.lookup,hb,if_pos (h.trans hk)]
   ·have hb:(g==k)=false:=beq_eq_false_iff_ne.mpr h
    simp![List.lookup,hb,if_neg (λe:g=f=>h (e.trans hk.symm))]
  ·rw[if_neg hk]
   by_cases h:g=k
   ·have hb:(g==k)=true:=beq_iff_eq.mpr h
    simp![List.lookup,hb,if_neg (λe:g=f=>hk (h.symm.trans e))]
   ·have hb:(g==k)=false:=beq_eq_false_iff_ne.mpr h
    simp![List.lookup,hb]
    exact ih
theorem p7 (f:Str) (v:V):∀fs:List (Str×V),f∈(uo f v fs).map (·.1)/\∀g,g∈fs.map (·.1)->g∈(uo f v fs).map (·.1)
 | []=>⟨by simp[uo],λg h=>by simp at h⟩
 | (k,x)::r=>by
  obtain⟨i1,i2⟩:=p7 f v r
  rw[show uo f v ((k,x)::r)=(if k=f then(k,v)::r else(k,x)::uo f v r)from rfl]
  by_cases hk:k=f
  ·rw[if_pos hk]
   subst hk
   exact⟨by simp,λg h=>by simpa using h⟩
  ·rw[if_neg hk]
   refine⟨?_,λg h=>?_⟩
   ·rw[AO]
    exact AJ _ i1
   ·rw[AO]at h ⊢
    rcases AG.mp h with e | e
    ·exact AG.mpr (.inl e)
    ·exact AJ _ (i2 g e)
theorem p8 (f:Str) (v:V):∀fs:List (Str×V),(uo f v fs).length<=fs.length+1
 | []=>by simp[uo]
 | (k,x)::r=>by
  have ih:=p8 f v r
  rw[show uo f v ((k,x)::r)=(if k=f then(k,v)::r else(k,x)::uo f v r)from rfl]
  by_cases hk:k=f
  ·rw[if_pos hk,AU,AU];lia
  ·rw[if_neg hk,AU,AU];lia
theorem zx.some_of {v:V} {o:Option Value} (r:zx (some v) o):∃u,o=some u/\RelV v u:=by
 cases o with
 | none=>exact(show False from r).elim
 | some u=>exact⟨u,rfl,r⟩
theorem zx.none_of {o:Option Value} (r:zx none o):o=none:=by
 cases o with
 | none=>rfl
 | some u=>exact(show False from r).elim
theorem Er {v:V} {u:Value} (r:RelV v u):PySem.W.handedIn u=true:=by
 cases v with
 | non=>cases(show u=Value.none from r);rfl
 | bl b=>cases(show u=Value.bool b from r);rfl
 | int i=>obtain⟨t,e⟩:=(show ∃t,u=Value.int i t from r);cases e;rfl
 | str x=>obtain⟨t,e⟩:=(show ∃t,u=Value.str x t from r);cases e;rfl
 | byt b=>obtain⟨t,e⟩:=(show ∃t,u=Value.bytes b t from r);cases e;rfl
 | flt b=>obtain⟨t,e⟩:=(show ∃t,u=Value.float b t from r);cases e;rfl
 | ref a=>cases(show u=Value.ref a from r);rfl
 | ty n=>cases(show u=Value.type n from r);rfl
section
variable {P : Program} {w : World} {H H' : Hp} {h h' : Heap} {a C dx : Addr} {fs fs' : List (Str × V)}
theorem z7 (hok:HOk P w H h) (e:H a=some (.ins C dx fs)):∃mA,ObjM h a dx C mA/\(∀f,zx (fs.lookup f) (mA f))/\PySem.Within mA (fs.map (·.1))/\fs.length<=1000/\H dx=some (.own a):=by
 obtain⟨d,z,ne,ob,mA,n,r,q⟩:=(show fu P w H h a (.ins C dx fs)from hok a _ e)
 exact⟨mA,⟨ob,n,ne⟩,r,q,z,d⟩
end
structure Cls (K:PySem.W.Frag) (C:Addr):Prop where
 pg:PySem.W.plainGet K C Str.empty=true
 hd:PySem.W.hasDictIn K C=true
 po:PySem.W.plainOver K C=true
 sa:PySem.W.findIn K (.ref C) "__setattr__"=some (some (.builtin "object.__setattr__"))
theorem Cls.get {K:PySem.W.Frag} {C:Addr} (c:Cls K C) (f:Str):PySem.W.plainGet K C f=true:=c.pg
def l7 (K:PySem.W.Frag) (C:Addr) (f:Str):Prop:=PySem.W.findIn K (.ref C) f=some none
theorem l7.taker {K:PySem.W.Frag} {C:Addr} {f:Str} (n:l7 K C f):PySem.W.takerIn K C f=some none:=by
 unfold PySem.W.takerIn
 rw[show PySem.W.findIn K (.ref C) f=some none from n]
 rfl
structure Meth (K:PySem.W.Frag) (C:Addr) (m:Str) (f:Addr):Prop where
 at_:PySem.W.findIn K (.ref C) m=some (some (.ref f))
 fn:PySem.W.isFn K (.ref f)=true
 kp:PySem.W.keepIn K (.ref f)=true
section
variable {X : Cx} {pins : List (Addr × Obj)} {σ : St} {H : Hp} {s : Shared} {a C dx : Addr} {fs : List (Str × V)} {f : Str} {v : V} {A : Around} {E : Value -> Shared -> Prop}
theorem C5 {b:Bool} {Q:Value->Shared->Prop} (I:Inv X pins σ H s) (e:H a=some (.ins C dx fs)) (c:Cls X.K C) (n:l7 X.K C f) (l:fs.lookup f=some v)
  (h:∀u s',Inv X pins σ H s'->RelV v u->Q u s'):wpAny (model X.prog X.w) A (getAttr (.ref a) f b) Q E s:=by
 obtain⟨mA,O,r,_,_,_⟩:=z7 I.hok e
 obtain⟨u,hu,ru⟩:=zx.some_of (v:=v) (o:=mA f) (by rw[<-l];exact r f)
 exact get_map I.kIn O (c.get f) c.hd n hu (Er ru) (h u _ (I.tok _) ru)
theorem ni {m:Str} {g:Addr} {pl:Sem Bool} {Q:Value×List Value->Shared->Prop} (I:Inv X pins σ H s) (e:H a=some (.ins C dx fs)) (c:Cls X.K C) (k:Meth X.K C m g) (l:fs.lookup m=none)
  (h:Q (.ref g,[.ref a]) s):wpAny (model X.prog X.w) A (getMethod (.ref a) m pl) Q E s:=by
 obtain⟨mA,O,r,_,_,_⟩:=z7 I.hok e
 have hn:mA m=none:=zx.none_of (by rw[<-l];exact r m)
 exact Jw I.kIn O (c.get m) k.at_ k.fn hn h
theorem C6 {y:V} {u:Value} {Q:Unit->Shared->Prop} (I:Inv X pins σ H s) (e:H a=some (.ins C dx fs)) (c:Cls X.K C) (n:l7 X.K C f) (hl:fs.length<1000) (ry:RelV y u)
  (h:∀s',Inv X pins σ (upd H a (.ins C dx (uo f y fs))) s'->Q () s'):wpAny (model X.prog X.w) A (setAttr (.ref a) f u) Q E s:=by
 obtain⟨mA,O,r,wi,_,ho⟩:=z7 I.hok e
 have hz:(fs.map (·.1)).length<=sizeLine:=by rw[AM,DL];lia
 refine Of I.kIn O c.sa c.po n.taker c.hd wi hz λh' O' sb=>h _ ?_
 have hd:∃o,h'.get? dx=some o:=let ⟨o,_,_,e',_⟩:=O'.ns;⟨o,e'⟩
 refine I.write (x:=a) (e:=dx) (by rw[e];exact True.intro) (.inr ho) (λb q hb z=>(sb.2 b hb).trans z) hd ?_
 refine⟨by rw[ao O.ne];exact ho,?_,O.ne,O'.obj,_,O'.ns,λg=>?_,λg hg=>?_⟩
 ·have:=p8 f y fs;lia
 ·show zx ((uo f y fs).lookup g) (if g=f then some u else mA g)
  rw[pq]
  by_cases q:g=f
  ·rw[if_pos q,if_pos q];exact ry
  ·rw[if_neg q,if_neg q];exact r g
 ·by_cases q:g=f
  ·rw[q];exact(p7 f y fs).1
  ·refine(p7 f y fs).2 g (wi g λz=>hg ?_)
   show(if g=f then some u else mA g)=none
   rw[if_neg q];exact z
theorem Inv.made (I:Inv X pins σ H s):Inv X pins σ (upd (upd H s.heap.objs.size (.own (s.heap.objs.size+1))) (s.heap.objs.size+1) (.ins C s.heap.objs.size []))
  {s with heap:=(s.heap.push PySem.W.emptyDict).push (PySem.W.instObj C s.heap.objs.size)}:=by
 have e1:(s.heap.push PySem.W.emptyDict).get? s.heap.objs.size=some PySem.W.emptyDict:=AS s.heap rfl
 have e2:((s.heap.push PySem.W.emptyDict).push (PySem.W.instObj C s.heap.objs.size)).get? (s.heap.objs.size+1)=some (PySem.W.instObj C s.heap.objs.size):=by
  have:=AS (s.heap.push PySem.W.emptyDict) (o:=PySem.W.instObj C s.heap.objs.size) rfl
  rwa [CJ]at this
 have e3:(s.heap.push PySem.W.emptyDict).Ns s.heap.objs.size (λ_=>none):=⟨PySem.W.emptyDict,#[],_,e1,rfl,(λe he=>absurd he (by simp)),λ_=>rfl⟩
 have I1:=I.laid (a:=s.heap.objs.size) (o:=.own (s.heap.objs.size+1)) (h':=s.heap.push PySem.W.emptyDict) (t':=s.toks) (λb u q=>AE _ q) (AN _) ⟨_,e1⟩
 refine I1.laid (a:=s.heap.objs.size+1) (o:=.ins C s.heap.objs.size []) (t':=s.toks) (λb u q=>AE _ q) (Nat.le_of_eq (CJ _ _)) ?_
 have ne:s.heap.objs.size≠s.heap.objs.size+1:=BA (Do _)
 refine⟨by rw[ao ne,aq],If _,ne,e2,λ_=>none,(Heap.Ns1.of_empty e3).at λo q=>AE _ q,λ_=>True.intro,λy hy=>absurd rfl hy⟩
theorem Og {prog:Program} {w:World} {env:Env} {e:Expr} {f:Str} {pos:Pos} {s:Shared} {Q:Value->Shared->Prop} (hb:attributeBase e f env (eval e env)=eval e env)
  (h:wpAny (model prog w) A (eval e env) (λo s₁=>wpAny (model prog w) A (getAttr o f true) Q E s₁) E s):wpAny (model prog w) A (eval (.Attribute e f pos) env) Q E s :=
 Attribute_any_ h (by rw[arm_eval_Attribute,hb])
end
def aao (K:PySem.W.Frag) (ta:TE) (f:Str):TE:=λσ H Q=>ta σ H λx H1=>∃a C dx fs v,x=.ref a/\H1 a=some (.ins C dx fs)/\Cls K C/\l7 K C f/\fs.lookup f=some v/\Q v H1
def aap (K:PySem.W.Frag) (ta tv:TE) (f:Str):TS:=λD σ H=>tv σ H λy H1=>ta σ H1 λx H2=>∃a C dx fs,x=.ref a/\H2 a=some (.ins C dx fs)/\Cls K C/\l7 K C f/\fs.length<1000 /\
 D.nx σ (upd H2 a (.ins C dx (uo f y fs)))
section
variable {X : Cx} {o e value : Expr} {f : Str} {pos pos' tpos : Pos} {ta tv : TE}
theorem Sf (he:PE X e ta) (hb:attributeBase e f X.env (eval e X.env)=eval e X.env):PE X (.Attribute e f pos) (aao X.K ta f):=by
 intro pins s σ H Q I h
 refine Og hb (thn (he pins s σ H _ I h) λu s1 ⟨x,H1,I1,rx,a,C,dx,fs,v,ex,ea,c,n,l,q⟩=>?_)
 subst ex
 obtain rfl:u=Value.ref a:=rx
 exact C5 I1 ea c n l λu' s2 I2 ru=>⟨v,H1,I2,ru,q⟩
theorem Sg (ha:PE X o ta) (hv:PE X value tv) (hs:swapsWith value (some (.Attribute o f pos')) pos.line X.env=pure false):PS X (.Assign [.Attribute o f pos'] value pos) (aap X.K ta tv f):=by
 intro pins s σ H D I h
 refine plainObj_wpAny_Assign_Attribute (thn (hv pins s σ H _ I h) λu s1 ⟨y,H1,I1,ry,q⟩=>thn (ha pins s1 σ H1 _ I1 q) λov s2 ⟨x,H2,I2,rx,a,C,dx,fs,ex,ea,c,n,l,q2⟩=>?_) hs
 subst ex
 obtain rfl:ov=Value.ref a:=rx
 exact C6 I2 ea c n l ry λs3 I3=>⟨σ,_,I3,q2⟩
theorem Oh {pl:Sem Bool} {m:Str} {apos:Pos} {args:List Expr} {pins:List (Addr×Obj)} {s:Shared} {σ:St} {H:Hp} {Q:Value->Shared->Prop} {te:TE} (he:PE X e te) (I:Inv X pins σ H s)
  (h:te σ H λx H1=>∃a C dx fs g,x=.ref a/\H1 a=some (.ins C dx fs)/\Cls X.K C/\Meth X.K C m g/\fs.lookup m=none /\
   ∀s1,Inv X pins σ H1 s1->wpAny (model X.prog X.w) X.A (callWith pos (.ref g) [.ref a] (backTo pos (starEach args X.env)) (backToKw pos (keywordEach [] X.env))) Q X.xe s1)
  (ht:eval (.Call (.Attribute e m apos) args [] pos) X.env=(do
   let ov <-eval e X.env
   standAt apos.atName
   let (f,first) <-holding [ov] (getMethod ov m pl)
   callWith pos f first (backTo pos (starEach args X.env)) (backToKw pos (keywordEach [] X.env)))) :
  wpAny (model X.prog X.w) X.A (eval (.Call (.Attribute e m apos) args [] pos) X.env) Q X.xe s:=by
 refine FK (pl:=pl) (thn (he pins s σ H _ I h) λu s1 ⟨x,H1,I1,rx,a,C,dx,fs,g,ex,ea,c,k,l,q⟩=>?_) ht
 subst ex
 obtain rfl:u=Value.ref a:=rx
 exact ni I1 ea c k l (q s1 I1)
end
structure Room (k:Nat) (A:Around):Prop where
 hd:A.handled=none
 dp:A.depth+3*k+5<recursionLimit
 un:A.units+16*k+200<cLine
theorem Room.deeper {k:Nat} {A:Around} (r:Room (k+1) A) (env:Env):Room k (A.deeper env) :=
 ⟨r.hd,by have:=r.dp;show A.depth+1+3*k+5<_;lia,by have:=r.un;show A.units+3+16*k+200<_;lia⟩
theorem C7 {A:Around} {C:Addr} {us:List Value} {kw:List (Str×Value)}:(A.under (.builtin "type.__call__" ⟨.ref C::us,kw⟩)).depth=A.depth+1:=by
 first | rfl | simp[Around.under,Code.weight,Code.isCreation,Code.isGuard,Code.isCaller,Code.frames,Code.isFrame,guardIds]
theorem C8 {A:Around} {C:Addr} {us:List Value} {kw:List (Str×Value)}:(A.under (.builtin "type.__call__" ⟨.ref C::us,kw⟩)).units=A.units+1:=by
 first | rfl | simp[Around.under,Code.cUnits,Code.frames,Code.isFrame]
theorem Room.depth {k:Nat} {A:Around} (r:Room k A):A.depth<recursionLimit:=by have:=r.dp;lia
theorem Room.units {k:Nat} {A:Around} (r:Room k A):A.units+64<cLine:=by have:=r.un;lia
def uq (k:Nat) (A:Around):Prop:=Room k A/\∀(C:Addr) (us:List Value) (kw:List (Str×Value)),Room k (A.under (.builtin "type.__call__" ⟨.ref C::us,kw⟩))
theorem Room.deeperX {k:Nat} {A:Around} (r:Room (k+1) A) (env:Env):uq k (A.deeper env) :=
 ⟨r.deeper env,λC us kw=>⟨r.hd,by have:=r.dp;rw[C7];show A.depth+1+1+3*k+5<_;lia,by have:=r.un;rw[C8];show A.units+3+1+16*k+200<_;lia⟩⟩
def tNil:TA:=λ_ H Q=>Q [] H
def W9 (ta:TE) (tr:TA):TA:=λσ H Q=>ta σ H λx H1=>tr σ H1 λxs H2=>Q (x::xs) H2
section
variable {X : Cx} {e : Expr} {es : List Expr} {te : TE} {t : TA} {pos : Pos}
theorem Si:PA X [] tNil:=λ_ _ _ _ H Q I h=>Calls.spliced_nil ⟨[],H,I,.nil,h⟩
theorem Oi (ha:PE X e te) (hr:PA X es t) (hs:starEach (e::es) X.env=(false,eval e X.env)::starEach es X.env:=by rfl):PA X (e::es) (W9 te t):=by
 intro pos pins s σ H Q I h
 rw[hs]
 show wpAny _ _ (spliced ((false,eval e X.env)::backTo pos (starEach es X.env))) _ _ s
 refine Calls.spliced_cons (thn (ha pins s σ H _ I h) λu s1 ⟨x,H1,I1,r1,q1⟩=>?_)
 exact thn (hr pos pins s1 σ H1 _ I1 q1) λus s2 ⟨xs,H2,I2,r2,q2⟩=>⟨x::xs,H2,I2,.cons r1 r2,q2⟩
def aaq (t:TA):TE:=λσ H Q=>t σ H λxs H1=>xs.length<=sizeLine/\∀p,H1 p=none->Q (.ref p) (upd H1 p (.tup xs))
def aar (t:TA):TE:=λσ H Q=>t σ H λxs H1=>xs.length<=sizeLine/\∀p,H1 p=none->Q (.ref p) (upd H1 p (.lst xs))
theorem Sj {x1} (h:PA X es t):PE X (.Tuple es x1 pos) (aaq t):=by
 intro pins s σ H Q I hq
 refine wpAny_Tuple_spliced (thn (h pos pins s σ H _ I hq) λus s1 ⟨xs,H1,I1,r,z,q⟩=>⟨by rw[<-r.length];exact z,?_⟩)
 have hf:H1 s1.heap.objs.size=none:=I1.hok.fresh (AN _)
 refine⟨.ref s1.heap.objs.size,upd H1 s1.heap.objs.size (.tup xs),I1.laid (t':=s1.toks) (λb u e=>AE _ e) (AN _) ?_,rfl,q _ hf⟩
 exact⟨z,us,r,⟨_,AS _ rfl,rfl,rfl,_,rfl⟩⟩
theorem Sk (h:PA X es t):PE X (.List es pos) (aar t):=by
 intro pins s σ H Q I hq
 refine wpAny_List_spliced (thn (h pos pins s σ H _ I hq) λus s1 ⟨xs,H1,I1,r,z,q⟩=>⟨by rw[<-r.length];exact z,?_⟩)
 have hf:H1 s1.heap.objs.size=none:=I1.hok.fresh (AN _)
 refine⟨.ref s1.heap.objs.size,upd H1 s1.heap.objs.size (.lst xs),I1.laid (t':=s1.toks) (λb u e=>AE _ e) (AN _) ?_,rfl,q _ hf⟩
 exact⟨z,us,0,r,AS _ rfl⟩
end
abbrev Sp:=List V->Hp->VK->XK->Prop
abbrev CXT:=List Env->Hp->Shared->XK->Value->Shared->Prop
structure Env0 (P:Program) (w:World) (K:PySem.W.Frag) (mg:Str->Option Value) (base:Heap) (A:Around) (outer:List Env) (s:Shared) (H:Hp):Prop where
 frames:A.frames=some outer
 mod:Mod K mg base
 bs:∀b o,base.get? b=some o->s.heap.get? b=some o/\H b=none
 bsz:base.objs.size<=s.heap.objs.size
 funs:s.heap.FunFrames base outer
 frf:∀b∈frs outer,H b=none
 hok:HOk P w H s.heap
 bare:AllBare s.gens
def CE (outer:List Env) (P:Program) (w:World) (H:Hp) (s:Shared) (Q:VK) (u:Value) (s':Shared):Prop :=
 ∃v H',s'.os=s.os/\AllBare s'.gens/\Un (frs outer) [] H H' s.heap s'.heap/\HOk P w H' s'.heap/\RelV v u/\Q v H'
def CR (CX:CXT) (outer:List Env) (P:Program) (w:World) (H:Hp) (s:Shared) (Q:VK) (E:XK) (r:Result) (s':Shared):Prop :=
 match r with
 | .ok (.ret u)=>CE outer P w H s Q u s'
 | .ok _=>False
 | .error e=>CX outer H s E e s'
structure FnOk (P:Program) (w:World) (K:PySem.W.Frag) (mg:Str->Option Value) (base:Heap) (CX:CXT) (k:Nat) (f:Addr) (fd:FuncData) (ps:List Str) (sp:Sp):Prop where
 len:∀vs H Q E,sp vs H Q E->vs.length=ps.length
 run:∀(A:Around) (outer:List Env) (s:Shared) (H:Hp) (args:Args) (us:List Value) (vs:List V) (Q:VK) (E:XK),Room k A->Env0 P w K mg base A outer s H->BindsTo s fd args (ps.zip us)->bh vs us->sp vs H Q E ->
  codeAny (model P w) A (.call (.ref f) args) (CR CX outer P w H s Q E) s
theorem FnOk.imp {P:Program} {w:World} {K:PySem.W.Frag} {mg:Str->Option Value} {base:Heap} {CX:CXT} {k:Nat} {f:Addr} {fd:FuncData} {ps:List Str} {sp sp':Sp} (F:FnOk P w K mg base CX k f fd ps sp)
  (h:∀vs H Q E,sp' vs H Q E->sp vs H Q E):FnOk P w K mg base CX k f fd ps sp' :=
 ⟨λvs H Q E q=>F.len vs H Q E (h _ _ _ _ q),λA outer s H args us vs Q E hr he hb hv hs=>F.run A outer s H args us vs Q E hr he hb hv (h _ _ _ _ hs)⟩
theorem Env0.make {P:Program} {w:World} {K:PySem.W.Frag} {mg:Str->Option Value} {base:Heap} {A:Around} {outer:List Env} {s:Shared} {H:Hp} (e:Env0 P w K mg base A outer s H) (C:Addr) (us:List Value) (kw:List (Str×Value)) :
  Env0 P w K mg base (A.under (.builtin "type.__call__" ⟨.ref C::us,kw⟩)) outer s H:=⟨by first | exact e.frames | (simpa[Around.under,Code.envs,Code.isFrame,pushEnvs]using e.frames),e.mod,e.bs,e.bsz,e.funs,e.frf,e.hok,e.bare⟩
section
variable {X : Cx} {pins : List (Addr × Obj)} {σ : St} {H : Hp} {s s' : Shared}
theorem Inv.env0 (I:Inv X pins σ H s):Env0 X.prog X.w X.K X.mg X.base X.A X.stack s H :=
 ⟨I.ok.frames,I.ok.mod,I.bs,BX I.ok.bsz I.sz,I.stack,I.stkFree,I.hok,I.bare⟩
theorem Inv.after {Q:VK} {u:Value} (I:Inv X pins σ H s) (h:CE X.stack X.prog X.w H s Q u s'):EP X pins σ Q u s':=by
 obtain⟨v,H',os,bare,un,hok,r,q⟩:=h
 obtain⟨hh,g,d,t,os'⟩:=s'
 obtain rfl:os'=s.os:=os
 exact⟨v,H',I.call (h':=hh) (g':=g) (d':=d) (t':=t) (ch:=[]) un hok bare (λb z=>absurd z (by simp)),r,q⟩
end
def Xa (sp:Sp) (dvs:List V) (E:XK) (t:TA):TE:=λσ H Q=>t σ H λvs H1=>sp (vs++dvs) H1 Q E
def Oj (C:Addr) (m:Str) (sp:Sp) (dvs:List V) (E:XK) (ta:TE) (t:TA):TE:=λσ H Q=>ta σ H λx H1=>∃a dx fs,x=.ref a/\H1 a=some (.ins C dx fs)/\fs.lookup m=none /\
 t σ H1 λvs H2=>sp (x::(vs++dvs)) H2 Q E
def Xb (C:Addr) (sp:Sp) (dvs:List V) (E:XK) (t:TA):TE:=λσ H Q=>t σ H λvs H1=>∀x dx,H1 x=none->H1 dx=none->dx≠x ->
 sp (.ref x::(vs++dvs)) (upd (upd H1 dx (.own x)) x (.ins C dx [])) (λv H2=>v=.non/\Q (.ref x) H2) E
def Binds (K:PySem.W.Frag) (fd:FuncData) (ps:List Str) (ds:List Value):Prop :=
 ∀(s:Shared) (us:List Value),K.In s.heap->(us++ds).length=ps.length->BindsTo s fd ⟨us,[]⟩ (ps.zip (us++ds))
theorem Binds.all {K:PySem.W.Frag} {fd:FuncData} {ps:List Str} (h:∀us:List Value,us.length=ps.length->bindArgs fd ⟨us,[]⟩=pure (ps.zip us)):Binds K fd ps []:=λs us _ hl=>by
 rw[DP]at hl ⊢
 exact .of_eq (h us hl)
def sy (CX:CXT) (X:Cx) (E:XK):Prop:=∀(pins:List (Addr×Obj)) (σ:St) (H:Hp) (s:Shared) (e:Value) (s':Shared),Inv X pins σ H s->CX X.stack H s E e s'->X.xe e s'
section
variable {X : Cx} {CX : CXT} {k : Nat} {f C : Addr} {fd : FuncData} {ps : List Str} {sp : Sp} {dvs : List V} {ds : List Value} {E : XK} {x m : Str} {p pos apos : Pos} {e o : Expr} {es : List Expr} {ta : TE} {t : TA}
theorem Es {pins:List (Addr×Obj)} {σ:St} {H:Hp} {s:Shared} {Q:VK} {us:List Value} {vs:List V} (F:FnOk X.prog X.w X.K X.mg X.base CX k f fd ps sp) (hr:Room k X.A) (hb:Binds X.K fd ps ds) (hd:bh dvs ds) (hx:sy CX X E)
  (I:Inv X pins σ H s) (r:bh vs us) (h:sp (vs++dvs) H Q E):wpAny (model X.prog X.w) X.A (call (.ref f) us) (EP X pins σ Q) X.xe s:=by
 have r2:bh (vs++dvs) (us++ds):=r.append hd
 have hl:(us++ds).length=ps.length:=by rw[<-r2.length];exact F.len _ _ _ _ h
 refine wpAny_call (FV (F.run X.A X.stack s H ⟨us,[]⟩ (us++ds) (vs++dvs) Q E hr I.env0 (hb s us I.kIn hl) r2 h) λr s' hq=>?_)
 cases r with
 | error e=>exact hx pins σ H s e s' I hq
 | ok fl =>
  cases fl with
  | ret u=>exact I.after hq
  | next=>exact False.elim hq
  | brk=>exact False.elim hq
  | cont=>exact False.elim hq
theorem Et (F:FnOk X.prog X.w X.K X.mg X.base CX k f fd ps sp) (hr:Room k X.A) (hg:Gl X x) (hm:X.mg x=some (.ref f)) (hk:PySem.W.keepIn X.K (.ref f)=true) (hb:Binds X.K fd ps ds) (hd:bh dvs ds) (hx:sy CX X E)
  (ha:PA X (e::es) t) (hdb:(x==("__debug__":Str))=false:=by decide) (he:starEach (e::es) X.env=(false,eval e X.env)::starEach es X.env:=by rfl) (hpl:(backTo pos (starEach es X.env)).any (·.1)=false:=by rfl) :
  PE X (.Call (.Name x p) (e::es) [] pos) (Xa sp dvs E t):=by
 intro pins s σ H Q I h
 refine EZ (Ei I hg hm ?_ hdb)
 refine Go (h₀:=X.base) I.ok.mod.kin hk (thn (ha pos pins s σ H _ I h) λus s1 ⟨vs,H1,I1,r,q⟩=>⟨I1.kIn,?_⟩) he hpl
 exact Es F hr hb hd hx I1 r q
theorem Ol {pl:Sem Bool} (he:PE X o ta) (c:Cls X.K C) (hm:Meth X.K C m f) (F:FnOk X.prog X.w X.K X.mg X.base CX k f fd ps sp) (hr:Room k X.A) (hb:Binds X.K fd ps ds) (hd:bh dvs ds) (hx:sy CX X E) (ha:PA X (e::es) t)
  (hst:starEach (e::es) X.env=(false,eval e X.env)::starEach es X.env:=by rfl) (hpl:(backTo pos (starEach es X.env)).any (·.1)=false:=by rfl)
  (ht:eval (.Call (.Attribute o m apos) (e::es) [] pos) X.env=(do
   let ov <-eval o X.env
   standAt apos.atName
   let (f,first) <-holding [ov] (getMethod ov m pl)
   callWith pos f first (backTo pos (starEach (e::es) X.env)) (backToKw pos (keywordEach [] X.env))):=by rfl) :
  PE X (.Call (.Attribute o m apos) (e::es) [] pos) (Oj C m sp dvs E ta t):=by
 intro pins s σ H Q I h
 refine FK (pl:=pl) (thn (he pins s σ H _ I h) λu s1 ⟨x,H1,I1,rx,a,dx,fs,ex,ea,l,q⟩=>?_) ht
 subst ex
 obtain rfl:u=Value.ref a:=rx
 refine ni I1 ea c hm l ?_
 refine Go (first:=[.ref a]) (h₀:=X.base) I.ok.mod.kin hm.kp (thn (ha pos pins s1 σ H1 _ I1 q) λus s2 ⟨vs,H2,I2,r,q2⟩=>⟨I2.kIn,?_⟩) hst hpl
 exact Es (us:=.ref a::us) (vs:=.ref a::vs) F hr hb hd hx I2 (.cons rfl r) q2
theorem Jy {pl:Sem Bool} (he:PE X o ta) (c:Cls X.K C) (hm:Meth X.K C m f) (F:FnOk X.prog X.w X.K X.mg X.base CX k f fd ps sp) (hr:Room k X.A) (hb:Binds X.K fd ps ds) (hd:bh dvs ds) (hx:sy CX X E)
  (ht:eval (.Call (.Attribute o m apos) [] [] pos) X.env=(do
   let ov <-eval o X.env
   standAt apos.atName
   let (f,first) <-holding [ov] (getMethod ov m pl)
   callWith pos f first (backTo pos (starEach [] X.env)) (backToKw pos (keywordEach [] X.env))):=by rfl) :
  PE X (.Call (.Attribute o m apos) [] [] pos) (Oj C m sp dvs E ta tNil):=by
 intro pins s σ H Q I h
 refine FK (pl:=pl) (thn (he pins s σ H _ I h) λu s1 ⟨x,H1,I1,rx,a,dx,fs,ex,ea,l,q⟩=>?_) ht
 subst ex
 obtain rfl:u=Value.ref a:=rx
 refine ni I1 ea c hm l ?_
 exact PySem.W.callWith_K0 (first:=[.ref a]) I1.kIn hm.kp (Es (us:=[.ref a]) (vs:=[.ref a]) F hr hb hd hx I1 (.cons rfl .nil) q)
structure Mk (K:PySem.W.Frag) (C f:Addr):Prop where
 makes:PySem.W.makesIn K C=true
 init:PySem.W.findIn K (.ref C) "__init__"=some (some (.ref f))
 fn:PySem.W.isFn K (.ref f)=true
 kp:PySem.W.keepIn K (.ref C)=true
end
structure FnScope (N P:List Str) (sc:Scope):Prop where
 kind:sc.kind=.function
 co:sc.isCoroutine=false
 gen:sc.isGenerator=false
 nd:N.Nodup
 pre:N.take P.length=P
 par:∀x∈P,sc.names.lookup x=some .local\/sc.names.lookup x=some .cell
 nofree:∀y∈sc.names,y.2≠.free
theorem w8 {kindOf:Str->Option NameKind} {x:Str}:∀{binds:List (Str×Value)} {m:Str->Option Value},(∀v,(x,v)∉binds)->bindL kindOf binds m x=m x
 | [],_,_=>rfl
 | (n,v)::r,m,h=>by
  unfold bindL
  rw[w8 λw hw=>h w (AJ _ hw)]
  split
  ·have:x≠n:=by rintro rfl;exact h v AT
   simp[this]
  ·rfl
theorem xf {kindOf:Str->Option NameKind} {x:Str}:∀{binds:List (Str×Value)} {m:Str->Option Value},(∀v,(x,v)∉binds)->bindC kindOf binds m x=m x
 | [],_,_=>rfl
 | (n,v)::r,m,h=>by
  unfold bindC
  rw[xf λw hw=>h w (AJ _ hw)]
  split
  ·rfl
  ·have:x≠n:=by rintro rfl;exact h v AT
   simp[this]
theorem xg {kindOf:Str->Option NameKind} {x:Str} {v:Value}:∀{P:List Str} {vs:List Value} {i:Nat} {m:Str->Option Value},P.Nodup->P[i]? = some x->vs[i]? = some v->kindOf x=some .local ->
  bindL kindOf (P.zip vs) m x=some v
 | [],_,_,_,_,h,_,_=>by simp at h
 | _::_,[],_,_,_,_,h,_=>by simp at h
 | p::P,w::vs,0,m,nd,h1,h2,hk=>by
  simp at h1 h2;subst h1;subst h2
  show bindL kindOf ((p,w)::P.zip vs) m p=_
  unfold bindL
  rw[w8 λv hv=>(BU.mp nd).1 (EX hv).1,if_pos hk]
  simp
 | p::P,w::vs,i+1,m,nd,h1,h2,hk=>by
  show bindL kindOf ((p,w)::P.zip vs) m x=_
  unfold bindL
  exact xg (i:=i) (BU.mp nd).2 (by simpa using h1) (by simpa using h2) hk
theorem xj {kindOf:Str->Option NameKind} {x:Str} {v:Value}:∀{P:List Str} {vs:List Value} {i:Nat} {m:Str->Option Value},P.Nodup->P[i]? = some x->vs[i]? = some v->kindOf x≠some .local ->
  bindC kindOf (P.zip vs) m x=some v
 | [],_,_,_,_,h,_,_=>by simp at h
 | _::_,[],_,_,_,_,h,_=>by simp at h
 | p::P,w::vs,0,m,nd,h1,h2,hk=>by
  simp at h1 h2;subst h1;subst h2
  show bindC kindOf ((p,w)::P.zip vs) m p=_
  unfold bindC
  rw[xf λv hv=>(BU.mp nd).1 (EX hv).1,if_neg hk]
  simp
 | p::P,w::vs,i+1,m,nd,h1,h2,hk=>by
  show bindC kindOf ((p,w)::P.zip vs) m x=_
  unfold bindC
  exact xj (i:=i) (BU.mp nd).2 (by simpa using h1) (by simpa using h2) hk
def start (N:List Str) (vs:List V):St:=vs.map some++List.replicate (N.length-vs.length) none
def Jz (CX:CXT) (P:Program) (w:World) (K:PySem.W.Frag) (mg:Str->Option Value) (base:Heap) (N:List Str) (qual:Str) (scope:Scope) (f:Addr) (cd:Value) (A:Around) (outer:List Env) (s:Shared) (H:Hp) (E:XK):Cx where
 prog:=P
 w:=w
 K:=K
 mg:=mg
 base:=base
 A:=A.deeper (envOfC qual scope s.heap.objs.size f cd)
 N:=N
 s₀:=s
 H₀:=H
 env:=envOfC qual scope s.heap.objs.size f cd
 outer:=outer
 stack:=envOfC qual scope s.heap.objs.size f cd::outer
 ex:=[]
 calm:=true
 fn:=λ_=>true
 pn:=[]
 xe:=λe s'=>wpAny (model P w) (A.deeper (envOfC qual scope s.heap.objs.size f cd)) (leaving (envOfC qual scope s.heap.objs.size f cd) e) (λ_ s''=>CX outer H s E e s'') (λe' s''=>CX outer H s E e' s'') s'
theorem oz {sc:Scope} {n:Nat} {x:Str} (h:sc.names.lookup x=some .cell):∃c,(cellsFrom n sc.names []).lookup x=some c:=by
 have q:=HC sc.names n [] (.inl h)
 exact BJ.mp q
theorem Eu {CX:CXT} {P:Program} {w:World} {K:PySem.W.Frag} {mg:Str->Option Value} {base:Heap} {N ps:List Str} {qual:Str} {scope:Scope} {f:Addr} {cd:Value} {A:Around} {outer:List Env} {s s1:Shared} {H:Hp} {E:XK} {us:List Value} {vs:List V}
  (S:FnScope N ps scope) (hd:A.handled=none) (e0:Env0 P w K mg base A outer s H) (hl:vs.length=ps.length) (r:bh vs us)
  (x:InCallC s s.heap.objs.size (bindL (envOfC qual scope s.heap.objs.size f cd).kindOf (ps.zip us) λ_=>none) (cellsFrom (s.heap.objs.size+1) scope.names []) (bindC (envOfC qual scope s.heap.objs.size f cd).kindOf (ps.zip us) λ_=>none) s1) :
  Inv (Jz CX P w K mg base N qual scope f cd A outer s H E) [] (start N vs) H s1:=by
 have hpl:ps.length<=N.length:=by have:=congrArg List.length S.pre;rw[CG]at this;lia
 obtain⟨h1,tk,rfl,hk⟩:=x.done
 have noA:∀b:Addr,b∉(Jz CX P w K mg base N qual scope f cd A outer s H E).ex:=λb z=>absurd (show b∈([]:List Addr)from z) (by simp)
 refine⟨⟨e0.mod,S.kind,rfl,rfl,AN _,λy z c h1 h2=>?_,λy hy=>?_,λy c _ h=>?_,λ_=>hd,Around.frames_deeper e0.frames,.inr ⟨rfl,rfl⟩,λb z=>absurd z (noA b),e0.bs,e0.bsz,λb _ _=>noA b,λb z=>absurd z (noA b),e0.funs,e0.frf⟩,
  rfl,e0.bare,Un.kept hk,⟨_,x.toInCall.ns,λi y v h1 h2 h3=>?_⟩,λy c h=>⟨_,x.cell y c h⟩,e0.hok.fresh (AN _),λy c h=>?_,λp hp=>absurd (show p∈([]:List (Addr×Obj))from hp) (by simp),e0.hok.kept hk,?_⟩
 ·exact name_of_addr x.apart (CQ h1) (CQ h2)
 ·have hy:scope.names.lookup y=some .cell\/scope.names.lookup y=some .free:=hy
  rcases hy with hy | hy
  ·exact oz hy
  ·exact absurd rfl (S.nofree _ (CQ hy))
 ·exact EC (x.above y c (CQ h))
 ·have hi:i<vs.length:=by
   unfold start at h2
   by_cases hi:i<vs.length
   ·exact hi
   ·rw[AZ (by simpa using hi)]at h2
    rw[CN]at h2
    split at h2<;>cases h2
  have ha:vs[i]? = some v:=by
   unfold start at h2
   rw[AK (by simpa using hi),AX]at h2
   cases e:vs[i]? with
   | none=>rw[e]at h2;cases h2
   | some a=>rw[e]at h2;cases h2;rfl
  obtain⟨u,hu,rv⟩:=r.get ha
  have hp:ps[i]? = some y:=by
   rw[<-S.pre,CU (by lia)];exact h1
  have ndP:ps.Nodup:=by rw[<-S.pre];exact S.nd.sublist (List.take_sublist _ _)
  refine⟨u,rv,?_⟩
  rcases S.par y (BC hp)with k | k
  ·exact .inl ⟨k,xg ndP hp hu k⟩
  ·obtain⟨c,e⟩:=oz (n:=s.heap.objs.size+1) k
   refine .inr ⟨.inl k,c,e,?_⟩
   have q:=x.cell y c e
   rw[xj ndP hp hu (by show scope.names.lookup y≠_;rw[k];decide)]at q
   exact q
 ·exact e0.hok.fresh (EC (x.above y c (CQ h)))
 ·unfold start
  show _=N.length
  rw[BD,AM,EN]
  lia
theorem Xc {CX:CXT} {P:Program} {w:World} {K:PySem.W.Frag} {mg:Str->Option Value} {base:Heap} {k:Nat} {f:Addr} {name qual:Str} {params:Arguments} {body:List Stmt} {scope:Scope} {dV kV doc pm cdv ct oc:Value} {an od:Option Addr}
  {osl:Array (Option Value)} {N ps:List Str} {sp:Sp} (lk:K.lookup f=some ⟨oc,od,.func (PySem.W.fnOf name qual params body scope dV kV doc pm an cdv ct),osl⟩) (hcd:PySem.W.codeIn K cdv qual=true) (S:FnScope N ps scope)
  (len:∀vs H Q E,sp vs H Q E->vs.length=ps.length)
  (hbody:∀(A:Around) (outer:List Env) (s:Shared) (H:Hp) (vs:List V) (Q:VK) (E:XK),uq k (A.deeper (envOfC qual scope s.heap.objs.size f cdv))->sp vs H Q E ->
   ∃t,PSs (Jz CX P w K mg base N qual scope f cdv A outer s H E) body t/\t {nx:=λ_ H'=>Q .non H',rt:=Q} (start N vs) H) :
  FnOk P w K mg base CX (k+1) f (PySem.W.fnOf name qual params body scope dV kV doc pm an cdv ct) ps sp:=by
 refine⟨len,λA outer s H args us vs Q E hr e0 hb r hsp=>?_⟩
 have hl:=len _ _ _ _ hsp
 have KX:K.In s.heap:=e0.mod.kin.keeps λb o e=>(e0.bs b o e).1
 have lim:s.heap.NoLimit:=e0.mod.nolimit.keeps λb o e=>(e0.bs b o e).1
 have hkind:∀y∈ps.zip us,scope.names.lookup y.1=some .local\/(scope.names.lookup y.1=some .cell/\((cellsFrom (s.heap.objs.size+1) scope.names []).lookup y.1).isSome=true):=fun⟨n,v⟩ hy=>by
  rcases S.par n (EX hy).1 with q | q
  ·exact .inl q
  ·exact .inr ⟨q,HC _ _ _ (.inl q)⟩
 refine codeAny_call_function hr.depth (KX _ _ lk) rfl S.co S.gen rfl (PySem.W.codeRec_of KX hcd) (hb _ _ _ _ ?_)
 refine wpAny_newFunctionEnv_cells S.kind hkind λenv he s1 x=>?_
 subst he
 refine⟨lim.keeps x.toInCall.keep,codeAny_func ?_⟩
 obtain⟨t,ht,hq⟩:=hbody A outer s H vs Q E (hr.deeperX _) hsp
 have I:Inv (Jz CX P w K mg base N qual scope f cdv A outer s H E) [] (start N vs) H s1:=Eu S hr.hd e0 hl r x
 refine DD (ht [] s1 (start N vs) H _ I hq) (λfl s' hs=>?_) λe s' hs=>hs
 have fin:∀{σ':St} {H':Hp} {v:V} {u:Value},Inv (Jz CX P w K mg base N qual scope f cdv A outer s H E) [] σ' H' s'->RelV v u->Q v H'->CE outer P w H s Q u s' :=
  λ{σ' H' v u} J rv q=>⟨v,H',J.os,J.bare,J.base,J.hok,rv,q⟩
 cases fl with
 | ret u =>
  obtain⟨v,σ',H',J,rv,q⟩:=hs
  exact fin J rv q
 | next =>
  obtain⟨σ',H',J,q⟩:=hs
  exact fin (v:=V.non) (u:=Value.none) J rfl q
 | brk =>
  obtain⟨_,_,_,q⟩:=hs
  exact False.elim q
 | cont =>
  obtain⟨_,_,_,q⟩:=hs
  exact False.elim q
section
variable {X : Cx} {x : Str} {p pos : Pos} {e : Expr} {es : List Expr} {t : TA} {id T : String} {r : List V -> Hp -> VK -> Prop}
def tCB (r:List V->Hp->VK->Prop) (t:TA):TE:=λσ H Q=>t σ H λvs H1=>r vs H1 Q
theorem je (hc:dk X (.builtin id) r) (hg:Gl X x) (hm:X.mg x=none) (hv:bootBuiltins x=some (.builtin id)) (ha:PA X (e::es) t) (hn:x≠"__name__":=by decide) (hdb:(x==("__debug__":Str))=false:=by decide)
  (he:starEach (e::es) X.env=(false,eval e X.env)::starEach es X.env:=by rfl) (hpl:(backTo pos (starEach es X.env)).any (·.1)=false:=by rfl):PE X (.Call (.Name x p) (e::es) [] pos) (tCB r t):=by
 intro pins s σ H Q I h
 refine EZ (w4 I hg hm hv ?_ hn hdb)
 exact PyProof.Rows.callWith_builtin1 (thn (ha pos pins s σ H _ I h) λus s1 ⟨vs,H1,I1,r1,q1⟩=>hc pins s1 σ H1 vs us Q I1 r1 q1) he hpl
theorem xk (hc:dk X (.type T) r) (hg:Gl X x) (hm:X.mg x=none) (hv:bootBuiltins x=some (.type T)) (ha:PA X (e::es) t) (hn:x≠"__name__":=by decide) (hdb:(x==("__debug__":Str))=false:=by decide)
  (he:starEach (e::es) X.env=(false,eval e X.env)::starEach es X.env:=by rfl) (hpl:(backTo pos (starEach es X.env)).any (·.1)=false:=by rfl):PE X (.Call (.Name x p) (e::es) [] pos) (tCB r t):=by
 intro pins s σ H Q I h
 refine EZ (w4 I hg hm hv ?_ hn hdb)
 exact DS (thn (ha pos pins s σ H _ I h) λus s1 ⟨vs,H1,I1,r1,q1⟩=>hc pins s1 σ H1 vs us Q I1 r1 q1) he hpl
end
end L2
namespace HT
open PySem PyProof.Rows
def lexLt:List Int->List Int->Bool
 | [],[]=>false
 | [],_::_=>true
 | _::_,[]=>false
 | x::xs,y::ys=>if x=y then lexLt xs ys else decide (x<y)
theorem gi (x y:Int) (xs ys:List Int):lexLt (x::xs) (y::ys)=if x=y then lexLt xs ys else decide (x<y):=rfl
theorem jf:lexLt [] []=false:=rfl
theorem ik (y:Int) (ys:List Int):lexLt [] (y::ys)=true:=rfl
theorem ip (x:Int) (xs:List Int):lexLt (x::xs) []=false:=rfl
theorem ur (A:Around) (s:Shared) (a:Int) (t:Tok) (c:Int) (u:Tok):∃e,SeqAt.EqAt A s (.int a t) (.int c u) e/\(e=true↔a=c) :=
 ⟨(a==c),IK a t c u,by simp⟩
theorem J0 (A:Around) (s:Shared) (a:Int) (t:Tok) (c:Int) (u:Tok) (prog:Program) (w:World) (E:Value->Shared->Prop) (Q:Value->Shared->Prop) (h:Q (.bool (decide (a<c))) s) :
  wpAny (model prog w) A (richCompare .Lt (.int a t) (.int c u)) Q E s :=
 (PyProof.Rows.lt_int h:wpAny (model prog w) A (compareOp .Lt (.int a t) (.int c u)) Q E s)
section
open PySem.SeqAt
open PySem.AutoSeq1 (wpAny_loadPart')
open PySem.MeetsSeq PySem.MeetsSeq2 PySem.MeetsSeq3
theorem uu (l b:Addr) (items items2:Array Value) (n n2:Nat) (dd dd2:Option Addr) (sl sl2:Array (Option Value)) (ns ms:List Int) (hi:IntsAre items.toList ns) (hj:IntsAre items2.toList ms) :
  Meets (Builtin.«tuple.__lt__» ⟨[.ref l,.ref b],[]⟩)
   (λ_ R s=>s.heap.get? l=some {cls:=.type "tuple",dict:=dd,data:=.seq items n,slots:=sl}/\s.heap.get? b=some {cls:=.type "tuple",dict:=dd2,data:=.seq items2 n2,slots:=sl2} /\
    R (.ok (.ret (.bool (lexLt ns ms)))) s) :=
 .of_wp λprog w A R s h=>by
  obtain⟨hp,g,d,tk,os⟩:=s;obtain⟨hl,hb,h⟩:=h
  have f2:=EU
  have z1:items.size=ns.length:=by rw[<-hi.length];simp
  have z2:items2.size=ms.length:=by rw[<-hj.length];simp
  wp_walk using CY hl,CY hb,GW _ (λrest b s'=>b.1=none/\s'=⟨hp,g,d,tk,os⟩/\∃(vs ws:List Value) (ns' ms':List Int),rest=vs.zip ws /\
   IntsAre vs ns'/\IntsAre ws ms'/\ns'.length+items2.size=ms'.length+items.size/\R (.ok (.ret (.bool (lexLt ns' ms')))) ⟨hp,g,d,tk,os⟩) _
  case turn =>
   rintro⟨y,x⟩ rest b s' ⟨hb',rfl,vs,ws,ns',ms',hz,hvi,hwi,hlen,hR⟩
   cases hvi with
   | nil=>rw[GH]at hz;cases hz
   | cons a t hvi' =>
    cases hwi with
    | nil=>rw[Gt]at hz;cases hz
    | cons c u hwi' =>
     rw[DV]at hz
     injection hz with hyx hrest
     injection hyx with hy hx
     subst hy hx
     rw[gi]at hR
     simp![AU]at hlen
     obtain⟨e,he,hiff⟩:=ur A.in1 ⟨hp,g,d,tk,os⟩ a t c u
     refine AB (he prog w _ _ ?_)
     cases e with
     | true =>
      rw[if_pos (hiff.mp rfl)]at hR
      wp_walk
      exact⟨rfl,rfl,_,_,_,_,hrest,hvi',hwi',by lia,hR⟩
     | false =>
      rw[if_neg (λq=>absurd (hiff.mpr q) BB)]at hR
      have hri:=J0 A.in1 ⟨hp,g,d,tk,os⟩ a t c u prog w
      wp_walk using hri
      exact⟨_,rfl,by simpa using hR⟩
  case fin =>
   rintro⟨b1,b2⟩ s' ⟨hb',rfl,vs,ws,ns',ms',hz,hvi,hwi,hlen,hR⟩
   simp only at hb'
   subst hb'
   have hv:lexLt ns' ms'=decide (items.size<items2.size):=by
    cases hvi with
    | nil =>
     cases hwi with
     | nil =>
      simp![CD]at hlen
      rw[jf]
      exact(decide_eq_false (by lia)).symm
     | cons c u hw =>
      simp![CD,AU]at hlen
      rw[ik]
      exact(decide_eq_true (by lia)).symm
    | cons a t hv =>
     cases hwi with
     | nil =>
      simp![CD,AU]at hlen
      rw[ip]
      exact(decide_eq_false (by lia)).symm
     | cons c u hw =>
      rw[DV]at hz
      cases hz
   rw[hv]at hR
   wp_walk
   exact⟨_,rfl,by simpa[Builtin.Tuple.tupleCompareSizes]using hR⟩
  case h =>
   exact⟨rfl,rfl,items.toList,items2.toList,ns,ms,rfl,hi,hj,by lia,h⟩
end
section
variable {prog : Program} {w : World} {A : Around} {E : Value -> Shared -> Prop} {s : Shared}
theorem C9 {l b:Addr} {items items2:Array Value} {ns ms:List Int} {Q:Value->Shared->Prop} (hl:IsTup s.heap l items) (hb:IsTup s.heap b items2) (hi:IntsAre items.toList ns) (hj:IntsAre items2.toList ms)
  (hu:A.units<cLine) (h:Q (.bool (lexLt ns ms)) s):wpAny (model prog w) A (compareOp .Lt (.ref l) (.ref b)) Q E s:=by
 obtain⟨⟨cls,dd,data,sl⟩,ho,hc,n,hd⟩:=id hl
 obtain⟨⟨cls2,dd2,data2,sl2⟩,ho2,hc2,n2,hd2⟩:=id hb
 simp only at hc hd hc2 hd2
 subst hc hd hc2 hd2
 exact FF (op:=.Lt) ⟨_,ho,rfl⟩ ⟨_,ho2,rfl⟩ PySem.F.slot_tuple_lt PySem.F.entry_tuple_lt (PySem.F.args_tuple_lt_2 _ _) (uu l b items items2 n n2 dd dd2 sl sl2 ns ms hi hj)
  ⟨ho,ho2,show Value.bool (lexLt ns ms)≠Value.notImplemented/\Q (.bool (lexLt ns ms)) s from⟨(λx=>nomatch x),h⟩⟩ hu
theorem Om {t b:Addr} {vs ws:List Value} {Q:Value->Shared->Prop} (ht:IsTup s.heap t vs.toArray) (hb:IsTup s.heap b ws.toArray) (hv:vs≠[])
  (h1:ws=[]->Q (.ref t) s) (h2:ws≠[]->Q (.ref s.heap.objs.size) {s with heap:=s.heap.push {cls:=.type "tuple",data:=.seq (vs++ws).toArray}})
  (hsz:vs.length+ws.length<=sizeLine):wpAny (model prog w) A (binaryOp .Add (.ref t) (.ref b)) Q E s:=by
 obtain⟨⟨cls,dd,data,sl⟩,ho,hc,n,hd⟩:=id ht
 obtain⟨⟨cls2,dd2,data2,sl2⟩,ho2,hc2,n2,hd2⟩:=id hb
 simp only at hc hd hc2 hd2
 subst hc hd hc2 hd2
 have e:vs.toArray++ws.toArray=(vs++ws).toArray:=by simp
 by_cases hw:ws=[]
 ·exact concat_meets ⟨_,ho,rfl⟩ ⟨_,ho2,rfl⟩ GX seq_tuple_add FG FD (EV _ _)
   (tuple_addW1 t b vs.toArray ws.toArray n n2 dd dd2 sl sl2 (by simpa using hv) (by simp[hw])) ⟨ho,ho2,h1 hw⟩
 ·refine concat_meets ⟨_,ho,rfl⟩ ⟨_,ho2,rfl⟩ GX seq_tuple_add FG FD (EV _ _)
   (tuple_addW2 t b vs.toArray ws.toArray n n2 dd dd2 sl sl2 (by simpa using hv) (by simpa using hw) (by rw[AI,AI];exact hsz)) ⟨ho,ho2,?_⟩
  rw[e]
  exact h2 hw
def sIx (n d:Nat):Option Int->Nat
 | none=>d
 | some v=>if v<0 then(v+(n:Int)).toNat else min v.toNat n
theorem Sn (n d:Nat) (hd:d<=n) (o:Option Int):sIx n d o<=n:=by
 cases o with
 | none=>exact hd
 | some v =>
  show(if v<0 then(v+(n:Int)).toNat else min v.toNat n)<=n
  by_cases hv:v<0
  ·rw[if_pos hv];lia
  ·rw[if_neg hv];exact Nat.min_le_right _ _
theorem Ew (v:Int) (n d:Nat):(if v<0 then max (v+(n:Int)) 0 else min v (n:Int))=((sIx n d (some v):Nat):Int):=by
 show(if v<0 then max (v+(n:Int)) 0 else min v (n:Int))=(((if v<0 then(v+(n:Int)).toNat else min v.toNat n):Nat):Int)
 by_cases hv:v<0
 ·simp![if_pos hv];lia
 ·simp![if_neg hv];lia
theorem Dc (lo hi:Option Int) (n:Nat):Builtin.Slice.sliceAdjust lo hi 1 (n:Int)=(((sIx n 0 lo:Nat):Int),((sIx n n hi:Nat):Int)):=by
 have h1:¬((1:Int)<0):=by lia
 unfold Builtin.Slice.sliceAdjust
 simp![h1,if_false]
 refine Prod.ext ?_ ?_
 ·cases lo with
  | none=>rfl
  | some v=>exact Ew v n 0
 ·cases hi with
  | none=>rfl
  | some v=>exact Ew v n n
theorem Dd (i j:Nat):Builtin.Slice.slicePlaces (i:Int) (j:Int) 1=j-i:=by
 unfold Builtin.Slice.slicePlaces
 have h1:(1:Int) > 0:=by lia
 simp![h1,if_true,Int.ediv_one]
 split<;>lia
theorem tf {v:Value} {o:Option Int} {Q:Option Int->Shared->Prop} (p:IsPart v o) (h:Q o s):wpAny (model prog w) A (Builtin.Slice.slicePartIndex v) Q E s:=by
 cases p with
 | none=>exact slicePart_none h
 | int i t=>exact slicePart_int h
theorem jm {sl:Addr} {vl vu:Value} {lo hi:Option Int} {n:Nat} {Q:Int×Int×Nat->Shared->Prop} (hs:s.heap.IsSliceOf sl vl vu .none) (pl:IsPart vl lo) (pu:IsPart vu hi)
  (h:Q (((sIx n 0 lo:Nat):Int),1,sIx n n hi-sIx n 0 lo) s):wpAny (model prog w) A (Builtin.Slice.sliceApplied (.ref sl) (pure (n:Int))) Q E s:=by
 obtain⟨os,hos,hcs,hds⟩:=id hs
 unfold Builtin.Slice.sliceApplied Builtin.Slice.sliceFields
 refine AB (AB (BW hos hds (x:=vl) rfl (AB (BW hos hds (x:=vu) rfl (AB (BW hos hds (x:=.none) rfl (AL ?_)))))))
 refine AB (slicePart_none ?_)
 show wpAny _ _ (if((1:Int)==0)=true then _ else _) _ _ s
 rw[if_neg (by decide)]
 refine AB (tf pl (AB (tf pu (AB (AL ?_)))))
 show wpAny _ _ (match Builtin.Slice.sliceAdjust lo hi 1 (n:Int)with | (lo,hi)=>pure (lo,(1:Int),Builtin.Slice.slicePlaces lo hi 1)) _ _ s
 rw[Dc lo hi n]
 show wpAny _ _ (pure (((sIx n 0 lo:Nat):Int),(1:Int),Builtin.Slice.slicePlaces ((sIx n 0 lo:Nat):Int) ((sIx n n hi:Nat):Int) 1)) _ _ s
 rw[Dd]
 exact AL h
theorem J1 (xs:Array Value) (i k:Nat):((List.range k).filterMap fun(m:Nat)=>xs[((i:Int)+(m:Int)*1).toNat]?).toArray=((xs.toList.drop i).take k).toArray:=by
 have e:(fun(m:Nat)=>xs[((i:Int)+(m:Int)*1).toNat]?)=λm=>xs[i+m]?:=by
  funext m
  have:((i:Int)+(m:Int)*1).toNat=i+m:=by lia
  rw[this]
 rw[e]
 have:=pick_run xs i k
 rw[List.filterMap_map]at this
 have e2:((λx=>xs[x]?)∘λx=>i+x)=λm=>xs[i+m]?:=rfl
 rw[e2]at this
 rw[this]
theorem nj {t sl:Addr} {items:Array Value} {vl vu:Value} {lo hi:Option Int} {Q:Value->Shared->Prop} (ht:IsTup s.heap t items) (hs:s.heap.IsSliceOf sl vl vu .none) (pl:IsPart vl lo) (pu:IsPart vu hi)
  (hw:¬(sIx items.size 0 lo=0/\sIx items.size items.size hi=items.size))
  (h:Q (.ref s.heap.objs.size) {s with heap:=s.heap.push {cls:=.type "tuple",data:=.seq ((items.toList.drop (sIx items.size 0 lo)).take (sIx items.size items.size hi-sIx items.size 0 lo)).toArray}})
  (hsz:items.size<=sizeLine):wpAny (model prog w) A (getItem (.ref t) (.ref sl)) Q E s:=by
 have htake:sizeOk (.seq ((items.toList.drop (sIx items.size 0 lo)).take (sIx items.size items.size hi-sIx items.size 0 lo)).toArray):=by
  show((items.toList.drop (sIx items.size 0 lo)).take (sIx items.size items.size hi-sIx items.size 0 lo)).toArray.size<=sizeLine
  rw[AI,CG,List.length_drop,DI]
  lia
 have hj:sIx items.size items.size hi<=items.size:=Sn _ _ (AN _) hi
 obtain⟨os,hos,hcs,hds⟩:=id hs
 have hTs:s.TypeIs (.ref sl) "slice":=⟨os,hos,hcs⟩
 unfold getItem
 try with_reducible refine EM ?_
 first | refine AB (AL ?_) | skip
 refine AB (wpAny_sequenceKey ht.typeIs (by decide) ?_)
 refine AB (CH (name:=Str.ofString "__getitem__") ht.typeIs CC
  (DA CC ht.typeIs entry_tuple_getitem ?_ (args_tuple_getitem _ _)))
 show wpAny _ _ (Builtin.Tuple.tupleItemsOf (.ref t)>>=_) _ _ s
 refine AB (tupleItemsOf_ ht ?_)
 refine AB (wpAny_typeOf hTs ?_)
 rw[if_pos (by decide)]
 refine AB (jm hs pl pu ?_)
 have hno:¬((((sIx items.size 0 lo:Nat):Int)==0&&(1:Int)==1&&(sIx items.size items.size hi-sIx items.size 0 lo)==items.size)=true):=by
  intro q
  rw[AY,AY]at q
  have q1:((sIx items.size 0 lo:Nat):Int)=0:=eq_of_beq q.1.1
  have q2:sIx items.size items.size hi-sIx items.size 0 lo=items.size:=eq_of_beq q.2
  exact hw ⟨by lia,by lia⟩
 show wpAny _ _ (if(((sIx items.size 0 lo:Nat):Int)==0&&(1:Int)==1&&(sIx items.size items.size hi-sIx items.size 0 lo)==items.size)=true then _ else _) _ _ s
 rw[if_neg hno,J1]
 first
  | exact AB (m:=Builtin.Tuple.tupleExact _) (DE (AL ⟨_,rfl,AL h⟩) htake)
  | exact AB (m:=Builtin.Tuple.tupleExact _) (DE (AB (AL (AL ⟨_,rfl,AL h⟩))) htake)
  | exact AB (AB (m:=Builtin.Tuple.tupleExact _) (DE (AL (AL ⟨_,rfl,AL h⟩)) htake))
  | exact AB (AB (m:=Builtin.Tuple.tupleExact _) (DE (AL ⟨_,rfl,AL h⟩) htake))
end
end HT
namespace L2
open PySem PySem.Spec PyProof.Rows
abbrev TO:=St->Hp->(Option Int->Hp->Prop)->Prop
def PO (X:Cx) (e:Option Expr) (t:TO):Prop :=
 ∀(pins:List (Addr×Obj)) (s:Shared) (σ:St) (H:Hp) (Q:Option Int->Hp->Prop),Inv X pins σ H s->t σ H Q ->
  wpAny (model X.prog X.w) X.A (evalPart e X.env) (λu s'=>∃o H',Inv X pins σ H' s'/\IsPart u o/\Q o H') X.xe s
def tNoPart:TO:=λ_ H Q=>Q none H
def Xd (t:TE):TO:=λσ H Q=>t σ H λx H1=>∃i,x=.int i/\Q (some i) H1
theorem intsAre_of {ns:List Int}:∀{us:List Value},bh (ns.map V.int) us->IntsAre us ns:=by
 induction ns with
 | nil=>intro us r;rw[CZ]at r;cases r;exact .nil
 | cons n ns ih =>
  intro us r
  rw[AO]at r
  cases r with
  | cons r1 r2 =>
   obtain⟨t,e⟩:=r1
   subst e
   exact .cons n t (ih r2)
section
variable {X : Cx} {e : Expr} {te : TE} {lo hi : Option Expr} {tl th : TO} {pos p2 : Pos}
theorem Oo:PO X none tNoPart:=by
 intro pins s σ H Q I h
 rw[evalPart_none]
 exact AL ⟨none,H,I,.none,h⟩
theorem Oq (h:PE X e te):PO X (some e) (Xd te):=by
 intro pins s σ H Q I hw
 rw[evalPart_some]
 refine thn (h pins s σ H _ I hw) λu s1 ⟨x,H1,I1,r1,q1⟩=>?_
 obtain⟨i,rfl,q⟩:=q1
 obtain⟨t,rfl⟩:=r1
 exact⟨some i,H1,I1,.int i t,q⟩
def SlR (X:Cx) (r:V->Option Int->Option Int->Hp->VK->Prop):Prop :=
 ∀(pins:List (Addr×Obj)) (s:Shared) (σ:St) (H:Hp) (x:V) (v vl vu:Value) (lo hi:Option Int) (sl:Addr) (Q:VK),Inv X pins σ H s->RelV x v->s.heap.IsSliceOf sl vl vu .none->IsPart vl lo->IsPart vu hi->r x lo hi H Q ->
  ∃T id,typeLookup (.type T) "__getitem__"=pure (some (.builtin id))/\s.TypeIs v T/\wpAny (model X.prog X.w) X.A (getItem v (.ref sl)) (EP X pins σ Q) X.xe s
def tSl (r:V->Option Int->Option Int->Hp->VK->Prop) (te:TE) (tl th:TO):TE:=λσ H Q=>te σ H λx H1=>tl σ H1 λl H2=>th σ H2 λu H3=>r x l u H3 Q
theorem J2 {r:V->Option Int->Option Int->Hp->VK->Prop} (hr:SlR X r) (he:PE X e te) (hl:PO X lo tl) (hu:PO X hi th):PE X (.Subscript e (.Slice lo hi none p2) pos) (tSl r te tl th):=by
 intro pins s σ H Q I h
 refine Subscript_ (thn (he pins s σ H _ I h) λv s1 ⟨x,H1,I1,r1,q1⟩=>?_)
 refine wpAny_Slice (thn (hl pins s1 σ H1 _ I1 q1) λvl s2 ⟨l,H2,I2,pl,q2⟩=>thn (hu pins s2 σ H2 _ I2 q2) λvu s3 ⟨u,H3,I3,pu,q3⟩=>?_)
 rw[evalPart_none]
 refine AL ?_
 have I4:Inv X pins σ H3 {s3 with heap:=s3.heap.push {cls:=.type "slice",data:=.fields #[vl,vu,.none]}}:=I3.kept (t':=s3.toks) λb ob q=>AE _ q
 obtain⟨T,id,hT,ht,hg⟩:=hr pins {s3 with heap:=s3.heap.push {cls:=.type "slice",data:=.fields #[vl,vu,.none]}} σ H3 x v vl vu l u s3.heap.objs.size Q I4 r1 (IL ..) pl pu q3
 show wpAny (model X.prog X.w) X.A (subscriptTail e (.Slice lo hi none p2) v (.ref s3.heap.objs.size)) (EP X pins σ Q) X.xe {s3 with heap:=s3.heap.push {cls:=.type "slice",data:=.fields #[vl,vu,.none]}}
 exact tail_any (ops:=[.ref s3.heap.objs.size,v]) ht hT hg (by with_unfolding_all rfl)
def L0 (xs:List V) (lo hi:Option Int):List V:=(xs.drop (HT.sIx xs.length 0 lo)).take (HT.sIx xs.length xs.length hi-HT.sIx xs.length 0 lo)
theorem p9 (xs:List V) (lo hi:Option Int):(L0 xs lo hi).length<=xs.length:=by
 unfold L0
 rw[CG,List.length_drop]
 lia
def aas (K:PySem.W.Frag):V->Option Int->Option Int->Hp->VK->Prop:=λx lo hi H Q=>∃a xs,x=.ref a/\SqT K H a xs /\
 ¬(HT.sIx xs.length 0 lo=0/\HT.sIx xs.length xs.length hi=xs.length)/\∀p,H p=none->Q (.ref p) (upd H p (.tup (L0 xs lo hi)))
theorem So:SlR X (aas X.K):=by
 intro pins s σ H x v vl vu lo hi sl Q I rx hs pl pu h
 obtain⟨a,xs,rfl,hx,hw,q⟩:=h
 cases rx
 obtain⟨its,r,ht,hz⟩:=I.tuple hx
 have hlen:its.toArray.size=xs.length:=by rw[AI];exact r.length.symm
 refine⟨"tuple",_,CC.lookup,ht.typeIs,?_⟩
 refine HT.nj ht hs pl pu (by rw[hlen];exact hw) ?_ (by rw[hlen];exact hz)
 rw[hlen]
 refine⟨.ref s.heap.objs.size,_,I.laid (t':=s.toks) (o:=.tup (L0 xs lo hi)) (λb ob q=>AE _ q) (AN _) ?_,rfl,q _ (I.hok.fresh (AN _))⟩
 exact⟨BX (p9 xs lo hi) hz,_,(r.drop (HT.sIx xs.length 0 lo)).take (HT.sIx xs.length xs.length hi-HT.sIx xs.length 0 lo),om.new _ _⟩
def aat (K:PySem.W.Frag):R2:=λx y H Q=>∃a b ns ms,x=.ref a/\y=.ref b/\SqT K H a (ns.map V.int)/\SqT K H b (ms.map V.int)/\Q (.bl (HT.lexLt ns ms)) H
theorem Sr (hu:X.A.units<cLine):OpR X (compareOp .Lt) (aat X.K):=by
 intro pins s σ H x y v u Q I rx ry h
 obtain⟨a,b,ns,ms,rfl,rfl,ha,hb,q⟩:=h
 cases rx
 cases ry
 obtain⟨its,r1,p1,_⟩:=I.tuple ha
 obtain⟨its2,r2,p2,_⟩:=I.tuple hb
 have i1:IntsAre its.toArray.toList ns:=intsAre_of r1
 have i2:IntsAre its2.toArray.toList ms:=intsAre_of r2
 exact HT.C9 p1 p2 i1 i2 hu ⟨.bl (HT.lexLt ns ms),H,I,rfl,q⟩
def Xe (K:PySem.W.Frag):R2:=λx y H Q=>∃a b xs ys,x=.ref a/\y=.ref b/\SqT K H a xs/\SqT K H b ys/\xs≠[]/\xs.length+ys.length<=sizeLine /\
 (ys=[]->Q (.ref a) H)/\(ys≠[]->∀p,H p=none->Q (.ref p) (upd H p (.tup (xs++ys))))
theorem bh.nil_iff {xs:List V} {us:List Value} (r:bh xs us):us=[]↔xs=[]:=by
 cases r with
 | nil=>simp
 | cons _ _=>simp
theorem Ot:OpR X (binaryOp .Add) (Xe X.K):=by
 intro pins s σ H x y v u Q I rx ry h
 obtain⟨a,b,xs,ys,rfl,rfl,ha,hb,hx,hz,q1,q2⟩:=h
 cases rx
 cases ry
 obtain⟨its,r1,p1,_⟩:=I.tuple ha
 obtain⟨its2,r2,p2,_⟩:=I.tuple hb
 refine HT.Om p1 p2 (λz=>hx (r1.nil_iff.mp z)) (λz=>⟨.ref a,H,I,rfl,q1 (r2.nil_iff.mp z)⟩) (λz=>?_) (by rw[<-r1.length,<-r2.length];exact hz)
 refine⟨.ref s.heap.objs.size,_,I.laid (t':=s.toks) (o:=.tup (xs++ys)) (λb ob q=>AE _ q) (AN _) ?_,rfl,q2 (λw=>z (r2.nil_iff.mpr w)) _ (I.hok.fresh (AN _))⟩
 exact⟨by rw[BD];exact hz,_,r1.append r2,om.new _ _⟩
end
def ixN (n:Nat) (i:Int):Option Nat:=if 0<=i then(if i<n then some i.toNat else none)else if -(n:Int)<=i then some (i+n).toNat else none
def atI {α:Type} (xs:List α) (i:Int):Option α:=(ixN xs.length i).bind λj=>xs[j]?
theorem Ey {n:Nat} {i:Int} {j:Nat} (h:ixN n i=some j):seqIndex? i n=some j/\j<n /\ -(n:Int)<=i/\i<n:=by
 unfold ixN at h
 by_cases h0:0<=i
 ·rw[if_pos h0]at h
  by_cases h1:i<n
  ·rw[if_pos h1]at h
   have e:i.toNat=j:=BH h
   exact⟨by rw[Ix h0 h1,e],by lia,by lia,h1⟩
  ·rw[if_neg h1]at h;cases h
 ·rw[if_neg h0]at h
  by_cases h1:-(n:Int)<=i
  ·rw[if_pos h1]at h
   have e:(i+n).toNat=j:=BH h
   exact⟨by rw[HD (by lia) h1,e],by lia,h1,by lia⟩
  ·rw[if_neg h1]at h;cases h
theorem uv {α:Type} {xs:List α} {i:Int} {v:α} (h:atI xs i=some v):∃j,seqIndex? i xs.length=some j/\xs[j]? = some v/\j<xs.length /\ -(xs.length:Int)<=i/\i<xs.length:=by
 unfold atI at h
 cases e:ixN xs.length i with
 | none=>rw[e]at h;cases h
 | some j =>
  rw[e]at h
  obtain⟨h1,h2,h3,h4⟩:=Ey e
  exact⟨j,h1,h,h2,h3,h4⟩
def uw (b:Expr):Prop:=∀o i,subscripted b false o i=operate [o,i] (getItem o i)
def IxR (X:Cx) (r:R2):Prop :=
 ∀(value slice:Expr) (pins:List (Addr×Obj)) (s:Shared) (σ:St) (H:Hp) (x y:V) (v u:Value) (Q:VK),Inv X pins σ H s->RelV x v->RelV y u->r x y H Q ->
  subscripted slice false v u=operate [v,u] (getItem v u)->wpAny (model X.prog X.w) X.A (subscriptTail value slice v u) (EP X pins σ Q) X.xe s
def MtR (X:Cx) (id:String) (r:V->List V->Hp->VK->Prop):Prop :=
 ∀(pins:List (Addr×Obj)) (s:Shared) (σ:St) (H:Hp) (x:V) (xs:List V) (v:Value) (us:List Value) (Q:VK),Inv X pins σ H s->RelV x v->bh xs us->r x xs H Q ->
  wpAny (model X.prog X.w) X.A (call (.builtin id) (v::us)) (EP X pins σ Q) X.xe s
section
variable {X : Cx} {a b : Expr} {ta tb : TE} {pos : Pos}
theorem IxR.or {r r':R2} (h:IxR X r) (h':IxR X r'):IxR X (λx y H Q=>r x y H Q\/r' x y H Q):=by
 intro value slice pins s σ H x y v u Q I rx ry q hs
 rcases q with q | q
 ·exact h value slice pins s σ H x y v u Q I rx ry q hs
 ·exact h' value slice pins s σ H x y v u Q I rx ry q hs
theorem Ss {r:R2} (hr:IxR X r) (ha:PE X a ta) (hb:PE X b tb) (hs:uw b):PE X (.Subscript a b pos) (tOp r ta tb):=by
 intro pins s σ H Q I h
 exact Subscript_ (Y8 ha hb I h λv u s2 x y H2 I2 rx ry q=>hr a b pins s2 σ H2 x y v u Q I2 rx ry q (hs _ _))
def Wi (K:PySem.W.Frag):R2:=λx y H Q=>∃p xs i v,x=.ref p/\y=.int i/\SqL K H p xs/\atI xs i=some v/\Q v H
def Zb (K:PySem.W.Frag):R2:=λx y H Q=>∃p xs i v,x=.ref p/\y=.int i/\SqT K H p xs/\atI xs i=some v/\Q v H
def rIxS:R2:=λx y H Q=>∃z i c,x=.str z/\y=.int i/\z.length<=sizeLine/\atI z.cps.toList i=some c/\Q (.str ⟨#[c]⟩) H
theorem Ou:IxR X (Wi X.K):=by
 intro value slice pins s σ H x y v u Q I rx ry h hs
 obtain⟨p,xs,i,z,rfl,rfl,hq,he,q⟩:=h
 cases rx
 obtain⟨t,rfl⟩:=ry
 obtain⟨its,r,pl,hz⟩:=I.list hq
 obtain⟨j,h1,h2,h3,h4,h5⟩:=uv he
 obtain⟨w,ew,rw'⟩:=r.get h2
 have hl:=r.length
 have hn:=pk
 have fin:EP X pins σ Q w s:=⟨z,H,I,rw',q⟩
 by_cases h0:0<=i
 ·have hj:i.toNat=j:=by
   rw[Ix h0 h5]at h1
   exact BH h1
  exact item_listR pl.isList h0 (by lia) (by rw[hj];simpa using ew) fin hs
 ·have hj:(i+(its.toArray.size:Int)).toNat=j:=by
   rw[HD (by lia) h4]at h1
   rw[AI,<-hl]
   exact BH h1
  exact subscriptTail_builtinR (x:=w) pl.isList.typeIs GI.lookup
   (wpAny_getItem_list_neg (Q:=λr s'=>r=w/\EP X pins σ Q r s') pl.isList (by lia) (by rw[AI]<;>lia) (by lia) (by rw[hj];simpa using ew) ⟨rfl,fin⟩) hs
theorem Su:IxR X (Zb X.K):=by
 intro value slice pins s σ H x y v u Q I rx ry h hs
 obtain⟨p,xs,i,z,rfl,rfl,hq,he,q⟩:=h
 cases rx
 obtain⟨t,rfl⟩:=ry
 obtain⟨its,r,pl,hz⟩:=I.tuple hq
 obtain⟨j,h1,h2,h3,h4,h5⟩:=uv he
 obtain⟨w,ew,rw'⟩:=r.get h2
 have hl:=r.length
 have hn:=pk
 have fin:EP X pins σ Q w s:=⟨z,H,I,rw',q⟩
 exact subscriptTail_builtinR (x:=w) pl.typeIs slot_tuple_getitem.lookup
  (getItem_tuple (j:=j) (Q:=λr s'=>r=w/\EP X pins σ Q r s') pl (by lia) (by lia) (by rw[AI,<-hl];exact h1) (by simpa using ew) ⟨rfl,fin⟩) hs
theorem Sv:IxR X rIxS:=by
 intro value slice pins s σ H x y v u Q I rx ry h hs
 obtain⟨z,i,c,rfl,rfl,hz,he,q⟩:=h
 obtain⟨t,rfl⟩:=rx
 obtain⟨t',rfl⟩:=ry
 obtain⟨j,h1,h2,h3,h4,h5⟩:=uv he
 have hl:z.cps.toList.length=z.length:=by simp[Str.length]
 rw[hl]at h1 h4 h5
 have hn:=pk
 exact tail_any (typeIs_str s z t) slot_str_getitem.lookup (getItem_str (c:=c) (by
  have e1:decide (i < -(2 ^ 63:Int))=false:=decide_eq_false (by lia)
  have e2:decide (i≥2 ^ 63)=false:=decide_eq_false (by lia)
  rw[e1,e2,Bool.or_false]) (by rw[h1];simpa using h2) ⟨.str ⟨#[c]⟩,H,I.tok _,⟨_,rfl⟩,q⟩) hs
def rIx (K:PySem.W.Frag):R2:=λx y H Q=>Wi K x y H Q\/Zb K x y H Q\/rIxS x y H Q
theorem Sw:IxR X (rIx X.K):=Ou.or (Su.or Sv)
theorem De (its:List Value) (n j:Nat) (u:Value):Obj.mapSeq (·.setIfInBounds j u) {cls:=.type "list",data:=.seq its.toArray n}={cls:=.type "list",data:=.seq (its.set j u).toArray n}:=by
 simp[Obj.mapSeq]
theorem Inv.lst {pins:List (Addr×Obj)} {σ:St} {H:Hp} {s:Shared} {p:Addr} {xs:List V} (I:Inv X pins σ H s) (h:H p=some (.lst xs)) :
  ∃(its:List Value) (n:Nat),bh xs its/\s.heap.get? p=some {cls:=.type "list",data:=.seq its.toArray n}/\xs.length<=sizeLine:=by
 obtain⟨z,its,n,r,e⟩:=I.hok p _ h
 exact⟨its,n,r,e,z⟩
theorem Inv.lstUpd {pins:List (Addr×Obj)} {σ:St} {H:Hp} {s:Shared} {p:Addr} {xs ys:List V} {its its':List Value} {n n':Nat} {f:Obj->Obj} (I:Inv X pins σ H s) (h:H p=some (.lst xs))
  (ho:s.heap.get? p=some {cls:=.type "list",data:=.seq its.toArray n}) (hf:f {cls:=.type "list",data:=.seq its.toArray n}={cls:=.type "list",data:=.seq its'.toArray n'}) (r:bh ys its') (hz:ys.length<=sizeLine) (t:Nat) :
  Inv X pins σ (upd H p (.lst ys)) {s with heap:=s.heap.update p f,toks:=t}:=by
 have e:(s.heap.update p f).get? p=some {cls:=.type "list",data:=.seq its'.toArray n'}:=by
  rw[HR f ho (by rw[hf]<;>rfl),hf]
 refine I.write (x:=p) (e:=p) (by rw[h];trivial) (.inl rfl) (λb u hb q=>(HE _ _ (Ne.symm hb)).trans q) ⟨_,e⟩ ?_
 exact⟨hz,its',n',r,e⟩
def rSetL:V->V->V->Hp->(Hp->Prop)->Prop:=λo i v H Q=>∃p xs k j,o=.ref p/\i=.int k/\H p=some (.lst xs)/\ixN xs.length k=some j/\Q (upd H p (.lst (xs.set j v)))
theorem set_list:Rw X rSetL:=by
 intro pins s σ H o i v ov iv u Q I ro ri rv h
 obtain⟨p,xs,k,j,rfl,rfl,hp,hj,q⟩:=h
 cases ro
 obtain⟨t,rfl⟩:=ri
 obtain⟨its,n,r,ho,hz⟩:=I.lst hp
 obtain⟨h1,h2,h3,h4⟩:=Ey hj
 have hl:=r.length
 have hn:=pk
 have I':Inv X pins σ (upd H p (.lst (xs.set j v))) {s with heap:=s.heap.update p (Obj.mapSeq (·.setIfInBounds j u))} :=
  I.lstUpd hp ho (De its n j u) (r.set rv j) (by rw[EI];exact hz) s.toks
 by_cases h0:0<=k
 ·have hk:k.toNat=j:=by
   rw[Ix h0 h4]at h1
   exact BH h1
  exact PySem.W.ki_setAt ho h0 (by lia) (by rw[AI,<-hl];exact h4) (by rw[hk];exact⟨_,I',q⟩)
 ·have hk:(k+(its.toArray.size:Int)).toNat=j:=by
   rw[HD (by lia) h3]at h1
   rw[AI,<-hl]
   exact BH h1
  exact PySem.W.ki_setBack ho (by lia) (by rw[AI,<-hl];exact h3) (by lia) (by rw[hk];exact⟨_,I',q⟩)
theorem xm (lo hi:Option Int) (n:Nat):(sliceBounds lo hi none n).1=((HT.sIx n 0 lo:Nat):Int)/\(sliceBounds lo hi none n).2.1=((HT.sIx n n hi:Nat):Int)/\(sliceBounds lo hi none n).2.2=1:=by
 refine⟨?_,?_,rfl⟩
 ·cases lo with
  | none=>simp[sliceBounds,HT.sIx]
  | some i =>
   simp![sliceBounds,HT.sIx,Option.getD_none,show(1:Int) > 0 by decide,if_true]
   by_cases h:i<0
   ·simp![h,if_true]<;>lia
   ·simp![h,if_false]<;>lia
 ·cases hi with
  | none=>simp[sliceBounds,HT.sIx]
  | some i =>
   simp![sliceBounds,HT.sIx,Option.getD_none,show(1:Int) > 0 by decide,if_true]
   by_cases h:i<0
   ·simp![h,if_true]<;>lia
   ·simp![h,if_false]<;>lia
theorem ux (its:List Value) (lo hi:Option Int):slicePick its.toArray lo hi none=((its.drop (HT.sIx its.length 0 lo)).take (HT.sIx its.length its.length hi-HT.sIx its.length 0 lo)).toArray:=by
 obtain⟨h1,h2,h3⟩:=xm lo hi its.toArray.size
 unfold slicePick
 rw[h1,h2,h3]
 simp![sliceRange_one,pick_run,AI]<;>rfl
def aau (K:PySem.W.Frag):V->Option Int->Option Int->Hp->VK->Prop:=λx lo hi H Q=>∃a xs,x=.ref a/\SqL K H a xs/\∀p,H p=none->Q (.ref p) (upd H p (.lst (L0 xs lo hi)))
theorem Ov:SlR X (aau X.K):=by
 intro pins s σ H x v vl vu lo hi sl Q I rx hs pl pu h
 obtain⟨a,xs,rfl,hx,q⟩:=h
 cases rx
 obtain⟨its,r,ht,hz⟩:=I.list hx
 have hlen:=r.length
 refine⟨"list",_,GI.lookup,ht.isList.typeIs,?_⟩
 refine wpAny_getItem_list_slice ht.isList hs pl pu .none (by simp) ?_ (by rw[AI]<;>lia)
 rw[ux,<-hlen]
 refine⟨.ref s.heap.objs.size,_,I.laid (t':=s.toks) (o:=.lst (L0 xs lo hi)) (λb ob q=>AE _ q) (AN _) ?_,rfl,q _ (I.hok.fresh (AN _))⟩
 exact⟨BX (p9 xs lo hi) hz,_,0,(r.drop (HT.sIx xs.length 0 lo)).take (HT.sIx xs.length xs.length hi-HT.sIx xs.length 0 lo),AS _ rfl⟩
def si:V->Bool
 | .non=>true
 | .bl _=>true
 | .int _=>true
 | .str _=>true
 | _=>false
def eqV:V->V->Bool
 | .non,.non=>true
 | .bl a,.bl b=>a==b
 | .bl a,.int b=>(if a then 1 else 0)==b
 | .int a,.bl b=>a==(if b then 1 else 0)
 | .int a,.int b=>a==b
 | .str a,.str b=>a==b
 | _,_=>false
theorem Sx {A:Around} {s:Shared} {y x:V} {u v:Value} (ry:RelV y u) (rx:RelV x v) (fy:si y=true) (fx:si x=true):SeqAt.EqAt A s u v (eqV y x):=by
 cases y with
 | non =>
  cases ry
  cases x with
  | non=>cases rx;exact SeqAt.EqAt.same _
  | bl b=>cases rx;exact SeqAt.EqAt.none_bool b
  | int b=>obtain⟨t,rfl⟩:=rx;exact SeqAt.EqAt.none_int b t
  | str b=>obtain⟨t,rfl⟩:=rx;exact SeqAt.EqAt.none_str b t
  | _=>exact absurd (show false=true from fx) BB
 | bl a =>
  cases ry
  cases x with
  | non=>cases rx;exact SeqAt.EqAt.bool_none a
  | bl b=>cases rx;exact SeqAt.EqAt.bool_bool a b
  | int b=>obtain⟨t,rfl⟩:=rx;exact SeqAt.EqAt.bool_int a b t
  | str b=>obtain⟨t,rfl⟩:=rx;exact SeqAt.EqAt.bool_str a b t
  | _=>exact absurd (show false=true from fx) BB
 | int a =>
  obtain⟨t',rfl⟩:=ry
  cases x with
  | non=>cases rx;exact SeqAt.EqAt.int_none a t'
  | bl b=>cases rx;exact SeqAt.EqAt.int_bool a t' b
  | int b=>obtain⟨t,rfl⟩:=rx;exact IK a t' b t
  | str b=>obtain⟨t,rfl⟩:=rx;exact II a t' b t
  | _=>exact absurd (show false=true from fx) BB
 | str a =>
  obtain⟨t',rfl⟩:=ry
  cases x with
  | non=>cases rx;exact SeqAt.EqAt.str_none a t'
  | bl b=>cases rx;exact SeqAt.EqAt.str_bool a t' b
  | int b=>obtain⟨t,rfl⟩:=rx;exact IJ a t' b t
  | str b=>obtain⟨t,rfl⟩:=rx;exact SeqAt.EqAt.str_str a t' b t
  | _=>exact absurd (show false=true from fx) BB
 | _=>exact absurd (show false=true from fy) BB
def eqU (x:V) (u:Value):Bool:=match u with
 | .none=>eqV .non x
 | .bool b=>eqV (.bl b) x
 | .int i _=>eqV (.int i) x
 | .str z _=>eqV (.str z) x
 | _=>false
theorem L4 {x y:V} {u:Value} (r:RelV y u) (f:si y=true):eqU x u=eqV y x:=by
 cases y with
 | non=>cases r;rfl
 | bl b=>cases r;rfl
 | int i=>obtain⟨t,rfl⟩:=r;rfl
 | str z=>obtain⟨t,rfl⟩:=r;rfl
 | _=>exact absurd (show false=true from f) BB
theorem qa {x:V}:∀{xs:List V} {us:List Value},bh xs us->xs.all si=true->us.any (eqU x)=xs.any λy=>eqV y x
 | _,_,.nil,_=>rfl
 | y::xs,u::us,.cons r t,f=>by
  rw[BM,AY]at f
  rw[CV,CV,L4 r f.1,qa t f.2]
theorem l8 {A:Around} {s:Shared} {x:V} {v:Value} (rx:RelV x v) (fx:si x=true):∀{xs:List V} {us:List Value},bh xs us->xs.all si=true->∀u∈us,SeqAt.EqAt A s u v (eqU x u)
 | _,_,.nil,_=>λu hu=>by cases hu
 | y::xs,u::us,.cons r t,f=>λu' hu=>by
  rw[BM,AY]at f
  rcases AG.mp hu with rfl | hu
  ·rw[L4 r f.1];exact Sx r rx f.1 fx
  ·exact l8 rx fx t f.2 u' hu
def inV (x:V) (xs:List V):Bool:=xs.any λy=>eqV y x
def rIn (K:PySem.W.Frag) (neg:Bool):R2:=λx y H Q=>∃p xs,y=.ref p/\(SqL K H p xs\/SqT K H p xs)/\si x=true/\xs.all si=true/\Q (.bl (if neg then !inV x xs else inV x xs)) H
theorem Ez:OpR X (compareOp .In) (rIn X.K false):=by
 intro pins s σ H x y v u Q I rx ry h
 obtain⟨p,xs,rfl,hq,fx,fs,q⟩:=h
 cases ry
 rcases hq with hq | hq
 ·obtain⟨its,r,pl,hz⟩:=I.list hq
  refine SeqAt.in_listAt (eqU x) pl.isList (λw hw=>l8 rx fx r fs w (by simpa using hw)) ⟨.bl _,H,I,rfl,?_⟩
  rw[show its.toArray.any (eqU x)=its.any (eqU x)by simp,qa r fs]
  exact q
 ·obtain⟨its,r,pl,hz⟩:=I.tuple hq
  refine SeqAt.in_tupleAt (eqU x) pl (λw hw=>l8 rx fx r fs w (by simpa using hw)) ⟨.bl _,H,I,rfl,?_⟩
  rw[show its.toArray.any (eqU x)=its.any (eqU x)by simp,qa r fs]
  exact q
theorem xn:OpR X (compareOp .NotIn) (rIn X.K true):=by
 intro pins s σ H x y v u Q I rx ry h
 obtain⟨p,xs,rfl,hq,fx,fs,q⟩:=h
 cases ry
 rcases hq with hq | hq
 ·obtain⟨its,r,pl,hz⟩:=I.list hq
  refine SeqAt.notIn_listAt (eqU x) pl.isList (λw hw=>l8 rx fx r fs w (by simpa using hw)) ⟨.bl _,H,I,rfl,?_⟩
  rw[show its.toArray.any (eqU x)=its.any (eqU x)by simp,qa r fs]
  exact q
 ·obtain⟨its,r,pl,hz⟩:=I.tuple hq
  refine SeqAt.notIn_tupleAt (eqU x) pl (λw hw=>l8 rx fx r fs w (by simpa using hw)) ⟨.bl _,H,I,rfl,?_⟩
  rw[show its.toArray.any (eqU x)=its.any (eqU x)by simp,qa r fs]
  exact q
theorem xp:dk X (.builtin "len") (λxs H Q=>∃p ys,xs=[.ref p]/\(SqL X.K H p ys\/SqT X.K H p ys)/\Q (.int ys.length) H):=by
 intro pins s σ H xs us Q I r h
 obtain⟨p,ys,rfl,hq,q⟩:=h
 obtain⟨u,rfl,rx⟩:=vals1 r
 cases rx
 have hn:=pk
 rcases hq with hq | hq
 ·obtain⟨its,r',pl,hz⟩:=I.list hq
  have hlen:=r'.length
  exact Calls.call_len_list pl.isList (by simp![AI]<;>lia) ⟨.int ys.length,H,I.tok _,⟨s.toks+1,by rw[AI,hlen]⟩,q⟩
 ·obtain⟨its,r',pl,hz⟩:=I.tuple hq
  have hlen:=r'.length
  exact len_tuple pl (by simp![AI]<;>lia) ⟨.int ys.length,H,I.tok _,⟨s.toks+1,by rw[AI,hlen]⟩,q⟩
theorem xq:dk X (.type "list") (λxs H Q=>∃p ys,xs=[.ref p]/\(SqL X.K H p ys\/SqT X.K H p ys)/\∀l,H l=none->Q (.ref l) (upd H l (.lst ys))):=by
 intro pins s σ H xs us Q I r h
 obtain⟨p,ys,rfl,hq,q⟩:=h
 obtain⟨u,rfl,rx⟩:=vals1 r
 cases rx
 have fin:∀(its:List Value),bh ys its->ys.length<=sizeLine->∀(h':Heap) (c':Nat),(∀b o',s.heap.get? b=some o'->h'.get? b=some o') ->
   h'.get? s.heap.objs.size=some {cls:=.type "list",dict:=none,data:=.seq its.toArray c',slots:=#[]}->EP X pins σ Q (.ref s.heap.objs.size) {s with heap:=h'}:=λits r' hz h' c' kp e =>
  ⟨.ref s.heap.objs.size,_,I.laid (t':=s.toks) kp (AN _) (show fu X.prog X.w _ h' _ (.lst ys)from⟨hz,its,c',r',e⟩),rfl,q _ (I.hok.fresh (AN _))⟩
 rcases hq with hq | hq
 ·obtain⟨its,r',pl,hz⟩:=I.list hq
  have hlen:=r'.length
  obtain⟨o,ho,hc,n,hd⟩:=pl.isList
  exact call_list_seq p (.inl rfl) ho hc hd (λh' c' kp e=>fin its r' hz h' c' kp e) (by simp![AI]<;>lia)
 ·obtain⟨its,r',pl,hz⟩:=I.tuple hq
  have hlen:=r'.length
  obtain⟨o,ho,hc,n,hd⟩:=pl
  exact call_list_seq p (.inr rfl) ho hc hd (λh' c' kp e=>fin its r' hz h' c' kp e) (by simp![AI]<;>lia)
theorem uy:dk X (.type "tuple") (λxs H Q=>∃p ys,xs=[.ref p]/\((SqL X.K H p ys/\∀l,H l=none->Q (.ref l) (upd H l (.tup ys)))\/(SqT X.K H p ys/\Q (.ref p) H))):=by
 intro pins s σ H xs us Q I r h
 obtain⟨p,ys,rfl,h⟩:=h
 obtain⟨u,rfl,rx⟩:=vals1 r
 cases rx
 rcases h with⟨hq,q⟩ | ⟨hq,q⟩
 ·obtain⟨its,r',pl,hz⟩:=I.list hq
  have hlen:=r'.length
  refine call_tuple_list pl.isList (λh' kp=>?_) (by simp![AI]<;>lia)
  have I1:Inv X pins σ H {s with heap:=h'}:=I.kept (t':=s.toks) kp
  have I2:Inv X pins σ (upd H h'.objs.size (.tup ys)) {s with heap:=h'.push {cls:=.type "tuple",data:=.seq its.toArray}} :=
   I1.laid (t':=s.toks) (λb o e=>AE _ e) (AN _) (show fu X.prog X.w _ _ _ (.tup ys)from⟨hz,its,r',om.new _ _⟩)
  exact⟨.ref h'.objs.size,_,I2,rfl,q _ (I1.hok.fresh (AN _))⟩
 ·obtain⟨its,r',pl,hz⟩:=I.tuple hq
  exact call_tuple_same pl ⟨.ref p,H,I,rfl,q⟩
def tyV (K:PySem.W.Frag) (T:String) (x:V) (H:Hp):Prop:=match x with
 | .str _=>T="str"
 | .int _=>T="int"
 | .ref p=>(T="list"/\∃xs,SqL K H p xs)\/(T="tuple"/\∃o,K.lookup p=some o/\o.cls=.type "tuple"/\o.dict=none) \/
   (T="dict"/\((∃kvs,H p=some (.dK kvs))\/∃kvs,H p=some (.dT kvs)))\/(T="set"/\∃S n,H p=some (.set S n))
 | _=>False
theorem L5 {pins:List (Addr×Obj)} {σ:St} {H:Hp} {s:Shared} {T:String} {x:V} {v:Value} (I:Inv X pins σ H s) (r:RelV x v) (ty:tyV X.K T x H) :
  s.TypeIs v T/\∀a,v=.ref a->∃ob,s.heap.get? a=some ob/\ob.dict=none:=by
 cases x with
 | str z =>
  obtain⟨t,rfl⟩:=r
  cases(show T="str" from ty)
  exact⟨typeIs_str s z t,λ_ e=>nomatch e⟩
 | int i =>
  obtain⟨t,rfl⟩:=r
  cases(show T="int" from ty)
  exact⟨typeIs_int s i t,λ_ e=>nomatch e⟩
 | ref p =>
  cases r
  rcases ty with⟨rfl,xs,hq⟩ | ⟨rfl,o,hk,hc,hd⟩ | ⟨rfl,hk⟩ | ⟨rfl,S,n,hk⟩
  ·obtain⟨its,_,pl,_⟩:=I.list hq
   refine⟨pl.isList.typeIs,λa e=>?_⟩
   cases e
   obtain⟨o,n,e,c,hd,_⟩:=pl
   exact⟨o,e,hd⟩
  ·refine⟨⟨o,I.kIn p o hk,hc⟩,λa e=>?_⟩
   cases e
   exact⟨o,I.kIn _ o hk,hd⟩
  ·have z:∃o,s.heap.get? p=some o/\o.ExactDict:=by
    rcases hk with⟨kvs,hk⟩ | ⟨kvs,hk⟩
    ·obtain⟨_,_,_,_,o,_,_,e,ex,_⟩:=I.hok p _ hk
     exact⟨o,e,ex⟩
    ·obtain⟨_,_,_,_,o,_,_,e,ex,_⟩:=I.hok p _ hk
     exact⟨o,e,ex⟩
   obtain⟨o,e,ex⟩:=z
   refine⟨⟨o,e,ex.1⟩,λa e2=>?_⟩
   cases e2
   exact⟨o,e,ex.2.1⟩
  ·obtain⟨o,_,_,_,e,ex,_⟩:=I.hok p _ hk
   refine⟨⟨o,e,ex.1⟩,λa e2=>?_⟩
   cases e2
   exact⟨o,e,ex.2.1⟩
 | _=>exact False.elim ty
def Zc (K:PySem.W.Frag) (T:String) (r:V->List V->Hp->VK->Prop) (to:TE):TE:=λσ H Q=>to σ H λx H1=>tyV K T x H1/\r x [] H1 Q
def tBM (K:PySem.W.Frag) (T:String) (r:V->List V->Hp->VK->Prop) (to:TE) (t:TA):TE:=λσ H Q=>to σ H λx H1=>tyV K T x H1/\t σ H1 λxs H2=>r x xs H2 Q
variable {o e : Expr} {es : List Expr} {to : TE} {t : TA} {name : Str} {apos cpos : Pos} {T id : String} {r : V -> List V -> Hp -> VK -> Prop}
theorem Sy (pa:PlainAttrs T) (slot:Slot T name id) (hty:typeOf (.builtin id)=pure (.type "method_descriptor")) (hm:MtR X id r) (ho:PE X o to)
  (hbase:attributeBase o name X.env (eval o X.env)=eval o X.env:=by rfl) (hline:(apos.endLine==cpos.line)=true:=by rfl):PE X (.Call (.Attribute o name apos) [] [] cpos) (Zc X.K T r to):=by
 intro pins s σ H Q I h
 refine wpAny_Call_method0_late hbase hline (thn (ho pins s σ H _ I h) λv s1 ⟨x,H1,I1,r1,ty,q1⟩=>?_)
 obtain⟨h1,h2⟩:=L5 I1 r1 ty
 exact⟨T,id,pa,slot,hty,h1,h2,HF rfl (PySem.evalArgs_none (hm pins s1 σ H1 x [] v [] Q I1 r1 .nil q1))⟩
theorem Ow (pa:PlainAttrs T) (slot:Slot T name id) (hty:typeOf (.builtin id)=pure (.type "method_descriptor")) (hm:MtR X id r) (ho:PE X o to) (ha:PA X (e::es) t)
  (hbase:attributeBase o name X.env (eval o X.env)=eval o X.env:=by rfl)
  (hfew:((backTo cpos (starEach (e::es) X.env)).all (λx=>!x.1)&&(backToKw cpos (keywordEach [] X.env)).all (λx=>x.1.isSome)
   && decide ((e::es).length+([]:List Keyword).length+(if([]:List Keyword).isEmpty then 0 else 1)<30))=true:=by rfl)
  (hline:(apos.endLine==cpos.line)=true:=by rfl) (hs:starEach (e::es) X.env=(false,eval e X.env)::starEach es X.env:=by rfl) (hplain:(backTo cpos (starEach es X.env)).any (·.1)=false:=by rfl) :
  PE X (.Call (.Attribute o name apos) (e::es) [] cpos) (tBM X.K T r to t):=by
 intro pins s σ H Q I h
 refine wpAny_Call_method_late hbase hfew hline rfl (thn (ho pins s σ H _ I h) λv s1 ⟨x,H1,I1,r1,ty,q1⟩=>?_)
 obtain⟨h1,h2⟩:=L5 I1 r1 ty
 refine⟨T,id,pa,slot,hty,h1,h2,?_⟩
 have hA:=ha cpos pins s1 σ H1 _ I1 q1
 rw[hs]at hA ⊢
 refine HF (by show(false || (backTo cpos (starEach es X.env)).any (·.1))=false;rw[hplain]<;>rfl) (Calls.evalArgs_plain ?_)
 exact thn hA λus s2 ⟨vs,H2,I2,r2,q2⟩=>hm pins s2 σ H2 x vs v us Q I2 r1 r2 q2
end
def MtM (X:Cx) (id:String) (r:V->List V->Hp->VK->Prop):Prop :=
 ∀(pins:List (Addr×Obj)) (s:Shared) (σ:St) (H:Hp) (x:V) (xs:List V) (v:Value) (us:List Value) (Q:VK),Inv X pins σ H s->RelV x v->bh xs us->r x xs H Q ->
  wpAny (model X.prog X.w) X.A (call (.builtin id) (v::us)) (EP X pins σ Q) X.xe s
theorem bh.one:∀{x:V} {us:List Value},bh [x] us->∃u,us=[u]/\RelV x u
 | _,_,.cons r .nil=>⟨_,rfl,r⟩
theorem bh.zero:∀{us:List Value},bh [] us->us=[]
 | _,.nil=>rfl
theorem bh.dropLast {xs:List V} {us:List Value} (h:bh xs us):bh xs.dropLast us.dropLast:=by
 induction h with
 | nil=>exact .nil
 | cons r t ih =>
  cases t with
  | nil=>exact .nil
  | cons q t'=>exact .cons r ih
theorem bh.eraseIdx:∀{xs:List V} {us:List Value} (i:Nat),bh xs us->bh (xs.eraseIdx i) (us.eraseIdx i)
 | _,_,_,.nil=>.nil
 | _,_,0,.cons _ t=>t
 | _,_,i+1,.cons r t=>.cons r (bh.eraseIdx i t)
theorem bh.rep {xs:List V} {us:List Value} (h:bh xs us):∀k:Nat,bh (List.replicate k xs).flatten (List.replicate k us).flatten
 | 0=>.nil
 | k+1=>by
  rw[CM,CM,EE,EE]
  exact bh.append h (bh.rep h k)
theorem Dg {α:Type} (l:List α):l.eraseIdx (l.length-1)=l.dropLast:=by
 induction l with
 | nil=>rfl
 | cons a r ih =>
  cases r with
  | nil=>rfl
  | cons b r =>
   have e:(a::b::r).length-1=((b::r).length-1)+1:=by
    have h1:(a::b::r).length=r.length+2:=rfl
    have h2:(b::r).length=r.length+1:=rfl
    lia
   rw[e,GY,ih]
   all_goals rfl
theorem xu {α:Type}:∀(l:List α) (i:Nat),(l.eraseIdx i).length<=l.length
 | [],_=>AN _
 | _::_,0=>GJ _
 | _::r,i+1=>Nat.succ_le_succ (xu r i)
theorem foldl_rep (its:List Value):∀(k:Nat) (acc:List Value),
  List.foldl (λx1 x2=>x1++x2) acc.toArray (List.replicate k its.toArray)=(acc++(List.replicate k its).flatten).toArray
 | 0,acc=>by simp
 | k+1,acc=>by
  have e:acc.toArray++its.toArray=(acc++its).toArray:=by simp
  have e2:(acc++its)++(List.replicate k its).flatten=acc++(List.replicate (k+1) its).flatten:=by
   rw[CM,EE,BY]
  rw[<-e2,<-foldl_rep its k (acc++its),<-e,CM,HK]
section
variable {X : Cx} {pins : List (Addr × Obj)} {σ : St} {H : Hp} {s : Shared} {l b : Addr} {xs ys zs : List V}
theorem Inv.lset {its its':List Value} {n:Nat} {f:Array Value->Array Value} {t':Nat} (I:Inv X pins σ H s) (hH:H l=some (.lst xs))
  (e:s.heap.get? l=some {cls:=.type "list",data:=.seq its.toArray n}) (hf:f its.toArray=its'.toArray) (hv:bh ys its') (hz:ys.length<=sizeLine) :
  Inv X pins σ (upd H l (.lst ys)) {s with heap:=s.heap.update l (Obj.mapSeq f),toks:=t'}:=by
 have q:=PySem.IsL.update e f
 rw[hf]at q
 refine I.write (x:=l) (e:=l) (by rw[hH];exact trivial) (.inl rfl) (λb' u hb hu=>(HE s.heap (Obj.mapSeq f) (Ne.symm hb)).trans hu) ⟨_,q⟩ ?_
 exact⟨hz,its',_,hv,q⟩
theorem Inv.lnew {its:List Value} {t':Nat} (I:Inv X pins σ H s) (hv:bh ys its) (hz:ys.length<=sizeLine) :
  Inv X pins σ (upd H s.heap.objs.size (.lst ys)) {s with heap:=s.heap.push {cls:=.type "list",data:=.seq its.toArray},toks:=t'} :=
 I.laid (λ_ _ q=>AE _ q) (AN _) ⟨hz,its,0,hv,AS _ rfl⟩
theorem Inv.fresh (I:Inv X pins σ H s):H s.heap.objs.size=none:=I.hok.fresh (AN _)
theorem Inv.lstM (I:Inv X pins σ H s) (hH:H l=some (.lst xs)):xs.length<=sizeLine/\∃(its:List Value) (n:Nat),bh xs its/\xs.length=its.length/\s.heap.get? l=some {cls:=.type "list",data:=.seq its.toArray n}:=by
 obtain⟨z,its,n,r,e⟩:=I.hok l _ hH
 exact⟨z,its,n,r,r.length,e⟩
theorem Bh {n:Nat} (h:n<=sizeLine):Builtin.List.listTooLong n=false:=by
 unfold Builtin.List.listTooLong
 exact decide_eq_false (by lia)
end
section
variable {X : Cx}
def rAppend:V->List V->Hp->VK->Prop:=λx vs H Q=>∃l xs y,x=.ref l/\vs=[y]/\H l=some (.lst xs)/\xs.length<sizeLine/\Q .non (upd H l (.lst (xs++[y])))
theorem E1:MtM X "list.append" rAppend:=by
 intro pins s σ H x vs v us Q I rx rv h
 obtain⟨l,xs,y,rfl,rfl,hH,hz,q⟩:=h
 cases rx
 obtain⟨u,rfl,ru⟩:=rv.one
 obtain⟨z,its,n,r,hl,e⟩:=I.lstM hH
 refine FL F.slot_list_append ⟨_,e,rfl⟩ F.entry_list_append (F.args_list_append_2 _ _) (PySem.list_append l its.toArray n u (by rw[AI];lia)) ⟨e,?_⟩
 refine⟨.non,_,I.lset (its':=its++[u]) hH e (by simp) (r.append (.cons ru .nil)) ?_,rfl,q⟩
 rw[BD,CS]
 lia
def rPop:V->List V->Hp->VK->Prop:=λx vs H Q=>∃l xs y,x=.ref l/\vs=[]/\H l=some (.lst xs)/\xs[xs.length-1]? = some y/\Q y (upd H l (.lst xs.dropLast))
theorem Sz:MtM X "list.pop" rPop:=by
 intro pins s σ H x vs v us Q I rx rv h
 obtain⟨l,xs,y,rfl,rfl,hH,hy,q⟩:=h
 cases rx
 have hus:=rv.zero
 subst hus
 obtain⟨z,its,n,r,hl,e⟩:=I.lstM hH
 obtain⟨u,hu,ru⟩:=r.get hy
 have hy':its.toArray[its.toArray.size-1]? = some u:=by
  show its.toArray[its.length-1]? = some u
  rw[<-HS,<-hl]
  exact hu
 refine FL HL ⟨_,e,rfl⟩ F.entry_list_pop (F.args_list_pop_1 _) (MeetsSeq.list_pop_last l its.toArray n u hy' (by rw[AI];lia)) ⟨e,?_⟩
 refine⟨y,_,I.lset (its':=its.dropLast) hH e ?_ r.dropLast ?_,ru,q⟩
 ·show its.toArray.eraseIdxIfInBounds (its.toArray.size-1)=its.dropLast.toArray
  rw[AI,FJ,Dg]
 ·rw[List.length_dropLast]
  lia
def rPopAt:V->List V->Hp->VK->Prop:=λx vs H Q=>∃l xs i k y,x=.ref l/\vs=[.int i]/\H l=some (.lst xs) /\ -(2 ^ 63)<=i/\i<2 ^ 63/\seqIndex? i xs.length=some k/\xs[k]? = some y/\Q y (upd H l (.lst (xs.eraseIdx k)))
theorem J3:MtM X "list.pop" rPopAt:=by
 intro pins s σ H x vs v us Q I rx rv h
 obtain⟨l,xs,i,k,y,rfl,rfl,hH,h1,h2,hk,hy,q⟩:=h
 cases rx
 obtain⟨u,rfl,ru⟩:=rv.one
 obtain⟨t,rfl⟩:=ru
 obtain⟨z,its,n,r,hl,e⟩:=I.lstM hH
 obtain⟨w,hw,rw'⟩:=r.get hy
 refine FL HL ⟨_,e,rfl⟩ F.entry_list_pop (F.args_list_pop_2 _ _)
  (MeetsSeq.list_pop_at l its.toArray n i t k w (fitsIndex_both h1 h2) (by rw[AI,<-hl];exact hk) (by rw[<-HS];exact hw) (by rw[AI];lia)) ⟨e,?_⟩
 refine⟨y,_,I.lset (its':=its.eraseIdx k) hH e ?_ (r.eraseIdx k) ?_,rw',q⟩
 ·show its.toArray.eraseIdxIfInBounds k=(its.eraseIdx k).toArray
  rw[FJ]
 ·have:=xu xs k
  lia
theorem len_rep {α:Type} (xs:List α) (k:Nat):(List.replicate k xs).flatten.length=k*xs.length:=by
 induction k with
 | zero=>simp
 | succ k ih=>rw[CM,EE,BD,ih,Nat.succ_mul,Nat.add_comm]
end
section
variable {κ : Type} [DecidableEq κ]
def xw (kvs:List (κ×V)) (k:κ):Option V:=(kvs.find? λkv=>decide (kv.1=k)).map (·.2)
def putK (kvs:List (κ×V)) (k:κ) (v:V):List (κ×V) :=
 if(kvs.any λkv=>decide (kv.1=k))=true then kvs.map (λkv=>if kv.1=k then(kv.1,v)else kv)else kvs++[(k,v)]
theorem o5 {p:κ×V} {r:List (κ×V)} {k:κ} (e:p.1=k):xw (p::r) k=some p.2:=by simp[xw,EJ,e]
theorem o6 {p:κ×V} {r:List (κ×V)} {k:κ} (e:¬p.1=k):xw (p::r) k=xw r k:=by simp[xw,EJ,e]
theorem Bi (k:κ):∀kvs:List (κ×V),(kvs.any λkv=>decide (kv.1=k))=(xw kvs k).isSome
 | []=>rfl
 | p::r=>by
  rw[CV]
  by_cases e:p.1=k
  ·simp![o5 e,decide_eq_true e,Bool.true_or,GA]
  ·rw[o6 e,decide_eq_false e,Bool.false_or];exact Bi k r
theorem k8 (kvs:List (κ×V)) (k:κ) (v:V):(putK kvs k v).length<=kvs.length+1:=by
 unfold putK
 split
 ·rw[AM];lia
 ·rw[BD,AU,CD];lia
theorem zx.isSome_eq {o:Option V} {u:Option Value} (r:zx o u):o.isSome=u.isSome:=by
 cases o with
 | none=>cases u with
  | none=>rfl
  | some _=>exact(show False from r).elim
 | some _=>cases u with
  | none=>exact(show False from r).elim
  | some _=>rfl
theorem KV.val {kvs:List (κ×V)} {vs:List (κ×Value)} (r:KV kvs vs) (k:κ):zx (xw kvs k) (valueAt vs k):=by
 unfold KV at r
 induction r with
 | nil=>exact True.intro
 | @cons p q ps qs h t ih =>
  obtain⟨h1,h2⟩:=h
  by_cases e:p.1=k
  ·have e':q.1=k:=h1.symm.trans e
   have b:valueAt (q::qs) k=some q.2:=by simp[valueAt,EJ,e']
   rw[o5 e,b];exact h2
  ·have e':¬q.1=k:=λz=>e (h1.trans z)
   have b:valueAt (q::qs) k=valueAt qs k:=by simp[valueAt,EJ,e']
   rw[o6 e,b];exact ih
theorem KV.any {kvs:List (κ×V)} {vs:List (κ×Value)} (r:KV kvs vs) (k:κ):(kvs.any λkv=>decide (kv.1=k))=vs.any λkv=>decide (kv.1=k):=by
 unfold KV at r
 induction r with
 | nil=>rfl
 | cons h t ih=>rw[CV,CV,ih,h.1]
theorem KV.repl {kvs:List (κ×V)} {vs:List (κ×Value)} (r:KV kvs vs) (k:κ) {y:V} {u:Value} (ry:RelV y u) :
  KV (kvs.map λkv=>if kv.1=k then(kv.1,y)else kv) (vs.map λkv=>if kv.1=k then(kv.1,u)else kv):=by
 unfold KV at r ⊢
 induction r with
 | nil=>exact .nil
 | @cons p q ps qs h t ih =>
  rw[AO,AO]
  refine .cons ?_ ih
  obtain⟨h1,h2⟩:=h
  by_cases e:p.1=k
  ·rw[if_pos e,if_pos (h1.symm.trans e)];exact⟨h1,ry⟩
  ·rw[if_neg e,if_neg (λz=>e (h1.trans z))];exact⟨h1,h2⟩
theorem KV.put {kvs:List (κ×V)} {vs:List (κ×Value)} (r:KV kvs vs) (k:κ) {y:V} {u:Value} (ry:RelV y u):KV (putK kvs k y) (stored vs k u):=by
 unfold putK stored
 rw[r.any k]
 by_cases e:(vs.any λkv=>decide (kv.1=k))=true
 ·rw[if_pos e,if_pos e];exact r.repl k ry
 ·rw[if_neg e,if_neg e];exact Paired.snoc r ⟨rfl,ry⟩
theorem KV.length {kvs:List (κ×V)} {vs:List (κ×Value)} (r:KV kvs vs):kvs.length=vs.length:=DB r
end
theorem Dh {P:Program} {w:World} {k:Key} {u:Value} (r:RelV (kV k) u):(bx P w).is k u=true:=by
 cases k with
 | inl i=>obtain⟨t,e⟩:=(show ∃t,u=Value.int i t from r);subst e;exact z5 P w i t
 | inr x=>obtain⟨t,e⟩:=(show ∃t,u=Value.str x t from r);subst e;exact z6 P w x t
theorem x8 {P:Program} {w:World}:∀{ks:List Key} {us:List Value},bh (ks.map kV) us->ItemsAre (bx P w) ks us
 | [],_,r=>by rw[CZ]at r;cases r;exact .nil
 | k::ks,_,r=>by
  rw[AO]at r
  cases r with
  | cons h t=>exact .cons (Dh h) (x8 t)
abbrev KT (H:Hp):List (List Key×V)->List (List Key×Addr×Value)->Prop:=Paired λp q=>p.1=q.1/\H q.2.1=some (.tup (p.1.map kV))/\RelV p.2 q.2.2
theorem KT.val {H:Hp} {kvs:List (List Key×V)} {xs:List (List Key×Addr×Value)} (r:KT H kvs xs) (k:List Key):zx (xw kvs k) ((atKey xs k).map (·.2)):=by
 induction r with
 | nil=>exact True.intro
 | @cons p q ps qs h t ih =>
  obtain⟨h1,_,h2⟩:=h
  by_cases e:p.1=k
  ·have e':q.1=k:=h1.symm.trans e
   have b:atKey (q::qs) k=some q.2:=by simp[atKey,EJ,e']
   rw[o5 e,b];exact h2
  ·have e':¬q.1=k:=λz=>e (h1.trans z)
   have b:atKey (q::qs) k=atKey qs k:=by simp[atKey,EJ,e']
   rw[o6 e,b];exact ih
theorem KT.repl {H:Hp} {kvs:List (List Key×V)} {xs:List (List Key×Addr×Value)} (r:KT H kvs xs) (k:List Key) {y:V} {u:Value} (ry:RelV y u) :
  KT H (kvs.map λkv=>if kv.1=k then(kv.1,y)else kv) (xs.map (putAt k u)):=by
 induction r with
 | nil=>exact .nil
 | @cons p q ps qs h t ih =>
  rw[AO,AO]
  refine .cons ?_ ih
  obtain⟨h1,h2,h3⟩:=h
  unfold putAt
  by_cases e:p.1=k
  ·rw[if_pos e,if_pos (h1.symm.trans e)];exact⟨h1,h2,ry⟩
  ·rw[if_neg e,if_neg (λz=>e (h1.trans z))];exact⟨h1,h2,h3⟩
theorem KT.put {H:Hp} {kvs:List (List Key×V)} {xs:List (List Key×Addr×Value)} (r:KT H kvs xs) (k:List Key) {b:Addr} {y:V} {u:Value} (hb:H b=some (.tup (k.map kV))) (ry:RelV y u) :
  KT H (putK kvs k y) (storedH xs k b u):=by
 have e:(kvs.any λkv=>decide (kv.1=k))=(atKey xs k).isSome:=by
  rw[Bi,(r.val k).isSome_eq,GK]
 unfold putK storedH
 rw[e]
 by_cases q:(atKey xs k).isSome=true
 ·rw[if_pos q,if_pos q];exact r.repl k ry
 ·rw[if_neg q,if_neg q];exact Paired.snoc r ⟨rfl,hb,ry⟩
theorem KT.keeps {H H':Hp} {kvs:List (List Key×V)} {xs:List (List Key×Addr×Value)} (r:KT H kvs xs) (ht:∀b ys,H b=some (.tup ys)->H' b=some (.tup ys)):KT H' kvs xs :=
 Paired.mapP r λ_ _ z=>⟨z.1,ht _ _ z.2.1,z.2.2⟩
section
variable {P : Program} {w : World} {H : Hp} {h : Heap} {a : Addr}
theorem S0 {u:HO} (ok:HOk P w H h) (e:Rd H a u):fu P w H h a u:=e.ok ok
theorem z8 {kvs:List (Key×V)} (ok:HOk P w H h) (e:Rd H a (.dK kvs)):kvs.length<=sizeLine/\(a==sysModules)=false/\∃vs,KV kvs vs/\h.DictOf (bx P w) a vs :=
 show fu P w H h a (.dK kvs)from S0 ok e
theorem S3 {kvs:List (Key×V)} (ok:HOk P w H h) (e:H a=some (.dK kvs)):kvs.length<=sizeLine/\(a==sysModules)=false/\∃vs,KV kvs vs/\h.DictOf (bx P w) a vs:=z8 ok (.inl e)
theorem x9 {ks:List Key} (ok:HOk P w H h) (e:H a=some (.tup (ks.map kV))):(tupleKind (bx P w)).is h ks a:=by
 obtain⟨_,its,r,o,h1,h2,_,n,h3⟩:=(show fu P w H h a (.tup (ks.map kV))from ok a _ e)
 exact⟨o,its.toArray,n,h1,h2,h3,by simpa using x8 r⟩
theorem Di {kvs:List (List Key×V)} (ok:HOk P w H h) (e:Rd H a (.dT kvs)):kvs.length<=sizeLine/\(a==sysModules)=false /\
  ∃xs,KT H kvs xs/\h.DictOfH (tupleKind (bx P w)) a xs:=by
 obtain⟨z,y,xs,r,o,es,ep,h1,h2,h3,h4,h5⟩:=(show fu P w H h a (.dT kvs)from S0 ok e)
 refine⟨z,y,xs,r,o,es,ep,h1,h2,h3,h4,λx hx=>?_,h5⟩
 have all:∀{l:List (List Key×V)} {m:List (List Key×Addr×Value)},KT H l m->∀x∈m,(tupleKind (bx P w)).is h x.1 x.2.1:=by
  intro l m q
  induction q with
  | nil=>intro x hx;exact nomatch hx
  | @cons p q ps qs hq t ih =>
   intro x hx
   rcases AG.mp hx with e | hx
   ·subst e
    exact x9 ok (by rw[<-hq.1];exact hq.2.1)
   ·exact ih x hx
 exact all r x hx
theorem Xf {kvs:List (List Key×V)} (ok:HOk P w H h) (e:H a=some (.dT kvs)):kvs.length<=sizeLine/\(a==sysModules)=false /\
  ∃xs,KT H kvs xs/\h.DictOfH (tupleKind (bx P w)) a xs:=Di ok (.inl e)
end
def L6 (H:Hp) (a:Addr) (y:V) (r:Option V):Prop :=
 (∃kvs k,Rd H a (.dK kvs)/\y=kV k/\r=xw kvs k)\/∃kvs k b,Rd H a (.dT kvs)/\y=.ref b/\H b=some (.tup (k.map kV))/\r=xw kvs k
def S5 (H:Hp) (a:Addr) (y v:V) (H':Hp):Prop :=
 (∃kvs k,H a=some (.dK kvs)/\y=kV k/\kvs.length<sizeLine/\H'=upd H a (.dK (putK kvs k v))) \/
 ∃kvs k b,H a=some (.dT kvs)/\y=.ref b/\H b=some (.tup (k.map kV))/\kvs.length<sizeLine/\H'=upd H a (.dT (putK kvs k v))
theorem S5.k {H:Hp} {a:Addr} {kvs:List (Key×V)} {k:Key} {v:V} (e:H a=some (.dK kvs)) (hl:kvs.length<sizeLine):S5 H a (kV k) v (upd H a (.dK (putK kvs k v))):=.inl ⟨kvs,k,e,rfl,hl,rfl⟩
section
variable {X : Cx} {pins : List (Addr × Obj)} {σ : St} {H : Hp} {s : Shared} {a : Addr} {y v : V} {u r : Value} {o : Option V} {A : Around} {E : Value -> Shared -> Prop}
theorem Inv.big (I:Inv X pins σ H s):sysModules<s.heap.objs.size:=by
 have h:mainGlobals<s.heap.objs.size:=(I.mod.glob.keeps I.bk).lt
 exact Nat.lt_trans (by decide) h
theorem ya {Q:Value->Shared->Prop} (hu:A.units+1<cLine) (I:Inv X pins σ H s) (g:L6 H a y (some v)) (ry:RelV y u) (h:∀w' s',Inv X pins σ H s'->RelV v w'->Q w' s') :
  wpAny (model X.prog X.w) A (getItem (.ref a) u) Q E s:=by
 rcases g with⟨kvs,k,e,ey,l⟩ | ⟨kvs,k,b,e,ey,eb,l⟩
 ·subst ey
  obtain⟨z,hd,vs,rel,dd⟩:=z8 I.hok e
  obtain⟨w',hw,rw'⟩:=zx.some_of (v:=v) (o:=valueAt vs k) (by rw[l];exact rel.val k)
  exact wpAny_getItem_of (Dh ry) dd.mapOf hw (h w' _ (I.tok _) rw')
 ·subst ey
  cases(show u=Value.ref b from ry)
  obtain⟨z,hd,xs,rel,dd⟩:=Di I.hok e
  obtain⟨w',hw,rw'⟩:=zx.some_of (v:=v) (o:=(atKey xs k).map (·.2)) (by rw[l];exact rel.val k)
  obtain⟨p,hp,hp2⟩:=EH.mp hw
  refine wpAny_getItem_heap (FA hu) (x9 I.hok eb) dd hp ?_
  rw[hp2]
  exact h w' _ (I.tok _) rw'
theorem aav {Q:Value->Shared->Prop} (hu:A.units+1<cLine) (I:Inv X pins σ H s) (g:L6 H a y o) (ry:RelV y u) (h:∀s',Inv X pins σ H s'->Q (.bool o.isSome) s') :
  wpAny (model X.prog X.w) A (compareOp .In u (.ref a)) Q E s:=by
 rcases g with⟨kvs,k,e,ey,l⟩ | ⟨kvs,k,b,e,ey,eb,l⟩
 ·subst ey
  obtain⟨z,hd,vs,rel,dd⟩:=z8 I.hok e
  refine wpAny_in_of (Dh ry) hd dd.mapOf ?_
  rw[<-(rel.val k).isSome_eq,<-l]
  exact h _ (I.tok _)
 ·subst ey
  cases(show u=Value.ref b from ry)
  obtain⟨z,hd,xs,rel,dd⟩:=Di I.hok e
  refine wpAny_in_heap (FA hu) (x9 I.hok eb) hd dd ?_
  have q:=(rel.val k).isSome_eq
  rw[GK]at q
  rw[<-q,<-l]
  exact h _ (I.tok _)
theorem Ox {Q:Value->Shared->Prop} (hu:A.units+1<cLine) (I:Inv X pins σ H s) (g:L6 H a y o) (ry:RelV y u) (h:∀s',Inv X pins σ H s'->Q (.bool (!o.isSome)) s') :
  wpAny (model X.prog X.w) A (compareOp .NotIn u (.ref a)) Q E s:=by
 rcases g with⟨kvs,k,e,ey,l⟩ | ⟨kvs,k,b,e,ey,eb,l⟩
 ·subst ey
  obtain⟨z,hd,vs,rel,dd⟩:=z8 I.hok e
  refine wpAny_notIn_of (Dh ry) hd dd.mapOf ?_
  rw[<-(rel.val k).isSome_eq,<-l]
  exact h _ (I.tok _)
 ·subst ey
  cases(show u=Value.ref b from ry)
  obtain⟨z,hd,xs,rel,dd⟩:=Di I.hok e
  refine wpAny_notIn_heap (FA hu) (x9 I.hok eb) hd dd ?_
  have q:=(rel.val k).isSome_eq
  rw[GK]at q
  rw[<-q,<-l]
  exact h _ (I.tok _)
theorem z9 {h':Heap} {t':Nat} {ob:HO} (I:Inv X pins σ H s) (mu:Mut (H a)) (hs:Heap.SameBut a s.heap h') (he:∃q,h'.get? a=some q) (new:fu X.prog X.w (upd H a ob) h' a ob) :
  Inv X pins σ (upd H a ob) {s with heap:=h',toks:=t'} :=
 I.write (x:=a) (e:=a) mu (.inl rfl) (λb q hb z=>(hs.2 b hb).trans z) he new
theorem L7 {P:Program} {w:World} {H':Hp} {h':Heap} {kvs:List (Key×V)} {vs:List (Key×Value)} (z:kvs.length<=sizeLine) (hd:(a==sysModules)=false) (rel:KV kvs vs) (dd:h'.DictOf (bx P w) a vs) :
  fu P w H' h' a (.dK kvs):=⟨z,hd,vs,rel,dd⟩
theorem yb {H':Hp} {Q:Unit->Shared->Prop} (hu:A.units+1<cLine) (I:Inv X pins σ H s) (g:S5 H a y v H') (ry:RelV y u) (rv:RelV v r) (h:∀s',Inv X pins σ H' s'->Q () s') :
  wpAny (model X.prog X.w) A (setItem (.ref a) u r) Q E s:=by
 rcases g with⟨kvs,k,e,ey,l,eH⟩ | ⟨kvs,k,b,e,ey,eb,l,eH⟩
 ·subst ey eH
  obtain⟨z,hd,vs,rel,dd⟩:=S3 I.hok e
  have hz:vs.length<=sizeLine:=by rw[<-rel.length];exact z
  have hl:(putK kvs k v).length<=sizeLine:=by have:=k8 kvs k v;lia
  refine wpAny_setItem_pairs (hsz:=hz) (Dh ry) dd λh' dd' hs=>h _ ?_
  have he:∃q,h'.get? a=some q:=let ⟨q,_,_,hq,_⟩:=dd';⟨q,hq⟩
  exact z9 I (by rw[e];exact True.intro) hs he (L7 hl hd (rel.put k rv) dd')
 ·subst ey eH
  cases(show u=Value.ref b from ry)
  obtain⟨z,hd,xs,rel,dd⟩:=Xf I.hok e
  have hz:xs.length<=sizeLine:=by rw[<-DB rel];exact z
  have hl:(putK kvs k v).length<=sizeLine:=by have:=k8 kvs k v;lia
  refine wpAny_setItem_heap (hsz:=hz) (FA hu) (x9 I.hok eb) dd λh' dd' hs=>h _ ?_
  obtain⟨q,es,ep,hq,h2,h3,h4,_,h5⟩:=dd'
  refine z9 I (by rw[e];exact True.intro) hs ⟨q,hq⟩ ⟨hl,hd,_,(rel.put k eb rv).keeps λc ys ec=>?_,q,es,ep,hq,h2,h3,h4,h5⟩
  rw[ao (jw ec e (λz=>nomatch z))]
  exact ec
end
def Xg (i:Expr):Prop:=∀ov iv,subscripted i false ov iv=operate [ov,iv] (getItem ov iv)
theorem Oy {prog:Program} {w:World} {A:Around} {E:Value->Shared->Prop} {s:Shared} {env:Env} {value slice:Expr} {pos:Pos} {T id:String} {Q:Value->Shared->Prop}
  (hl:typeLookup (.type T) "__getitem__"=pure (some (.builtin id))) (hs:Xg slice)
  (h:wpAny (model prog w) A (eval value env) (λo s₁=>wpAny (model prog w) A (eval slice env) (λi s₂=>s₂.TypeIs o T/\wpAny (model prog w) A (getItem o i) Q E s₂) E s₁) E s) :
  wpAny (model prog w) A (eval (.Subscript value slice pos) env) Q E s:=by
 refine Subscript_ (DD h (λo s₁ h₁=>DD h₁ (λi s₂ h₂=>?_) λ_ _ x=>x) λ_ _ x=>x)
 obtain⟨hT,h₂⟩:=h₂
 unfold subscriptTail
 refine AB ?_
 rw[getitemInPython_of_ne hT.not_modules]
 refine AB (wpAny_specialOf hT hl ?_)
 have fin:wpAny (model prog w) A (subscripted slice false o i) (λr s₃=>wpAny (model prog w) A (letTemporaryGo value o r>>=λ_=>pure r) Q E s₃) E s₂:=by
  rw[hs o i]
  exact wpAny_operating (DD h₂ (λr s₃ h₃=>AB (wpAny_letTemporaryGo (AL h₃))) λ_ _ x=>x)
 first
  | exact AL (AB fin)
  | exact AB (AL (AB fin))
  | exact AB fin
theorem qb {X:Cx} {pins:List (Addr×Obj)} {σ:St} {H:Hp} {s:Shared} {a:Addr} {y:V} {o:Option V} (I:Inv X pins σ H s) (g:L6 H a y o):s.TypeIs (.ref a) "dict":=by
 rcases g with⟨kvs,k,e,_,_⟩ | ⟨kvs,k,b,e,_,_,_⟩
 ·obtain⟨_,_,vs,_,dd⟩:=z8 I.hok e
  exact dd.typeIs
 ·obtain⟨_,_,xs,_,dd⟩:=Di I.hok e
  exact dd.typeIs
def Xh (td ty:TE):TE:=λσ H Q=>td σ H λx H1=>ty σ H1 λy H2=>∃a v,x=.ref a/\L6 H2 a y (some v)/\Q v H2
section
variable {X : Cx} {o i e value : Expr} {pos pos' tpos : Pos} {td ty tv : TE}
theorem Oz (hu:X.A.units+1<cLine) (ho:PE X o td) (hi:PE X i ty) (hs:Xg i):PE X (.Subscript o i pos) (Xh td ty):=by
 intro pins s σ H Q I h
 refine Oy GF.lookup hs (thn (ho pins s σ H _ I h) λu s1 ⟨x,H1,I1,rx,q1⟩=>thn (hi pins s1 σ H1 _ I1 q1) λiv s2 ⟨y,H2,I2,ry,a,v,ex,g,q2⟩=>?_)
 subst ex
 obtain rfl:u=Value.ref a:=rx
 exact⟨qb I2 g,ya hu I2 g ry λw' s3 I3 rw'=>⟨v,H2,I3,rw',q2⟩⟩
end
theorem Bj {P:Program} {w:World} {H:Hp} (h:Heap) (hb:sysModules<h.objs.size):fu P w H (h.push {cls:=.type "dict",data:=.dict #[]}) h.objs.size (.dK []) :=
 ⟨If _,beq_eq_false_iff_ne.mpr (Ne.symm (BA hb)),[],.nil,Heap.DictOf.new h⟩
def tDNewK:TE:=λ_ H Q=>∀p,H p=none->Q (.ref p) (upd H p (.dK []))
section
variable {X : Cx} {pos : Pos}
theorem J4:PE X (.Dict [] [] pos) tDNewK:=λpins s σ H Q I h =>
 wpAny_Dict_empty ⟨.ref s.heap.objs.size,_,I.laid (a:=s.heap.objs.size) (o:=.dK []) (t':=s.toks) (λ_ _ q=>AE _ q) (AN _) (Bj s.heap I.big),rfl,h _ (I.hok.fresh (AN _))⟩
end
def E4:List (TE×TE)->St->Hp->(List (V×V)->Hp->Prop)->Prop
 | [],_,H,Q=>Q [] H
 | (tk,tv)::r,σ,H,Q=>tk σ H λx H1=>tv σ H1 λy H2=>E4 r σ H2 λps H3=>Q ((x,y)::ps) H3
abbrev VV:List (V×V)->List (Value×Value)->Prop:=Paired λp q=>RelV p.1 q.1/\RelV p.2 q.2
def PPs (X:Cx) (pos:Pos) (keys:List (Option Expr)) (values:List Expr) (trs:List (TE×TE)):Prop :=
 ∀(pins:List (Addr×Obj)) (s:Shared) (σ:St) (H:Hp) (Q:List (V×V)->Hp->Prop),Inv X pins σ H s->E4 trs σ H Q ->
  wpAny (model X.prog X.w) X.A (evalPairs (pairTrees keys values X.env pos)) (λvs s'=>∃ps H',Inv X pins σ H' s'/\VV ps vs/\Q ps H') X.xe s
theorem O0 {X:Cx} {pos:Pos}:PPs X pos [] [] []:=λpins s σ H Q I h=>pairTrees_nil_walk ⟨[],H,I,.nil,h⟩
theorem J5 {X:Cx} {pos:Pos} {k v:Expr} {ks:List (Option Expr)} {vs:List Expr} {tk tv:TE} {trs:List (TE×TE)} (hk:PE X k tk) (hv:PE X v tv) (hr:PPs X pos ks vs trs) :
  PPs X pos (some k::ks) (v::vs) ((tk,tv)::trs):=λpins s σ H Q I h =>
 pairTrees_cons_walk (thn (hk pins s σ H _ I h) λu s1 ⟨x,H1,I1,rx,q1⟩=>thn (hv pins s1 σ H1 _ I1 q1) λw2 s2 ⟨y,H2,I2,ry,q2⟩ =>
  thn (hr pins s2 σ H2 _ I2 q2) λws s3 ⟨ps,H3,I3,rel,q3⟩=>⟨(x,y)::ps,H3,I3,.cons ⟨rx,ry⟩ rel,q3⟩)
def yc (kvs more:List (Key×V)):List (Key×V):=more.foldl (λacc kv=>putK acc kv.1 kv.2) kvs
theorem KV.merge:∀{more:List (Key×V)} {rs:List (Key×Value)} {kvs:List (Key×V)} {vs:List (Key×Value)},KV more rs->KV kvs vs->KV (yc kvs more) (merged vs rs):=by
 intro more rs kvs vs r
 unfold KV at r
 induction r generalizing kvs vs with
 | nil=>intro q;exact q
 | @cons p q ps qs h t ih =>
  intro r0
  have e:KV (putK kvs p.1 p.2) (stored vs q.1 q.2):=by
   have:=r0.put p.1 h.2
   rw[<-h.1];exact this
  exact ih e
theorem l9:∀(more kvs:List (Key×V)),(yc kvs more).length<=kvs.length+more.length
 | [],kvs=>by show kvs.length<=kvs.length+0;lia
 | p::r,kvs=>by
  have h1:=l9 r (putK kvs p.1 p.2)
  have h2:=k8 kvs p.1 p.2
  show(yc (putK kvs p.1 p.2) r).length<=_
  rw[AU];lia
theorem tj {P:Program} {w:World}:∀{kvs:List (Key×V)} {ws:List (Value×Value)},VV (kvs.map λkv=>(kV kv.1,kv.2)) ws->∃rs,Carries (bx P w) ws rs/\KV kvs rs
 | [],_,r=>by rw[CZ]at r;cases r;exact⟨[],True.intro,.nil⟩
 | p::kvs,_,r=>by
  rw[AO]at r
  cases r with
  | @cons a b as bs h t =>
   obtain⟨rs,c,q⟩:=tj (P:=P) (w:=w) t
   obtain⟨b1,b2⟩:=b
   exact⟨(p.1,b2)::rs,⟨Dh h.1,rfl,c⟩,.cons ⟨rfl,h.2⟩ q⟩
def Xi (trs:List (TE×TE)):TE:=λσ H Q=>∀p,H p=none->E4 trs σ (upd H p (.dK [])) λps H2=>H2 p=some (.dK [])/\∃kvs:List (Key×V),ps=kvs.map (λkv=>(kV kv.1,kv.2))/\kvs.length<=15/\Q (.ref p) (upd H2 p (.dK (yc [] kvs)))
theorem O1 {X:Cx} {pos:Pos} {keys:List (Option Expr)} {values:List Expr} {trs:List (TE×TE)} (h:PPs X pos keys values trs) (hall:keys.all (·.isSome)=true) (hl:keys.length=values.length) (h0:keys≠[])
  (h15:keys.length<=15):PE X (.Dict keys values pos) (Xi trs):=by
 intro pins s σ H Q I q
 have hn:=I.hok.fresh (AN s.heap.objs.size)
 have I1:=I.laid (a:=s.heap.objs.size) (o:=.dK []) (h':=s.heap.push {cls:=.type "dict",data:=.dict #[]}) (t':=s.toks) (λ_ _ q=>AE _ q) (AN _) (Bj s.heap I.big)
 refine wpAny_Dict_walk (knd:=bx X.prog X.w) hall hl h0 h15 (thn (h pins _ σ _ _ I1 (q _ hn)) λws s2 ⟨ps,H2,I2,rel,e,kvs,ep,lk,q2⟩=>?_)
 subst ep
 obtain⟨rs,c,rk⟩:=tj (P:=X.prog) (w:=X.w) rel
 obtain⟨z,hd,vs0,r0,dd⟩:=S3 I2.hok e
 cases r0
 refine⟨rs,c,dd,λh' dd' hs=>⟨.ref s.heap.objs.size,_,?_,rfl,q2⟩⟩
 have hz:(yc [] kvs).length<=sizeLine:=by
  have h1:=l9 kvs []
  rw[CD]at h1
  rw[DL];lia
 have he:∃q,h'.get? s.heap.objs.size=some q:=let ⟨q,_,_,hq,_⟩:=dd';⟨q,hq⟩
 exact z9 I2 (by rw[e];exact True.intro) hs he (L7 hz hd (rk.merge .nil) dd')
def IsD (H:Hp) (a:Addr):Prop:=(∃kvs,Rd H a (.dK kvs))\/∃kvs,Rd H a (.dT kvs)
theorem S6 {X:Cx} {pins:List (Addr×Obj)} {σ:St} {H:Hp} {s:Shared} {a:Addr} (I:Inv X pins σ H s) (d:IsD H a) :
  s.TypeIs (.ref a) "dict"/\(∀b,Value.ref a=.ref b->∃ob,s.heap.get? b=some ob/\ob.dict=none)/\(a==sysModules)=false:=by
 rcases d with⟨kvs,e⟩ | ⟨kvs,e⟩
 ·obtain⟨_,hd,vs,_,dd⟩:=z8 I.hok e
  refine⟨dd.typeIs,λb q=>?_,hd⟩
  cases q
  obtain⟨ob,_,_,h1,h2,_⟩:=dd
  exact⟨ob,h1,h2.2.1⟩
 ·obtain⟨_,hd,xs,_,dd⟩:=Di I.hok e
  refine⟨dd.typeIs,λb q=>?_,hd⟩
  cases q
  obtain⟨ob,_,_,h1,h2,_⟩:=dd
  exact⟨ob,h1,h2.2.1⟩
end L2
namespace Att
open PySem PySem.W PySem.Calls PyProof.Rows
theorem qd {P:Params} {h:Heap}:∀(ns:List Int) (vs:List Value),WellAll P h vs (ns.map WData.int)->IntsAre vs ns:=by
 intro ns
 induction ns with
 | nil =>
  intro vs w
  rw[CZ]at w
  cases w
  exact .nil
 | cons n ns ih =>
  intro vs w
  rw[AO]at w
  cases w with
  | cons a b =>
   cases a
   exact .cons _ _ (ih _ b)
theorem E5 {l:OpenLaw} {n:Nat} (hn:l.most=some n) {P:Params} {h:Heap} {args:List WData} {vals:List Value}
  (hpre:l.row.toRowW.claim.pre args=true) (hwl:WellAll P h vals args) :
  ∃a vs ns,vals=[Value.ref a]/\args=[WData.list (ns.map WData.int)]/\h.get? a=some {cls:=.type "list",data:=.seq vs.toArray}/\IntsAre vs ns/\ns.length<=n:=by
 have hsh:WShape.hasAll [] args [.list .int]=true:=(pre_splitW hpre).1
 have hc:l.pre.holds [] {args:=args}=true:=(pre_splitW hpre).2
 obtain⟨d,r,rfl,h1,h2⟩:=hasAllW_cons hsh
 obtain rfl:=hasAllW_nil h2
 obtain⟨xs,rfl,h3⟩:=hasW_list h1
 obtain⟨ns,rfl⟩:=items_int h3
 have hlen:ns.length<=n:=by
  unfold OpenLaw.pre at hc
  have h4:(WTm.not (.lt (.lit (.int (n:Int))) (.len (.arg 0)))).holds [] {args:=[.list (ns.map .int)]}=true:=by
   have h4:=(holds_andW hc).1
   rw[hn]at h4
   exact h4
  have h5:=condW_of h4 (w_not (w_lt w_lit (w_len_list (w_arg rfl))))
  rw[AM]at h5
  refine Nat.le_of_not_lt λq=>?_
  have q':(n:Int)<((ns.length:Nat):Int):=by lia
  first
   | (rw[decide_eq_true q']at h5;exact absurd h5 (by decide))
   | (simp at h5;lia)
 cases hwl with
 | cons w1 w2 =>
  cases w2
  cases w1 with
  | list ho hall=>exact⟨_,_,ns,rfl,rfl,ho,qd ns _ hall,hlen⟩
theorem E6 (l:OpenLaw) (args:List WData):l.row.toRowW.claim.post args (.bool true) args=true :=
 postW_of (r:=l.row.toRowW) (X:=(true==true))
  (show WShape.has [] (.bool true) .bool=true by first | rfl | decide | simp[WShape.has,WShape.arms,WShape.armsAll])
  (show(WTm.eq .res (.lit (.bool true))).value [] {args:=args,res:=some (.bool true),after:=args}=some (.bool (true==true))from w_eq_bool (w_res rfl) w_lit) rfl
theorem Aa {l:OpenLaw} {n:Nat} {q:Program} {loose:List Str} {XP:(Str->Option Value)->Heap->Prop} {YP:World->Heap->Prop} {d:DefRec}
  (hn:l.most=some n) (hdf:d.params.defaults=[])
  (call:∀(w:World) (s₀ s₁:Shared) (mg mb:Str->Option Value) (fa:Addr) (o:Obj) (pm cd doc:Value) (a:Addr) (vs:List Value) (ns:List Int),
   Ground q loose [] XP w s₀ mg mb s₁.heap->YP w s₁.heap ->
   s₁.heap.get? fa=some o->o.data=.func (docDef d.name d.params d.body d.scope pm cd doc)->s₁.heap.CodeRec cd d.name->mg d.name=some (.ref fa) ->
   s₁.heap.get? a=some {cls:=.type "list",data:=.seq vs.toArray}->IntsAre vs ns->ns.length<=n->s₁.gens=#[] ->
   codeAny (model l.prog w) callerA (.call (.ref fa) ⟨[.ref a],[]⟩) (λr s'=>r=.ok (.ret (.bool true))/\OldK s₁.heap s'.heap/\s'.os=s₁.os/\AllBare s'.gens) s₁) :
  WalkO q loose XP YP l.row.toRowW d [] (λf vs=>PySem.call f vs):=by
 intro w s₀ s₁ mg mb G Y fa o pm cd doc dV kV ho hd hcd hD hmg hg args vals as hpre hlay hrd hwl hlo
 obtain rfl:dV=.none:=Dflts.none hD hdf
 obtain rfl:kV=.none:=Dflts.noKw hD
 obtain⟨a,vs,ns,rfl,rfl,hobj,hints,hlen⟩:=E5 hn hpre hwl
 refine enter_call (FV (call w s₀ s₁ mg mb fa o pm cd doc a vs ns G Y ho (fd_plain hd) hcd hmg hobj hints hlen hg) λr s' hq=>?_)
 obtain⟨rfl,h2,h3,h4⟩:=hq
 exact⟨.inl ⟨.bool true,.bool true,[],rfl,λ_=>rfl,.bool true,E6 l _,λ_=>⟨List.Pairwise.nil,λ_ hm=>(nomatch hm)⟩⟩,h2,h3,h4⟩
end Att
namespace L2
open PySem PySem.Spec PyProof.Rows
def FzL (K:PySem.W.Frag) (H:Hp) (a:Addr) (xs:List V):Prop :=
 (∃o,H a=some (.frz o (.lst xs))) \/
  ∃(its:List Value) (n:Nat),K.lookup a=some {cls:=.type "list",data:=.seq its.toArray n}/\xs.length<=sizeLine/\bh xs its
theorem vals_ints:∀{vs:List Value} {ns:List Int},IntsAre vs ns->bh (ns.map V.int) vs
 | _,_,.nil=>.nil
 | _,_,.cons n t h=>.cons ⟨t,rfl⟩ (vals_ints h)
def Xj (H:Hp):Prop:=∀b,H b=none\/∃o xs,H b=some (.frz o (.lst xs))
theorem J6 {P:Program} {w:World} {K:PySem.W.Frag} {mg mb:Str->Option Value} {CX:CXT} {k:Nat} {fa a:Addr} {fd:FuncData} {x:Str} {sp:Sp} {s₁:Shared} {vs:List Value} {ns:List Int}
  (KX:K.In s₁.heap) (hns:s₁.heap.Ns mainGlobals mg) (hb:s₁.heap.Ns builtinsNs mb) (hbb:∀x:Str,x≠"__name__"->mb x=bootBuiltins x) (hlim:s₁.heap.NoLimit) (hg:s₁.gens=#[])
  (ha:s₁.heap.get? a=some {cls:=.type "list",data:=.seq vs.toArray}) (hi:IntsAre vs ns) (hl:ns.length<=sizeLine) (hr:Room k callerA)
  (F:∀base:Heap,K.In base->base.Ns mainGlobals mg->FnOk P w K mg base CX k fa fd [x] sp) (hbind:∀(s:Shared) (u:Value),BindsTo s fd ⟨[u],[]⟩ [(x,u)])
  (hsp:∀H:Hp,Xj H->FzL K H a (ns.map V.int)->sp [.ref a] H (λv _=>v=.bl true) λ_ _ _=>False)
  (hCX:∀H e s',CX [] H s₁ (λ_ _ _=>False) e s'->False) :
  codeAny (model P w) callerA (.call (.ref fa) ⟨[.ref a],[]⟩) (λr s'=>r=.ok (.ret (.bool true))/\OldK s₁.heap s'.heap/\s'.os=s₁.os/\AllBare s'.gens) s₁:=by
 have rv:=vals_ints hi
 have lenV:=hi.length
 -- from an abstract heap in which nothing but the script may be tracked
 have core:∀H:Hp,Xj H->FzL K H a (ns.map V.int)->HOk P w H s₁.heap->(∀b,H b≠none->b=a)->(H a≠none->K.lookup a=none) ->
   codeAny (model P w) callerA (.call (.ref fa) ⟨[.ref a],[]⟩) (λr s'=>r=.ok (.ret (.bool true))/\OldK s₁.heap s'.heap/\s'.os=s₁.os/\AllBare s'.gens) s₁:=by
  intro H hO hS hok hA hK
  have base_of:∀{b:Addr} {o:Obj},s₁.heap.get? b=some o->H b=none->(Jo s₁.heap H).get? b=some o:=λe n=>Jp e n
  have noA:∀{b:Addr} {o:Obj} {es:Array DictEntry} {ep:Nat},s₁.heap.get? b=some o->o.data=.dict es ep->H b=none:=λ{b o es ep} e d=>by
   cases q:H b with
   | none=>rfl
   | some u =>
    have e':b=a:=hA b (by rw[q];simp)
    subst e'
    rw[ha]at e;cases e
    have d':Data.seq vs.toArray _=Data.dict es ep:=d
    cases d'
  have nsK:∀{b:Addr} {m:Str->Option Value},s₁.heap.Ns b m->(Jo s₁.heap H).Ns b m:=λ{b m} ⟨o,es,ep,e,d,r⟩=>⟨o,es,ep,base_of e (noA e d),d,r⟩
  have hKb:K.In (Jo s₁.heap H):=λb o e=>base_of (KX b o e) (by
   cases q:H b with
   | none=>rfl
   | some u =>
    have e':b=a:=hA b (by rw[q];simp)
    subst e'
    rw[hK (by rw[q];simp)]at e;cases e)
  have hM:Mod K mg (Jo s₁.heap H):=⟨hKb,nsK hns,⟨mb,nsK hb,hbb⟩,let ⟨mc,h1,h2⟩:=hlim;⟨mc,nsK h1,h2⟩⟩
  have e0:Env0 P w K mg (Jo s₁.heap H) callerA [] s₁ H:=⟨rfl,hM,λb o e=>N5 e,Nat.le_of_eq (Eh _ _),trivial,λb hb=>absurd (show b∈([]:List Addr)from hb) (by simp),hok,.of_eq hg⟩
  refine FV ((F _ hKb (nsK hns)).run callerA [] s₁ H ⟨[.ref a],[]⟩ [.ref a] [.ref a] _ _ hr e0 (hbind s₁ (.ref a)) (.cons rfl .nil) (hsp H hO hS)) λr s' h=>?_
  cases r with
  | error e=>exact(hCX H e s' h).elim
  | ok fl =>
   cases fl with
   | next=>exact False.elim h
   | brk=>exact False.elim h
   | cont=>exact False.elim h
   | ret u =>
    obtain⟨v,H',os,bare,un,hok',r',q⟩:=h
    have q':v=.bl true:=q
    subst q'
    obtain rfl:u=Value.bool true:=r'
    refine⟨rfl,OldK.of_keep λb o e=>?_,os,bare⟩
    cases q:H b with
    | none=>exact un.keep b o e q (by intro z;exact absurd (show b∈([]:List Addr)from z) (by simp)) (by simp)
    | some u =>
     rcases hO b with z | ⟨ob,xs,z⟩
     ·rw[q]at z;cases z
     ·have z2:=un.frzs b ob _ z
      obtain⟨e1,_⟩:=hok b _ z
      obtain⟨e2,_⟩:=hok' b _ z2
      rw[e]at e1;cases e1
      exact e2
 cases hk:K.lookup a with
 | some o =>
  -- the script is one of the module's own objects
  have e:=KX a o hk
  rw[ha]at e
  cases e
  refine core (λ_=>none) (λ_=>.inl rfl) (.inr ⟨vs,_,hk,by rw[AM];exact hl,rv⟩) (λb u z=>by have z':(none:Option HO)=some u:=z;cases z') (λb z=>absurd rfl z) λz=>absurd rfl z
 | none =>
  refine core (λb=>if b=a then some (.frz {cls:=.type "list",data:=.seq vs.toArray} (.lst (ns.map V.int)))else none) (λb=>?_) (.inl ⟨{cls:=.type "list",data:=.seq vs.toArray},if_pos rfl⟩) (λb u z=>?_) (λb z=>?_) λ_=>hk
  ·by_cases hb:b=a
   ·exact .inr ⟨_,_,if_pos hb⟩
   ·exact .inl (if_neg hb)
  ·by_cases hb:b=a
   ·have z':=(if_pos hb).symm.trans z
    cases z'
    subst hb
    exact⟨ha,by rw[AM];exact hl,vs,_,rv,ha⟩
   ·have z':=(if_neg hb).symm.trans z
    cases z'
  ·by_cases hb:b=a
   ·exact hb
   ·exact absurd (if_neg hb) z
abbrev KOf {K:PySem.W.Frag} {h:Heap} (_:K.In h):PySem.W.Frag:=K
theorem O3 {l:PySem.W.OpenLaw} {n k:Nat} {q:Program} {loose:List Str} {XP:(Str->Option Value)->Heap->Prop} {YP:World->Heap->Prop} {d:DefRec} {K:Params->PySem.W.Frag} {CX:World->CXT} {sp:World->Sp} {x:Str}
  (hn:l.most=some n) (hn2:n<=sizeLine) (hdf:d.params.defaults=[]) (hr:Room k callerA)
  (hY:∀(w:World) (h:Heap),YP w h->(K w.params).In h)
  (F:∀(w:World) (mg:Str->Option Value) (fa:Addr) (h:Heap),(K w.params).In h->h.Ns mainGlobals mg->mg d.name=some (.ref fa) ->
   ∃fd:FuncData,(∀(s:Shared) (u:Value),BindsTo s fd ⟨[u],[]⟩ [(x,u)]) /\
    ∀base:Heap,(K w.params).In base->base.Ns mainGlobals mg->FnOk l.prog w (K w.params) mg base (CX w) k fa fd [x] (sp w))
  (hsp:∀(w:World) (H:Hp) (a:Addr) (ns:List Int),ns.length<=n->Xj H->FzL (K w.params) H a (ns.map V.int)->sp w [.ref a] H (λv _=>v=.bl true) λ_ _ _=>False)
  (hCX:∀(w:World) (H:Hp) (s:Shared) (e:Value) (s':Shared),CX w [] H s (λ_ _ _=>False) e s'->False) :
  PySem.W.WalkO q loose XP YP l.row.toRowW d [] (λf vs=>PySem.call f vs):=by
 refine Att.Aa hn hdf λw s₀ s₁ mg mb fa o pm cd doc a vs ns G Y ho hd hcd hmg hobj hints hlen hg=>?_
 have KX:=hY w _ Y
 obtain⟨fd,hb,hF⟩:=F w mg fa _ KX G.T.g hmg
 exact J6 KX G.T.g G.T.b G.T.builtins G.T.nolimit hg hobj hints (BX hlen hn2) hr hF hb (λH hO hS=>hsp w H a ns hlen hO hS) λH e s'=>hCX w H s₁ e s'
def k9 (s:Stmt):Arguments:=match s with
 | .FunctionDef _ a _ _ _ _ _ _ _ _=>a
 | _=>{posonlyargs:=[],args:=[],vararg:=none,kwonlyargs:=[],kw_defaults:=[],kwarg:=none,defaults:=[]}
def gj (s:Stmt):List Stmt:=match s with
 | .FunctionDef _ _ b _ _ _ _ _ _ _=>b
 | _=>[]
def a8 (s:Stmt):Scope:=match s with
 | .FunctionDef _ _ _ _ _ _ sc _ _ _=>sc
 | _=>{kind:=.function,names:=[],isGenerator:=false,isCoroutine:=false}
abbrev CX0:CXT:=λ_ _ _ _ _ _=>False
abbrev E0:XK:=λ_ _ _=>False
theorem E7 {X:Cx}:sy CX0 X E0:=λ_ _ _ _ _ _ _ h=>h.elim
structure Fun (K:PySem.W.Frag) (x qual:Str) (st:Stmt) (f:Addr) (fd:FuncData):Prop where
 ex:∃(oc:Value) (od:Option Addr) (kV doc pm:Value) (an:Option Addr) (cdv ct:Value) (osl:Array (Option Value)),
  fd=PySem.W.fnOf x qual (k9 st) (gj st) (a8 st) .none kV doc pm an cdv ct/\K.lookup f=some ⟨oc,od,.func fd,osl⟩/\PySem.W.codeIn K cdv qual=true
 kp:PySem.W.keepIn K (.ref f)=true
section
variable {P : Program} {w : World} {K : PySem.W.Frag} {mg : Str -> Option Value} {base : Heap}
theorem Fun.ok {x qual:Str} {st:Stmt} {f:Addr} {fd:FuncData} {N ps:List Str} {k:Nat} {sp:Sp} (F:Fun K x qual st f fd) (S:FnScope N ps (a8 st)) (len:∀vs H Q E,sp vs H Q E->vs.length=ps.length)
  (hbody:∀(cdv:Value) (A:Around) (outer:List Env) (s:Shared) (H:Hp) (vs:List V) (Q:VK) (E:XK),uq k (A.deeper (envOfC qual (a8 st) s.heap.objs.size f cdv))->sp vs H Q E ->
   ∃t,PSs (Jz CX0 P w K mg base N qual (a8 st) f cdv A outer s H E).nox (gj st) t/\t {nx:=λ_ H'=>Q .non H',rt:=Q} (start N vs) H):FnOk P w K mg base CX0 (k+1) f fd ps sp:=by
 obtain⟨oc,od,kV,doc,pm,an,cdv,ct,osl,rfl,lk,hcd⟩:=F.ex
 refine Xc lk hcd S len λA outer s H vs Q E hr hsp=>?_
 obtain⟨t,h,q⟩:=hbody cdv A outer s H vs Q E hr hsp
 exact⟨t,h.nox,q⟩
theorem L8 {x qual:Str} {st:Stmt} {f:Addr} {oc:Value} {od an:Option Addr} {osl:Array (Option Value)} {kV doc pm cdv ct:Value} (l:K.lookup f=some ⟨oc,od,.func (PySem.W.fnOf x qual (k9 st) (gj st) (a8 st) .none kV doc pm an cdv ct),osl⟩)
  (c:PySem.W.codeIn K cdv qual=true) (k:PySem.W.keepIn K (.ref f)=true):Fun K x qual st f (PySem.W.fnOf x qual (k9 st) (gj st) (a8 st) .none kV doc pm an cdv ct):=⟨⟨oc,od,kV,doc,pm,an,cdv,ct,osl,rfl,l,c⟩,k⟩
end
theorem yd {n:Nat} (h:n<=1000):n<sizeLine:=Nat.lt_of_le_of_lt h (by decide)
section
variable {X : Cx}
theorem pv (i:Nat) {x:Str} {pos:Pos} (hN:X.N[i]? = some x:=by rfl) (hv:Vis X.env.scope x:=by first | exact Or.inl rfl | exact Or.inr (Or.inl rfl) | exact Or.inr (Or.inr rfl)) (hd:(x==("__debug__":Str))=false:=by decide)
  (hcd:(x==("__classdict__":Str))=false:=by decide):PE X (.Name x pos) (Y6 i):=Bf hN hv hd hcd
end
end L2
set_option maxHeartbeats 4000000
namespace L2
open PySem PySem.Spec PyProof.Rows
def aaw (h0:Heap) (H:Hp) (h:Heap) (e:Addr) (cls:Value):Prop:=∃oe vs T oT ts a0,h.get? e=some oe/\(oe.cls=cls/\vs[0]? = some a0)/\oe.data=.fields vs/\vs[1]? = some (.ref T)/\(h0.get? T=none/\H T=none)/\T≠e/\h.get? T=some oT/\oT.data=.fields ts/\ts[3]? = some Value.none
section
variable {X : Cx} {pins : List (Addr × Obj)} {σ : St} {H H' : Hp} {s : Shared} {e : Addr} {cls : Value}
structure Fl (X:Cx) (H0:Hp) (s0:Shared) (H':Hp) (e:Addr) (cls:Value) (s:Shared):Prop where
 os:s.os=s0.os
 bare:AllBare s.gens
 un:Un (frs X.stack) [] H0 H' s0.heap s.heap
 hok:HOk X.prog X.w H' s.heap
 new:s0.heap.get? e=none
 free:H' e=none
 fly:aaw s0.heap H' s.heap e cls
section
variable {H0 : Hp} {s0 : Shared}
def aax (e:Addr) (cls:Value):HO:=.ext λh=>∃o vs,h.get? e=some o/\o.cls=cls/\o.data=.fields vs
end
end
end L2
namespace Lp
open PySem
inductive D where
 | non | bl (b:Bool) | int (i:Int) | str (x:Str)
 | tup (ds:List D) | lst (ds:List D) | loc (n:Nat)
 deriving Inhabited
def D.pureN:Nat->D->Bool
 | 0,d=>match d with | .tup _=>false | .lst _=>false | .loc _=>false | _=>true
 | k+1,d=>match d with | .tup ds=>ds.all (D.pureN k) | .lst ds=>ds.all (D.pureN k) | .loc _=>false | _=>true
abbrev D.pure (d:D):Bool:=D.pureN 8 d
inductive O where
 | l (ds:List D)
 | r (ds:List D)
 | d (kvs:List (D×D))
 | dt (kvs:List (D×D))
 | x (c:Str)
 | o (c:Str) (fs:List (Str×D))
 | dr (kvs:List (D×D))
 | fd (kvs:List (D×D))
 | dead
 deriving Inhabited
abbrev Sto:=List O
abbrev Sl:=List (Option D)
inductive Res (α:Type) where
 | ok (a:α) (μ:Sto)
 | exc (c:Nat) (ds:List D) (μ:Sto)
 | stuck
namespace Res
variable {α β : Type}
def bind (x:Res α) (f:α->Sto->Res β):Res β:=match x with
 | .ok a μ=>f a μ
 | .exc c ds μ=>.exc c ds μ
 | .stuck=>.stuck
@[simp] theorem ar (a:α) (μ:Sto) (f:α->Sto->Res β):(Res.ok a μ).bind f=f a μ:=rfl
@[simp] theorem Wj (c:Nat) (ds:List D) (μ:Sto) (f:α->Sto->Res β):(Res.exc c ds μ:Res α).bind f=.exc c ds μ:=rfl
@[simp] theorem Rf (f:α->Sto->Res β):(Res.stuck:Res α).bind f=.stuck:=rfl
theorem bind_assoc {γ:Type} (x:Res α) (f:α->Sto->Res β) (g:β->Sto->Res γ):(x.bind f).bind g=x.bind λa μ=>(f a μ).bind g:=by
 cases x<;>rfl
end Res
inductive Mk where | z | l | r
 deriving DecidableEq,Inhabited
inductive Bt where
 | len | tuple | list | sum | min | min1 | max | all | any | sorted | sortedSet | sortedL | int | listRev | listRange | tupleRange | dictP | sortedI | sortedD | odds | min3 | max1 | sortedN | sortedT
 deriving DecidableEq,Inhabited
inductive Mt where
 | append | pop | extend | extendT | insert | remove | reverse | clear | count | countL | get
 deriving DecidableEq,Inhabited
inductive Cl where
 | int | bool | tuple | list | str | own (c:Str)
 deriving DecidableEq,Inhabited
inductive Tg where
 | one (i:Nat) | many (is:List Nat)
 deriving DecidableEq,Inhabited
inductive Cp where
 | eq | ne | eqM | neM | lt | le | gt | ge | is | isnot | in_ | notin
 deriving DecidableEq,Inhabited
mutual
inductive Ex where
 | var (i:Nat)
 | frz (i:Nat)
 | cst (d:D)
 | bin (op:Operator) (m:Mk) (a b:Ex)
 | neg (a:Ex)
 | not (a:Ex)
 | and (a b:Ex)
 | or (a b:Ex)
 | ite (c a b:Ex)
 | cmp (a:Ex) (r:Cps)
 | call (keep:Bool) (f:Nat) (es:Exs)
 | blt (b:Bt) (m:Mk) (es:Exs)
 | isi (a:Ex) (c:Cl)
 | meth (mt:Mt) (o:Ex) (es:Exs)
 | ix (a b:Ex)
 | dix (a b:Ex)
 | sl (m:Mk) (a:Ex) (lo hi:ExO)
 | tup (es:Exs)
 | lst (m:Mk) (es:Exs)
 | dic (t:Bool) (es:Exs)
 | inT (neg:Bool) (es:Exs) (d:Ex)
 | att (e:Ex) (f:Str)
 | mcall (k1:Bool) (c m:Str) (f:Nat) (o:Ex) (es:Exs)
 | make (c:Str) (f:Nat) (es:Exs)
 | callK (f:Nat) (es:Exs)
 | tru (e:Ex)
 | drp (e:Ex)
 | gix (a b:Ex)
 | dicr
 | comp (m:Mk) (cap:List Nat) (nl:Nat) (tg:Tg) (it:It) (cs:Exs) (elt:Ex)
inductive Exs where
 | nil
 | cons (e:Ex) (es:Exs)
inductive Cps where
 | nil
 | cons (op:Cp) (e:Ex) (r:Cps)
inductive ExO where
 | no
 | so (e:Ex)
inductive It where
 | seq (e:Ex)
 | rng (a:Ex)
 | rng2 (a b:Ex)
 | rng3 (a b c:Ex)
 | zip (a b:Ex)
 | enum (a:Ex)
 | rev (a:Ex)
 | vals (a:Ex)
 | keys (a:Ex)
end
mutual
inductive Sm where
 | set (i:Nat) (e:Ex)
 | unp (is:List Nat) (e:Ex)
 | setx (o i v:Ex)
 | augx (op:Operator) (o i v:Ex)
 | setxT (o:Ex) (i:Exs) (v:Ex)
 | ex (e:Ex)
 | ite (c:Ex) (a b:Sms)
 | loop (tg:Tg) (it:It) (b:Sms)
 | ret (e:Ex)
 | raise (c:Str) (es:Exs)
 | pl (s:Sm)
 | callx (f:Nat) (es:Exs)
 | tryc (f:Nat) (es:Exs) (ei:Nat) (h:Sms)
 | mapx (i:Nat) (cap:List Nat) (nl:Nat) (tg:Tg) (it:It) (f:Nat) (es:Exs)
 | tryi (i j:Nat) (e:Ex)
 | seta (o:Ex) (f:Str) (e:Ex)
 | whl (c:Ex) (b:Sms)
 | pass | brk | cont
 | never
inductive Sms where
 | nil
 | cons (s:Sm) (r:Sms)
end
@[irreducible] def lim:Nat:=2 ^ 24
theorem L9:lim=2 ^ 24:=by with_unfolding_all rfl
theorem lb:1000000<=lim:=by rw[L9];decide
def bj (μ:Sto):D->Option (List D)
 | .tup ds=>some ds
 | .lst ds=>some ds
 | .loc n=>match μ[n]? with
  | some (.l ds)=>some ds
  | some (.r ds)=>some ds
  | _=>none
 | _=>none
def listOf (μ:Sto):D->Option (List D)
 | .lst ds=>some ds
 | .loc n=>match μ[n]? with
  | some (.l ds)=>some ds
  | some (.r ds)=>some ds
  | _=>none
 | _=>none
def jx {α β:Type} (o:Option α) (k:α->Res β):Res β:=match o with
 | some a=>k a
 | none=>.stuck
@[simp] theorem lg {α β:Type} (a:α) (k:α->Res β):jx (some a) k=k a:=rfl
@[simp] theorem O4 {α β:Type} (k:α->Res β):jx none k=.stuck:=rfl
def mkL (m:Mk) (ds:List D) (μ:Sto):Res D:=match m with
 | .z=>.ok (.lst ds) μ
 | .l=>if ds.all (D.pureN 8)=true then .ok (.loc μ.length) (μ++[.l ds])else .stuck
 | .r=>.ok (.loc μ.length) (μ++[.r ds])
mutual
def deq:D->D->Bool
 | .non,.non=>true
 | .bl a,.bl b=>a==b
 | .int a,.int b=>decide (a=b)
 | .bl a,.int b=>decide ((if a then 1 else 0:Int)=b)
 | .int a,.bl b=>decide (a=(if b then 1 else 0:Int))
 | .str a,.str b=>decide (a=b)
 | .tup a,.tup b=>Bk a b
 | .lst a,.lst b=>Bk a b
 | _,_=>false
def Bk:List D->List D->Bool
 | [],[]=>true
 | a::r,b::q=>deq a b&&Bk r q
 | _,_=>false
end
def rs1 (μ:Sto):Nat->D->D
 | 0,d=>d
 | _,.loc n=>match μ[n]? with
  | some (.l ds)=>.lst ds
  | some (.r ds)=>.lst ds
  | _=>.loc n
 | k+1,.tup ds=>.tup (ds.map (rs1 μ k))
 | k+1,.lst ds=>.lst (ds.map (rs1 μ k))
 | _,d=>d
def rs (μ:Sto) (d:D):D:=rs1 μ 8 (rs1 μ 8 (rs1 μ 8 d))
def bz:List D->Option (List Int)
 | []=>some []
 | .int i::r=>(bz r).map (i::·)
 | _=>none
def ma:List D->Option (List Bool)
 | []=>some []
 | .bl i::r=>(ma r).map (i::·)
 | _=>none
def lexLt:List Int->List Int->Bool
 | _,[]=>false
 | [],_::_=>true
 | x::xs,y::ys=>if x=y then lexLt xs ys else decide (x<y)
def rowsOf:List D->Option (List (List Int))
 | []=>some []
 | .tup ds::r=>(bz ds).bind λx=>(rowsOf r).map (x::·)
 | _=>none
def ixN (n:Nat) (i:Int):Option Nat:=if 0<=i then(if i<n then some i.toNat else none)else if -(n:Int)<=i then some (i+n).toNat else none
def sIx (n d:Nat):Option Int->Nat
 | none=>d
 | some v=>if v<0 then(v+(n:Int)).toNat else min v.toNat n
def cut (ds:List D) (lo hi:Option Int):List D:=(ds.drop (sIx ds.length 0 lo)).take (sIx ds.length ds.length hi-sIx ds.length 0 lo)
def CMul (i j:Int):Prop:=(-(2 ^ 64)<i/\i<2 ^ 64)\/(-(2 ^ 64)<j/\j<2 ^ 64)
instance (i j:Int):Decidable (CMul i j):=by unfold CMul;infer_instance
def okB (b:Bool) (μ:Sto):Res D:=.ok (.bl b) μ
def opI (op:Operator) (i j:Int) (μ:Sto):Res D:=match op with
 | .Add=>.ok (.int (i+j)) μ
 | .Sub=>.ok (.int (i-j)) μ
 | .Mult=>if CMul i j then .ok (.int (i*j)) μ else .stuck
 | .FloorDiv=>if 0<j/\j<1073741824 then .ok (.int (i / j)) μ else .stuck
 | .Mod=>if 0<j then .ok (.int (i % j)) μ else .stuck
 | .Pow=>if 0<=j/\j<=1000000/\i.natAbs<2 ^ 64 then .ok (.int (i ^ j.toNat)) μ else .stuck
 | .RShift=>if 0<=j then .ok (.int (i / 2 ^ j.toNat)) μ else .stuck
 | .LShift=>if 0<=j/\j<=1000000/\i.natAbs<2 ^ 64 then .ok (.int (i*2 ^ j.toNat)) μ else .stuck
 | .BitXor=>if 0<=i/\j=1 then .ok (.int (if i % 2=0 then i+1 else i-1)) μ else .stuck
 | _=>.stuck
def opD (op:Operator) (m:Mk) (a b:D) (μ:Sto):Res D:=match a,b with
 | .int i,.int j=>opI op i j μ
 | .tup xs,.tup ys=>match op with
  | .Add=>if xs.length+ys.length<=lim then .ok (.tup (xs++ys)) μ else .stuck
  | _=>.stuck
 | x,.int j=>match op,listOf μ x with
  | .Mult,some xs=>if xs.length*j.toNat<=lim /\ -(2 ^ 63)<=j/\j<2 ^ 63 then mkL m (List.replicate j.toNat xs).flatten μ else .stuck
  | _,_=>.stuck
 | x,y=>match op,listOf μ x,listOf μ y with
  | .Add,some xs,some ys=>if xs.length+ys.length<=lim then mkL m (xs++ys) μ else .stuck
  | _,_,_=>.stuck
def flat:D->Bool
 | .tup _=>false
 | .lst _=>false
 | .loc _=>false
 | _=>true
def bc (μ:Sto) (x:D):Option (List D×Option (Nat×O)):=match x with
 | .tup ds=>some (ds,none)
 | .lst ds=>some (ds,none)
 | .loc n=>match μ[n]? with
  | some (.l ds)=>some (ds,some (n,.l ds))
  | some (.r ds)=>some (ds,some (n,.r ds))
  | _=>none
 | _=>none
def ye:D->Bool
 | .int _=>true
 | .str _=>true
 | _=>false
def aay:D->Bool
 | .tup ds=>ds.all ye
 | _=>false
def uz (k:D):List (D×D)->Option D
 | []=>none
 | (x,v)::r=>if deq x k then some v else uz k r
def dput (k v:D) (kvs:List (D×D)):List (D×D) :=
 if(kvs.any λp=>deq p.1 k)=true then kvs.map (λp=>if deq p.1 k=true then(p.1,v)else p)else kvs++[(k,v)]
def dictAt (μ:Sto) (o k:D):Option (List (D×D)):=match o with
 | .loc n=>match μ[n]? with
  | some (.d kvs)=>if ye k=true then some kvs else none
  | some (.dr kvs)=>if ye k=true then some kvs else none
  | some (.fd kvs)=>if ye k=true then some kvs else none
  | _=>none
 | _=>none
def O5 (μ:Sto) (o:D) (ks:List D):Option (List (D×D)):=match o with
 | .loc n=>match μ[n]? with
  | some (.dt kvs)=>if ks.all ye=true then some kvs else none
  | _=>none
 | _=>none
def cy:List (Option D)->Option (List D)
 | []=>some []
 | none::_=>none
 | some d::r=>match cy r with
  | some ds=>some (d::ds)
  | none=>none
def a9 (μ:Sto):Nat->D->Option D
 | 0,d=>if flat d=true then some d else none
 | k+1,d=>match d with
  | .tup ds=>(cy (ds.map (a9 μ k))).map .tup
  | .lst ds=>(cy (ds.map (a9 μ k))).map .lst
  | .loc n=>match μ[n]? with
   | some (.l ds)=>(cy (ds.map (a9 μ k))).map .lst
   | some (.r ds)=>(cy (ds.map (a9 μ k))).map .lst
   | _=>none
  | d=>some d
def cpD (op:Cp) (a b:D) (μ:Sto):Res D:=match op with
 | .eq=>if a.pure=true/\b.pure=true then .ok (.bl (deq a b)) μ else .stuck
 | .ne=>if a.pure=true/\b.pure=true then .ok (.bl (!deq a b)) μ else .stuck
 | .eqM=>match a9 μ 8 a,a9 μ 8 b with
  | some x,some y=>.ok (.bl (deq x y)) μ
  | _,_=>.stuck
 | .neM=>match a9 μ 8 a,a9 μ 8 b with
  | some x,some y=>.ok (.bl (!deq x y)) μ
  | _,_=>.stuck
 | .lt=>match a,b with
  | .int i,.int j=>.ok (.bl (decide (i<j))) μ
  | .tup x,.tup y=>match bz x,bz y with
   | some xs,some ys=>.ok (.bl (lexLt xs ys)) μ
   | _,_=>.stuck
  | _,_=>.stuck
 | .le=>match a,b with
  | .int i,.int j=>.ok (.bl (decide (i<=j))) μ
  | .tup x,.tup y=>match bz x,bz y with
   | some xs,some ys=>.ok (.bl (!lexLt ys xs)) μ
   | _,_=>.stuck
  | _,_=>.stuck
 | .gt=>match a,b with
  | .int i,.int j=>.ok (.bl (decide (j<i))) μ
  | _,_=>.stuck
 | .ge=>match a,b with
  | .int i,.int j=>.ok (.bl (decide (j<=i))) μ
  | .tup x,.tup y=>match bz x,bz y with
   | some xs,some ys=>.ok (.bl (!lexLt xs ys)) μ
   | _,_=>.stuck
  | _,_=>.stuck
 | .is=>match b with
  | .non=>.ok (.bl (match a with | .non=>true | _=>false)) μ
  | .bl k=>match a with
   | .bl j=>.ok (.bl (j==k)) μ
   | .non=>.ok (.bl false) μ
   | _=>.stuck
  | _=>.stuck
 | .isnot=>match b with
  | .non=>.ok (.bl (match a with | .non=>false | _=>true)) μ
  | .bl k=>match a with
   | .bl j=>.ok (.bl (!(j==k))) μ
   | .non=>.ok (.bl true) μ
   | _=>.stuck
  | _=>.stuck
 | .in_=>match bj μ b with
  | some ds=>if flat a=true/\ds.all flat=true then .ok (.bl (ds.any λy=>deq y a)) μ else .stuck
  | none=>match dictAt μ b a with
   | some kvs=>.ok (.bl (uz a kvs).isSome) μ
   | none=>.stuck
 | .notin=>match bj μ b with
  | some ds=>if flat a=true/\ds.all flat=true then .ok (.bl (!ds.any λy=>deq y a)) μ else .stuck
  | none=>match dictAt μ b a with
   | some kvs=>.ok (.bl (!(uz a kvs).isSome)) μ
   | none=>.stuck
def insI (x:Int):List Int->List Int
 | []=>[x]
 | y::r=>if x<=y then x::y::r else y::insI x r
def sortI:List Int->List Int
 | []=>[]
 | x::r=>insI x (sortI r)
def Zd (x:List Int):List (List Int)->List (List Int)
 | []=>[x]
 | y::r=>if lexLt y x=true then y::Zd x r else x::y::r
def O6:List (List Int)->List (List Int)
 | []=>[]
 | x::r=>Zd x (O6 r)
def tm:Int->List Int->Int
 | x,[]=>x
 | x,y::r=>tm (if y<x then y else x) r
def Ec:Int->List Int->Int
 | x,[]=>x
 | x,y::r=>Ec (if y > x then y else x) r
def ku (f:D->Sto->Res D) (ds:List D) (μ:Sto):Res D:=match ds with
 | [x]=>f x μ
 | _=>.stuck
@[simp] theorem g8 (f:D->Sto->Res D) (x:D) (μ:Sto):ku f [x] μ=f x μ:=rfl
def seq1 (f:List D->Sto->Res D) (x:D) (μ:Sto):Res D:=match bj μ x with
 | some xs=>f xs μ
 | none=>.stuck
def J7 (f:List Int->Sto->Res D) (x:D) (μ:Sto):Res D:=match(bj μ x).bind bz with
 | some ns=>f ns μ
 | none=>.stuck
def E8 (f:List Bool->Sto->Res D) (x:D) (μ:Sto):Res D:=match(bj μ x).bind ma with
 | some ns=>f ns μ
 | none=>.stuck
def J8 (m:Mk) (x:D) (μ:Sto):Res D:=match listOf μ x with
 | some xs=>mkL m xs.reverse μ
 | none=>.stuck
def minD (ds:List D) (μ:Sto):Res D:=match ds with
 | [.int i,.int j]=>.ok (.int (if j<i then j else i)) μ
 | _=>.stuck
def S7 (ds:List D) (μ:Sto):Res D:=match ds with
 | [.int i,.int j,.int k]=>.ok (.int (if k<(if j<i then j else i)then k else(if j<i then j else i))) μ
 | _=>.stuck
def maxD (ds:List D) (μ:Sto):Res D:=match ds with
 | [.int i,.int j]=>.ok (.int (if j > i then j else i)) μ
 | _=>.stuck
def O7 (m:Mk) (xs:List D) (μ:Sto):Res D:=match rowsOf xs with
 | some rs=>if rs.all (λr=>!r.isEmpty)=true then mkL m ((O6 rs).map λr=>.tup (r.map .int)) μ else .stuck
 | none=>.stuck
def aaz (ns:List Int):List Int:=ns.foldl (λσ k=>if σ.any (·==k)then σ else σ++[k]) []
def S8 (m:Mk):D->Sto->Res D:=J7 λns μ=>if ns.length<64 then mkL m ((sortI (aaz ns)).map .int) μ else .stuck
def S9 (m:Mk) (x:D) (μ:Sto):Res D:=match listOf μ x with
 | some xs=>if xs.length<64 then O7 m xs μ else .stuck
 | none=>.stuck
def Ze {R:Type} (lt:R->R->Bool) (x:R):List R->List R
 | []=>[x]
 | y::r=>if lt y x=true then y::Ze lt x r else x::y::r
def O8 {R:Type} (lt:R->R->Bool):List R->List R
 | []=>[]
 | x::r=>Ze lt x (O8 lt r)
abbrev NR:=List Int×Str×List Int
abbrev aa0 (x:NR):D:=.tup [.tup (x.1.map .int),.tup (.str x.2.1::x.2.2.map .int)]
def ltN (x y:NR):Bool:=if x.1=y.1 then(if x.2.1=y.2.1 then lexLt x.2.2 y.2.2 else decide (x.2.1.cps.toList<y.2.1.cps.toList))else lexLt x.1 y.1
def Ta:List D->Option (List NR)
 | []=>some []
 | .tup [.tup ds,.tup (.str t::es)]::r=>(bz ds).bind λx=>(bz es).bind λy=>(Ta r).map ((x,t,y)::·)
 | _=>none
def Tb (m:Mk) (x:D) (μ:Sto):Res D:=match(listOf μ x).bind Ta with
 | some rs=>if rs.length<=1000 then mkL m ((O8 ltN rs).map aa0) μ else .stuck
 | none=>.stuck
def Tc (m:Mk) (x:D) (μ:Sto):Res D:=match(listOf μ x).bind rowsOf with
 | some rs=>if rs.length<=1000/\(rs.all λr=>!r.isEmpty)=true then mkL m ((O8 lexLt rs).map λr=>.tup (r.map .int)) μ else .stuck
 | none=>.stuck
def Mb (m:Mk) (x:D) (μ:Sto):Res D:=match(listOf μ x).bind bz with
 | some ns=>if ns.length<64 then mkL m ((sortI ns).map .int) μ else .stuck
 | none=>.stuck
def keysOf (μ:Sto):D->Option (List (D×D))
 | .loc n=>match μ[n]? with
  | some (.d kvs)=>some kvs
  | some (.dr kvs)=>some kvs
  | some (.fd kvs)=>some kvs
  | _=>none
 | _=>none
def E9 (m:Mk) (x:D) (μ:Sto):Res D:=match(keysOf μ x).bind λkvs=>bz (kvs.map (·.1))with
 | some ns=>if ns.length<64 then mkL m ((sortI ns).map .int) μ else .stuck
 | none=>.stuck
def Fb (xs:List D):List D:=(List.range (xs.length / 2)).filterMap λi=>xs[2*i+1]?
def O9 (m:Mk) (x:D) (μ:Sto):Res D:=match listOf μ x with
 | some xs=>mkL m (Fb xs) μ
 | none=>.stuck
def Td:List D->Sto->Option (List (List Int)×Sto)
 | [],μ=>some ([],μ)
 | .loc n::r,μ=>match μ[n]? with
  | some (.l ds)=>match bz ds,Td r (μ.set n .dead)with
   | some x,some p=>some (x::p.1,p.2)
   | _,_=>none
  | _=>none
 | _,_=>none
def Pa (m:Mk) (x:D) (μ:Sto):Res D:=match listOf μ x with
 | some xs=>if xs.length<64 then(match Td xs μ with
  | some p=>mkL m ((O6 p.1).map λr=>.lst (r.map .int)) p.2
  | none=>.stuck)else .stuck
 | none=>.stuck
def Te:D->Sto->Res D:=J7 λns μ=>match ns with
 | n::r=>.ok (.int (tm n r)) μ
 | []=>.stuck
def Tf:D->Sto->Res D:=J7 λns μ=>match ns with
 | n::r=>.ok (.int (Ec n r)) μ
 | []=>.stuck
def Th (x:D) (μ:Sto):Res D:=match x with
 | .bl b=>.ok (.int (if b then 1 else 0)) μ
 | .int i=>.ok (.int i) μ
 | _=>.stuck
def Mc (f:List D->Sto->Res D) (x:D) (μ:Sto):Res D:=match x with
 | .int j=>if -(lim:Int)<=j/\j<=lim then f ((List.range j.toNat).map fun(i:Nat)=>D.int i) μ else .stuck
 | _=>.stuck
def Md:List D->Option (List (D×D))
 | []=>some []
 | .tup [k,v]::r=>if ye k=true/\v.pure=true then(Md r).map ((k,v)::·)else none
 | _=>none
def Ti (x:D) (μ:Sto):Res D:=match(listOf μ x).bind Md with
 | some ps=>if ps.length<1000 then .ok (.loc μ.length) (μ++[.d (ps.foldl (λm p=>dput p.1 p.2 m) [])])else .stuck
 | none=>.stuck
def btD (b:Bt) (m:Mk) (ds:List D) (μ:Sto):Res D:=match b with
 | .len=>ku (seq1 λxs μ=>.ok (.int xs.length) μ) ds μ
 | .tuple=>ku (seq1 λxs μ=>.ok (.tup xs) μ) ds μ
 | .list=>ku (seq1 λxs μ=>mkL m xs μ) ds μ
 | .listRev=>ku (J8 m) ds μ
 | .sum=>ku (J7 λns μ=>.ok (.int ns.sum) μ) ds μ
 | .min=>minD ds μ
 | .max=>maxD ds μ
 | .all=>ku (E8 λbs μ=>.ok (.bl (bs.all id)) μ) ds μ
 | .any=>ku (E8 λbs μ=>.ok (.bl (bs.any id)) μ) ds μ
 | .sorted=>ku (S9 m) ds μ
 | .min1=>ku Te ds μ
 | .max1=>ku Tf ds μ
 | .sortedN=>ku (Tb m) ds μ
 | .sortedT=>ku (Tc m) ds μ
 | .sortedSet=>ku (S8 m) ds μ
 | .sortedL=>ku (Pa m) ds μ
 | .int=>ku Th ds μ
 | .listRange=>ku (Mc λxs μ=>mkL m xs μ) ds μ
 | .tupleRange=>ku (Mc λxs μ=>.ok (.tup xs) μ) ds μ
 | .dictP=>ku Ti ds μ
 | .sortedI=>ku (Mb m) ds μ
 | .sortedD=>ku (E9 m) ds μ
 | .odds=>ku (O9 m) ds μ
 | .min3=>S7 ds μ
def Zf:List Str:=["BadBook","BadTicks","NoDeed","NoRest","BadRow"]
def aa1 (k c:Str):Bool:=decide (c=k) || decide (c="LampError") || decide (c="ValueError")
def Zg (c:Cl) (d:D) (μ:Sto):Res D:=match d,c with
 | .int _,.int=>.ok (.bl true) μ
 | .bl _,.int=>.ok (.bl true) μ
 | .bl _,.bool=>.ok (.bl true) μ
 | .tup _,.tuple=>.ok (.bl true) μ
 | .lst _,.list=>.ok (.bl true) μ
 | .str _,.str=>.ok (.bl true) μ
 | .loc n,.list=>match μ[n]? with
  | some (.l _)=>.ok (.bl true) μ
  | some (.r _)=>.ok (.bl true) μ
  | _=>.stuck
 | .loc n,.own c=>match μ[n]? with
  | some (.x k)=>if Zf.contains k=true then .ok (.bl (aa1 k c)) μ else .stuck
  | _=>.stuck
 | .loc _,_=>.stuck
 | _,.own _=>.stuck
 | _,_=>.ok (.bl false) μ
def putL (n:Nat) (o:O) (ds:List D) (d:D) (μ:Sto):Res D:=match o with
 | .l _=>.ok d (μ.set n (.l ds))
 | .r _=>.ok d (μ.set n (.r ds))
 | _=>.stuck
def fits (o:O) (d:D):Bool:=match o with
 | .l _=>d.pure
 | .r _=>true
 | _=>false
def d9:O->Option (List D)
 | .l ds=>some ds
 | .r ds=>some ds
 | _=>none
def mtL (mt:Mt) (n:Nat) (ob:O) (xs:List D) (ds:List D) (μ:Sto):Res D:=match mt with
 | .append=>ku (λd μ=>if fits ob d=true/\xs.length<lim then putL n ob (xs++[d]) .non μ else .stuck) ds μ
 | .pop=>match ds with
  | []=>match xs.getLast? with
   | some d=>putL n ob xs.dropLast d μ
   | none=>.stuck
  | [.int i]=>if 0<=i/\i<lim then(match xs[i.toNat]? with
   | some d=>putL n ob (xs.eraseIdx i.toNat) d μ
   | none=>.stuck)else .stuck
  | _=>.stuck
 | .extend=>ku (λy μ=>match listOf μ y with
  | some ys=>if ys.all (fits ob)=true/\xs.length+ys.length<=lim then putL n ob (xs++ys) .non μ else .stuck
  | none=>.stuck) ds μ
 | .extendT=>ku (λy μ=>match y with
  | .tup ys=>if ys.all (fits ob)=true/\xs.length+ys.length<=lim then putL n ob (xs++ys) .non μ else .stuck
  | _=>.stuck) ds μ
 | .insert=>match ds with
  | [.int i,d]=>if 0<=i/\i<=(xs.length:Int)/\fits ob d=true/\xs.length<lim then putL n ob (xs.take i.toNat++d::xs.drop i.toNat) .non μ else .stuck
  | _=>.stuck
 | .remove=>ku (λd μ=>match cy (xs.map (a9 μ 8)),a9 μ 8 d with
  | some es,some e=>match es.findIdx? (λx=>deq x e)with
   | some j=>putL n ob (xs.eraseIdx j) .non μ
   | none=>.stuck
  | _,_=>.stuck) ds μ
 | .reverse=>match ds with
  | []=>putL n ob xs.reverse .non μ
  | _=>.stuck
 | .clear=>match ds with
  | []=>putL n ob [] .non μ
  | _=>.stuck
 | _=>.stuck
def Zh (xs ds:List D) (μ:Sto):Res D:=ku (λx μ=>if flat x=true/\xs.all flat=true then .ok (.int (xs.countP λy=>deq y x)) μ else .stuck) ds μ
def aa2 (o:D) (ds:List D) (μ:Sto):Res D:=match o with
 | .tup xs=>Zh xs ds μ
 | _=>.stuck
def aa3 (o:D) (ds:List D) (μ:Sto):Res D:=match listOf μ o with
 | some xs=>Zh xs ds μ
 | none=>.stuck
def md (mt:Mt) (x:D) (μ:Sto):Bool:=match mt with
 | .get=>match x with
  | .loc n=>match μ[n]? with
   | some (.d _)=>true
   | _=>false
  | _=>false
 | .count=>match x with
  | .tup _=>true
  | _=>false
 | _=>(listOf μ x).isSome
def Xk (o:D) (ds:List D) (μ:Sto):Res D:=match ds with
 | [k,x]=>match dictAt μ o k with
  | some kvs=>.ok ((uz k kvs).getD x) μ
  | none=>.stuck
 | _=>.stuck
def yf (mt:Mt) (o:D) (ds:List D) (μ:Sto):Res D:=match o with
 | .loc n=>match μ[n]? with
  | none=>.stuck
  | some ob=>match d9 ob with
   | none=>.stuck
   | some xs=>mtL mt n ob xs ds μ
 | _=>.stuck
def mtD (mt:Mt) (o:D) (ds:List D) (μ:Sto):Res D:=match mt with
 | .count=>aa2 o ds μ
 | .countL=>aa3 o ds μ
 | .get=>Xk o ds μ
 | mt=>yf mt o ds μ
def Xl (a:D) (ks:List D) (v:D) (μ:Sto):Res Unit:=match a with
 | .loc n=>match μ[n]? with
  | some (.dt kvs)=>if ks.all ye=true/\v.pure=true/\kvs.length<lim then .ok () (μ.set n (.dt (dput (.tup ks) v kvs)))else .stuck
  | _=>.stuck
 | _=>.stuck
def aa4 (neg:Bool) (ks:List D) (a:D) (μ:Sto):Res D:=match O5 μ a ks with
 | some kvs=>.ok (.bl (neg ^^ (uz (.tup ks) kvs).isSome)) μ
 | none=>.stuck
def ixD (a b:D) (μ:Sto):Res D:=match b with
 | .int i=>match bj μ a with
  | some xs=>match ixN xs.length i with
   | some j=>match xs[j]? with
    | some d=>.ok d μ
    | none=>.stuck
   | none=>.stuck
  | none=>.stuck
 | _=>.stuck
def ixL (a b:D) (μ:Sto):Res D:=match a with
 | .loc n=>ixD (.loc n) b μ
 | _=>.stuck
def Fc (a b:D) (μ:Sto):Res D:=match dictAt μ a b with
 | some kvs=>match uz b kvs with
  | some v=>.ok v μ
  | none=>.stuck
 | none=>.stuck
def Pb (a b:D) (μ:Sto):Res D:=match keysOf μ a with
 | some _=>Fc a b μ
 | none=>ixD a b μ
def objOf (μ:Sto):D->Option (Nat×Str×List (Str×D))
 | .loc n=>match μ[n]? with
  | some (.o c fs)=>some (n,c,fs)
  | _=>none
 | _=>none
def yg (c f:Str):Bool :=
 if c="Residue" then decide (f="heads") || decide (f="rooms") || decide (f="leaving") || decide (f="surplus")
 else if c="Slope" then decide (f="residue") || decide (f="scale") || decide (f="costs") || decide (f="worths")
 else if c="Watch" then decide (f="rests")else false
def Ed (f:Str) (x:D) (μ:Sto):Res D:=match objOf μ x with
 | some (_,c,fs)=>if yg c f=true then(match fs.lookup f with
  | some v=>.ok v μ
  | none=>.stuck)else .stuck
 | none=>.stuck
def Tj (f:Str) (v:D):List (Str×D)->List (Str×D)
 | []=>[(f,v)]
 | (g,x)::r=>if g=f then(g,v)::r else(g,x)::Tj f v r
def sj (f:Str) (x v:D) (μ:Sto):Res Unit:=match objOf μ x with
 | some (n,c,fs)=>if yg c f=true/\fs.length<100 then .ok () (μ.set n (.o c (Tj f v fs)))else .stuck
 | none=>.stuck
def isObj (c m:Str) (x:D) (μ:Sto):Bool:=match objOf μ x with
 | some (_,c',fs)=>decide (c'=c)&&(fs.lookup m).isNone
 | none=>false
def truD (x:D) (μ:Sto):Res D:=match x with
 | .bl b=>.ok (.bl b) μ
 | x=>match bj μ x with
  | some xs=>.ok (.bl (!xs.isEmpty)) μ
  | none=>.stuck
def Xm (op:Operator) (a b:D) (μ:Sto):Res D:=match a,b with
 | .int i,.int j=>match op with
  | .Add=>.ok (.int (i+j)) μ
  | .Sub=>.ok (.int (i-j)) μ
  | _=>.stuck
 | _,_=>.stuck
def slD (m:Mk) (a:D) (lo hi:Option Int) (μ:Sto):Res D:=match a with
 | .tup xs=>.ok (.tup (cut xs lo hi)) μ
 | x=>match listOf μ x with
  | some xs=>mkL m (cut xs lo hi) μ
  | none=>.stuck
def zy (a b v:D) (μ:Sto):Res Unit:=match a with
 | .loc n=>match μ[n]? with
  | none=>.stuck
  | some (.d kvs)=>if ye b=true/\v.pure=true/\kvs.length<lim then .ok () (μ.set n (.d (dput b v kvs)))else .stuck
  | some (.dr kvs)=>if ye b=true/\kvs.length<lim then .ok () (μ.set n (.dr (dput b v kvs)))else .stuck
  | some ob=>match d9 ob,b with
   | some xs,.int i=>match ixN xs.length i with
    | some j=>if fits ob v=true then(putL n ob (xs.set j v) .non μ).bind λ_ μ=>.ok () μ else .stuck
    | none=>.stuck
   | _,_=>.stuck
 | _=>.stuck
def f6 (tg:Tg) (d:D) (σ:Sl):Option Sl:=match tg with
 | .one i=>some (σ.set i (some d))
 | .many is=>match d with
  | .tup ds=>if ds.length=is.length then some ((is.zip ds).foldl (λs p=>s.set p.1 (some p.2)) σ)else none
  | _=>none
abbrev Gd:=Option (Nat×O)
def gd (g:Gd) (μ:Sto):Prop:=match g with
 | none=>True
 | some (n,o)=>μ[n]? = some o
@[simp] theorem Ab (μ:Sto):gd none μ=True:=rfl
open Classical in
def mapR (g:Gd) (f:D->Sto->Res (List D)):List D->Sto->Res (List D)
 | [],μ=>if gd g μ then .ok [] μ else .stuck
 | d::ds,μ=>if gd g μ then(f d μ).bind λxs μ1=>(mapR g f ds μ1).bind λys μ2=>.ok (xs++ys) μ2 else .stuck
inductive Fl where
 | nx (σ:Sl) | rt (d:D) | bk (σ:Sl) | ct (σ:Sl)
open Classical in
def iq (g:Gd) (f:D->Sl->Sto->Res Fl):List D->Sl->Sto->Res Fl
 | [],σ,μ=>if gd g μ then .ok (.nx σ) μ else .stuck
 | d::ds,σ,μ=>if gd g μ then(f d σ μ).bind λfl μ1=>match fl with
  | .nx σ1=>iq g f ds σ1 μ1
  | .ct σ1=>iq g f ds σ1 μ1
  | .bk σ1=>.ok (.nx σ1) μ1
  | .rt v=>.ok (.rt v) μ1 else .stuck
def Tn (t:Bool) (ds:List D) (μ:Sto):Res D:=match ds with
 | []=>.ok (.loc μ.length) (μ++[if t then .dt []else .d []])
 | [.int a,x]=>if t=false/\x.pure=true then .ok (.loc μ.length) (μ++[.d [(.int a,x)]])else .stuck
 | [.int a,x,.int b,y]=>if t=false/\x.pure=true/\y.pure=true then .ok (.loc μ.length) (μ++[.d (dput (.int b) y [(.int a,x)])])else .stuck
 | _=>.stuck
abbrev Phi:=Nat->List D->Sto->Res D
def D.belowN (b:Nat):Nat->D->Bool
 | 0,d=>match d with | .tup _=>false | .lst _=>false | .loc n=>decide (n<b) | _=>true
 | k+1,d=>match d with | .tup ds=>ds.all (D.belowN b k) | .lst ds=>ds.all (D.belowN b k) | .loc n=>decide (n<b) | _=>true
def ba (b:Nat):O->Bool
 | .r ds=>ds.all (D.belowN b 8)
 | .o _ fs=>fs.all λp=>D.belowN b 8 p.2
 | .dr kvs=>kvs.all λp=>D.belowN b 8 p.2
 | _=>true
def noR:O->Bool
 | .r _=>false
 | .o _ _=>false
 | .dr _=>false
 | _=>true
def lj (keep:Bool) (base:Nat) (r:Res D):Res D:=match r with
 | .ok d μ'=>if keep=true then .ok d μ' else if D.belowN base 8 d=true/\(μ'.take base).all (ba base)=true then .ok d (μ'.take base)else .stuck
 | x=>x
def Zi:O->Bool
 | .l _=>true
 | .d _=>true
 | .dt _=>true
 | .fd _=>true
 | _=>false
def Ac (base:Nat) (r:Res D):Res D:=match r with
 | .ok d μ'=>if(μ'.take base).all (ba base)=true then(if D.belowN base 8 d=true then .ok d (μ'.take base)else match d with
  | .loc n=>match μ'[n]? with
   | some o=>if Zi o=true then .ok (.loc base) (μ'.take base++[o])else .stuck
   | none=>.stuck
  | _=>.stuck)else .stuck
 | x=>x
def Fd (k1:Bool) (base:Nat) (r:Res D):Res D:=if k1=true then Ac base r else lj false base r
def J9 (base:Nat) (r:Res D):Res D:=match r with
 | .ok .non μ'=>.ok (.loc base) μ'
 | _=>.stuck
def Zj:D->Option (Sum D Str)
 | .non=>some (.inl .non)
 | .tup [.bl true,d]=>some (.inl d)
 | .tup [.bl false,.str c]=>some (.inr c)
 | _=>none
def To (base:Nat) (r:Res D):Res (Option Str):=match r with
 | .ok d μ'=>if(μ'.take base).all (ba base)=true then(match Zj d with
  | some (.inl _)=>.ok none (μ'.take base)
  | some (.inr c)=>.ok (some c) (μ'.take base)
  | none=>.stuck)else .stuck
 | .exc c ds μ'=>.exc c ds μ'
 | .stuck=>.stuck
def kTh (σ:Sl) (r:Option Str) (μ:Sto):Res Fl:=match r with
 | none=>.ok (.nx σ) μ
 | some c=>.ok (.rt (.tup [.bl false,.str c])) μ
def kPl (fl:Fl) (μ:Sto):Res Fl:=match fl with
 | .nx σ=>.ok (.nx σ) μ
 | _=>.stuck
def kGo (ei:Nat) (fl:Fl) (μ:Sto):Res Fl:=match fl with
 | .nx σ=>.ok (.nx (σ.set ei none)) μ
 | _=>.stuck
def kTi (σ:Sl) (i j:Nat) (d:D) (μ:Sto):Res Fl:=match d with
 | .int n=>if i=j then .stuck else .ok (.nx ((σ.set j (some (.int n))).set i none)) μ
 | _=>.stuck
def aa5 (σ:Sl) (ei:Nat) (h:Sl->Sto->Res Fl) (r:Option Str) (μ:Sto):Res Fl:=match r with
 | none=>.ok (.nx σ) μ
 | some c=>if Zf.contains c=true then(h (σ.set ei (some (.loc μ.length))) (μ++[.x c])).bind (kGo ei)else .stuck
def Xn (base:Nat) (r:Res D):Res (Sum D Str):=match r with
 | .ok d μ'=>if(μ'.take base).all (ba base)=true then(match Zj d with
  | some (.inl d')=>if D.belowN base 8 d'=true then .ok (.inl d') (μ'.take base)else .stuck
  | some (.inr c)=>.ok (.inr c) (μ'.take base)
  | none=>.stuck)else .stuck
 | .exc c ds μ'=>.exc c ds μ'
 | .stuck=>.stuck
def kMd (x:D) (q:Sum (List D) Str) (μ:Sto):Res (Sum (List D) Str):=match q with
 | .inl xs=>.ok (.inl (x::xs)) μ
 | .inr c=>.ok (.inr c) μ
def kMc (rest:Sto->Res (Sum (List D) Str)) (r:Sum D Str) (μ:Sto):Res (Sum (List D) Str):=match r with
 | .inl x=>(rest μ).bind (kMd x)
 | .inr c=>.ok (.inr c) μ
open Classical in
def Zk (g:Gd) (f:D->Sto->Res (Sum D Str)):List D->Sto->Res (Sum (List D) Str)
 | [],μ=>if gd g μ then .ok (.inl []) μ else .stuck
 | d::ds,μ=>if gd g μ then(f d μ).bind (kMc λμ=>Zk g f ds μ)else .stuck
def kMx (σ:Sl) (i:Nat) (ys:List D) (r:Sum (List D) Str) (μ:Sto):Res Fl:=match r with
 | .inl xs=>.ok (.nx (σ.set i (some (.tup (ys++xs))))) μ
 | .inr c=>.ok (.rt (.tup [.bl false,.str c])) μ
def zz (d:D) (μ:Sto):Res Bool:=match d with
 | .bl b=>.ok b μ
 | _=>.stuck
section
variable (φ : Phi)
mutual
def evE:Ex->Sl->Sto->Res D
 | .var i,σ,μ=>match σ[i]? with
  | some (some d)=>.ok d μ
  | _=>.stuck
 | .frz i,σ,μ=>match σ[i]? with
  | some (some (.loc n))=>match μ[n]? with
   | some (.l ds)=>.ok (.lst ds) (μ.set n .dead)
   | some (.r ds)=>.ok (.lst ds) (μ.set n .dead)
   | _=>.stuck
  | _=>.stuck
 | .cst d,_,μ=>.ok d μ
 | .bin op m a b,σ,μ=>(evE a σ μ).bind λx μ=>(evE b σ μ).bind λy μ=>opD op m x y μ
 | .neg a,σ,μ=>(evE a σ μ).bind λx μ=>match x with
  | .int i=>.ok (.int (-i)) μ
  | _=>.stuck
 | .not a,σ,μ=>(evE a σ μ).bind λx μ=>match x with
  | .bl b=>.ok (.bl (!b)) μ
  | _=>.stuck
 | .and a b,σ,μ=>(evE a σ μ).bind λx μ=>match x with
  | .bl c=>if c=true then evE b σ μ else .ok (.bl false) μ
  | _=>.stuck
 | .or a b,σ,μ=>(evE a σ μ).bind λx μ=>match x with
  | .bl c=>if c=true then .ok (.bl true) μ else evE b σ μ
  | _=>.stuck
 | .ite c a b,σ,μ=>(evE c σ μ).bind λx μ=>match x with
  | .bl c=>if c=true then evE a σ μ else evE b σ μ
  | _=>.stuck
 | .cmp a r,σ,μ=>(evE a σ μ).bind λx μ=>evC r x σ μ
 | .call keep f es,σ,μ=>(eh es σ μ).bind λds μ=>lj keep μ.length (φ f ds μ)
 | .blt b m es,σ,μ=>(eh es σ μ).bind λds μ=>btD b m ds μ
 | .isi a c,σ,μ=>(evE a σ μ).bind λx μ=>Zg c x μ
 | .meth mt o es,σ,μ=>(evE o σ μ).bind λx μ=>if md mt x μ=true then(eh es σ μ).bind λds μ=>mtD mt x ds μ else .stuck
 | .ix a b,σ,μ=>(evE a σ μ).bind λx μ=>(evE b σ μ).bind λy μ=>ixD x y μ
 | .dix a b,σ,μ=>(evE a σ μ).bind λx μ=>(evE b σ μ).bind λy μ=>Fc x y μ
 | .sl m a lo hi,σ,μ=>(evE a σ μ).bind λx μ=>(evO lo σ μ).bind λl μ=>(evO hi σ μ).bind λh μ=>slD m x l h μ
 | .tup es,σ,μ=>(eh es σ μ).bind λds μ=>.ok (.tup ds) μ
 | .lst m es,σ,μ=>(eh es σ μ).bind λds μ=>mkL m ds μ
 | .dic t es,σ,μ=>(eh es σ μ).bind λds μ=>Tn t ds μ
 | .inT neg es d,σ,μ=>(eh es σ μ).bind λds μ=>(evE d σ μ).bind λx μ=>aa4 neg ds x μ
 | .att e f,σ,μ=>(evE e σ μ).bind λx μ=>Ed f x μ
 | .mcall k1 c m f o es,σ,μ=>(evE o σ μ).bind λx μ=>if isObj c m x μ=true then(eh es σ μ).bind λds μ=>Fd k1 μ.length (φ f (x::ds) μ)else .stuck
 | .make c f es,σ,μ=>(eh es σ μ).bind λds μ=>J9 μ.length (φ f (.loc μ.length::ds) (μ++[.o c []]))
 | .callK f es,σ,μ=>(eh es σ μ).bind λds μ=>Ac μ.length (φ f ds μ)
 | .tru e,σ,μ=>(evE e σ μ).bind λx μ=>truD x μ
 | .drp e,σ,μ=>lj false μ.length (evE e σ μ)
 | .dicr,_,μ=>.ok (.loc μ.length) (μ++[.dr []])
 | .gix a b,σ,μ=>(evE a σ μ).bind λx μ=>(evE b σ μ).bind λy μ=>Pb x y μ
 | .comp m cap nl tg it cs elt,σ,μ=>(evI it σ μ).bind λds μ =>
   (mapR ds.2 (λd μ=>jx (f6 tg d (cap.map (λi=>(σ[i]?).getD none)++List.replicate nl none)) λσ' =>
    (Dj cs σ' μ).bind λb μ=>if b=true then(evE elt σ' μ).bind λx μ=>.ok [x] μ else .ok [] μ) ds.1 μ).bind λxs μ=>mkL m xs μ
def eh:Exs->Sl->Sto->Res (List D)
 | .nil,_,μ=>.ok [] μ
 | .cons e es,σ,μ=>(evE e σ μ).bind λd μ=>(eh es σ μ).bind λds μ=>.ok (d::ds) μ
def evC:Cps->D->Sl->Sto->Res D
 | .nil,_,_,_=>.stuck
 | .cons op e r,x,σ,μ=>(evE e σ μ).bind λy μ=>(cpD op x y μ).bind λz μ=>match r with
  | .nil=>.ok z μ
  | r=>match z with
   | .bl b=>if b=true then evC r y σ μ else .ok (.bl false) μ
   | _=>.stuck
def evO:ExO->Sl->Sto->Res (Option Int)
 | .no,_,μ=>.ok none μ
 | .so e,σ,μ=>(evE e σ μ).bind λx μ=>match x with
  | .int i=>.ok (some i) μ
  | _=>.stuck
def Dj:Exs->Sl->Sto->Res Bool
 | .nil,_,μ=>.ok true μ
 | .cons e es,σ,μ=>(evE e σ μ).bind λx μ=>match x with
  | .bl b=>if b=true then Dj es σ μ else .ok false μ
  | _=>.stuck
def evI:It->Sl->Sto->Res (List D×Gd)
 | .seq e,σ,μ=>(evE e σ μ).bind λx μ=>match bc μ x with
  | some w=>.ok w μ
  | none=>.stuck
 | .rng a,σ,μ=>(evE a σ μ).bind λx μ=>match x with
  | .int j=>if -(lim:Int)<=j/\j<=lim then .ok ((List.range j.toNat).map fun(i:Nat)=>D.int i,none) μ else .stuck
  | _=>.stuck
 | .rng2 a b,σ,μ=>(evE a σ μ).bind λx μ=>(evE b σ μ).bind λy μ=>match x,y with
  | .int i,.int j=>if -(lim:Int)<=i/\i<=lim/\j<=lim /\ -(lim:Int)<=j/\(j-i)<=lim then .ok ((List.range (j-i).toNat).map fun(k:Nat)=>D.int (i+k),none) μ else .stuck
  | _,_=>.stuck
 | .rng3 a b c,σ,μ=>(evE a σ μ).bind λx μ=>(evE b σ μ).bind λy μ=>(evE c σ μ).bind λz μ=>match x,y,z with
  | .int i,.int j,.int k=>if 0<=i/\i<=lim/\j<=lim/\0<=j/\1<=k/\k<=1000 then .ok ((List.range (if i<j then((j-i-1) / k+1).toNat else 0)).map fun(n:Nat)=>D.int (i+n*k),none) μ else .stuck
  | _,_,_=>.stuck
 | .zip a b,σ,μ=>(evE a σ μ).bind λx μ=>(evE b σ μ).bind λy μ=>match bc μ x,bj [] y with
  | some w,some ys=>.ok ((w.1.zip ys).map λp=>.tup [p.1,p.2],w.2) μ
  | _,_=>.stuck
 | .enum a,σ,μ=>(evE a σ μ).bind λx μ=>match bc μ x with
  | some w=>.ok ((List.range w.1.length |>.zip w.1).map fun(p:Nat×D)=>.tup [.int p.1,p.2],w.2) μ
  | none=>.stuck
 | .rev _,_,_=>.stuck
 | .vals a,σ,μ=>(evE a σ μ).bind λx μ=>match x with
  | .loc n=>match μ[n]? with
   | some (.d kvs)=>.ok (kvs.map (·.2),none) (μ.set n .dead)
   | _=>.stuck
  | _=>.stuck
 | .keys a,σ,μ=>(evE a σ μ).bind λx μ=>match x with
  | .loc n=>match μ[n]? with
   | some (.d kvs)=>.ok (kvs.map (·.1),none) (μ.set n (.fd kvs))
   | _=>.stuck
  | _=>.stuck
end
def whN (c:Sl->Sto->Res Bool) (b:Sl->Sto->Res Fl):Nat->Sl->Sto->Res Fl
 | 0,_,_=>.stuck
 | n+1,σ,μ=>(c σ μ).bind λk μ1=>if k=true then(b σ μ1).bind λfl μ2=>match fl with
  | .nx σ1=>whN c b n σ1 μ2
  | .ct σ1=>whN c b n σ1 μ2
  | .bk σ1=>.ok (.nx σ1) μ2
  | .rt v=>.ok (.rt v) μ2 else .ok (.nx σ) μ1
open Classical in
def whR (c:Sl->Sto->Res Bool) (b:Sl->Sto->Res Fl) (σ:Sl) (μ:Sto):Res Fl :=
 if h:∃n,whN c b n σ μ≠.stuck then whN c b h.choose σ μ else .stuck
mutual
def evS:Sm->Sl->Sto->Res Fl
 | .set i e,σ,μ=>(evE φ e σ μ).bind λd μ=>.ok (.nx (σ.set i (some d))) μ
 | .unp is e,σ,μ=>(evE φ e σ μ).bind λd μ=>match f6 (.many is) d σ with
  | some σ'=>.ok (.nx σ') μ
  | none=>.stuck
 | .setx o i v,σ,μ=>(evE φ v σ μ).bind λd μ=>(evE φ o σ μ).bind λx μ=>(evE φ i σ μ).bind λy μ=>(zy x y d μ).bind λ_ μ=>.ok (.nx σ) μ
 | .augx op o i v,σ,μ=>(evE φ o σ μ).bind λx μ=>(evE φ i σ μ).bind λy μ=>(ixL x y μ).bind λold μ=>(evE φ v σ μ).bind λd μ=>(Xm op old d μ).bind λz μ=>(zy x y z μ).bind λ_ μ=>.ok (.nx σ) μ
 | .setxT o i v,σ,μ=>(evE φ v σ μ).bind λd μ=>(evE φ o σ μ).bind λx μ=>(eh φ i σ μ).bind λy μ=>(Xl x y d μ).bind λ_ μ=>.ok (.nx σ) μ
 | .ex e,σ,μ=>(evE φ e σ μ).bind λ_ μ=>.ok (.nx σ) μ
 | .ite c a b,σ,μ=>(evE φ c σ μ).bind λx μ=>match x with
  | .bl k=>if k=true then jy a σ μ else jy b σ μ
  | _=>.stuck
 | .loop tg it b,σ,μ=>(evI φ it σ μ).bind λds μ=>iq ds.2 (λd σ μ=>jx (f6 tg d σ) λσ'=>jy b σ' μ) ds.1 σ μ
 | .ret e,σ,μ=>(evE φ e σ μ).bind λd μ=>.ok (.rt d) μ
 | .raise c es,σ,μ=>(eh φ es σ μ).bind λ_ μ=>.ok (.rt (.tup [.bl false,.str c])) μ
 | .pl s,σ,μ=>(evS s σ μ).bind kPl
 | .callx f es,σ,μ=>(eh φ es σ μ).bind λds μ=>(To μ.length (φ f ds μ)).bind (kTh σ)
 | .mapx i cap nl tg it f es,σ,μ=>(evI φ it σ μ).bind λds μ =>
   (Zk ds.2 (λd μ=>jx (f6 tg d (cap.map (λi=>(σ[i]?).getD none)++List.replicate nl none)) λσ'=>(eh φ es σ' μ).bind λas μ=>Xn μ.length (φ f as μ)) ds.1 μ).bind (kMx σ i [])
 | .tryi i j e,σ,μ=>(evE φ e σ μ).bind (kTi σ i j)
 | .tryc f es ei h,σ,μ=>(eh φ es σ μ).bind λds μ=>(To μ.length (φ f ds μ)).bind (aa5 σ ei λσ μ=>jy h σ μ)
 | .seta o f e,σ,μ=>(evE φ e σ μ).bind λd μ=>(evE φ o σ μ).bind λx μ=>(sj f x d μ).bind λ_ μ=>.ok (.nx σ) μ
 | .whl c b,σ,μ=>whR (λσ μ=>(evE φ c σ μ).bind λd μ=>zz d μ) (λσ μ=>jy b σ μ) σ μ
 | .pass,σ,μ=>.ok (.nx σ) μ
 | .brk,σ,μ=>.ok (.bk σ) μ
 | .cont,σ,μ=>.ok (.ct σ) μ
 | .never,_,_=>.stuck
def jy:Sms->Sl->Sto->Res Fl
 | .nil,σ,μ=>.ok (.nx σ) μ
 | .cons s r,σ,μ=>(evS s σ μ).bind λfl μ=>match fl with
  | .nx σ'=>jy r σ' μ
  | fl=>.ok fl μ
end
end
structure Df where
 np:Nat
 nn:Nat
 body:Sms
def Rg (φ:Phi) (f:Df) (ds:List D) (μ:Sto):Res D :=
 if ds.length=f.np then(jy φ f.body (ds.map some++List.replicate (f.nn-f.np) none) μ).bind λfl μ=>match fl with
  | .nx _=>.ok .non μ
  | .rt d=>.ok d μ
  | _=>.stuck
 else .stuck
def ag (T:List Df):Nat->Phi
 | 0=>λ_ _ _=>.stuck
 | n+1=>λf ds μ=>match T[f]? with
  | some d=>Rg (ag T n) d ds μ
  | none=>.stuck
open PySem PySem.Spec PyProof.Rows L2
abbrev St:=L2.St
theorem _root_.L2.FzL.sq {K:PySem.W.Frag} {H:Hp} {a:Addr} {xs:List V} (h:FzL K H a xs):SqL K H a xs:=by
 rcases h with⟨o,h⟩ | ⟨its,n,h,hz,hv⟩
 ·exact .inl (.inr ⟨o,h⟩)
 ·exact .inr ⟨_,its.toArray,n,h,rfl,rfl,rfl,by rw[AI,<-hv.length];exact hz,by simpa using hv⟩
def LsL (K:PySem.W.Frag) (H:Hp) (a:Addr) (xs:List V):Prop:=H a=some (.lst xs)\/FzL K H a xs
theorem LsL.sq {K:PySem.W.Frag} {H:Hp} {a:Addr} {xs:List V} (h:LsL K H a xs):SqL K H a xs:=by
 rcases h with h | h
 ·exact .of h
 ·exact h.sq
theorem _root_.L2.Inv.ls {X:Cx} {pins:List (Addr×Obj)} {σ:St} {H:Hp} {s:Shared} {a:Addr} {xs:List V} (I:Inv X pins σ H s) (h:LsL X.K H a xs) :
  xs.length<=sizeLine/\∃(its:List Value) (n:Nat),bh xs its/\xs.length=its.length/\s.heap.get? a=some {cls:=.type "list",data:=.seq its.toArray n}:=by
 rcases h with h | ⟨o,h⟩ | ⟨its,n,h,hz,hv⟩
 ·obtain⟨z,its,n,hv,e⟩:=I.hok a _ h
  exact⟨z,its,n,hv,hv.length,e⟩
 ·obtain⟨_,z,its,n,hv,e⟩:=I.hok a _ h
  exact⟨z,its,n,hv,hv.length,e⟩
 ·exact⟨hz,its,n,hv,hv.length,I.kIn a _ h⟩
structure Ext (H H':Hp):Prop where
 tups:∀b xs,H b=some (.tup xs)->H' b=some (.tup xs)
 frzs:∀b o u,H b=some (.frz o u)->H' b=some (.frz o u)
theorem Ext.refl (H:Hp):Ext H H:=⟨λ_ _ h=>h,λ_ _ _ h=>h⟩
theorem Ext.trans {H H1 H2:Hp} (a:Ext H H1) (b:Ext H1 H2):Ext H H2:=⟨λc xs h=>b.tups c xs (a.tups c xs h),λc o u h=>b.frzs c o u (a.frzs c o u h)⟩
theorem Ext.new {H:Hp} {p:Addr} {o:HO} (h:H p=none):Ext H (upd H p o) :=
 ⟨λb xs e=>by rw[ao (bf e h)];exact e,λb o u e=>by rw[ao (bf e h)];exact e⟩
theorem Ext.lst {H:Hp} {p:Addr} {xs:List V} {o:HO} (h:H p=some (.lst xs)):Ext H (upd H p o) :=
 ⟨λb ys e=>by rw[ao (jw e h (by intro z;cases z))];exact e,λb o u e=>by rw[ao (jw e h (by intro z;cases z))];exact e⟩
theorem Ext.dK {H:Hp} {p:Addr} {xs:List (Key×V)} {o:HO} (h:H p=some (.dK xs)):Ext H (upd H p o) :=
 ⟨λb ys e=>by rw[ao (jw e h (by intro z;cases z))];exact e,λb o u e=>by rw[ao (jw e h (by intro z;cases z))];exact e⟩
theorem Ext.ins {H:Hp} {p C dx:Addr} {xs:List (Str×V)} {o:HO} (h:H p=some (.ins C dx xs)):Ext H (upd H p o) :=
 ⟨λb ys e=>by rw[ao (jw e h (by intro z;cases z))];exact e,λb o u e=>by rw[ao (jw e h (by intro z;cases z))];exact e⟩
theorem _root_.L2.SqT.ext {K:PySem.W.Frag} {H H':Hp} {a:Addr} {xs:List V} (h:SqT K H a xs) (e:Ext H H'):SqT K H' a xs:=by
 rcases h with(h | ⟨o,h⟩) | h
 ·exact .inl (.inl (e.tups _ _ h))
 ·exact .inl (.inr ⟨o,e.frzs _ _ _ h⟩)
 ·exact .inr h
theorem _root_.L2.FzL.ext {K:PySem.W.Frag} {H H':Hp} {a:Addr} {xs:List V} (h:FzL K H a xs) (e:Ext H H'):FzL K H' a xs:=by
 rcases h with⟨o,h⟩ | h
 ·exact .inl ⟨o,e.frzs _ _ _ h⟩
 ·exact .inr h
section
variable (K : PySem.W.Frag) (ι : List Addr) (H : Hp)
mutual
def IsD:D->V->Prop
 | .non,v=>v=.non
 | .bl b,v=>v=.bl b
 | .int i,v=>v=.int i
 | .str x,v=>v=.str x
 | .tup ds,v=>∃a xs,v=.ref a/\SqT K H a xs/\af ds xs
 | .lst ds,v=>∃a xs,v=.ref a/\FzL K H a xs/\af ds xs
 | .loc n,v=>∃a,v=.ref a/\ι[n]? = some a
def af:List D->List V->Prop
 | [],xs=>xs=[]
 | d::ds,xs=>∃v r,xs=v::r/\IsD d v/\af ds r
end
end
section
variable {K : PySem.W.Frag} {ι ι' : List Addr} {H H' : Hp}
mutual
theorem IsD.mono (hp:ι <+: ι') (he:Ext H H'):∀(d:D) (v:V),IsD K ι H d v->IsD K ι' H' d v
 | .non,_,h=>by simpa[IsD]using h
 | .bl b,_,h=>by simpa[IsD]using h
 | .int i,_,h=>by simpa[IsD]using h
 | .str x,_,h=>by simpa[IsD]using h
 | .tup ds,v,h=>by
  simp![IsD]at h ⊢
  obtain⟨a,xs,e,q,r⟩:=h
  exact⟨a,xs,e,q.ext he,af.mono hp he ds xs r⟩
 | .lst ds,v,h=>by
  simp![IsD]at h ⊢
  obtain⟨a,xs,e,q,r⟩:=h
  exact⟨a,xs,e,q.ext he,af.mono hp he ds xs r⟩
 | .loc n,v,h=>by
  simp![IsD]at h ⊢
  obtain⟨a,e,q⟩:=h
  obtain⟨t,rfl⟩:=hp
  exact⟨a,e,by rw[AK (AC.mp q).1];exact q⟩
theorem af.mono (hp:ι <+: ι') (he:Ext H H'):∀(ds:List D) (xs:List V),af K ι H ds xs->af K ι' H' ds xs
 | [],xs,h=>by simpa[af]using h
 | d::ds,xs,h=>by
  simp![af]at h ⊢
  obtain⟨v,r,e,q,t⟩:=h
  exact⟨v,r,e,IsD.mono hp he d v q,af.mono hp he ds r t⟩
end
theorem af.length:∀{ds:List D} {xs:List V},af K ι H ds xs->xs.length=ds.length
 | [],xs,h=>by simp![af]at h;subst h;rfl
 | d::ds,xs,h=>by
  simp![af]at h
  obtain⟨v,r,rfl,_,t⟩:=h
  simp[af.length t]
theorem af.get:∀{ds:List D} {xs:List V} {i:Nat} {d:D},af K ι H ds xs->ds[i]? = some d->∃v,xs[i]? = some v/\IsD K ι H d v
 | [],_,_,_,_,e=>by simp at e
 | d::ds,xs,0,_,h,e=>by
  simp![af]at h
  obtain⟨v,r,rfl,q,_⟩:=h
  simp at e;subst e
  exact⟨v,rfl,q⟩
 | d::ds,xs,i+1,x,h,e=>by
  simp![af]at h
  obtain⟨v,r,rfl,_,t⟩:=h
  obtain⟨w,h1,h2⟩:=af.get (i:=i) (d:=x) t (by simpa using e)
  exact⟨w,by simpa using h1,h2⟩
theorem af.append:∀{ds es:List D} {xs ys:List V},af K ι H ds xs->af K ι H es ys->af K ι H (ds++es) (xs++ys)
 | [],_,_,_,h,g=>by simp![af]at h;subst h;exact g
 | d::ds,es,xs,ys,h,g=>by
  simp![af]at h
  obtain⟨v,r,rfl,q,t⟩:=h
  simp![CL,af]
  exact⟨v,r++ys,rfl,q,af.append t g⟩
theorem af.one {d:D} {v:V} (h:IsD K ι H d v):af K ι H [d] [v]:=by
 simp![af];exact⟨v,[],rfl,h,rfl⟩
theorem af.take:∀{ds:List D} {xs:List V} (n:Nat),af K ι H ds xs->af K ι H (ds.take n) (xs.take n)
 | _,_,0,_=>by simp[af]
 | [],_,n+1,h=>by simp![af]at h;subst h;simp[af]
 | d::ds,xs,n+1,h=>by
  simp![af]at h
  obtain⟨v,r,rfl,q,t⟩:=h
  simp![List.take_succ_cons,af]
  exact⟨v,_,rfl,q,af.take n t⟩
theorem af.drop:∀{ds:List D} {xs:List V} (n:Nat),af K ι H ds xs->af K ι H (ds.drop n) (xs.drop n)
 | _,_,0,h=>by simpa using h
 | [],_,n+1,h=>by simp![af]at h;subst h;simp[af]
 | d::ds,xs,n+1,h=>by
  simp![af]at h
  obtain⟨v,r,rfl,q,t⟩:=h
  simpa using af.drop n t
theorem af.set {d:D} {v:V} (hd:IsD K ι H d v):∀{ds:List D} {xs:List V} (n:Nat),af K ι H ds xs->af K ι H (ds.set n d) (xs.set n v)
 | [],_,n,h=>by simp![af]at h;subst h;simp[af]
 | e::ds,xs,0,h=>by
  simp![af]at h
  obtain⟨w,r,rfl,q,t⟩:=h
  simp![GB,af]
  exact⟨v,r,rfl,hd,t⟩
 | e::ds,xs,n+1,h=>by
  simp![af]at h
  obtain⟨w,r,rfl,q,t⟩:=h
  simp![GC,af]
  exact⟨w,_,rfl,q,af.set hd n t⟩
theorem af.eraseIdx:∀{ds:List D} {xs:List V} (n:Nat),af K ι H ds xs->af K ι H (ds.eraseIdx n) (xs.eraseIdx n)
 | [],_,n,h=>by simp![af]at h;subst h;simp[af]
 | e::ds,xs,0,h=>by
  simp![af]at h
  obtain⟨w,r,rfl,q,t⟩:=h
  simpa using t
 | e::ds,xs,n+1,h=>by
  simp![af]at h
  obtain⟨w,r,rfl,q,t⟩:=h
  simp![GY,af]
  exact⟨w,_,rfl,q,af.eraseIdx n t⟩
theorem af.dropLast {ds:List D} {xs:List V} (h:af K ι H ds xs):af K ι H ds.dropLast xs.dropLast:=by
 rw[HU,HU,h.length]
 exact h.take _
theorem af.rep {ds:List D} {xs:List V} (h:af K ι H ds xs):∀k:Nat,af K ι H (List.replicate k ds).flatten (List.replicate k xs).flatten
 | 0=>by simp[af]
 | k+1=>by
  simp![CM,EE]
  exact h.append (af.rep h k)
theorem af.ints:∀(ns:List Int),af K ι H (ns.map D.int) (ns.map V.int)
 | []=>by simp[af]
 | n::r=>by
  simp![AO,af]
  exact⟨_,_,rfl,by simp[IsD],af.ints r⟩
theorem IsD.puren:∀(k:Nat) (d:D) (v:V),D.pureN k d=true->IsD K ι H d v->IsD K ι' H d v:=by
 have list:∀(k:Nat),(∀(d:D) (v:V),D.pureN k d=true->IsD K ι H d v->IsD K ι' H d v) ->
   ∀(ds:List D) (xs:List V),ds.all (D.pureN k)=true->af K ι H ds xs->af K ι' H ds xs:=by
  intro k ih ds
  induction ds with
  | nil=>intro xs _ h;simpa[af]using h
  | cons d ds ihd =>
   intro xs hp h
   simp![af]at h ⊢
   simp![BM,AY]at hp
   obtain⟨v,r,e,q,t⟩:=h
   exact⟨v,r,e,ih d v hp.1 q,ihd r hp.2 t⟩
 intro k
 induction k with
 | zero =>
  intro d v hp h
  cases d<;>simp_all[D.pureN,IsD]
 | succ k ih =>
  intro d v hp h
  cases d with
  | tup ds =>
   simp![D.pureN]at hp
   simp![IsD]at h ⊢
   obtain⟨a,xs,e,q,r⟩:=h
   exact⟨a,xs,e,q,list k ih ds xs hp r⟩
  | lst ds =>
   simp![D.pureN]at hp
   simp![IsD]at h ⊢
   obtain⟨a,xs,e,q,r⟩:=h
   exact⟨a,xs,e,q,list k ih ds xs hp r⟩
  | loc n=>simp[D.pureN]at hp
  | _=>simpa[IsD]using h
theorem IsD.pur {d:D} {v:V} (hp:d.pure=true) (h:IsD K ι H d v):IsD K ι' H d v:=IsD.puren 8 d v hp h
theorem af.pur {ds:List D} {xs:List V} (hp:ds.all (D.pureN 8)=true) (h:af K ι H ds xs):af K ι' H ds xs:=by
 induction ds generalizing xs with
 | nil=>simpa[af]using h
 | cons d ds ih =>
  simp![af]at h ⊢
  simp![BM,AY]at hp
  obtain⟨v,r,e,q,t⟩:=h
  exact⟨v,r,e,IsD.pur hp.1 q,ih hp.2 t⟩
end
section
variable (K : PySem.W.Frag) (ι : List Addr) (H : Hp)
def aa6 (kvs:List (D×D)) (xs:List (List Key×V)):Prop :=
 Paired (fun(p:D×D) (q:List Key×V)=>(∃ds,p.1=.tup ds/\af K [] H ds (q.1.map kV))/\IsD K [] H p.2 q.2) kvs xs
def u0 (kvs:List (D×D)) (xs:List (Key×V)):Prop :=
 Paired (fun(p:D×D) (q:Key×V)=>IsD K [] H p.1 (kV q.1)/\IsD K ι H p.2 q.2) kvs xs
abbrev Xo (kvs:List (D×D)) (xs:List (Key×V)):Prop:=u0 K [] H kvs xs
def FsD (fs:List (Str×D)) (xs:List (Str×V)):Prop:=Paired (fun(p:Str×D) (q:Str×V)=>p.1=q.1/\IsD K ι H p.2 q.2) fs xs
def OIs (a:Addr):O->Prop
 | .l ds=>∃xs,H a=some (.lst xs)/\af K [] H ds xs
 | .r ds=>∃xs,H a=some (.lst xs)/\af K ι H ds xs
 | .d kvs=>∃xs,H a=some (.dK xs)/\Xo K H kvs xs
 | .dt kvs=>∃xs,H a=some (.dT xs)/\aa6 K H kvs xs
 | .x c=>∃cls,PySem.W.nsIn K mainGlobals c=some (some cls)/\H a=some (aax a cls)
 | .o c fs=>∃C dx xs,PySem.W.nsIn K mainGlobals c=some (some (.ref C))/\H a=some (.ins C dx xs)/\FsD K ι H fs xs
 | .dr kvs=>∃xs,H a=some (.dK xs)/\u0 K ι H kvs xs
 | .fd kvs=>∃o xs,H a=some (.frz o (.dK xs))/\Xo K H kvs xs
 | .dead=>∃u,H a=some u
structure Sim (μ:Sto):Prop where
 len:ι.length=μ.length
 nd:ι.Nodup
 obj:∀(n:Nat) a o,ι[n]? = some a->μ[n]? = some o->OIs K ι H a o
def l5 (σ:Sl) (σv:St):Prop:=∀(i:Nat) d,σ[i]? = some (some d)->∃v,σv[i]? = some (some v)/\IsD K ι H d v
end
section
variable {K : PySem.W.Frag} {ι ι' : List Addr} {H H' : Hp} {μ : Sto} {σ : Sl} {σv : St}
theorem l5.mono (h:l5 K ι H σ σv) (hp:ι <+: ι') (he:Ext H H'):l5 K ι' H' σ σv:=λi d e=>by
 obtain⟨v,q,r⟩:=h i d e
 exact⟨v,q,IsD.mono hp he d v r⟩
theorem l5.set (h:l5 K ι H σ σv) (hl:σ.length=σv.length) {i:Nat} {d:D} {v:V} (hd:IsD K ι H d v):l5 K ι H (σ.set i (some d)) (σv.set i (some v)):=λj e q=>by
 by_cases hj:i=j
 ·subst hj
  by_cases hi:i<σ.length
  ·rw[AW hi]at q
   cases q
   exact⟨v,by rw[AW (by lia)],hd⟩
  ·rw[CT (by simp;lia)]at q;cases q
 ·rw[AD hj]at q
  obtain⟨w,q1,q2⟩:=h j e q
  exact⟨w,by rw[AD hj];exact q1,q2⟩
theorem OIs.ne (h:OIs K ι H a o):∃u,H a=some u:=by
 cases o with
 | l ds=>obtain⟨xs,e,_⟩:=h;exact⟨_,e⟩
 | r ds=>obtain⟨xs,e,_⟩:=h;exact⟨_,e⟩
 | d kvs=>obtain⟨xs,e,_⟩:=h;exact⟨_,e⟩
 | dt kvs=>obtain⟨xs,e,_⟩:=h;exact⟨_,e⟩
 | x c=>obtain⟨_,_,e⟩:=h;exact⟨_,e⟩
 | o c fs=>obtain⟨_,_,_,_,e,_⟩:=h;exact⟨_,e⟩
 | dr kvs=>obtain⟨xs,e,_⟩:=h;exact⟨_,e⟩
 | fd kvs=>obtain⟨_,xs,e,_⟩:=h;exact⟨_,e⟩
 | dead=>exact h
theorem OIs.mono {a:Addr} {o:O} (h:OIs K ι H a o) (hp:ι <+: ι') (he:Ext H H') (ha:H' a=H a):OIs K ι' H' a o:=by
 cases o with
 | l ds=>obtain⟨xs,e,q⟩:=h;exact⟨xs,ha.trans e,af.mono (AH _) he ds xs q⟩
 | r ds=>obtain⟨xs,e,q⟩:=h;exact⟨xs,ha.trans e,af.mono hp he ds xs q⟩
 | d kvs =>
  obtain⟨xs,e,q⟩:=h
  exact⟨xs,ha.trans e,Paired.mapP q λp r z=>⟨IsD.mono (AH _) he _ _ z.1,IsD.mono (AH _) he _ _ z.2⟩⟩
 | dt kvs =>
  obtain⟨xs,e,q⟩:=h
  exact⟨xs,ha.trans e,Paired.mapP q λp r z=>⟨let ⟨ds,e,t⟩:=z.1;⟨ds,e,af.mono (AH _) he _ _ t⟩,IsD.mono (AH _) he _ _ z.2⟩⟩
 | x c=>obtain⟨k,q,e⟩:=h;exact⟨k,q,ha.trans e⟩
 | o c fs=>obtain⟨C,dx,xs,n,e,q⟩:=h;exact⟨C,dx,xs,n,ha.trans e,Paired.mapP q λp r z=>⟨z.1,IsD.mono hp he _ _ z.2⟩⟩
 | dr kvs =>
  obtain⟨xs,e,q⟩:=h
  exact⟨xs,ha.trans e,Paired.mapP q λp r z=>⟨IsD.mono (AH _) he _ _ z.1,IsD.mono hp he _ _ z.2⟩⟩
 | fd kvs =>
  obtain⟨o,xs,e,q⟩:=h
  exact⟨o,xs,ha.trans e,Paired.mapP q λp r z=>⟨IsD.mono (AH _) he _ _ z.1,IsD.mono (AH _) he _ _ z.2⟩⟩
 | dead=>obtain⟨u,e⟩:=h;exact⟨u,ha.trans e⟩
theorem Sim.at (h:Sim K ι H μ) {n:Nat} {o:O} (e:μ[n]? = some o):∃a,ι[n]? = some a/\OIs K ι H a o:=by
 have hn:n<ι.length:=by rw[h.len];exact(AC.mp e).1
 exact⟨ι[n],AA hn,h.obj n _ o (AA hn) e⟩
theorem Sim.used (h:Sim K ι H μ) {n:Nat} {a:Addr} (e:ι[n]? = some a):∃u,H a=some u:=by
 have hn:n<μ.length:=by rw[<-h.len];exact(AC.mp e).1
 exact(h.obj n a _ e (AA hn)).ne
theorem Sim.new (h:Sim K ι H μ) {p:Addr} {o:HO} (hp:H p=none):Sim K ι (upd H p o) μ :=
 ⟨h.len,h.nd,λn a ob e1 e2=>by
  obtain⟨u,hu⟩:=h.used e1
  exact(h.obj n a ob e1 e2).mono (AH _) (.new hp) (ao (bf hu hp))⟩
theorem Sim.push (h:Sim K ι H μ) {p:Addr} {u:HO} {o:O} (hp:H p=none) (ho:OIs K (ι++[p]) (upd H p u) p o):Sim K (ι++[p]) (upd H p u) (μ++[o]):=by
 have hne:∀a∈ι,a≠p:=λa ha z=>by
  obtain⟨n,hn,e⟩:=BZ.mp ha
  obtain⟨u,hu⟩:=h.used (n:=n) (by rw[AA hn,e])
  rw[z,hp]at hu;cases hu
 refine⟨by simp[h.len],?_,λn a ob e1 e2=>?_⟩
 ·refine GM.mpr ⟨h.nd,by simp,?_⟩
  intro a ha b hb
  have:b=p:=by simpa using hb
  subst this
  exact hne a ha
 ·by_cases hn:n<ι.length
  ·rw[AK hn]at e1
   rw[AK (by rw[<-h.len];exact hn)]at e2
   exact(h.obj n a ob e1 e2).mono ⟨[p],rfl⟩ (.new hp) (ao (hne a (BC e1)))
  ·have hm:n=ι.length:=by
    have:=(AC.mp e1).1
    simp at this;lia
   subst hm
   simp at e1
   rw[h.len]at e2
   simp at e2
   subst e1;subst e2
   exact ho
theorem Sim.put (h:Sim K ι H μ) {n:Nat} {p:Addr} {u:HO} {o:O} (hn:ι[n]? = some p) (he:Ext H (upd H p u)) (ho:OIs K ι (upd H p u) p o):Sim K ι (upd H p u) (μ.set n o):=by
 refine⟨by simp[h.len],h.nd,λk a ob e1 e2=>?_⟩
 by_cases hk:n=k
 ·subst hk
  rw[hn]at e1;cases e1
  have:n<μ.length:=by rw[<-h.len];exact(AC.mp hn).1
  rw[AW this]at e2;cases e2
  exact ho
 ·rw[AD hk]at e2
  refine(h.obj k a ob e1 e2).mono (AH _) he (ao λz=>hk ?_)
  subst z
  obtain⟨h1,e1'⟩:=AC.mp e1
  obtain⟨h2,e2'⟩:=AC.mp hn
  exact(ES h.nd).mp (e2'.trans e1'.symm)
end
def du {α β:Type} (K:PySem.W.Frag) (R:List Addr->Hp->α->β->Prop) (ι:List Addr) (H:Hp) (r:Res α) (Q:β->Hp->Prop):Prop:=match r with
 | .ok d μ'=>∀ι' v H',ι <+: ι'->Ext H H'->Sim K ι' H' μ'->R ι' H' d v->Q v H'
 | .exc _ _ _=>False
 | .stuck=>False
abbrev RD (K:PySem.W.Frag):List Addr->Hp->D->V->Prop:=λι H d v=>IsD K ι H d v
abbrev RDs (K:PySem.W.Frag):List Addr->Hp->List D->List V->Prop:=λι H d v=>af K ι H d v
abbrev RB:List Addr->Hp->Bool->Bool->Prop:=λ_ _ d v=>d=v
abbrev RO:List Addr->Hp->Option Int->Option Int->Prop:=λ_ _ d v=>d=v
section
variable {α β γ δ : Type} {K : PySem.W.Frag} {R : List Addr -> Hp -> α -> β -> Prop} {S : List Addr -> Hp -> γ -> δ -> Prop} {ι ι' : List Addr} {H H' : Hp}
theorem du.mono {r:Res α} {Q:β->Hp->Prop} (h:du K R ι H r Q) (hp:ι <+: ι') (he:Ext H H'):du K R ι' H' r Q:=by
 cases r with
 | ok d μ=>exact λι2 v H2 p e s q=>h ι2 v H2 (hp.trans p) (he.trans e) s q
 | exc _ _ _=>exact h
 | stuck=>exact h
theorem du.imp {r:Res α} {Q Q':β->Hp->Prop} (h:du K R ι H r Q) (hq:∀v H',Q v H'->Q' v H'):du K R ι H r Q':=by
 cases r with
 | ok d μ=>exact λι2 v H2 p e s q=>hq _ _ (h ι2 v H2 p e s q)
 | exc _ _ _=>exact h
 | stuck=>exact h
theorem du.ok {d:α} {μ:Sto} {v:β} {Q:β->Hp->Prop} (h:du K R ι H (.ok d μ) Q) (hs:Sim K ι H μ) (hr:R ι H d v):Q v H:=h ι v H (AH _) (.refl _) hs hr
theorem du.bind {x:Res α} {f:α->Sto->Res γ} {Q:δ->Hp->Prop} (h:du K S ι H (x.bind f) Q) :
  ∃d μ1,x=.ok d μ1/\du K S ι H (f d μ1) Q:=by
 cases x with
 | ok d μ=>exact⟨d,μ,rfl,h⟩
 | exc _ _ _=>exact h.elim
 | stuck=>exact h.elim
end
def tE (K:PySem.W.Frag) (φ:Phi) (x:Ex):TE:=λσv H Q=>∃ι σ μ,Sim K ι H μ/\l5 K ι H σ σv/\du K (RD K) ι H (evE φ x σ μ) Q
def tEs (K:PySem.W.Frag) (φ:Phi) (x:Exs):TA:=λσv H Q=>∃ι σ μ,Sim K ι H μ/\l5 K ι H σ σv/\du K (RDs K) ι H (eh φ x σ μ) Q
def tEo (K:PySem.W.Frag) (φ:Phi) (x:ExO):TO:=λσv H Q=>∃ι σ μ,Sim K ι H μ/\l5 K ι H σ σv/\du K RO ι H (evO φ x σ μ) Q
def tT (K:PySem.W.Frag) (φ:Phi) (x:Ex):TT:=λσv H Q=>∃ι σ μ,Sim K ι H μ/\l5 K ι H σ σv/\du K RB ι H ((evE φ x σ μ).bind λd μ=>zz d μ) Q
theorem PE.imp {X:Cx} {e:Expr} {t t':TE} (h:PE X e t) (i:∀σ H Q,t' σ H Q->t σ H Q):PE X e t':=λpins s σ H Q I q=>h pins s σ H Q I (i σ H Q q)
theorem PA.imp {X:Cx} {e:List Expr} {t t':TA} (h:PA X e t) (i:∀σ H Q,t' σ H Q->t σ H Q):PA X e t':=λpos pins s σ H Q I q=>h pos pins s σ H Q I (i σ H Q q)
theorem PT.imp {X:Cx} {e:Expr} {t t':TT} (h:PT X e t) (i:∀σ H Q,t' σ H Q->t σ H Q):PT X e t':=λpins s σ H Q I q=>h pins s σ H Q I (i σ H Q q)
theorem PW.imp {X:Cx} {e:Expr} {t t':TT} (h:PW X e t) (i:∀σ H Q,t' σ H Q->t σ H Q):PW X e t':=λwh pins s σ H Q I q=>h wh pins s σ H Q I (i σ H Q q)
section
variable {X : Cx} {φ : Phi} {a b c : Expr} {xa xb xc : Ex} {pos : Pos}
theorem Xp {i:Nat} {x:Str} (hN:X.N[i]? = some x) (hv:Vis X.env.scope x) (hd:(x==("__debug__":Str))=false) (hcd:(x==("__classdict__":Str))=false):PE X (.Name x pos) (tE X.K φ (.var i)) :=
 PE.imp (Bf hN hv hd hcd) λσv H Q ⟨ι,σ,μ,hS,hL,h⟩=>by
  simp![evE]at h
  split at h
  ·rename_i d e
   obtain⟨v,e1,e2⟩:=hL i d e
   exact⟨v,e1,h.ok hS e2⟩
  ·exact h.elim
theorem Xq {i:Int} {j:Nat}:PE X (.Constant (.int i) j pos) (tE X.K φ (.cst (.int i))) :=
 PE.imp Lx λσv H Q ⟨ι,σ,μ,hS,hL,h⟩=>by simp![evE]at h;exact h.ok hS (by simp[IsD])
theorem aa7 {i:Bool} {j:Nat}:PE X (.Constant (.bool i) j pos) (tE X.K φ (.cst (.bl i))) :=
 PE.imp Wt λσv H Q ⟨ι,σ,μ,hS,hL,h⟩=>by simp![evE]at h;exact h.ok hS (by simp[IsD])
theorem Xr {j:Nat}:PE X (.Constant .none j pos) (tE X.K φ (.cst .non)) :=
 PE.imp Rq λσv H Q ⟨ι,σ,μ,hS,hL,h⟩=>by simp![evE]at h;exact h.ok hS (by simp[IsD])
theorem two {σv:St} {H:Hp} {ι:List Addr} {σ:Sl} {μ:Sto} {f:D->D->Sto->Res D} {Q:VK} {R:V->V->Hp->Prop} (hS:Sim X.K ι H μ) (hL:l5 X.K ι H σ σv)
  (h:du X.K (RD X.K) ι H ((evE φ xa σ μ).bind λx μ=>(evE φ xb σ μ).bind λy μ=>f x y μ) Q)
  (k:∀ι' H' d e x y μ',Sim X.K ι' H' μ'->IsD X.K ι' H' d x->IsD X.K ι' H' e y->du X.K (RD X.K) ι' H' (f d e μ') Q->R x y H') :
  tE X.K φ xa σv H λx H1=>tE X.K φ xb σv H1 λy H2=>R x y H2:=by
 obtain⟨d,μ1,e1,h⟩:=h.bind
 refine⟨ι,σ,μ,hS,hL,?_⟩
 rw[e1]
 intro ι1 x H1 p1 x1 s1 d1
 obtain⟨e,μ2,e2,h⟩:=h.bind
 refine⟨ι1,σ,μ1,s1,hL.mono p1 x1,?_⟩
 rw[e2]
 intro ι2 y H2 p2 x2 s2 d2
 exact k ι2 H2 d e x y μ2 s2 (IsD.mono p2 x2 d x d1) d2 (h.mono (p1.trans p2) (x1.trans x2))
def rOp (K:PySem.W.Frag) (f:D->D->Sto->Res D):R2:=λx y H Q=>∃ι d e μ,Sim K ι H μ/\IsD K ι H d x/\IsD K ι H e y/\du K (RD K) ι H (f d e μ) Q
theorem Xs {op:Operator} {m:Mk} (ho:OpR X (binaryOp op) (rOp X.K (opD op m))) (ha:PE X a (tE X.K φ xa)) (hb:PE X b (tE X.K φ xb)):PE X (.BinOp a op b pos) (tE X.K φ (.bin op m xa xb)) :=
 PE.imp (W2 ho ha hb) λσv H Q ⟨ι,σ,μ,hS,hL,h⟩=>by
  simp![evE]at h
  exact two hS hL h λι' H' d e x y μ' s d1 d2 p=>⟨ι',d,e,μ',s,d1,d2,p⟩
theorem aa8 (ho:IxR X (rOp X.K ixD)) (ha:PE X a (tE X.K φ xa)) (hb:PE X b (tE X.K φ xb)) (hs:uw b):PE X (.Subscript a b pos) (tE X.K φ (.ix xa xb)) :=
 PE.imp (Ss ho ha hb hs) λσv H Q ⟨ι,σ,μ,hS,hL,h⟩=>by
  simp![evE]at h
  exact two hS hL h λι' H' d e x y μ' s d1 d2 p=>⟨ι',d,e,μ',s,d1,d2,p⟩
theorem Ka:PA X [] (tEs X.K φ .nil) :=
 PA.imp Si λσv H Q ⟨ι,σ,μ,hS,hL,h⟩=>by simp![eh]at h;exact h.ok hS (by simp[af])
theorem yh {es:List Expr} {xs:Exs} (ha:PE X a (tE X.K φ xa)) (hb:PA X es (tEs X.K φ xs)) (hs:starEach (a::es) X.env=(false,eval a X.env)::starEach es X.env):PA X (a::es) (tEs X.K φ (.cons xa xs)) :=
 PA.imp (Oi ha hb hs) λσv H Q ⟨ι,σ,μ,hS,hL,h⟩=>by
  simp![eh]at h
  obtain⟨d,μ1,e1,h⟩:=h.bind
  refine⟨ι,σ,μ,hS,hL,?_⟩
  rw[e1]
  intro ι1 x H1 p1 x1 s1 d1
  obtain⟨e,μ2,e2,h⟩:=h.bind
  refine⟨ι1,σ,μ1,s1,hL.mono p1 x1,?_⟩
  rw[e2]
  intro ι2 y H2 p2 x2 s2 d2
  refine h ι2 (x::y) H2 (p1.trans p2) (x1.trans x2) s2 ?_
  show af _ _ _ _ _
  simp![af]
  exact⟨x,y,rfl,IsD.mono p2 x2 d x d1,d2⟩
theorem Xt {es:List Expr} {xs:Exs} {k:Nat} (h:PA X es (tEs X.K φ xs)) (hl:∀σ μ ds μ',eh φ xs σ μ=.ok ds μ'->ds.length<=sizeLine):PE X (.Tuple es k pos) (tE X.K φ (.tup xs)) :=
 PE.imp (Sj h) λσv H Q ⟨ι,σ,μ,hS,hL,h⟩=>by
  simp![evE]at h
  obtain⟨ds,μ1,e1,h⟩:=h.bind
  refine⟨ι,σ,μ,hS,hL,?_⟩
  rw[e1]
  intro ι1 vs H1 p1 x1 s1 d1
  have hd:af X.K ι1 H1 ds vs:=d1
  refine⟨by rw[hd.length];exact hl σ μ ds μ1 e1,λp hp=>?_⟩
  refine h ι1 (.ref p) (upd H1 p (.tup vs)) p1 (x1.trans (.new hp)) (s1.new hp) ?_
  show IsD _ _ _ _ _
  simp![IsD]
  exact⟨p,vs,rfl,.of aq,af.mono (AH _) (.new hp) ds vs d1⟩
theorem Xu {x:Ex} {σv:St} {H:Hp} {Q:Bool->Hp->Prop} (h:tT X.K φ x σv H Q):tE X.K φ x σv H λv H'=>∃k,v=.bl k/\Q k H':=by
 obtain⟨ι,σ,μ,hS,hL,h⟩:=h
 obtain⟨d,μ1,e1,h⟩:=h.bind
 refine⟨ι,σ,μ,hS,hL,?_⟩
 rw[e1]
 intro ι1 x H1 p1 x1 s1 d1
 cases d with
 | bl k=>exact⟨k,by simpa[IsD]using d1,h ι1 k H1 p1 x1 s1 rfl⟩
 | _=>exact h.elim
theorem Pc {x:Ex} (ha:PE X a (tE X.K φ x)) (he:∀whole,isTrue a X.env whole=(do let v <-whole;standAt a.pos;holding [v] (truthy v))):PT X a (tT X.K φ x) :=
 PT.imp (Bg ha he) λσv H Q h=>by
  have q:=Xu h
  obtain⟨ι,σ,μ,hS,hL,q⟩:=q
  exact⟨ι,σ,μ,hS,hL,q.imp λv H' ⟨k,e,z⟩=>⟨k,by subst e;exact rfl,z⟩⟩
theorem Tp (ha:PT X a (tT X.K φ xa)):PT X (.UnaryOp .Not a pos) (tT X.K φ (.not xa)) :=
 PT.imp (Rt ha) λσv H Q ⟨ι,σ,μ,hS,hL,h⟩=>by
  simp![evE]at h
  rw[Res.bind_assoc]at h
  obtain⟨d,μ1,e1,h⟩:=h.bind
  refine⟨ι,σ,μ,hS,hL,?_⟩
  rw[e1]
  cases d with
  | bl k=>exact λι1 x H1 p1 x1 s1 d1=>h ι1 (!x) H1 p1 x1 s1 (by cases d1;rfl)
  | _=>exact h.elim
theorem Tq (ha:PE X a (tE X.K φ xa)):PE X (.UnaryOp .Not a pos) (tE X.K φ (.not xa)) :=
 PE.imp (Ru ha) λσv H Q ⟨ι,σ,μ,hS,hL,h⟩=>by
  simp![evE]at h
  obtain⟨d,μ1,e1,h⟩:=h.bind
  refine⟨ι,σ,μ,hS,hL,?_⟩
  rw[e1]
  intro ι1 x H1 p1 x1 s1 d1
  cases d with
  | bl k=>exact⟨k,by simpa[IsD]using d1,h ι1 (.bl !k) H1 p1 x1 s1 (by simp[IsD])⟩
  | _=>exact h.elim
theorem Xv (ha:PE X a (tE X.K φ xa)):PE X (.UnaryOp .USub a pos) (tE X.K φ (.neg xa)) :=
 PE.imp (W3 Sb ha) λσv H Q ⟨ι,σ,μ,hS,hL,h⟩=>by
  simp![evE]at h
  obtain⟨d,μ1,e1,h⟩:=h.bind
  refine⟨ι,σ,μ,hS,hL,?_⟩
  rw[e1]
  intro ι1 x H1 p1 x1 s1 d1
  cases d with
  | int k=>exact⟨k,by simpa[IsD]using d1,h ι1 (.int (-k)) H1 p1 x1 s1 (by simp[IsD])⟩
  | _=>exact h.elim
theorem Tr {rest:List Expr} (ha:PT X a (tT X.K φ xa)) (hb:PW X (.BoolOp .And (b::rest) pos) (tT X.K φ xb)):PW X (.BoolOp .And (a::b::rest) pos) (tT X.K φ (.and xa xb)) :=
 PW.imp (Rr ha hb) λσv H Q ⟨ι,σ,μ,hS,hL,h⟩=>by
  simp![evE]at h
  rw[Res.bind_assoc]at h
  obtain⟨d,μ1,e1,h⟩:=h.bind
  refine⟨ι,σ,μ,hS,hL,?_⟩
  rw[e1]
  cases d with
  | bl k =>
   intro ι1 x H1 p1 x1 s1 d1
   cases d1
   cases k with
   | true=>exact⟨ι1,σ,μ1,s1,hL.mono p1 x1,(show du _ _ _ _ ((evE φ xb σ μ1).bind _) _ from h).mono p1 x1⟩
   | false=>exact h ι1 false H1 p1 x1 s1 rfl
  | _=>exact h.elim
theorem Xw (hc:PT X c (tT X.K φ xc)) (ha:PE X a (tE X.K φ xa)) (hb:PE X b (tE X.K φ xb)):PE X (.IfExp c a b pos) (tE X.K φ (.ite xc xa xb)) :=
 PE.imp (Jq hc ha hb) λσv H Q ⟨ι,σ,μ,hS,hL,h⟩=>by
  simp![evE]at h
  obtain⟨d,μ1,e1,h⟩:=h.bind
  refine⟨ι,σ,μ,hS,hL,?_⟩
  rw[e1]
  cases d with
  | bl k =>
   intro ι1 x H1 p1 x1 s1 d1
   cases d1
   cases k with
   | true=>exact⟨ι1,σ,μ1,s1,hL.mono p1 x1,(show du _ _ _ _ (evE φ xa σ μ1) _ from h).mono p1 x1⟩
   | false=>exact⟨ι1,σ,μ1,s1,hL.mono p1 x1,(show du _ _ _ _ (evE φ xb σ μ1) _ from h).mono p1 x1⟩
  | _=>exact h.elim
end
def f9 (K:PySem.W.Frag) (ι:List Addr) (H:Hp) (r:Res Fl) (E:Ends):Prop:=match r with
 | .ok (.nx σ') μ'=>∀ι' σv H',ι <+: ι'->Ext H H'->Sim K ι' H' μ'->l5 K ι' H' σ' σv->σ'.length=σv.length->E.nx σv H'
 | .ok (.bk σ') μ'=>∀ι' σv H',ι <+: ι'->Ext H H'->Sim K ι' H' μ'->l5 K ι' H' σ' σv->σ'.length=σv.length->E.bk σv H'
 | .ok (.ct σ') μ'=>∀ι' σv H',ι <+: ι'->Ext H H'->Sim K ι' H' μ'->l5 K ι' H' σ' σv->σ'.length=σv.length->E.ct σv H'
 | .ok (.rt d) μ'=>∀ι' v H',ι <+: ι'->Ext H H'->Sim K ι' H' μ'->IsD K ι' H' d v->E.rt v H'
 | .exc _ _ _=>False
 | .stuck=>False
theorem f9.mono {K:PySem.W.Frag} {ι ι':List Addr} {H H':Hp} {r:Res Fl} {E:Ends} (h:f9 K ι H r E) (hp:ι <+: ι') (he:Ext H H'):f9 K ι' H' r E:=by
 cases r with
 | ok f μ=>cases f<;>exact λι2 v H2 p e=>h ι2 v H2 (hp.trans p) (he.trans e)
 | exc _ _ _=>exact h
 | stuck=>exact h
theorem f9.bind {α:Type} {K:PySem.W.Frag} {ι:List Addr} {H:Hp} {E:Ends} {x:Res α} {f:α->Sto->Res Fl} (h:f9 K ι H (x.bind f) E):∃d μ1,x=.ok d μ1/\f9 K ι H (f d μ1) E:=by
 cases x with
 | ok d μ=>exact⟨d,μ,rfl,h⟩
 | exc _ _ _=>exact h.elim
 | stuck=>exact h.elim
def tS (K:PySem.W.Frag) (φ:Phi) (x:Sm):TS:=λE σv H=>∃ι σ μ,Sim K ι H μ/\l5 K ι H σ σv/\σ.length=σv.length/\f9 K ι H (evS φ x σ μ) E
def tSs (K:PySem.W.Frag) (φ:Phi) (x:Sms):TS:=λE σv H=>∃ι σ μ,Sim K ι H μ/\l5 K ι H σ σv/\σ.length=σv.length/\f9 K ι H (jy φ x σ μ) E
theorem PS.imp {X:Cx} {e:Stmt} {t t':TS} (h:PS X e t) (i:∀E σ H,t' E σ H->t E σ H):PS X e t':=λpins s σ H E I q=>h pins s σ H E I (i E σ H q)
theorem PSs.imp {X:Cx} {e:List Stmt} {t t':TS} (h:PSs X e t) (i:∀E σ H,t' E σ H->t E σ H):PSs X e t':=λpins s σ H E I q=>h pins s σ H E I (i E σ H q)
section
variable {X : Cx} {φ : Phi} {e : Expr} {x : Ex} {pos : Pos} {s : Stmt} {ss : List Stmt} {xs : Sm} {xss : Sms}
theorem Xx:PSs X [] (tSs X.K φ .nil) :=
 PSs.imp N8 λE σv H ⟨ι,σ,μ,hS,hL,hl,h⟩=>by
  simp![jy]at h
  exact h ι σv H (AH _) (.refl _) hS hL hl
theorem Ts (h1:PS X s (tS X.K φ xs)) (h2:PSs X ss (tSs X.K φ xss)):PSs X (s::ss) (tSs X.K φ (.cons xs xss)) :=
 PSs.imp (Jr h1 h2) λE σv H ⟨ι,σ,μ,hS,hL,hl,h⟩=>by
  simp![jy]at h
  refine⟨ι,σ,μ,hS,hL,hl,?_⟩
  obtain⟨f,μ1,e1,h⟩:=h.bind
  rw[e1]
  cases f with
  | nx σ'=>exact λι1 σ1 H1 p1 x1 s1 l1 z1=>⟨ι1,σ',μ1,s1,l1,z1,(show f9 _ _ _ (jy φ xss σ' μ1) _ from h).mono p1 x1⟩
  | rt d=>exact h
  | bk σ'=>exact h
  | ct σ'=>exact h
theorem Tt (he:PE X e (tE X.K φ x)) (hs:swapsWith e none pos.line X.env=pure false):PS X (.Expr e pos) (tS X.K φ (.ex x)) :=
 PS.imp (N9 he hs) λE σv H ⟨ι,σ,μ,hS,hL,hl,h⟩=>by
  simp![evS]at h
  obtain⟨d,μ1,e1,h⟩:=h.bind
  refine⟨ι,σ,μ,hS,hL,?_⟩
  rw[e1]
  exact λι1 v H1 p1 x1 s1 d1=>h ι1 σv H1 p1 x1 s1 (hL.mono p1 x1) hl
theorem Xy (he:PE X e (tE X.K φ x)):PS X (.Return (some e) pos) (tS X.K φ (.ret x)) :=
 PS.imp (Rv he) λE σv H ⟨ι,σ,μ,hS,hL,hl,h⟩=>by
  simp![evS]at h
  obtain⟨d,μ1,e1,h⟩:=h.bind
  refine⟨ι,σ,μ,hS,hL,?_⟩
  rw[e1]
  exact h
theorem aa9 {c:Expr} {xc:Ex} {a b:List Stmt} {xa xb:Sms} (hc:PT X c (tT X.K φ xc)) (ha:PSs X a (tSs X.K φ xa)) (hb:PSs X b (tSs X.K φ xb)):PS X (.If c a b pos) (tS X.K φ (.ite xc xa xb)) :=
 PS.imp (Ww hc ha hb) λE σv H ⟨ι,σ,μ,hS,hL,hl,h⟩=>by
  simp![evS]at h
  obtain⟨d,μ1,e1,h⟩:=h.bind
  refine⟨ι,σ,μ,hS,hL,?_⟩
  rw[e1]
  cases d with
  | bl k =>
   intro ι1 x H1 p1 x1 s1 d1
   cases d1
   cases k with
   | true=>exact⟨ι1,σ,μ1,s1,hL.mono p1 x1,hl,(show f9 _ _ _ (jy φ xa σ μ1) _ from h).mono p1 x1⟩
   | false=>exact⟨ι1,σ,μ1,s1,hL.mono p1 x1,hl,(show f9 _ _ _ (jy φ xb σ μ1) _ from h).mono p1 x1⟩
  | _=>exact h.elim
def slots:Tg->List Nat
 | .one i=>[i]
 | .many is=>is
def tG (K:PySem.W.Frag) (tg:Tg):TG:=λv σv H Q=>∃ι σ d σ',l5 K ι H σ σv/\σ.length=σv.length/\IsD K ι H d v/\f6 tg d σ=some σ' /\
 ∀σv',l5 K ι H σ' σv'->σ'.length=σv'.length->σv'.length=σv.length->(∀j,j∉slots tg->σv'[j]? = σv[j]?)->Q σv' H
theorem PG.imp {e:Expr} {t t':TG} (h:PG X e t) (i:∀v σ H Q,t' v σ H Q->t v σ H Q):PG X e t':=by
 intro pins s σ H x u Q I r q
 exact h pins s σ H x u Q I r (i _ _ _ _ q)
theorem Tu {i:Nat} {y:Str} (hN:X.N.Nodup) (hi:X.N[i]? = some y) (hx:Loc X.env.scope y) (hf:X.fn y=true\/X.env.scope.names.lookup y=some .local):PG X (.Name y pos) (tG X.K (.one i)) :=
 PG.imp (Ej hN hi hx hf) λv σv H Q ⟨ι,σ,d,σ',hL,hl,hd,hb,q⟩=>by
  simp![f6,BP]at hb
  subst hb
  exact q _ (hL.set hl hd) (by simp[hl]) (by simp) λj hj=>AD (λz=>hj (by simp[slots,z]))
def tGs (K:PySem.W.Frag) (is:List Nat):TGs:=λvs σv H Q=>∃ι σ ds,l5 K ι H σ σv/\σ.length=σv.length/\af K ι H ds vs/\ds.length=is.length /\
 ∀σv',l5 K ι H ((is.zip ds).foldl (λs p=>s.set p.1 (some p.2)) σ) σv'->((is.zip ds).foldl (λs p=>s.set p.1 (some p.2)) σ).length=σv'.length->σv'.length=σv.length->(∀j,j∉is->σv'[j]? = σv[j]?)->Q σv' H
theorem PGs.imp {es:List Expr} {t t':TGs} (h:PGs X es t) (i:∀v σ H Q,t' v σ H Q->t v σ H Q):PGs X es t':=by
 intro pins s σ H vs us Q I r q
 exact h pins s σ H vs us Q I r (i _ _ _ _ q)
theorem Tv:PGs X [] (tGs X.K []) :=
 PGs.imp Ob λvs σv H Q ⟨ι,σ,ds,hL,hl,hd,hn,q⟩=>by
  have e:ds=[]:=List.length_eq_zero_iff.mp hn
  subst e
  exact⟨by simpa[af]using hd,q σv (by simpa using hL) (by simpa using hl) rfl λ_ _=>rfl⟩
theorem Pd {i:Nat} {is:List Nat} {es:List Expr} (h1:PG X e (Oa i)) (h2:PGs X es (tGs X.K is)) (hs:(assignEach (e::es) X.env).map (·.2)=assign e X.env::(assignEach es X.env).map (·.2)):PGs X (e::es) (tGs X.K (i::is)) :=
 PGs.imp (Js h1 h2 hs) λvs σv H Q ⟨ι,σ,ds,hL,hl,hd,hn,q⟩=>by
  cases ds with
  | nil=>simp at hn
  | cons d ds =>
   simp![af]at hd
   obtain⟨v,r,e,hd1,hd2⟩:=hd
   refine⟨v,r,e,ι,σ.set i (some d),ds,hL.set hl hd1,by simp[hl],hd2,by simpa using hn,λσv' l z z2 ks=>q σv' (by simpa using l) (by simpa using z) (by simpa using z2) λj hj=>?_⟩
   have hj':j≠i/\j∉is:=by simpa using hj
   rw[ks j hj'.2,AD (Ne.symm hj'.1)]
theorem Xz {is:List Nat} {es:List Expr} {k:Nat} (hc:X.calm=true) (h:PGs X es (tGs X.K is)) (hn:(assignEach es X.env).length=is.length) (hst:(assignEach es X.env).findIdx? (·.1)=none) :
  PG X (.Tuple es k pos) (tG X.K (.many is)) :=
 PG.imp (Rx hc h hn hst) λv σv H Q ⟨ι,σ,d,σ',hL,hl,hd,hb,q⟩=>by
  cases d with
  | tup ds =>
   simp![f6]at hb
   split at hb
   ·rename_i hlen
    cases hb
    simp![IsD]at hd
    obtain⟨a,xs,e,hq,hds⟩:=hd
    exact⟨a,xs,e,hq,hds.length.trans hlen,ι,σ,ds,hL,hl,hds,hlen,q⟩
   ·cases hb
  | _=>simp[f6]at hb
theorem X0 {i:Nat} {y:Str} {pos':Pos} (hN:X.N.Nodup) (hi:X.N[i]? = some y) (hx:Loc X.env.scope y) (hf:X.fn y=true\/X.env.scope.names.lookup y=some .local) (he:PE X e (tE X.K φ x)) (hs:swapsWith e (some (.Name y pos')) pos.line X.env=pure false) :
  PS X (.Assign [.Name y pos'] e pos) (tS X.K φ (.set i x)) :=
 PS.imp (Rz hN hi hx he hs hf) λE σv H ⟨ι,σ,μ,hS,hL,hl,h⟩=>by
  simp![evS]at h
  obtain⟨d,μ1,e1,h⟩:=h.bind
  refine⟨ι,σ,μ,hS,hL,?_⟩
  rw[e1]
  exact λι1 v H1 p1 x1 s1 d1=>h ι1 _ H1 p1 x1 s1 ((hL.mono p1 x1).set hl d1) (by simp[hl])
theorem X9 {is:List Nat} {tg:Expr} (hg:PG X tg (tG X.K (.many is))) (he:PE X e (tE X.K φ x)) (hs:swapsWithSole [tg] e pos.line X.env=pure false) (hw:swappedStores [tg] e X.env=pure none)
  (h1:(assignEach [tg] X.env).map (·.2)=[assign tg X.env]):PS X (.Assign [tg] e pos) (tS X.K φ (.unp is x)) :=
 PS.imp (Ly he hg hs hw h1) λE σv H ⟨ι,σ,μ,hS,hL,hl,h⟩=>by
  simp![evS]at h
  obtain⟨d,μ1,e1,h⟩:=h.bind
  refine⟨ι,σ,μ,hS,hL,?_⟩
  rw[e1]
  intro ι1 v H1 p1 x1 s1 d1
  split at h
  ·rename_i σ' eb
   exact⟨ι1,σ,d,σ',hL.mono p1 x1,hl,d1,eb,λσv' l z _ _=>h ι1 σv' H1 p1 x1 s1 l z⟩
  ·exact h.elim
def Zl (K:PySem.W.Frag):TSet:=λo i v H Q=>∃ι a b d μ,Sim K ι H μ/\IsD K ι H a o/\IsD K ι H b i/\IsD K ι H d v/\du K (λ_ _ _ (_:Unit)=>True) ι H (zy a b d μ) λ_ H'=>Q H'
theorem Tw {o i:Expr} {xo xi:Ex} {tp:Pos} (hset:Rw X (Zl X.K)) (ho:PE X o (tE X.K φ xo)) (hi:PE X i (tE X.K φ xi)) (he:PE X e (tE X.K φ x))
  (ha:∀v,assign (.Subscript o i tp) X.env v=(do
   let ov <-holding [v] (eval o X.env)
   let iv <-holding [v,ov] (eval i X.env)
   standAt tp
   holding [v,ov,iv] (setItem ov iv v)
   release [v,ov,iv] [])) (hs:swapsWithSole [.Subscript o i tp] e pos.line X.env=pure false) (hw:swappedStores [.Subscript o i tp] e X.env=pure none)
  (h1:(assignEach [.Subscript o i tp] X.env).map (·.2)=[assign (.Subscript o i tp) X.env]):PS X (.Assign [.Subscript o i tp] e pos) (tS X.K φ (.setx xo xi x)) :=
 PS.imp (Ly he (Ry ho hi hset ha) hs hw h1) λE σv H ⟨ι,σ,μ,hS,hL,hl,h⟩=>by
  simp![evS]at h
  obtain⟨d,μ1,e1,h⟩:=h.bind
  refine⟨ι,σ,μ,hS,hL,?_⟩
  rw[e1]
  intro ι1 v H1 p1 x1 s1 d1
  obtain⟨a,μ2,e2,h⟩:=h.bind
  refine⟨ι1,σ,μ1,s1,hL.mono p1 x1,?_⟩
  rw[e2]
  intro ι2 va H2 p2 x2 s2 d2
  obtain⟨b,μ3,e3,h⟩:=h.bind
  refine⟨ι2,σ,μ2,s2,(hL.mono p1 x1).mono p2 x2,?_⟩
  rw[e3]
  intro ι3 vb H3 p3 x3 s3 d3
  obtain⟨_,μ4,e4,h⟩:=h.bind
  refine⟨ι3,a,b,d,μ3,s3,IsD.mono p3 x3 _ _ d2,d3,IsD.mono p3 x3 _ _ (IsD.mono p2 x2 _ _ d1),?_⟩
  rw[e4]
  exact λι4 _ H4 p4 x4 s4 _=>h ι4 σv H4 (((p1.trans p2).trans p3).trans p4) (((x1.trans x2).trans x3).trans x4) s4 ((((hL.mono p1 x1).mono p2 x2).mono p3 x3).mono p4 x4) hl
structure Walk (K:PySem.W.Frag) (ι0:List Addr) (H0:Hp) (J:L2.It) (ds:List D) (g:Gd):Prop where
 len:ds.length<=sizeLine
 go:∀(i:Nat) ι H μ,ι0 <+: ι->Ext H0 H->Sim K ι H μ->gd g μ->i<ds.length->J.go i H
 yld:∀(i:Nat) ι H μ x H',ι0 <+: ι->Ext H0 H->Sim K ι H μ->gd g μ->i<ds.length->J.yld i H x H'->Ext H H'/\Sim K ι H' μ/\∃d,ds[i]? = some d/\IsD K ι H' d x
 stop:∀ι H μ,ι0 <+: ι->Ext H0 H->Sim K ι H μ->gd g μ->J.stop ds.length H
def tI (K:PySem.W.Frag) (φ:Phi) (it:It):TI:=λσv H R=>∃ι σ μ,Sim K ι H μ/\l5 K ι H σ σv /\
 match evI φ it σ μ with
 | .ok (ds,g) μ'=>∀ι' H' J,ι <+: ι'->Ext H H'->Sim K ι' H' μ'->Walk K ι' H' J ds g->R J H'
 | _=>False
theorem PI.imp {tg it:Expr} {t t':TI} (h:PI X tg it t) (i:∀σ H R,t' σ H R->t σ H R):PI X tg it t':=λpins s σ H R I q=>h pins s σ H R I (i _ _ _ q)
theorem Ya {tg it:Expr} {body:List Stmt} {xt:Tg} {xi:It} {xb:Sms} (hp:PassesOwn (model X.prog X.w) X.A X.env X.xe) (hc:X.calm=true) (hi:PI X tg it (tI X.K φ xi)) (hg:PG X tg (tG X.K xt)) (hb:PSs X body (tSs X.K φ xb))
  (hs:∀x,foldedSetIterable it X.env x=pure x):PS X (.For tg it body [] pos) (tS X.K φ (.loop xt xi xb)) :=
 PS.imp (R8 hp hc hi hg hb hs) λE σv H ⟨ι,σ,μ,hS,hL,hl,h⟩=>by
  simp![evS]at h
  obtain⟨⟨ds,g⟩,μ1,e1,h⟩:=h.bind
  refine⟨ι,σ,μ,hS,hL,?_⟩
  rw[e1]
  intro ι1 H1 J p1 x1 s1 wk
  refine⟨λi m σv' H'=>m=ds.length-i/\i<=ds.length/\∃ι' σ' μ',ι1 <+: ι'/\Ext H1 H'/\Sim X.K ι' H' μ'/\l5 X.K ι' H' σ' σv'/\σ'.length=σv'.length /\
   f9 X.K ι' H' (iq g (λd σ μ=>jx (f6 xt d σ) λσ'=>jy φ xb σ' μ) (ds.drop i) σ' μ') E,⟨ds.length,by simp,If _,ι1,σ,μ1,AH _,.refl _,s1,hL.mono p1 x1,hl,?_⟩,?_⟩
  ·simpa using(show f9 _ _ _ (iq g _ ds σ μ1) _ from h).mono p1 x1
  ·rintro i m σv' H' ⟨rfl,hi,ι',σ',μ',p',x',s',l',z',h'⟩
   by_cases hlt:i<ds.length
   ·obtain⟨d,ed⟩:∃d,ds[i]? = some d:=⟨ds[i],AA hlt⟩
    have edrop:ds.drop i=d::ds.drop (i+1):=by
     rw[EA hlt]
     rw[AA hlt]at ed
     cases ed;rfl
    rw[edrop]at h'
    simp![iq]at h'
    split at h'
    ·rename_i hgd
     right
     refine⟨wk.go i ι' H' μ' p' x' s' hgd hlt,?_⟩
     obtain⟨fl,μ2,e2,h2⟩:=h'.bind
     refine⟨λσ2 H2=>ds.length-(i+1)<ds.length-i/\∃ι2 σs,ι1 <+: ι2/\Ext H1 H2/\Sim X.K ι2 H2 μ2/\l5 X.K ι2 H2 σs σ2/\σs.length=σ2.length /\
      f9 X.K ι2 H2 (iq g (λd σ μ=>jx (f6 xt d σ) λσ'=>jy φ xb σ' μ) (ds.drop (i+1)) σs μ2) E,?_,?_⟩
     ·rintro σ2 H2 ⟨_,ι2,σs,q1,q2,q3,q4,q5,q6⟩
      exact⟨ds.length-(i+1),by lia,rfl,hlt,ι2,σs,μ2,q1,q2,q3,q4,q5,q6⟩
     ·intro v H2 hy
      obtain⟨x2,s2,d',ed',hd'⟩:=wk.yld i ι' H' μ' v H2 p' x' s' hgd hlt hy
      rw[ed]at ed';cases ed'
      cases eb:f6 xt d σ' with
      | none=>rw[eb]at e2;cases e2
      | some σb =>
       rw[eb]at e2
       refine⟨ι',σ',d,σb,l'.mono (AH _) x2,z',hd',eb,λσv2 l2 z2 _ _=>⟨ι',σb,μ',s2,l2,z2,?_⟩⟩
       have e2':jy φ xb σb μ'=.ok fl μ2:=e2
       rw[e2']
       cases fl with
       | nx σ3=>exact λι3 σv3 H3 p3 x3 s3 l3 z3=>⟨by lia,ι3,σ3,p'.trans p3,(x'.trans x2).trans x3,s3,l3,z3,(show f9 _ _ _ (iq g _ (ds.drop (i+1)) σ3 μ2) _ from h2).mono p3 (x2.trans x3)⟩
       | ct σ3=>exact λι3 σv3 H3 p3 x3 s3 l3 z3=>⟨by lia,ι3,σ3,p'.trans p3,(x'.trans x2).trans x3,s3,l3,z3,(show f9 _ _ _ (iq g _ (ds.drop (i+1)) σ3 μ2) _ from h2).mono p3 (x2.trans x3)⟩
       | bk σ3=>exact(show f9 _ _ _ (.ok (.nx σ3) μ2) _ from h2).mono (AH _) x2
       | rt w=>exact(show f9 _ _ _ (.ok (.rt w) μ2) _ from h2).mono (AH _) x2
    ·exact h'.elim
   ·have ei:i=ds.length:=by lia
    subst ei
    simp![List.drop_length,iq]at h'
    split at h'
    ·rename_i hgd
     exact .inl ⟨wk.stop ι' H' μ' p' x' s' hgd,h' ι' σv' H' (AH _) (.refl _) s' l' z'⟩
    ·exact h'.elim
end
theorem fg:lim=sizeLine:=by rw[L9];rfl
section
variable {X : Cx} {pins : List (Addr × Obj)} {σ : St} {H : Hp} {s : Shared} {φ : Phi}
theorem _root_.L2.Inv.freeze {p:Addr} {xs:List V} (I:Inv X pins σ H s) (h:H p=some (.lst xs)):∃o,Inv X pins σ (upd H p (.frz o (.lst xs))) s:=by
 have hp:=I.hok p _ h
 obtain⟨hz,its,n,hv,hget⟩:=id hp
 refine⟨{cls:=.type "list",data:=.seq its.toArray n},I.ok,I.os,I.bare,⟨I.base.keep,I.base.slot,λb o e hn hx=>?_,I.base.there,λb ys e=>?_,λb o u e=>?_,λb ps e=>?_⟩,I.loc,I.cell,?_,λx c e=>?_,λq hq=>?_,λb u e=>?_,I.len⟩
 ·have q:=I.base.free b o e hn hx
  rw[ao (λz=>by subst z;rw[h]at q;cases q)]
  exact q
 ·have q:=I.base.tups b ys e
  rw[ao (jw q h (by intro z;cases z))];exact q
 ·have q:=I.base.frzs b o u e
  rw[ao (jw q h (by intro z;cases z))];exact q
 ·obtain⟨more,q⟩:=I.base.tbls b ps e
  exact⟨more,by rw[ao (jw q h (by intro z;cases z))];exact q⟩
 ·rw[ao (λz=>by rw[<-z,I.free]at h;cases h)];exact I.free
 ·rw[ao (λz=>by rw[<-z,I.freeC x c e]at h;cases h)];exact I.freeC x c e
 ·obtain⟨e1,e2,e3⟩:=I.pin q hq
  refine⟨e1,?_,e3⟩
  rw[ao (λz=>by rw[<-z,e2]at h;cases h)];exact e2
 ·by_cases hb:b=p
  ·subst hb
   rw[aq]at e;cases e
   exact⟨hget,hz,its,n,hv,hget⟩
  ·rw[ao hb]at e
   refine(I.hok b u e).stay (λc v _ q=>q) (λc q=>?_) (λc ys q=>?_)
   ·rw[ao (jw q h (by intro z;cases z))];exact q
   ·rw[ao (jw q h (by intro z;cases z))];exact q
def FQ (Q:VK):VK:=λv H=>Q v H\/∃p xs,v=.ref p/\H p=some (.lst xs)/\∀o,Q v (upd H p (.frz o (.lst xs)))
theorem Dk {Q:VK} {u:Value} (h:EP X pins σ (FQ Q) u s):EP X pins σ Q u s:=by
 obtain⟨v,H',I,r,q⟩:=h
 rcases q with q | ⟨p,xs,rfl,e,q⟩
 ·exact⟨v,H',I,r,q⟩
 ·obtain⟨o,I'⟩:=L2.Inv.freeze I e
  exact⟨_,_,I',r,q o⟩
theorem Fe {A:Around} {E:Value->Shared->Prop} {M:Model} {t:Sem Value} {Q:VK} (h:wpAny M A t (EP X pins σ (FQ Q)) E s):wpAny M A t (EP X pins σ Q) E s:=thn h λ_ _ z=>Dk z
theorem PE.fq {e:Expr} {t:TE} (h:PE X e t):PE X e (λσ H Q=>t σ H (FQ Q)):=λpins s σ H Q I q=>thn (h pins s σ H _ I q) λ_ _ z=>Dk z
theorem dk.fq {f:Value} {r:List V->Hp->VK->Prop} (h:dk X f r):dk X f (λxs H Q=>r xs H (FQ Q)):=by
 intro pins s σ H xs us Q I rx q
 exact thn (h pins s σ H xs us _ I rx q) λ_ _ z=>Dk z
theorem SlR.fq {r:V->Option Int->Option Int->Hp->VK->Prop} (h:SlR X r):SlR X (λx l u H Q=>r x l u H (FQ Q)):=by
 intro pins s σ H x v vl vu lo hi sl Q I rx h1 h2 h3 q
 obtain⟨T,id,e1,e2,e3⟩:=h pins s σ H x v vl vu lo hi sl _ I rx h1 h2 h3 q
 exact⟨T,id,e1,e2,thn e3 λ_ _ z=>Dk z⟩
theorem jg {K:PySem.W.Frag} {ι:List Addr} {μ:Sto} {ds:List D} {xs:List V} {m:Mk} {Q:VK} {p:Addr} (hS:Sim K ι H μ) (hd:af K ι H ds xs) (h:du K (RD K) ι H (mkL m ds μ) Q) (hp:H p=none) :
  FQ Q (.ref p) (upd H p (.lst xs)):=by
 cases m with
 | z =>
  refine .inr ⟨p,xs,rfl,aq,λo=>?_⟩
  rw[Eg]
  refine h ι (.ref p) _ (AH _) (.new hp) (hS.new hp) ?_
  show IsD _ _ _ _ _
  simp![IsD]
  exact⟨p,xs,rfl,.inl ⟨o,aq⟩,af.mono (AH _) (.new hp) ds xs hd⟩
 | l =>
  simp![mkL]at h
  split at h
  ·rename_i hpure
   refine .inl (h (ι++[p]) (.ref p) _ ⟨[p],rfl⟩ (.new hp) (hS.push hp ⟨xs,aq,af.pur hpure (af.mono (AH _) (.new hp) ds xs hd)⟩) ?_)
   show IsD _ _ _ _ _
   simp![IsD]
   exact⟨p,rfl,by rw[<-hS.len];simp⟩
  ·exact h.elim
 | r =>
  simp![mkL]at h
  refine .inl (h (ι++[p]) (.ref p) _ ⟨[p],rfl⟩ (.new hp) (hS.push hp ⟨xs,aq,af.mono ⟨[p],rfl⟩ (.new hp) ds xs hd⟩) ?_)
  show IsD _ _ _ _ _
  simp![IsD]
  exact⟨p,rfl,by rw[<-hS.len];simp⟩
theorem Yb {es:List Expr} {xs:Exs} {m:Mk} {pos:Pos} (h:PA X es (tEs X.K φ xs)) (hl:∀σ μ ds μ',eh φ xs σ μ=.ok ds μ'->ds.length<=sizeLine):PE X (.List es pos) (tE X.K φ (.lst m xs)) :=
 PE.imp (PE.fq (Sk h)) λσv H Q ⟨ι,σ,μ,hS,hL,h⟩=>by
  simp![evE]at h
  obtain⟨ds,μ1,e1,h⟩:=h.bind
  refine⟨ι,σ,μ,hS,hL,?_⟩
  rw[e1]
  intro ι1 vs H1 p1 x1 s1 d1
  have hd:af X.K ι1 H1 ds vs:=d1
  exact⟨by rw[hd.length];exact hl σ μ ds μ1 e1,λp hp=>jg s1 hd (h.mono p1 x1) hp⟩
theorem qe {K:PySem.W.Frag} {ι:List Addr} {μ:Sto} {d:D} {v:V} {ds:List D} (hS:Sim K ι H μ) (hd:IsD K ι H d v) (h:bj μ d=some ds) :
  ∃a xs,v=.ref a/\(LsL K H a xs\/SqT K H a xs)/\af K ι H ds xs:=by
 cases d with
 | tup es =>
  cases h
  simp![IsD]at hd
  obtain⟨a,xs,e,q,r⟩:=hd
  exact⟨a,xs,e,.inr q,r⟩
 | lst es =>
  cases h
  simp![IsD]at hd
  obtain⟨a,xs,e,q,r⟩:=hd
  exact⟨a,xs,e,.inl (.inr q),r⟩
 | loc n =>
  simp![IsD]at hd
  obtain⟨a,e,q⟩:=hd
  simp![bj]at h
  split at h
  ·rename_i es em
   cases h
   obtain⟨a',q',ho⟩:=hS.at em
   rw[q]at q';cases q'
   obtain⟨xs,e1,e2⟩:=ho
   exact⟨a,xs,e,.inl (.inl e1),af.mono (CK) (.refl _) _ _ e2⟩
  ·rename_i es em
   cases h
   obtain⟨a',q',ho⟩:=hS.at em
   rw[q]at q';cases q'
   obtain⟨xs,e1,e2⟩:=ho
   exact⟨a,xs,e,.inl (.inl e1),e2⟩
  ·cases h
 | _=>simp[bj]at h
theorem jz {K:PySem.W.Frag} {ι:List Addr} {μ:Sto} {d:D} {v:V} {ds:List D} (hS:Sim K ι H μ) (hd:IsD K ι H d v) (h:listOf μ d=some ds) :
  ∃a xs,v=.ref a/\LsL K H a xs/\af K ι H ds xs:=by
 cases d with
 | lst es =>
  cases h
  simp![IsD]at hd
  obtain⟨a,xs,e,q,r⟩:=hd
  exact⟨a,xs,e,.inr q,r⟩
 | loc n =>
  simp![IsD]at hd
  obtain⟨a,e,q⟩:=hd
  simp![listOf]at h
  split at h
  ·rename_i es em
   cases h
   obtain⟨a',q',ho⟩:=hS.at em
   rw[q]at q';cases q'
   obtain⟨xs,e1,e2⟩:=ho
   exact⟨a,xs,e,.inl e1,af.mono (CK) (.refl _) _ _ e2⟩
  ·rename_i es em
   cases h
   obtain⟨a',q',ho⟩:=hS.at em
   rw[q]at q';cases q'
   obtain⟨xs,e1,e2⟩:=ho
   exact⟨a,xs,e,.inl e1,e2⟩
  ·cases h
 | _=>simp[listOf]at h
theorem Yc {i:Nat} {x:Str} {pos:Pos} (hN:X.N[i]? = some x) (hv:Vis X.env.scope x) (hd:(x==("__debug__":Str))=false) (hcd:(x==("__classdict__":Str))=false):PE X (.Name x pos) (tE X.K φ (.frz i)) :=
 PE.imp (PE.fq (Bf hN hv hd hcd)) λσv H Q ⟨ι,σ,μ,hS,hL,h⟩=>by
  simp![evE]at h
  split at h
  ·rename_i n e
   obtain⟨v,e1,e2⟩:=hL i _ e
   refine⟨v,e1,?_⟩
   simp![IsD]at e2
   obtain⟨a,rfl,ha⟩:=e2
   split at h
   ·rename_i ds em
    obtain⟨a',q',ho⟩:=hS.at em
    rw[ha]at q';cases q'
    obtain⟨xs,f1,f2⟩:=ho
    refine .inr ⟨a,xs,rfl,f1,λo=>?_⟩
    refine h ι (.ref a) _ (AH _) (.lst f1) (hS.put ha (.lst f1) ⟨_,aq⟩) ?_
    show IsD _ _ _ _ _
    simp![IsD]
    exact⟨a,xs,rfl,.inl ⟨o,aq⟩,af.mono (CK) (.lst f1) ds xs f2⟩
   ·rename_i ds em
    obtain⟨a',q',ho⟩:=hS.at em
    rw[ha]at q';cases q'
    obtain⟨xs,f1,f2⟩:=ho
    refine .inr ⟨a,xs,rfl,f1,λo=>?_⟩
    refine h ι (.ref a) _ (AH _) (.lst f1) (hS.put ha (.lst f1) ⟨_,aq⟩) ?_
    show IsD _ _ _ _ _
    simp![IsD]
    exact⟨a,xs,rfl,.inl ⟨o,aq⟩,af.mono (AH _) (.lst f1) ds xs f2⟩
   ·exact h.elim
  ·exact h.elim
theorem OpR.imp {f:Value->Value->Sem Value} {r r':R2} (h:OpR X f r) (i:∀x y H Q,r' x y H Q->r x y H Q):OpR X f r':=λpins s σ H x y v u Q I rx ry q=>h pins s σ H x y v u Q I rx ry (i _ _ _ _ q)
theorem IxR.imp {r r':R2} (h:IxR X r) (i:∀x y H Q,r' x y H Q->r x y H Q):IxR X r':=λe1 e2 pins s σ H x y v u Q I rx ry q=>h e1 e2 pins s σ H x y v u Q I rx ry (i _ _ _ _ q)
theorem dk.imp {f:Value} {r r':List V->Hp->VK->Prop} (h:dk X f r) (i:∀xs H Q,r' xs H Q->r xs H Q):dk X f r':=λpins s σ H xs us Q I rx q=>h pins s σ H xs us Q I rx (i _ _ _ q)
theorem MtR.imp {id:String} {r r':V->List V->Hp->VK->Prop} (h:MtR X id r) (i:∀x xs H Q,r' x xs H Q->r x xs H Q):MtR X id r':=λpins s σ H x xs v us Q I rx rr q=>h pins s σ H x xs v us Q I rx rr (i _ _ _ _ q)
theorem Me {K:PySem.W.Frag} {ι:List Addr} {ds:List D} {xs:List V} {i:Int} {j:Nat} {d:D} (h:af K ι H ds xs) (hi:Lp.ixN ds.length i=some j) (hj:ds[j]? = some d):∃v,atI xs i=some v/\IsD K ι H d v:=by
 obtain⟨v,e,q⟩:=h.get hj
 refine⟨v,?_,q⟩
 unfold atI
 rw[h.length,show L2.ixN ds.length i=some j from hi]
 exact e
theorem Tx:IxR X (rOp X.K ixD):=IxR.imp Sw λx y H Q ⟨ι,d,e,μ,hS,hd,he,h⟩=>by
 unfold ixD at h
 split at h
 ·rename_i i
  have hy:y=.int i:=by simpa[IsD]using he
  subst hy
  split at h
  ·rename_i ds es
   obtain⟨a,xs,rfl,hq,hds⟩:=qe hS hd es
   split at h
   ·rename_i j ej
    split at h
    ·rename_i d' ed
     obtain⟨v,ev,hv⟩:=Me hds ej ed
     have qv:=h.ok hS hv
     rcases hq with hq | hq
     ·exact .inl ⟨a,xs,i,v,rfl,rfl,hq.sq,ev,qv⟩
     ·exact .inr (.inl ⟨a,xs,i,v,rfl,rfl,hq,ev,qv⟩)
    ·exact h.elim
   ·exact h.elim
  ·exact h.elim
 ·exact h.elim
theorem Mf {K:PySem.W.Frag} {ι:List Addr} {ds:List D} {xs:List V} (h:af K ι H ds xs) (lo hi:Option Int):af K ι H (cut ds lo hi) (L0 xs lo hi):=by
 have e1:∀n d o,Lp.sIx n d o=HT.sIx n d o:=λn d o=>by cases o<;>rfl
 unfold cut L0
 rw[h.length,e1,e1]
 exact(h.drop _).take _
end
def Bl (env:Env):List (Str×NameKind)->List (Str×Addr)->List (Str×Addr)
 | [],acc=>acc
 | (n,k)::r,acc=>Bl env r (if k==.free then(n,(env.cells.lookup n).getD 0)::acc else acc)
def oo (env:Env) (x:Str×NameKind) (cs:List (Str×Addr)):Sem (ForInStep (List (Str×Addr))):=match x with
 | (name,kind)=>if kind==.free then(do let a <-cellOf env name;pure (ForInStep.yield ((name,a)::cs)))else pure (ForInStep.yield cs)
theorem nk {env:Env}:∀(names:List (Str×NameKind)) (acc:List (Str×Addr)),(∀n,(n,NameKind.free)∈names->∃c,env.cells.lookup n=some c) ->
  forIn names acc (oo env)=pure (Bl env names acc)
 | [],acc,_=>rfl
 | (n,k)::r,acc,h=>by
  rw[EY]
  by_cases hk:k=.free
  ·subst hk
   obtain⟨c,hc⟩:=h n AT
   have e:oo env (n,.free) acc=pure (ForInStep.yield ((n,c)::acc)):=by
    simp![oo,cellOf,hc,beq_self_eq_true,if_true]
    rfl
   rw[e]
   refine Eq.trans (b:=forIn r ((n,c)::acc) (oo env)) rfl ?_
   rw[nk r ((n,c)::acc) λm hm=>h m (AJ _ hm)]
   simp[Bl,hc]
  ·have hb:(k==NameKind.free)=false:=by simpa using hk
   have e:oo env (n,k) acc=pure (ForInStep.yield acc):=by
    unfold oo
    simp![hb,BF,if_false]
   rw[e]
   refine Eq.trans (b:=forIn r acc (oo env)) rfl ?_
   rw[nk r acc λm hm=>h m (AJ _ hm)]
   simp[Bl,hb]
theorem tq {env:Env} {scope:Scope} (h:∀n,(n,NameKind.free)∈scope.names->∃c,env.cells.lookup n=some c):closureFor scope env=pure (Bl env scope.names []):=by
 have e:=nk (env:=env) scope.names [] h
 have e2:closureFor scope env=(forIn scope.names [] (oo env)>>=λcs=>pure cs):=rfl
 rw[e2,e]
 rfl
theorem Bm {env:Env}:∀(names:List (Str×NameKind)) (acc:List (Str×Addr)) (x:Str) (c:Addr),(∀n,(n,NameKind.free)∈names->∃c,env.cells.lookup n=some c)->(Bl env names acc).lookup x=some c->acc.lookup x=some c\/env.cells.lookup x=some c
 | [],acc,x,c,_,h=>.inl h
 | (n,k)::r,acc,x,c,hh,h=>by
  rcases Bm r _ x c (λm hm=>hh m (AJ _ hm)) h with q | q
  ·by_cases hk:k=.free
   ·subst hk
    obtain⟨c',hc⟩:=hh n AT
    simp![beq_self_eq_true,if_true,BL]at q
    by_cases hx:x=n
    ·subst hx
     simp![beq_self_eq_true,hc,ET,BP]at q
     subst q
     exact .inr hc
    ·have hb:(x==n)=false:=beq_eq_false_iff_ne.mpr hx
     rw[hb]at q
     exact .inl q
   ·have hb:(k==NameKind.free)=false:=by simpa using hk
    simp![hb,BF,if_false]at q
    exact .inl q
  ·exact .inr q
theorem yi {env:Env}:∀(names:List (Str×NameKind)) (acc:List (Str×Addr)) (x:Str),(∃c,acc.lookup x=some c)->∃c,(Bl env names acc).lookup x=some c
 | [],acc,x,h=>h
 | (n,k)::r,acc,x,h=>by
  refine yi r _ x ?_
  by_cases hk:(k==NameKind.free)=true
  ·rw[if_pos hk,BL]
   cases hx:x==n with
   | true=>exact⟨_,rfl⟩
   | false=>exact h
  ·rw[if_neg hk];exact h
theorem Bn {env:Env}:∀(names:List (Str×NameKind)) (acc:List (Str×Addr)) (x:Str),(x,NameKind.free)∈names->∃c,(Bl env names acc).lookup x=some c
 | [],acc,x,h=>by cases h
 | (n,k)::r,acc,x,h=>by
  rcases AG.mp h with e | e
  ·cases e
   refine yi r _ n ?_
   exact⟨(env.cells.lookup n).getD 0,by simp⟩
  ·exact Bn r _ x e
abbrev Ff (env:Env) (scope:Scope) (C:Addr):List (Str×Addr):=cellsFrom (C+1) scope.names []++Bl env scope.names []
theorem dw:∀(names:List (Str×NameKind)) (n:Nat) (acc:List (Str×Addr)),cellsFrom n names acc=cellsFrom n names []++acc
 | [],_,_=>rfl
 | (a,k)::r,n,acc=>by
  unfold cellsFrom
  split
  ·rw[dw r (n+1) ((a,n)::acc),dw r (n+1) [(a,n)],BY];rfl
  ·exact dw r n acc
theorem iu:∀(names:List (Str×NameKind)) (n:Nat) (x:Str) (c:Addr),(x,c)∈cellsFrom n names []->(x,NameKind.cell)∈names
 | [],_,_,_,h=>nomatch h
 | (a,k)::r,n,x,c,h=>by
  unfold cellsFrom at h
  split at h
  ·rename_i hk
   rw[dw]at h
   rcases BN.mp h with h | h
   ·exact AJ _ (iu r _ x c h)
   ·cases DK.mp h
    have:k=.cell:=by simpa using hk
    subst this
    exact AT
  ·exact AJ _ (iu r _ x c h)
theorem Ad {env:Env} {scope:Scope} {C:Addr} {x:Str} {c:Addr} (hc:∀n,(n,NameKind.free)∈scope.names->∃c,env.cells.lookup n=some c) (e:(Ff env scope C).lookup x=some c) :
  (x,c)∈cellsFrom (C+1) scope.names []\/env.cells.lookup x=some c:=by
 rcases BN.mp (CQ e)with h | h
 ·exact .inl h
 ·cases q:(cellsFrom (C+1) scope.names []).lookup x with
  | some d =>
   have e2:(cellsFrom (C+1) scope.names []++Bl env scope.names []).lookup x=some c:=e
   rw[FC,q]at e2
   cases e2
   exact .inl (CQ q)
  | none =>
   have e2:(cellsFrom (C+1) scope.names []++Bl env scope.names []).lookup x=some c:=e
   rw[FC,q]at e2
   rcases Bm scope.names [] x c hc (by simpa using e2)with z | z
   ·cases z
   ·exact .inr z
theorem Fg {M:Model} {A:Around} {E:Value->Shared->Prop} {s:Shared} {scope:Scope} {cl:List (Str×Addr)} {globals builtins:Addr} {qual:Str} {func:Option Addr} {code:Value} {env:Env} {Q:Env->Shared->Prop}
  (hQ:∀h',h'.Ns s.heap.objs.size (λ_=>none)->(∀b o,s.heap.get? b=some o->h'.get? b=some o)->CellsOk h' (s.heap.objs.size+1) (cellsFrom (s.heap.objs.size+1) scope.names []) ->
   Q (newEnv scope s.heap.objs.size globals (cellsFrom (s.heap.objs.size+1) scope.names []++cl) qual func code (some env) builtins) {s with heap:=h'}) :
  wpAny M A (newFunctionEnv scope globals cl [] qual func code (some env) builtins) Q E s:=by
 simp![newFunctionEnv,GA,if_true]
 refine AB (wpAny_alloc ?_)
 refine AB (wpAny_layCells _ (λname kind cells=>by cases hkc:kind==NameKind.cell<;>simp[hkc]) _ _ _ _ ?_)
 have ok:=cellsFrom_ok scope.names (s.heap.push {cls:=.type "dict",data:=.dict #[]}) (s.heap.objs.size+1) [] ⟨λ_ _ hm=>(nomatch hm),List.Pairwise.nil⟩ (by rw[CJ];exact AN _)
 rw[CJ]at ok
 rw[show({s with heap:=s.heap.push {cls:=.type "dict",data:=.dict #[]}}:Shared).heap.objs.size=s.heap.objs.size+1 from CJ ..]
 rw[IA,dw]
 exact AB (AL (AL (hQ _ ((Heap.Ns.new s.heap (.type "dict")).keeps (pushCells_keeps _ _)) (λb o e=>pushCells_keeps _ _ b o (AE _ e)) ok)))
def lp (X:Cx) (scope:Scope) (Nb:List Str) (C:Addr) (s:Shared) (H:Hp) (fp:List Addr):Cx :=
 {X with N:=Nb,s₀:=s,H₀:=H,env:=compEnvC scope (Ff X.env scope C) C X.env,outer:=X.stack,stack:=X.stack,ex:=fp,fn:=λx=>scope.names.lookup x==some .cell,pn:=[],xe:=λ_ _=>False}
structure CompScope (sc scope:Scope) (N Nb:List Str) (cap:List Nat) (nl:Nat):Prop where
 kind:scope.kind=.function
 uniq:∀y∈scope.names,scope.names.lookup y.1=some y.2
 free:∀n,(n,NameKind.free)∈scope.names->sc.names.lookup n=some .cell\/sc.names.lookup n=some .free
 fnames:∀n,(relabel scope {scope:=sc,locals:=0,globals:=0,cells:=[]}).names.lookup n=some .cell\/(relabel scope {scope:=sc,locals:=0,globals:=0,cells:=[]}).names.lookup n=some .free->(n,NameKind.free)∈scope.names\/(n,NameKind.cell)∈scope.names
 nd:Nb.Nodup
 len:Nb.length=cap.length+nl
 capt:∀(j:Nat) i,cap[j]? = some i->∃x,Nb[j]? = some x/\N[i]? = some x/\(x,NameKind.free)∈scope.names
theorem Dl (scope:Scope) (env env':Env) (h:env.scope=env'.scope):relabel scope env=relabel scope env':=by
 unfold relabel Env.kindOf
 rw[h]
section
variable {X : Cx} {pins : List (Addr × Obj)} {σ : St} {H : Hp} {s : Shared} {scope : Scope} {Nb : List Str} {cap : List Nat} {nl : Nat}
def i6 (cap:List Nat) (nl:Nat) (σ:St):St:=cap.map (λi=>(σ[i]?).getD none)++List.replicate nl none
theorem Fh {fp:List Addr} {h':Heap} {tk:Nat} {C:Addr} {m:Str->Option Value} {D:Addr} {n0:Nat} (I:Inv X pins σ H s) (S:CompScope X.env.scope scope X.N Nb cap nl)
  (hf:∀b∈fp,C0 X pins H b) (hfp:∀b∈fp,∃o,s.heap.get? b=some o) (hk:∀b o,s.heap.get? b=some o->h'.get? b=some o) (hC:s.heap.objs.size<=C) (hD:s.heap.objs.size<=D) (hDC:D≠C)
  (hns:h'.Ns C m) (hDo:h'.get? D=some {cls:=.type "list",data:=.seq #[] n0}) (ok:CellsOk h' (C+1) (cellsFrom (C+1) scope.names [])) :
  Inv (lp X scope Nb C s H fp) [(D,{cls:=.type "list",data:=.seq #[] n0})] (i6 cap nl σ) H {s with heap:=h',toks:=tk}:=by
 have hcells:∀n,(n,NameKind.free)∈scope.names->∃c,X.env.cells.lookup n=some c:=λn hn=>by
  rcases S.free n hn with e | e
  ·exact I.ok.has n (.inl e)
  ·exact I.ok.has n (.inr e)
 have sub:∀x c,(Ff X.env scope C).lookup x=some c->(x,c)∈cellsFrom (C+1) scope.names []\/X.env.cells.lookup x=some c:=λx c e=>Ad hcells e
 have up:∀x c,(x,c)∈cellsFrom (C+1) scope.names []->s.heap.objs.size<=c:=λx c e=>BX hC (Nat.le_of_succ_le (ok.empty x c e).2)
 have hasB:∀x,(x,NameKind.free)∈scope.names\/(x,NameKind.cell)∈scope.names->∃c,(Ff X.env scope C).lookup x=some c:=λx hx=>by
  show ∃c,(cellsFrom (C+1) scope.names []++Bl X.env scope.names []).lookup x=some c
  rw[FC]
  cases q:(cellsFrom (C+1) scope.names []).lookup x with
  | some d=>exact⟨d,rfl⟩
  | none =>
   rcases hx with hx | hx
   ·obtain⟨c,e⟩:=Bn (env:=X.env) scope.names [] x hx
    exact⟨c,by rw[e];rfl⟩
   ·obtain⟨c,e⟩:=oz (n:=C+1) (S.uniq _ hx)
    rw[q]at e;cases e
 have hlt:∀b∈fp,b<s.heap.objs.size:=λb hb=>let ⟨o,e⟩:=hfp b hb;AQ e
 have hrel:relabel scope X.env=relabel scope {scope:=X.env.scope,locals:=0,globals:=0,cells:=[]}:=Dl _ _ _ rfl
 have hcm:∀x c,X.env.cells.lookup x=some c->c<s.heap.objs.size:=λx c e=>let ⟨v,q⟩:=I.cell x c e;q.lt
 refine⟨⟨I.ok.mod,by show(relabel scope X.env).kind=_;unfold relabel;exact S.kind,I.ok.glob,I.ok.blt,hC,λx y c e1 e2=>?_,λx hx=>?_,λx c hfn e=>?_,I.ok.hd,I.ok.frames,.inl rfl,
  λb hb=>⟨BA (AV (hlt b hb) hC),λx c e=>(sub x c e).elim (λq=>CW (AV (hlt b hb) (up x c q))) λq=>(hf b hb).2.2.2.2.1 x c q⟩,I.bs,BX I.ok.bsz I.sz,λb o e hb=>?_,λb hb hb2=>?_,I.stack,I.stkFree⟩,
  rfl,I.bare,Un.kept hk,⟨m,hns,λi x v e1 e2 e3=>?_⟩,λx c e=>?_,I.hok.fresh hC,λx c e=>(sub x c e).elim (λq=>I.hok.fresh (up x c q)) λq=>I.freeC x c q,λp hp=>?_,I.hok.kept hk,?_⟩
 ·rcases sub x c e1 with q1 | q1<;>rcases sub y c e2 with q2 | q2
  ·exact name_of_addr ok.apart q1 q2
  ·exact absurd (hcm y c q2) (Nat.not_lt.mpr (up x c q1))
  ·exact absurd (hcm x c q1) (Nat.not_lt.mpr (up y c q2))
  ·exact I.ok.inj x y c q1 q2
 ·have hx':(relabel scope {scope:=X.env.scope,locals:=0,globals:=0,cells:=[]}).names.lookup x=some .cell\/(relabel scope {scope:=X.env.scope,locals:=0,globals:=0,cells:=[]}).names.lookup x=some .free:=by
   rw[<-hrel];exact hx
  exact hasB x (S.fnames x hx')
 ·obtain⟨d,q⟩:=oz (n:=C+1) (show scope.names.lookup x=some .cell from beq_iff_eq.mp hfn)
  have e2:(cellsFrom (C+1) scope.names []++Bl X.env scope.names []).lookup x=some c:=e
  rw[FC,q]at e2
  cases e2
  exact up x _ (CQ q)
 ·rcases(hf b hb).2.2.2.1 with z | z
  ·exact I.ok.noex b o e z
  ·have:=AQ e
   exact absurd (AV this (BX I.ok.bsz z)) (DC _)
 ·rcases AG.mp (I.stkSub b hb2)with z | z
  ·exact(hf b hb).2.1 z
  ·exact(hf b hb).2.2.1 z
 ·-- a captured name
  have hi:i<cap.length:=by
   by_cases hi:i<cap.length
   ·exact hi
   ·unfold i6 at e2
    rw[AZ (by simpa using hi),CN]at e2
    split at e2<;>cases e2
  unfold i6 at e2
  rw[AK (by simpa using hi),AX,AA hi]at e2
  simp![EK,BP]at e2
  obtain⟨y,q1,q2,q3⟩:=S.capt i _ (AA hi)
  have ey:y=x:=BH (q1.symm.trans e1)
  subst ey
  have e4:σ[cap[i]]? = some (some v):=by
   cases e5:σ[cap[i]]? with
   | none=>rw[e5]at e2;cases e2
   | some w=>rw[e5]at e2;simp at e2;rw[e2]
  obtain⟨m0,hn0,hl0⟩:=I.loc
  have hkind:X.env.kindOf y=some .cell\/X.env.kindOf y=some .free:=S.free y q3
  obtain⟨u,r,l⟩:=hl0 _ y v q2 e4 (by rcases hkind with z | z;exact .inr (.inl z);exact .inr (.inr z))
  refine⟨u,r,.inr ?_⟩
  rcases l with⟨z,_⟩ | ⟨_,c,ec,hc⟩
  ·rcases hkind with w | w<;>(rw[w]at z;cases z)
  ·obtain⟨c',ec'⟩:=hasB y (.inl q3)
   have:c'=c:=by
    rcases sub y c' ec' with z | z
    ·have:=S.uniq _ (iu _ _ _ _ z)
     rw[S.uniq (y,NameKind.free) q3]at this;cases this
    ·rw[ec]at z;cases z;rfl
   subst this
   obtain⟨o,ho,hd⟩:=hc
   refine⟨?_,c',ec',o,hk _ _ ho,hd⟩
   -- a free name is seen as a cell or as free
   have hv:(lp X scope Nb C s H fp).env.kindOf y=some .local\/(lp X scope Nb C s H fp).env.kindOf y=some .cell\/(lp X scope Nb C s H fp).env.kindOf y=some .free:=e3
   rcases hv with z | z | z
   ·exfalso
    have hl:(relabel scope X.env).names.lookup y=some .local:=z
    have mem:∀(l:List (Str×NameKind)) (y:Str),(l.map fun(n,k)=>if(k==NameKind.free&&X.env.scope.kind==.function&&X.env.kindOf n==some .cell)then(n,NameKind.cell)else(n,k)).lookup y=some .local->l.lookup y=some .local:=by
     intro l
     induction l with
     | nil=>intro y h;simp at h
     | cons a r ih =>
      obtain⟨n,k⟩:=a
      intro y h
      simp![AO]at h
      rw[BL]
      by_cases hc:(k==NameKind.free&&X.env.scope.kind==.function&&X.env.kindOf n==some .cell)=true
      ·rw[if_pos hc,BL]at h
       cases hy:y==n with
       | true=>rw[hy]at h;cases h
       | false=>rw[hy]at h;exact ih y h
      ·rw[if_neg hc,BL]at h
       cases hy:y==n with
       | true=>rw[hy]at h;exact h
       | false=>rw[hy]at h;exact ih y h
    have hloc:=mem scope.names y hl
    rw[S.uniq (y,NameKind.free) q3]at hloc
    cases hloc
   ·exact .inl z
   ·exact .inr z
 ·rcases sub x c e with q | q
  ·exact⟨_,(ok.empty x c q).1⟩
  ·obtain⟨v,o,ho,hd⟩:=I.cell x c q
   exact⟨v,o,hk _ _ ho,hd⟩
 ·have e:p=(D,{cls:=.type "list",data:=.seq #[] n0}):=by
   have:p∈([]:List (Addr×Obj))++[(D,{cls:=.type "list",data:=.seq #[] n0})]:=hp
   simpa using this
  subst e
  refine⟨hDo,I.hok.fresh hD,hDC,λz=>?_,λv z=>by cases z⟩
  have z':D∈frs X.stack:=z
  rcases AG.mp (I.stkSub D z')with w | w
  ·exact absurd (AV I.lt hD) (by rw[w];exact DC _)
  ·exact I.nofs hD w
 ·show(i6 cap nl σ).length=Nb.length
  rw[S.len];simp[i6]
end
abbrev Ae (ifs:List Expr) (env:Env) (b:Bool):Sem Bool:=forIn ifs b λc r=>if r=true then do let ok <-isTrue c env (eval c env);pure (ForInStep.yield ok)else pure (ForInStep.yield r)
def PTs (X:Cx) (ifs:List Expr) (t:TT):Prop :=
 ∀(pins:List (Addr×Obj)) (s:Shared) (σ:St) (H:Hp) (Q:Bool->Hp->Prop),Inv X pins σ H s->t σ H Q->wpAny (model X.prog X.w) X.A (Ae ifs X.env true) (TP X pins σ Q) X.xe s
theorem qf {M:Model} {A:Around} {E:Value->Shared->Prop} {env:Env} {Q:Bool->Shared->Prop}:∀(ifs:List Expr) {s:Shared},Q false s->wpAny M A (Ae ifs env false) Q E s
 | [],s,h=>AL h
 | c::r,s,h=>by
  show wpAny M A (forIn (c::r) false _) Q E s
  rw[EY]
  exact AB (AL (qf r h))
def tTsNil:TT:=λ_ H Q=>Q true H
def Pe (t u:TT):TT:=λσ H Q=>t σ H λb H1=>if b=true then u σ H1 Q else Q false H1
theorem Pf {X:Cx}:PTs X [] tTsNil:=λpins s σ H Q I h=>AL ⟨H,I,h⟩
theorem Kb {X:Cx} {c:Expr} {r:List Expr} {t u:TT} (h1:PT X c t) (h2:PTs X r u):PTs X (c::r) (Pe t u):=λpins s σ H Q I h=>by
 show wpAny _ _ (forIn (c::r) true _) _ _ s
 rw[EY]
 refine AB (AB (thn (h1 pins s σ H _ I h) λb s1 ⟨H1,I1,q1⟩=>AL ?_))
 cases b with
 | true=>exact h2 pins s1 σ H1 Q I1 q1
 | false=>exact qf r ⟨H1,I1,q1⟩
def Kept (σ σ':St):Prop:=σ.length=σ'.length/\∀(i:Nat) v,σ[i]? = some (some v)->σ'[i]? = some (some v)
def Pg (wi:TI) (g:TG) (ts:TT) (te:TE) (σb:St->St):TE:=λσ H Q=>wi σ H λJ H1=>∃W:Nat->Nat->Hp->List V->Prop,(∃m,W 0 m H1 [])/\∀i m H acc,W i m H acc ->
 (J.stop i H/\acc.length<=sizeLine/\∀p,H p=none->Q (.ref p) (upd H p (.lst acc))) \/
 (J.go i H/\acc.length<sizeLine/\∀x H',J.yld i H x H'->g x (σb σ) H' λσ2 H2=>Kept (σb σ) σ2/\ts σ2 H2 λb H3=>if b=true then te σ2 H3 λv H4=>∃m',m'<m/\W (i+1) m' H4 (acc++[v])else ∃m',m'<m/\W (i+1) m' H3 acc)
section
variable {X : Cx} {scope : Scope} {Nb : List Str} {cap : List Nat} {nl : Nat}
theorem _root_.L2.HOk.track {P:Program} {w:World} {H:Hp} {h:Heap} {p:Addr} {o:HO} (x:HOk P w H h) (hp:H p=none) (new:fu P w (upd H p o) h p o):HOk P w (upd H p o) h:=λb u e=>by
 by_cases hb:b=p
 ·subst hb;rw[aq]at e;cases e;exact new
 ·rw[ao hb]at e
  exact(x b u e).stay (λc v _ q=>q) (λc q=>by rw[ao (bf q hp)];exact q) λc xs q=>by rw[ao (bf q hp)];exact q
theorem Fi {prog:Program} {w:World} {A:Around} {R:Result->Shared->Prop} {s:Shared} {elt target iter:Expr} {ifs:List Expr} {pos:Pos} {it acc:Value} {env:Env} (I:Nat->Shared->Prop)
  (turn:∀n s,I n s->wpAny (model prog w) A (pyNext it) (λr s₁=>match r with
   | none=>R (.ok .next) s₁
   | some v=>wpAny (model prog w) A (letOwnedTupleGo target it v) (λ_ s₀=>wpAny (model prog w) A (assign target env v) (λ_ s₂ =>
     wpAny (model prog w) A (Ae ifs env true) (λok s₃ =>
      if ok=true then wpAny (model prog w) A (eval elt env) (λx s₄ =>
       wpAny (model prog w) A (call (.builtin "list.append") [acc,x]) (λ_ s₅=>∃m,m<n/\I m s₅) (λ_ _=>False) s₄) (λ_ _=>False) s₃
      else ∃m,m<n/\I m s₃) (λ_ _=>False) s₂) (λ_ _=>False) s₀) (λ_ _=>False) s₁) (λ_ _=>False) s)
  (n:Nat) (h:I n s) :
  codeAny (model prog w) A (.compLoop (.ListComp elt [⟨target,iter,ifs,0⟩] scope pos) 0 it acc env) R s:=by
 refine codeAny_loop rfl I (λn s hI=>?_) n h
 show wpAny _ A ((compTurn (.ListComp elt [⟨target,iter,ifs,0⟩] scope pos) 0 it acc env).onRaise (λx=>do noteFrame x env;theTreesLotGoes x)) _ _ s
 refine wpAny_noted ?_
 rw[compTurn_list]
 have no:∀{α:Type} {t:Sem α} {Q:α->Shared->Prop} {E:Value->Shared->Prop} {s:Shared},wpAny (model prog w) A t Q (λ_ _=>False) s->wpAny (model prog w) A t Q E s:=λh=>DD h (λ_ _ q=>q) λ_ _ q=>q.elim
 refine AB (wpAny_standAt (AB (DD (turn n s hI) (λr s₁ h₁=>?_) λ_ _ h'=>h'.elim)))
 cases r with
 | none=>exact AL h₁
 | some v =>
  refine AB (DD h₁ (λ_ s₀ h₀=>?_) λ_ _ h'=>h'.elim)
  refine AB (DD h₀ (λ_ s₂ h₂=>AB (DD h₂ (λok s₃ h₃=>?_) λ_ _ h'=>h'.elim)) λ_ _ h'=>h'.elim)
  cases ok with
  | false=>exact AL ⟨rfl,h₃⟩
  | true =>
   exact AB (AB (DD h₃ (λx s₄ h₄=>AB (DD h₄ (λ_ s₅ h₅=>AL (AL ⟨rfl,h₅⟩)) λ_ _ h'=>h'.elim)) λ_ _ h'=>h'.elim))
def Af (X:Cx) (scope:Scope) (Nb:List Str) (target:Expr) (ifs:List Expr) (elt:Expr) (g:TG) (ts:TT) (te:TE):Prop :=
 ∀C s H fp,PG (lp X scope Nb C s H fp) target g/\PTs (lp X scope Nb C s H fp) ifs ts/\PE (lp X scope Nb C s H fp) elt te
theorem tu {elt target iter:Expr} {ifs:List Expr} {pos:Pos} {g:TG} {ts:TT} {te:TE} {pins:List (Addr×Obj)} {σ:St} {H:Hp} {s:Shared} {it:Addr} {fp:List Addr} {tn:Nat->Heap->Prop} {J:L2.It} {Q:VK} {E:Value->Shared->Prop} {use:Option (Value->Sem Unit)} {QQ:Value->Shared->Prop}
  (S:CompScope X.env.scope scope X.N Nb cap nl) (hc:X.calm=true) (B:Af X scope Nb target ifs elt g ts te) (I:Inv X pins σ H s) (T:Turn X.prog X.w X.K target J fp it tn) (t0:tn 0 s.heap) (hf:∀b∈fp,C0 X pins H b)
  (h:∃W:Nat->Nat->Hp->List V->Prop,(∃m,W 0 m H [])/\∀i m H acc,W i m H acc ->
   (J.stop i H/\acc.length<=sizeLine/\∀p,H p=none->Q (.ref p) (upd H p (.lst acc))) \/
   (J.go i H/\acc.length<sizeLine/\∀x H',J.yld i H x H'->g x (i6 cap nl σ) H' λσ2 H2=>Kept (i6 cap nl σ) σ2/\ts σ2 H2 λb H3=>if b=true then te σ2 H3 λv H4=>∃m',m'<m/\W (i+1) m' H4 (acc++[v])else ∃m',m'<m/\W (i+1) m' H3 acc))
  (hQ:∀(D C:Addr) (s':Shared) m,s.heap.objs.size<=C->(∀h',Heap.SameBut C s'.heap h'->EP X pins σ (λv H=>H C=none/\Q v H) (.ref D) {s' with heap:=h'})->s'.heap.Ns C m->compPost (model X.prog X.w) X.A E use QQ (.ref D) C (.ok .next) s') :
  wpAny (model X.prog X.w) X.A (newList []) (λacc s₃=>wpAny (model X.prog X.w) X.A (newFunctionEnv scope X.env.globals (Bl X.env scope.names []) [] X.env.qual none .none (some X.env)) (λcenv s₄ =>
   codeAny (model X.prog X.w) X.A (.compStart (.ListComp elt [⟨target,iter,ifs,0⟩] scope pos) 0 (.ref it) acc {cenv with scope:=relabel scope X.env}) (compPost (model X.prog X.w) X.A E use QQ acc cenv.locals) s₄) E s₃) E s:=by
 refine DE (Fg λh₁ hns₁ hsb₁ cok=>?_)
 dsimp only at hns₁ hsb₁ cok ⊢
 generalize hH2:s.heap.push {cls:=.type "list",dict:=none,data:=.seq ([]:List Value).toArray}=H2 at hns₁ hsb₁ cok ⊢
 have hC:H2.objs.size=s.heap.objs.size+1:=by rw[<-hH2,CJ]
 have hDC:s.heap.objs.size≠H2.objs.size:=by rw[hC];exact BA (Do _)
 have hCle:s.heap.objs.size<=H2.objs.size:=by rw[hC];exact GJ _
 have old:∀b o,s.heap.get? b=some o->h₁.get? b=some o:=λb o e=>hsb₁ b o (hH2 ▸ AE _ e)
 have hDo:h₁.get? s.heap.objs.size=some {cls:=.type "list",data:=.seq #[]}:=hsb₁ _ _ (hH2 ▸ AS _ rfl)
 have own:∀x c,(x,c)∈cellsFrom (H2.objs.size+1) scope.names []->H2.objs.size<c:=λx c q=>(cok.empty x c q).2
 have hfp:∀b∈fp,∃o,s.heap.get? b=some o:=λb hb=>let ⟨o,e,_⟩:=T.obj 0 _ t0 b hb;⟨o,e⟩
 have hlt:∀b∈fp,b<s.heap.objs.size:=λb hb=>let ⟨o,e⟩:=hfp b hb;AQ e
 obtain⟨W,⟨m0,w0⟩,turn⟩:=h
 obtain⟨BG,BT,BE⟩:=B H2.objs.size s H fp
 have I4:=Fh (tk:=s.toks) I S hf hfp old hCle (AN _) hDC hns₁ hDo cok
 have hcells:∀n,(n,NameKind.free)∈scope.names->∃c,X.env.cells.lookup n=some c:=λn hn=>by
  rcases S.free n hn with e | e
  ·exact I.ok.has n (.inl e)
  ·exact I.ok.has n (.inr e)
 -- what the iterator's objects are to the block
 have stat:∀{H':Hp},(∀b∈fp,H' b=none)->∀b∈fp,C0 (lp X scope Nb H2.objs.size s H fp) [] H' b:=λhn b hb=>by
  refine⟨hn b hb,BA (AV (hlt b hb) hCle),λz=>?_,.inl hb,λx c e=>?_,λp hp=>absurd (show p∈([]:List (Addr×Obj))++[]from hp) (by simp)⟩
  ·rcases AG.mp (I.stkSub b z)with z | z
   ·exact(hf b hb).2.1 z
   ·exact(hf b hb).2.2.1 z
  ·rcases Ad hcells e with q | q
   ·exact CW (Nat.lt_trans (AV (hlt b hb) hCle) (own x c q))
   ·exact(hf b hb).2.2.2.2.1 x c q
 have loop:∀s₃:Shared,s₃={s with heap:=h₁} ->
   codeAny (model X.prog X.w) X.A (.compLoop (.ListComp elt [⟨target,iter,ifs,0⟩] scope pos) 0 (.ref it) (.ref s.heap.objs.size) (compEnvC scope (Ff X.env scope H2.objs.size) H2.objs.size X.env))
    (compPost (model X.prog X.w) X.A E use QQ (.ref s.heap.objs.size) H2.objs.size) s₃:=by
  rintro s₃ rfl
  refine Fi (λn s'=>∃i H' acc its n',Inv (lp X scope Nb H2.objs.size s H fp) [] (i6 cap nl σ) H' s'/\tn i s'.heap/\(∀b∈fp,H' b=none)/\H' s.heap.objs.size=none /\
   s'.heap.get? s.heap.objs.size=some {cls:=.type "list",data:=.seq (its:List Value).toArray n'}/\bh acc its/\W i n H' acc) ?_ m0
   ⟨0,H,[],[],_,I4.pins_of (λp hp=>absurd hp (by simp)),T.keep _ _ _ t0 λb hb o e=>old b o e,λb hb=>(hf b hb).1,I.hok.fresh (AN _),hDo,.nil,w0⟩
  rintro n s5 ⟨i,H5,acc,its,n5,I5,t5,f5,hD5,hget5,hv5,w5⟩
  rcases turn i n H5 acc w5 with⟨stop,hz,q⟩ | ⟨go,hz,q⟩
  ·refine thn (T.done (lp X scope Nb H2.objs.size s H fp) rfl rfl rfl hc i [(s.heap.objs.size,{cls:=.type "list",data:=.seq its.toArray n5})] s5 _ H5 _ (I5.pins_of ?_) ?_ t5 stop) λr s6 ⟨hr,I6⟩=>?_
   ·intro p hp
    have e:p=(s.heap.objs.size,{cls:=.type "list",data:=.seq its.toArray n5}):=by simpa using hp
    subst e
    refine⟨hget5,hD5,hDC,λz=>?_,λv z=>by cases z⟩
    rcases AG.mp (I.stkSub _ (show s.heap.objs.size∈frs X.stack from z))with w | w
    ·exact absurd I.lt (by rw[<-w];exact DC _)
    ·exact I.nofs (AN _) w
   ·intro b hb
    obtain⟨a1,a2,a3,a4,a5,a6⟩:=stat f5 b hb
    refine⟨a1,a2,a3,a4,a5,λp hp=>?_⟩
    have e:p=(s.heap.objs.size,{cls:=.type "list",data:=.seq its.toArray n5}):=by
     have:p∈([]:List (Addr×Obj))++[(s.heap.objs.size,{cls:=.type "list",data:=.seq its.toArray n5})]:=hp
     simpa using this
    subst e
    exact λz=>absurd (hlt b hb) (by rw[<-z];exact DC _)
   ·subst hr
    have hget6:=(I6.pin (s.heap.objs.size,{cls:=.type "list",data:=.seq its.toArray n5}) (by show _∈([]:List (Addr×Obj))++_;simp)).1
    obtain⟨m6,hn6,_⟩:=I6.loc
    refine hQ _ _ s6 m6 hCle (λh' hs'=>?_) hn6
    have hk6:∀b o,b≠H2.objs.size->s6.heap.get? b=some o->h'.get? b=some o:=λb o hb e=>hs'.extBut b o hb e
    have hgetD:=hk6 _ _ hDC hget6
    have Cn:H5 H2.objs.size=none:=I6.free
    have hok':HOk X.prog X.w H5 h':=λb u e=>by
     refine(I6.hok b u e).stay (λc v hcc q=>hk6 c v ?_ q) (λ_ q=>q) λ_ _ q=>q
     rcases hcc with z | z
     ·rintro rfl;rw[<-z]at e;rw[Cn]at e;cases e
     ·rintro rfl;rw[Cn]at z;cases z
    refine⟨.ref s.heap.objs.size,upd H5 s.heap.objs.size (.lst acc),?_,rfl,by rw[ao (Ne.symm hDC)];exact Cn,q _ hD5⟩
    have hU:Un (frs X.stack) fp H H5 s.heap s6.heap:=I6.base
    have nC:∀b o,s.heap.get? b=some o->b≠H2.objs.size:=λb o e=>BA (AV (AQ e) hCle)
    have nD:∀b o,s.heap.get? b=some o->b≠s.heap.objs.size:=λb o e=>BA (AQ e)
    refine I.call' (s':={s6 with heap:=h'}) (ch:=fp) (by show s6.os=s.os;exact I6.os) ⟨λb o e nn hb hx=>hk6 b o (nC b o e) (hU.keep b o e nn hb hx),λb o e nn hb hx=>?_,λb o e nn hx=>?_,λb o e hx=>?_,λb xs e=>?_,λb o u e=>?_,λb ps e=>?_⟩ ?_ I6.bare ?_
    ·obtain⟨sl,e2⟩:=hU.slot b o e nn hb hx
     exact⟨sl,hk6 b _ (nC b o e) e2⟩
    ·rw[ao (nD b o e)];exact hU.free b o e nn hx
    ·obtain⟨o',e2⟩:=hU.there b o e hx
     exact⟨o',hk6 b _ (nC b o e) e2⟩
    ·have e2:=hU.tups b xs e
     rw[ao (bf e2 hD5)];exact e2
    ·have e2:=hU.frzs b o u e
     rw[ao (bf e2 hD5)];exact e2
    ·obtain⟨more,e2⟩:=hU.tbls b ps e
     exact⟨more,by rw[ao (bf e2 hD5)];exact e2⟩
    ·exact L2.HOk.track hok' hD5 ⟨hz,its,n5,hv5,hgetD⟩
    ·intro b hb
     obtain⟨a1,a2,a3,a4,a5,a6⟩:=hf b hb
     exact⟨a4,a2,a5,a6⟩
  ·-- one more turn
   have notfs:s.heap.objs.size∉frs X.stack:=λz=>by
    rcases AG.mp (I.stkSub _ z)with w | w
    ·exact absurd I.lt (by rw[<-w];exact DC _)
    ·exact I.nofs (AN _) w
   have I5':Inv (lp X scope Nb H2.objs.size s H fp) [(s.heap.objs.size,{cls:=.type "list",data:=.seq its.toArray n5})] (i6 cap nl σ) H5 s5:=I5.pins_of λp hp=>by
    have e:p=(s.heap.objs.size,{cls:=.type "list",data:=.seq its.toArray n5}):=by simpa using hp
    subst e
    exact⟨hget5,hD5,hDC,notfs,λv z=>by cases z⟩
   have stat':∀{H':Hp},(∀b∈fp,H' b=none)->∀b∈fp,C0 (lp X scope Nb H2.objs.size s H fp) [(s.heap.objs.size,{cls:=.type "list",data:=.seq its.toArray n5})] H' b:=λhn b hb=>by
    obtain⟨a1,a2,a3,a4,a5,a6⟩:=stat hn b hb
    refine⟨a1,a2,a3,a4,a5,λp hp=>?_⟩
    have e:p=(s.heap.objs.size,{cls:=.type "list",data:=.seq its.toArray n5}):=by
     have:p∈([]:List (Addr×Obj))++[(s.heap.objs.size,{cls:=.type "list",data:=.seq its.toArray n5})]:=hp
     simpa using this
    subst e
    exact λz=>absurd (hlt b hb) (by rw[<-z];exact DC _)
   refine thn (T.item (lp X scope Nb H2.objs.size s H fp) rfl rfl rfl hc i _ s5 _ H5 (λ_ _=>False) I5' (stat' f5) t5 go) λr s6 ⟨u,hr,h6⟩=>?_
   subst hr
   refine thn h6 λ_ s7 ⟨x,H7,I7,r7,y7,t7,f7⟩=>?_
   have I7':=I7.pinned (stat' f7) (T.obj _ _ t7)
   have back:∀{σ':St} {H':Hp} {s':Shared},Inv (lp X scope Nb H2.objs.size s H fp) ([(s.heap.objs.size,{cls:=.type "list",data:=.seq its.toArray n5})]++w6 fp s7.heap) σ' H' s' ->
     tn (i+1) s'.heap/\(∀b∈fp,H' b=none)/\H' s.heap.objs.size=none/\s'.heap.get? s.heap.objs.size=some {cls:=.type "list",data:=.seq its.toArray n5}:=λ{σ' H' s'} J'=>by
    have pD:=J'.pin (s.heap.objs.size,{cls:=.type "list",data:=.seq its.toArray n5}) (by show _∈([]:List (Addr×Obj))++_;simp)
    refine⟨T.keep _ _ _ t7 λb hb o e=>(J'.pin (b,o) (BV _ (BV _ (kf hb e)))).1,λb hb=>?_,pD.2.1,pD.1⟩
    obtain⟨o,e,d⟩:=T.obj _ _ t7 b hb
    exact(J'.pin (b,o) (BV _ (BV _ (kf hb e)))).2.1
   refine thn (BG _ s7 _ H7 x u _ I7' r7 (q x H7 y7)) λ_ s8 ⟨σ8,H8,I8,ks,q8⟩=>?_
   refine thn (BT _ s8 σ8 H8 _ I8 q8) λok s9 ⟨H9,I9,q9⟩=>?_
   cases ok with
   | false =>
    obtain⟨m',hm',w9⟩:∃m',m'<n/\W (i+1) m' H9 acc:=q9
    obtain⟨b1,b2,b3,b4⟩:=back I9
    exact⟨m',hm',i+1,H9,acc,its,n5,(I9.weak ks.1 ks.2).pins_of (λp hp=>absurd hp (by simp)),b1,b2,b3,b4,hv5,w9⟩
   | true =>
    refine thn (BE _ s9 σ8 H9 _ I9 q9) λxv s10 ⟨v,H10,I10,r10,m',hm',w10⟩=>?_
    obtain⟨b1,b2,b3,b4⟩:=back I10
    have hl5:=hv5.length
    refine wpAny_list_append_plain (items:=its.toArray) ⟨n5,b4⟩ (λh' hpl hs'=>?_) (by rw[AI,<-hl5];exact EC hz)
    obtain⟨n6,hg6⟩:=hpl
    have I11:Inv (lp X scope Nb H2.objs.size s H fp) [] (i6 cap nl σ) H10 {s10 with heap:=h'}:=by
     have I10':=(I10.weak ks.1 ks.2).pins_of (pins':=[]) (λp hp=>absurd hp (by simp))
     refine I10'.turned (t':=s10.toks) (it:=s.heap.objs.size) (λb o hb e=>hs'.extBut b o hb e) b3 hDC (.inr (AN _)) (λx c e=>?_) (λp hp=>absurd (show p∈([]:List (Addr×Obj))++[]from hp) (by simp))
     rcases Ad hcells e with q | q
     ·exact CW (Nat.lt_of_le_of_lt hCle (own x c q))
     ·obtain⟨v,hcc⟩:=I.cell x c q
      exact BA hcc.lt
    refine⟨m',hm',i+1,H10,acc++[v],its++[xv],n6,I11,?_,b2,b3,by rw[hg6];simp,hv5.append (.cons r10 .nil),w10⟩
    exact T.keep _ _ _ b1 λb hb o e=>hs'.extBut b o (BA (hlt b hb)) e
 exact codeAny_compStart_list (loop _ rfl) (T.self X.A 0 _ _ _ (T.keep _ _ _ t0 λb hb o e=>old b o e) (loop _ rfl))
theorem Ph {elt target iter:Expr} {ifs:List Expr} {pos:Pos} {wi:TI} {g:TG} {ts:TT} {te:TE} (S:CompScope X.env.scope scope X.N Nb cap nl) (hc:X.calm=true) (hi:PI X target iter wi) (B:Af X scope Nb target ifs elt g ts te)
  (hs:∀x,foldedSetIterable iter X.env x=pure x):PE X (.ListComp elt [⟨target,iter,ifs,0⟩] scope pos) (Pg wi g ts te (i6 cap nl)):=by
 intro pins s σ H Q I h
 rw[eval_ListComp]
 have hcells:∀n,(n,NameKind.free)∈scope.names->∃c,X.env.cells.lookup n=some c:=λn hn=>by
  rcases S.free n hn with e | e
  ·exact I.ok.has n (.inl e)
  ·exact I.ok.has n (.inr e)
 refine wpAny_comprehension_free (use:=none) rfl hs (tq hcells) S.kind (λy hy hl=>by rw[S.uniq y hy,hl]) ?_
 refine thn (hi pins s σ H _ I h) λv s1 h1=>thn h1 λitv s2 ⟨it,fp,tn,J,H2,e,I2,T,t2,f2,hW⟩=>?_
 subst e
 exact tu (Q:=Q) (QQ:=EP X pins σ Q) S hc B I2 T t2 f2 hW λD C s' m _ hq hn=>⟨m,hn,λh' hs'=>let ⟨v,H',I',r,q⟩:=hq h' hs';⟨v,H',I',r,q.2⟩⟩
theorem Dm {elt target iter:Expr} {ifs:List Expr} {pos spos py:Pos} {y:Str} {i:Nat} {wi:TI} {g:TG} {ts:TT} {te:TE} (S:CompScope X.env.scope scope X.N Nb cap nl) (hc:X.calm=true) (hi:PI X target iter wi) (B:Af X scope Nb target ifs elt g ts te)
  (hs:∀x,foldedSetIterable iter X.env x=pure x) (hsw:swapsWith (.ListComp elt [⟨target,iter,ifs,0⟩] scope pos) (some (.Name y py)) spos.line X.env=pure true)
  (hN:X.N.Nodup) (hiN:X.N[i]? = some y) (hy:X.env.scope.names.lookup y=some .local) :
  PS X (.Assign [.Name y py] (.ListComp elt [⟨target,iter,ifs,0⟩] scope pos) spos) (λE σ H=>Pg wi g ts te (i6 cap nl) σ H (FQ λv H1=>E.nx (σ.set i (some v)) H1)):=by
 intro pins s σ H E I h
 rw[exec_Assign_Name_used _ _ _ _ hsw]
 have hcells:∀n,(n,NameKind.free)∈scope.names->∃c,X.env.cells.lookup n=some c:=λn hn=>by
  rcases S.free n hn with e | e
  ·exact I.ok.has n (.inl e)
  ·exact I.ok.has n (.inr e)
 refine AB (wpAny_standAt (AB ?_))
 show wpAny _ _ (comprehension _ scope X.env _ (newList []) false (eval iter X.env) (some (assign (.Name y py) X.env))>>=λ_=>pure ()) _ _ _
 refine AB (wpAny_comprehension_free (use:=some (assign (.Name y py) X.env)) rfl hs (tq hcells) S.kind (λz hz hl=>by rw[S.uniq z hz,hl]) ?_)
 refine thn (hi pins s σ H _ I h) λv s1 h1=>thn h1 λitv s2 ⟨it,fp,tn,J,H2,e,I2,T,t2,f2,hW⟩=>?_
 subst e
 refine tu (Q:=FQ λv H1=>E.nx (σ.set i (some v)) H1) S hc B I2 T t2 f2 hW λD C s' m hC hq hn=>?_
 obtain⟨v,H',I',r,hCn,q⟩:=hq s'.heap (.refl ..)
 have hep:∃H',Inv X pins σ H' s'/\H' C=none/\E.nx (σ.set i (some v)) H':=by
  rcases q with q | ⟨p,xs,rfl,e,q⟩
  ·exact⟨H',I',hCn,q⟩
  ·obtain⟨o,I''⟩:=L2.Inv.freeze I' e
   exact⟨_,I'',by rw[ao (λz=>by rw[z,e]at hCn;cases hCn)];exact hCn,q o⟩
 obtain⟨H',I',hCn,q⟩:=hep
 have hCL:C≠X.env.locals:=CW (AV I2.lt hC)
 show wpAny _ _ (assign (.Name y py) X.env (.ref D)) _ _ s'
 refine wpAny_assign_Name (wz I' hN hiN (.inl hy) r (λs'' I'' ⟨a,hsb,ha⟩=>?_) (.inr hy))
 have haC:C≠a:=by
  rcases ha with z | z
  ·rw[z];exact hCL
  ·obtain⟨w,hc⟩:=I2.cell y a z
   exact CW (AV hc.lt hC)
 refine⟨m,hn.sameBut hsb haC,λh' hs'=>?_⟩
 refine AL (AL ⟨_,H',?_,q⟩)
 refine I''.turned (t':=s''.toks) (it:=C) (λb o hb e=>hs'.extBut b o hb e) hCn hCL (.inr (BX I2.sz hC)) (λx c e=>?_) (λp hp=>?_)
 ·obtain⟨w,hc⟩:=I2.cell x c e
  exact BA (AV hc.lt hC)
 ·exact BA (AV (AQ (I2.pin p hp).1) hC)
end
def tTs (K:PySem.W.Frag) (φ:Phi) (x:Exs):TT:=λσv H Q=>∃ι σ μ,Sim K ι H μ/\l5 K ι H σ σv/\du K RB ι H (Dj φ x σ μ) Q
section
variable {X : Cx} {φ : Phi} {scope : Scope} {Nb : List Str} {cap : List Nat} {nl : Nat}
theorem PTs.imp {ifs:List Expr} {t t':TT} (h:PTs X ifs t) (i:∀σ H Q,t' σ H Q->t σ H Q):PTs X ifs t':=λpins s σ H Q I q=>h pins s σ H Q I (i σ H Q q)
theorem Tz:PTs X [] (tTs X.K φ .nil):=PTs.imp Pf λσv H Q ⟨ι,σ,μ,hS,hL,h⟩=>by
 simp![Dj]at h
 exact h.ok hS rfl
theorem Pj {c:Expr} {r:List Expr} {xc:Ex} {xr:Exs} (h1:PT X c (tT X.K φ xc)) (h2:PTs X r (tTs X.K φ xr)):PTs X (c::r) (tTs X.K φ (.cons xc xr)):=PTs.imp (Kb h1 h2) λσv H Q ⟨ι,σ,μ,hS,hL,h⟩=>by
 simp![Dj]at h
 obtain⟨d,μ1,e1,h⟩:=h.bind
 refine⟨ι,σ,μ,hS,hL,?_⟩
 rw[e1]
 cases d with
 | bl k =>
  intro ι1 x H1 p1 x1 s1 d1
  cases d1
  cases k with
  | true=>exact⟨ι1,σ,μ1,s1,hL.mono p1 x1,(show du _ _ _ _ (Dj φ xr σ μ1) _ from h).mono p1 x1⟩
  | false=>exact h ι1 false H1 p1 x1 s1 rfl
 | _=>exact h.elim
theorem Kc {K:PySem.W.Frag} {ι:List Addr} {H:Hp} {σ:Sl} {σv:St} (hL:l5 K ι H σ σv):l5 K ι H (cap.map (λi=>(σ[i]?).getD none)++List.replicate nl none) (i6 cap nl σv):=λj d e=>by
 by_cases hj:j<cap.length
 ·rw[AK (by simpa using hj),AX,AA hj]at e
  simp![EK,BP]at e
  have e4:σ[cap[j]]? = some (some d):=by
   cases e5:σ[cap[j]]? with
   | none=>rw[e5]at e;cases e
   | some w=>rw[e5]at e;simp at e;rw[e]
  obtain⟨v,q1,q2⟩:=hL _ _ e4
  refine⟨v,?_,q2⟩
  unfold i6
  rw[AK (by simpa using hj),AX,AA hj]
  simp[q1]
 ·rw[AZ (by simpa using hj),CN]at e
  split at e<;>cases e
theorem Kd {σv σv':St} {tg:Tg} (hs:∀j∈slots tg,cap.length<=j) (hl:σv'.length=(i6 cap nl σv).length) (h:∀j,j∉slots tg->σv'[j]? = (i6 cap nl σv)[j]?):Kept (i6 cap nl σv) σv':=by
 refine⟨hl.symm,λi v e=>?_⟩
 have hi:i<cap.length:=by
  by_cases hi:i<cap.length
  ·exact hi
  ·unfold i6 at e
   rw[AZ (by simpa using hi),CN]at e
   split at e<;>cases e
 rw[h i λz=>absurd (hs i z) (by lia)]
 exact e
theorem yj {m:Mk} {tg:Tg} {it:It} {cs:Exs} {elt:Ex} {σv:St} {H:Hp} {Q:VK} (hs:∀j∈slots tg,cap.length<=j) (h:tE X.K φ (.comp m cap nl tg it cs elt) σv H Q) :
  Pg (tI X.K φ it) (tG X.K tg) (tTs X.K φ cs) (tE X.K φ elt) (i6 cap nl) σv H (FQ Q):=by
 obtain⟨ι,σ,μ,hS,hL,h⟩:=h
 simp![evE]at h
 obtain⟨⟨ds,g⟩,μ1,e1,h⟩:=h.bind
 refine⟨ι,σ,μ,hS,hL,?_⟩
 rw[e1]
 intro ι1 H1 J p1 x1 s1 wk
 refine⟨λi k H' acc=>k=ds.length-i/\i<=ds.length/\acc.length<=i/\∃ι' μ' ys,ι1 <+: ι'/\Ext H1 H'/\Sim X.K ι' H' μ'/\af X.K ι' H' ys acc /\
  du X.K (RD X.K) ι' H' ((mapR g (λd μ=>jx (f6 tg d (cap.map (λi=>(σ[i]?).getD none)++List.replicate nl none)) λσ' =>
    (Dj φ cs σ' μ).bind λb μ=>if b=true then(evE φ elt σ' μ).bind λx μ=>.ok [x] μ else .ok [] μ) (ds.drop i) μ').bind λxs μ=>mkL m (ys++xs) μ) Q,
  ⟨ds.length,by simp,If _,AN _,ι1,μ1,[],AH _,.refl _,s1,by simp[af],?_⟩,?_⟩
 ·simpa using h.mono p1 x1
 ·rintro i k H' acc ⟨rfl,hi,hacc,ι',μ',ys,p',x',s',hys,h'⟩
  have wl:=wk.len
  by_cases hlt:i<ds.length
  ·obtain⟨d,ed⟩:∃d,ds[i]? = some d:=⟨ds[i],AA hlt⟩
   have edrop:ds.drop i=d::ds.drop (i+1):=by
    rw[EA hlt]
    rw[AA hlt]at ed
    cases ed;rfl
   rw[edrop]at h'
   simp![mapR]at h'
   split at h'
   ·rename_i hgd
    right
    refine⟨wk.go i ι' H' μ' p' x' s' hgd hlt,by lia,λv H2 hy=>?_⟩
    obtain⟨x2,s2,d',ed',hd'⟩:=wk.yld i ι' H' μ' v H2 p' x' s' hgd hlt hy
    rw[ed]at ed';cases ed'
    rw[Res.bind_assoc]at h'
    cases eb:f6 tg d (cap.map (λi=>(σ[i]?).getD none)++List.replicate nl none)with
    | none=>rw[eb]at h';exact h'.elim
    | some σb =>
     rw[eb]at h'
     simp![lg]at h'
     have hLb:=Kc (cap:=cap) (nl:=nl) ((hL.mono (p1.trans p') (x1.trans x')).mono (AH _) x2)
     refine⟨ι',_,d,σb,hLb,?_,hd',eb,λσv2 l2 z2 z3 k2=>⟨Kd hs z3 k2,ι',σb,μ',s2,l2,?_⟩⟩
     ·simp[i6]
     ·rw[Res.bind_assoc]at h'
      obtain⟨b,μ2,e2,h2⟩:=h'.bind
      rw[e2]
      intro ι3 b' H3 p3 x3 s3 d3
      cases d3
      cases b with
      | false =>
       refine⟨ds.length-(i+1),by lia,rfl,hlt,by lia,ι3,μ2,ys,p'.trans p3,(x'.trans x2).trans x3,s3,af.mono p3 (x2.trans x3) _ _ hys,?_⟩
       have h3:=h2.mono p3 (x2.trans x3)
       simpa[Res.bind_assoc]using h3
      | true =>
       simp![if_true]at h2 ⊢
       rw[Res.bind_assoc]at h2
       obtain⟨y,μ3,e3,h3⟩:=h2.bind
       refine⟨ι3,σb,μ2,s3,l2.mono p3 x3,?_⟩
       rw[e3]
       intro ι4 w H4 p4 x4 s4 d4
       refine⟨ds.length-(i+1),by lia,rfl,hlt,by simp;lia,ι4,μ3,ys++[y],(p'.trans p3).trans p4,((x'.trans x2).trans x3).trans x4,s4,(af.mono (p3.trans p4) ((x2.trans x3).trans x4) _ _ hys).append (.one d4),?_⟩
       have h4:=h3.mono (p3.trans p4) ((x2.trans x3).trans x4)
       simpa[Res.bind_assoc]using h4
   ·exact h'.elim
  ·have ei:i=ds.length:=by lia
   subst ei
   simp![List.drop_length,mapR]at h'
   split at h'
   ·rename_i hgd
    refine .inl ⟨wk.stop ι' H' μ' p' x' s' hgd,by lia,λp hp=>jg s' hys (by simpa using h') hp⟩
   ·exact h'.elim
theorem T4 {e target iter:Expr} {ifs:List Expr} {pos:Pos} {m:Mk} {tg:Tg} {it:It} {cs:Exs} {elt:Ex} (S:CompScope X.env.scope scope X.N Nb cap nl) (hc:X.calm=true) (hi:PI X target iter (tI X.K φ it))
  (B:Af X scope Nb target ifs e (tG X.K tg) (tTs X.K φ cs) (tE X.K φ elt)) (hf:∀x,foldedSetIterable iter X.env x=pure x) (hs:∀j∈slots tg,cap.length<=j) :
  PE X (.ListComp e [⟨target,iter,ifs,0⟩] scope pos) (tE X.K φ (.comp m cap nl tg it cs elt)) :=
 PE.imp (PE.fq (Ph S hc hi B hf)) λσv H Q h=>yj hs h
theorem Fj {e target iter:Expr} {ifs:List Expr} {pos spos py:Pos} {y:Str} {i:Nat} {m:Mk} {tg:Tg} {it:It} {cs:Exs} {elt:Ex} (S:CompScope X.env.scope scope X.N Nb cap nl) (hc:X.calm=true) (hi:PI X target iter (tI X.K φ it))
  (B:Af X scope Nb target ifs e (tG X.K tg) (tTs X.K φ cs) (tE X.K φ elt)) (hf:∀x,foldedSetIterable iter X.env x=pure x) (hs:∀j∈slots tg,cap.length<=j)
  (hsw:swapsWith (.ListComp e [⟨target,iter,ifs,0⟩] scope pos) (some (.Name y py)) spos.line X.env=pure true) (hN:X.N.Nodup) (hiN:X.N[i]? = some y) (hy:X.env.scope.names.lookup y=some .local) :
  PS X (.Assign [.Name y py] (.ListComp e [⟨target,iter,ifs,0⟩] scope pos) spos) (tS X.K φ (.set i (.comp m cap nl tg it cs elt))) :=
 PS.imp (Dm S hc hi B hf hsw hN hiN hy) λE σv H ⟨ι,σ,μ,hS,hL,hl,h⟩=>by
  refine yj (m:=m) (Q:=λv H1=>E.nx (σv.set i (some v)) H1) hs ?_
  simp![evS]at h
  obtain⟨d,μ1,e1,h⟩:=h.bind
  refine⟨ι,σ,μ,hS,hL,?_⟩
  rw[e1]
  exact λι1 v H1 p1 x1 s1 d1=>h ι1 _ H1 p1 x1 s1 ((hL.mono p1 x1).set hl d1) (by simp[hl])
end
theorem Pk (i:Int) (h:0<=i):Builtin.bitXor i 1=if i % 2=0 then i+1 else i-1:=by
 rw[PyProof.Rows.bitXor_and,PyProof.Rows.bitAnd_m1]
 split<;>lia
section
variable {X : Cx} {φ : Phi}
theorem gk {K:PySem.W.Frag} {ι:List Addr} {H:Hp} {ds:List D} {v:V} (h:IsD K ι H (.tup ds) v):∃a xs,v=.ref a/\SqT K H a xs/\af K ι H ds xs:=by
 simpa[IsD]using h
theorem tup_is {K:PySem.W.Frag} {ι:List Addr} {H:Hp} {ds:List D} {a:Addr} {xs:List V} (h:SqT K H a xs) (h2:af K ι H ds xs):IsD K ι H (.tup ds) (.ref a):=by
 simp![IsD]
 exact⟨a,xs,rfl,h,h2⟩
theorem ck {K:PySem.W.Frag} {ι:List Addr} {H:Hp} {i:Int} {v:V} (h:IsD K ι H (.int i) v):v=.int i:=by simpa[IsD]using h
theorem Ag {K:PySem.W.Frag} {ι:List Addr} {H:Hp} {i:Bool} {v:V} (h:IsD K ι H (.bl i) v):v=.bl i:=by simpa[IsD]using h
theorem u7 {K:PySem.W.Frag} {ι:List Addr} {H:Hp} {μ:Sto} {ds:List D} {xs:List V} {Q:VK} {p:Addr} (hS:Sim K ι H μ) (hd:af K ι H ds xs) (h:du K (RD K) ι H (.ok (.tup ds) μ) Q) (hp:H p=none):Q (.ref p) (upd H p (.tup xs)) :=
 h ι (.ref p) _ (AH _) (.new hp) (hS.new hp) (tup_is (.of aq) (af.mono (AH _) (.new hp) ds xs hd))
theorem Fk {pins:List (Addr×Obj)} {s:Shared} {σ:St} {H:Hp} {l b:Addr} {xs zs:List V} {Q:VK} (I:Inv X pins σ H s) (hl:LsL X.K H l xs) (hb:LsL X.K H b zs) (hz:xs.length+zs.length<=sizeLine)
  (q:∀p,H p=none->Q (.ref p) (upd H p (.lst (xs++zs)))):wpAny (model X.prog X.w) X.A (binaryOp .Add (.ref l) (.ref b)) (EP X pins σ Q) X.xe s:=by
 obtain⟨z,its,n,r,hl,e⟩:=I.ls hl
 obtain⟨z2,its2,n2,r2,hl2,e2⟩:=I.ls hb
 refine PySem.P.add_list e e2 ?_ (by rw[AI,AI];lia)
 have ea:its.toArray++its2.toArray=(its++its2).toArray:=by simp
 rw[ea]
 exact⟨.ref _,_,I.lnew (t':=s.toks) (r.append r2) (by rw[BD];lia),rfl,q _ I.fresh⟩
theorem Ke {pins:List (Addr×Obj)} {s:Shared} {σ:St} {H:Hp} {l:Addr} {k:Int} {t:Tok} {xs:List V} {Q:VK} (I:Inv X pins σ H s) (hH:LsL X.K H l xs) (h1:-(2 ^ 63)<=k) (h2:k<2 ^ 63) (hz:xs.length*k.toNat<=sizeLine)
  (q:∀p,H p=none->Q (.ref p) (upd H p (.lst (List.replicate k.toNat xs).flatten))):wpAny (model X.prog X.w) X.A (binaryOp .Mult (.ref l) (.int k t)) (EP X pins σ Q) X.xe s:=by
 obtain⟨z,its,n,r,hl,e⟩:=I.ls hH
 have hlen:its.toArray.size*k.toNat<=sizeLine:=by rw[AI,<-hl];exact hz
 have hcap:¬its.toArray.size*k.toNat > (2 ^ 63-1) / 8:=by
  have:(sizeLine:Nat)<=(2 ^ 63-1) / 8:=by decide
  lia
 have hfit:¬(!Builtin.List.listFitsIndex k)=true:=by
  rw[fitsIndex_both h1 h2]
  exact BB
 have hlong:¬Builtin.List.listTooLong (its.toArray.size*k.toNat)=true:=by
  rw[Bh hlen]
  exact BB
 have hnew:List.foldl (λx1 x2=>x1++x2) #[] (List.replicate (if its.toArray.isEmpty=true then 0 else k.toNat) its.toArray)=(List.replicate k.toNat its).flatten.toArray:=by
  have f0:∀m:Nat,List.foldl (λx1 x2=>x1++x2) #[] (List.replicate m its.toArray)=(List.replicate m its).flatten.toArray:=λm=>by
   have:=foldl_rep its m []
   rw[EL]at this
   exact this
  rw[f0]
  cases its with
  | nil=>simp
  | cons a r'=>rw[if_neg (by simp)]
 refine wpAny_binaryOp_repeat_ref (T:="list") (U:="int") (by decide) ⟨_,e,rfl⟩ (λs'=>typeIs_int s' k t) noFill_list_mul F.fills_int_mul F.slot_int_rmul repeat_list F.slot_int_index.lookup
  (FL F.slot_int_rmul (typeIs_int s k t) F.entry_int_rmul (F.args_int_rmul_2 _ _) (int___rmul___int_list k t l its.toArray n)
   ⟨e,rfl,⟨_,e,rfl⟩,FL F.slot_list_mul ⟨_,e,rfl⟩ F.entry_list_mul (F.args_list_mul_2 _ _) (AutoListH.list___mul___list_int_3 l its.toArray n k t hfit hcap hlong) ⟨e,?_⟩⟩)
 rw[hnew]
 exact⟨.ref _,_,I.lnew (t':=s.toks) (r.rep k.toNat) (by rw[len_rep,Nat.mul_comm];exact hz),rfl,q _ I.fresh⟩
theorem Pl {pins:List (Addr×Obj)} {s:Shared} {σ:St} {H:Hp} {a b:Addr} {ys:List V} {Q:VK} (I:Inv X pins σ H s) (ha:SqT X.K H a []) (hb:SqT X.K H b ys) (q:Q (.ref b) H) :
  wpAny (model X.prog X.w) X.A (binaryOp .Add (.ref a) (.ref b)) (EP X pins σ Q) X.xe s:=by
 obtain⟨its,r1,p1,_⟩:=I.tuple ha
 obtain⟨its2,r2,p2,_⟩:=I.tuple hb
 have e1:its=[]:=by cases r1;rfl
 subst e1
 obtain⟨⟨cls,dd,data,sl⟩,ho,hc,n,hd⟩:=id p1
 obtain⟨⟨cls2,dd2,data2,sl2⟩,ho2,hc2,n2,hd2⟩:=id p2
 simp only at hc hd hc2 hd2
 subst hc hd hc2 hd2
 exact concat_meets ⟨_,ho,rfl⟩ ⟨_,ho2,rfl⟩ GX seq_tuple_add FG FD (EV _ _)
   (tuple_addW0 a b ([]:List Value).toArray its2.toArray n n2 dd dd2 sl sl2 (by simp)) ⟨ho,ho2,⟨.ref b,H,I,rfl,q⟩⟩
theorem T5 {op:Operator} {m:Mk}:OpR X (binaryOp op) (rOp X.K (opD op m)):=by
 intro pins s σ H x y v u Q I rx ry ⟨ι,d,e,μ,hS,hd,he,h⟩
 unfold opD at h
 split at h
 ·rename_i i j
  cases ck hd
  cases ck he
  unfold opI at h
  split at h
  ·exact op_add pins s σ H _ _ v u Q I rx ry ⟨i,j,rfl,rfl,h.ok hS (by simp[IsD])⟩
  ·exact op_sub pins s σ H _ _ v u Q I rx ry ⟨i,j,rfl,rfl,h.ok hS (by simp[IsD])⟩
  ·split at h
   ·rename_i hc
    exact op_mul pins s σ H _ _ v u Q I rx ry ⟨i,j,rfl,rfl,hc,h.ok hS (by simp[IsD])⟩
   ·exact h.elim
  ·split at h
   ·rename_i hc
    exact Od pins s σ H _ _ v u Q I rx ry ⟨i,j,rfl,rfl,hc,h.ok hS (by simp[IsD])⟩
   ·exact h.elim
  ·split at h
   ·rename_i hc
    exact op_mod pins s σ H _ _ v u Q I rx ry ⟨i,j,rfl,rfl,hc,h.ok hS (by simp[IsD])⟩
   ·exact h.elim
  ·split at h
   ·rename_i hc
    exact op_pow pins s σ H _ _ v u Q I rx ry ⟨i,j,rfl,rfl,hc,h.ok hS (by simp[IsD])⟩
   ·exact h.elim
  ·split at h
   ·rename_i hc
    exact op_shr pins s σ H _ _ v u Q I rx ry ⟨i,j,rfl,rfl,hc,h.ok hS (by simp[IsD])⟩
   ·exact h.elim
  ·split at h
   ·rename_i hc
    exact R9 pins s σ H _ _ v u Q I rx ry ⟨i,j,rfl,rfl,hc,h.ok hS (by simp[IsD])⟩
   ·exact h.elim
  ·split at h
   ·rename_i hc
    obtain⟨h0,rfl⟩:=hc
    refine Sa pins s σ H _ _ v u Q I rx ry ⟨i,1,rfl,rfl,?_⟩
    show Q (.int (Builtin.bitXor i 1)) H
    rw[Pk i h0]
    exact h.ok hS (by simp[IsD])
   ·exact h.elim
  ·exact h.elim
 ·rename_i xs ys
  split at h
  ·split at h
   ·rename_i hz
    obtain⟨a,vs,rfl,ha,hvs⟩:=gk hd
    obtain⟨b,ws,rfl,hb,hws⟩:=gk he
    cases rx
    cases ry
    rw[fg]at hz
    by_cases hx:vs=[]
    ·subst hx
     have e1:xs=[]:=by have:=hvs.length;simpa using this.symm
     subst e1
     exact Pl I ha hb (h.ok hS he)
    ·refine Ot pins s σ H (.ref a) (.ref b) _ _ Q I rfl rfl ⟨a,b,vs,ws,rfl,rfl,ha,hb,hx,by rw[hvs.length,hws.length];exact hz,λz=>?_,λz p hp=>u7 hS (hvs.append hws) h hp⟩
     subst z
     have e1:ys=[]:=by have:=hws.length;simpa using this.symm
     subst e1
     exact h.ok hS (by simpa using hd)
   ·exact h.elim
  ·exact h.elim
 ·rename_i j _
  cases ck he
  split at h
  ·rename_i es
   split at h
   ·rename_i hz
    obtain⟨a,xs,rfl,ha,hxs⟩:=jz hS hd es
    cases rx
    obtain⟨t,rfl⟩:=ry
    rw[fg]at hz
    exact Fe (Ke I ha hz.2.1 hz.2.2 (by rw[hxs.length];exact hz.1) λp hp=>jg hS (hxs.rep _) h hp)
   ·exact h.elim
  ·exact h.elim
 ·split at h
  ·rename_i es1 es2
   split at h
   ·rename_i hz
    obtain⟨a,xs,rfl,ha,hxs⟩:=jz hS hd es1
    obtain⟨b,ys,rfl,hb,hys⟩:=jz hS he es2
    cases rx
    cases ry
    rw[fg]at hz
    exact Fe (Fk I ha hb (by rw[hxs.length,hys.length];exact hz) λp hp=>jg hS (hxs.append hys) h hp)
   ·exact h.elim
  ·exact h.elim
end
section
variable (K : PySem.W.Frag) (H : Hp)
mutual
def IsW:D->V->Prop
 | .non,v=>v=.non
 | .bl b,v=>v=.bl b
 | .int i,v=>v=.int i
 | .str x,v=>v=.str x
 | .tup ds,v=>∃a xs,v=.ref a/\SqT K H a xs/\ju ds xs
 | .lst ds,v=>∃a xs,v=.ref a/\LsL K H a xs/\ju ds xs
 | .loc _,_=>False
def ju:List D->List V->Prop
 | [],xs=>xs=[]
 | d::ds,xs=>∃v r,xs=v::r/\IsW d v/\ju ds r
end
end
section
variable {K : PySem.W.Frag} {H : Hp}
theorem ju.length:∀{ds:List D} {xs:List V},ju K H ds xs->xs.length=ds.length
 | [],xs,h=>by simp![ju]at h;subst h;rfl
 | d::ds,xs,h=>by
  simp![ju]at h
  obtain⟨v,r,rfl,_,t⟩:=h
  simp[ju.length t]
theorem ju.get:∀{ds:List D} {xs:List V} {i:Nat} {d:D},ju K H ds xs->ds[i]? = some d->∃v,xs[i]? = some v/\IsW K H d v
 | [],_,_,_,_,e=>by simp at e
 | d::ds,xs,0,_,h,e=>by
  simp![ju]at h
  obtain⟨v,r,rfl,q,_⟩:=h
  simp at e;subst e
  exact⟨v,rfl,q⟩
 | d::ds,xs,i+1,x,h,e=>by
  simp![ju]at h
  obtain⟨v,r,rfl,_,t⟩:=h
  obtain⟨w,h1,h2⟩:=ju.get (i:=i) (d:=x) t (by simpa using e)
  exact⟨w,by simpa using h1,h2⟩
theorem qg {ds:List D} {v:V} (h:IsW K H (.tup ds) v):∃a xs,v=.ref a/\SqT K H a xs/\ju K H ds xs:=by simpa[IsW]using h
theorem Fm {ι:List Addr} {μ:Sto} (S:Sim K ι H μ) (f:D->Option D) (hf:∀d e v,f d=some e->IsD K ι H d v->IsW K H e v):∀{ds es:List D} {xs:List V},cy (ds.map f)=some es->af K ι H ds xs->ju K H es xs
 | [],es,xs,h,hd=>by
  simp![CZ,cy,BP]at h
  subst h
  simpa[af,ju]using hd
 | d::ds,es,xs,h,hd=>by
  simp![AO]at h
  cases e1:f d with
  | none=>rw[e1]at h;simp[cy]at h
  | some e =>
   rw[e1]at h
   simp![cy]at h
   cases e2:cy (ds.map f)with
   | none=>rw[e2]at h;cases h
   | some r =>
    rw[e2]at h
    cases h
    simp![af]at hd
    obtain⟨v,t,rfl,q,hd⟩:=hd
    simp![ju]
    exact⟨v,t,rfl,hf d e v e1 q,Fm S f hf e2 hd⟩
theorem yk {ι:List Addr} {μ:Sto} (S:Sim K ι H μ):∀(k:Nat) (d e:D) (v:V),a9 μ k d=some e->IsD K ι H d v->IsW K H e v
 | 0,d,e,v,h,hd=>by
  cases d<;>simp_all[a9,flat,IsD,IsW]<;>(subst h;simp[IsW])
 | k+1,d,e,v,h,hd=>by
  have ih:=yk S k
  have sub:∀{ι':List Addr} {ds es:List D} {xs:List V},ι' <+: ι->cy (ds.map (a9 μ k))=some es->af K ι' H ds xs->ju K H es xs:=λp h hd=>Fm S _ ih h (af.mono p (.refl _) _ _ hd)
  cases d with
  | tup ds =>
   simp![a9]at h
   cases e1:cy (ds.map (a9 μ k))with
   | none=>rw[e1]at h;cases h
   | some es =>
    rw[e1]at h;cases h
    obtain⟨a,xs,rfl,hq,hds⟩:=gk hd
    simp![IsW]
    exact⟨a,xs,rfl,hq,sub (AH _) e1 hds⟩
  | lst ds =>
   simp![a9]at h
   cases e1:cy (ds.map (a9 μ k))with
   | none=>rw[e1]at h;cases h
   | some es =>
    rw[e1]at h;cases h
    obtain⟨a,xs,rfl,hq,hds⟩:∃a xs,v=.ref a/\FzL K H a xs/\af K ι H ds xs:=by simpa[IsD]using hd
    simp![IsW]
    exact⟨a,xs,rfl,.inr hq,sub (AH _) e1 hds⟩
  | loc n =>
   obtain⟨a,rfl,hn⟩:∃a,v=.ref a/\ι[n]? = some a:=by simpa[IsD]using hd
   simp![a9]at h
   cases em:μ[n]? with
   | none=>rw[em]at h;cases h
   | some o =>
    obtain⟨a',q',ho⟩:=S.at em
    rw[hn]at q';cases q'
    rw[em]at h
    cases o with
    | l ds =>
     simp only at h
     obtain⟨xs,f1,f2⟩:=ho
     cases e1:cy (ds.map (a9 μ k))with
     | none=>rw[e1]at h;cases h
     | some es =>
      rw[e1]at h;cases h
      simp![IsW]
      exact⟨a,xs,rfl,(.inl f1),sub CK e1 f2⟩
    | r ds =>
     simp only at h
     obtain⟨xs,f1,f2⟩:=ho
     cases e1:cy (ds.map (a9 μ k))with
     | none=>rw[e1]at h;cases h
     | some es =>
      rw[e1]at h;cases h
      simp![IsW]
      exact⟨a,xs,rfl,(.inl f1),sub (AH _) e1 f2⟩
    | _=>cases h
  | _=>simp![a9]at h;cases h;simpa[IsD,IsW]using hd
mutual
theorem IsW.ofD:∀{d:D} {v:V},IsD K [] H d v->IsW K H d v
 | .non,v,h=>by simpa[IsD,IsW]using h
 | .bl _,v,h=>by simpa[IsD,IsW]using h
 | .int _,v,h=>by simpa[IsD,IsW]using h
 | .str _,v,h=>by simpa[IsD,IsW]using h
 | .tup ds,v,h=>by
  obtain⟨a,xs,rfl,hq,hds⟩:=gk h
  simp![IsW]
  exact⟨a,xs,rfl,hq,ju.ofD hds⟩
 | .lst ds,v,h=>by
  obtain⟨a,xs,rfl,hq,hds⟩:∃a xs,v=.ref a/\FzL K H a xs/\af K [] H ds xs:=by simpa[IsD]using h
  simp![IsW]
  exact⟨a,xs,rfl,.inr hq,ju.ofD hds⟩
 | .loc n,v,h=>by simp[IsD]at h
theorem ju.ofD:∀{ds:List D} {xs:List V},af K [] H ds xs->ju K H ds xs
 | [],xs,h=>by simpa[af,ju]using h
 | d::ds,xs,h=>by
  simp![af]at h
  obtain⟨v,r,rfl,q,t⟩:=h
  simp![ju]
  exact⟨v,r,rfl,IsW.ofD q,ju.ofD t⟩
end
theorem qh {μ:Sto} {k:Nat} (ih:∀d e,a9 μ k d=some e->D.pureN k e=true):∀{ds es:List D},cy (ds.map (a9 μ k))=some es->es.all (D.pureN k)=true
 | [],es,h=>by simp![CZ,cy,BP]at h;subst h;rfl
 | d::ds,es,h=>by
  simp![AO]at h
  cases e1:a9 μ k d with
  | none=>rw[e1]at h;simp[cy]at h
  | some e =>
   rw[e1]at h
   simp![cy]at h
   cases e2:cy (ds.map (a9 μ k))with
   | none=>rw[e2]at h;cases h
   | some r =>
    rw[e2]at h;cases h
    simp![BM,ih d e e1,qh ih e2,FM]
theorem i7 {μ:Sto}:∀(k:Nat) (d e:D),a9 μ k d=some e->D.pureN k e=true
 | 0,d,e,h=>by
  cases d<;>simp_all[a9,flat]<;>(subst h;rfl)
 | k+1,d,e,h=>by
  have ih:=i7 (μ:=μ) k
  have mp:∀{ds:List D} {c:List D->D},(∀es,es.all (D.pureN k)=true->D.pureN (k+1) (c es)=true)->(cy (ds.map (a9 μ k))).map c=some e->D.pureN (k+1) e=true:=λ{ds c} hc h=>by
   cases e1:cy (ds.map (a9 μ k))with
   | none=>rw[e1]at h;cases h
   | some es=>rw[e1]at h;cases h;exact hc es (qh ih e1)
  cases d with
  | tup ds=>simp![a9]at h;exact mp (c:=.tup) (λes h=>h) h
  | lst ds=>simp![a9]at h;exact mp (c:=.lst) (λes h=>h) h
  | loc n =>
   simp![a9]at h
   cases em:μ[n]? with
   | none=>rw[em]at h;cases h
   | some o =>
    rw[em]at h
    cases o with
    | l ds=>exact mp (c:=.lst) (λes h=>h) h
    | r ds=>exact mp (c:=.lst) (λes h=>h) h
    | _=>cases h
  | _=>simp![a9]at h;cases h;rfl
end
open PySem.SeqAt (EqAt RcAt RcNeAt)
section
variable {X : Cx} {φ : Phi} {pins : List (Addr × Obj)} {σ : St} {H : Hp} {s : Shared}
theorem in1_units (A:Around):A.in1.units=A.units+1:=by
 first | rfl | simp[Around.in1]
theorem nq:∀(as bs:List D),as.length=bs.length->Bk as bs=(List.range as.length).all λj=>deq (as.getD j .non) (bs.getD j .non)
 | [],[],_=>rfl
 | a::as,b::bs,h=>by
  rw[Bk,nq as bs (by simpa using h),AU,FH,BM,List.all_map]
  rfl
 | [],_::_,h=>by simp at h
 | _::_,[],h=>by simp at h
theorem u9:∀(as bs:List D),as.length≠bs.length->Bk as bs=false
 | [],[],h=>absurd rfl h
 | a::as,b::bs,h=>by rw[Bk,u9 as bs (by simpa using h),IB]
 | [],_::_,_=>rfl
 | _::_,[],_=>rfl
theorem Ah:∀(k:Nat) (a b:D) (v:V),D.pureN k a=true->D.pureN k b=true->IsW X.K H a v->IsW X.K H b v->Inv X pins σ H s->deq a b=true:=by
 intro k
 have list:∀k,(∀(a b:D) (v:V),D.pureN k a=true->D.pureN k b=true->IsW X.K H a v->IsW X.K H b v->Inv X pins σ H s->deq a b=true) ->
   ∀(as bs:List D) (xs:List V),as.all (D.pureN k)=true->bs.all (D.pureN k)=true->ju X.K H as xs->ju X.K H bs xs->Inv X pins σ H s->Bk as bs=true:=by
  intro k ih as
  induction as with
  | nil =>
   intro bs xs _ _ ha hb _
   have e:xs=[]:=by simpa[ju]using ha
   subst e
   have:=hb.length
   have e2:bs=[]:=by simpa using this.symm
   subst e2
   rfl
  | cons a as iha =>
   intro bs xs pa pb ha hb I
   cases bs with
   | nil =>
    have e:xs=[]:=by simpa[ju]using hb
    subst e
    have:=ha.length
    simp at this
   | cons b bs =>
    simp![ju]at ha hb
    obtain⟨v,r,e,q,t⟩:=ha
    obtain⟨v',r',e',q',t'⟩:=hb
    rw[e]at e'
    cases e'
    simp![BM,AY]at pa pb
    rw[Bk,ih a b v pa.1 pb.1 q q' I,iha bs r pa.2 pb.2 t t' I]
    rfl
 have flat:∀(a b:D) (v:V),(∀ds,a≠.tup ds)->(∀ds,a≠.lst ds)->(∀n,a≠.loc n)->(∀n,b≠.loc n)->IsW X.K H a v->IsW X.K H b v->deq a b=true:=by
  intro a b v h1 h2 h3 h4 ha hb
  cases a with
  | tup ds=>exact absurd rfl (h1 ds)
  | lst ds=>exact absurd rfl (h2 ds)
  | loc n=>exact absurd rfl (h3 n)
  | _=>cases b<;>simp_all[IsW,deq]
 induction k with
 | zero =>
  intro a b v pa pb ha hb I
  refine flat a b v ?_ ?_ ?_ ?_ ha hb
  ·intro z e;subst e;simp[D.pureN]at pa
  ·intro z e;subst e;simp[D.pureN]at pa
  ·intro z e;subst e;simp[D.pureN]at pa
  ·intro z e;subst e;simp[D.pureN]at pb
 | succ k ih =>
  intro a b v pa pb ha hb I
  cases a with
  | loc n=>simp[D.pureN]at pa
  | tup as =>
   simp![IsW]at ha
   obtain⟨p,xs,rfl,hq,hds⟩:=ha
   cases b with
   | tup bs =>
    simp![IsW]at hb
    obtain⟨p',xs',e,hq',hds'⟩:=hb
    cases e
    have:=I.tuple_inj hq hq'
    subst this
    rw[deq]
    exact list k ih as bs xs (by simpa[D.pureN]using pa) (by simpa[D.pureN]using pb) hds hds' I
   | lst bs =>
    simp![IsW]at hb
    obtain⟨p',xs',e,hq',hds'⟩:=hb
    cases e
    exfalso
    obtain⟨its,_,⟨o,e1,c1,_⟩,_⟩:=I.tuple hq
    obtain⟨its',_,⟨o',n',e2,c2,_⟩,_⟩:=I.list hq'.sq
    rw[e1]at e2;cases e2
    rw[c1]at c2
    injection c2 with c3
    exact absurd c3 (by decide)
   | loc n=>simp[D.pureN]at pb
   | _=>simp[IsW]at hb
  | lst as =>
   simp![IsW]at ha
   obtain⟨p,xs,rfl,hq,hds⟩:=ha
   cases b with
   | lst bs =>
    simp![IsW]at hb
    obtain⟨p',xs',e,hq',hds'⟩:=hb
    cases e
    have:=I.list_inj hq.sq hq'.sq
    subst this
    rw[deq]
    exact list k ih as bs xs (by simpa[D.pureN]using pa) (by simpa[D.pureN]using pb) hds hds' I
   | tup bs =>
    simp![IsW]at hb
    obtain⟨p',xs',e,hq',hds'⟩:=hb
    cases e
    exfalso
    obtain⟨its,_,⟨o,e1,c1,_⟩,_⟩:=I.tuple hq'
    obtain⟨its',_,⟨o',n',e2,c2,_⟩,_⟩:=I.list hq.sq
    rw[e1]at e2;cases e2
    rw[c1]at c2
    injection c2 with c3
    exact absurd c3 (by decide)
   | loc n=>simp[D.pureN]at pb
   | _=>simp[IsW]at hb
  | _ =>
   refine flat _ b v (by intro _ z;cases z) (by intro _ z;cases z) (by intro _ z;cases z) ?_ ha hb
   intro z e;subst e;simp[D.pureN]at pb
theorem Kf (I:Inv X pins σ H s) {k:Nat} {A:Around} {a b:D} {x y:V} {u v:Value} (pa:D.pureN k a=true) (pb:D.pureN k b=true) (ha:IsW X.K H a x) (hb:IsW X.K H b y) (ru:RelV x u) (rv:RelV y v) (h:RcAt A s u v (deq a b)):EqAt A s u v (deq a b):=by
 intro prog w E Q q
 have fl:∀b t,u≠.float b t:=λb t z=>by
  subst z
  cases a with
  | non=>cases(show x=.non by simpa[IsW]using ha);exact nomatch (show Value.float b t=.none from ru)
  | bl c=>cases(show x=.bl c by simpa[IsW]using ha);exact nomatch (show Value.float b t=.bool c from ru)
  | int c=>cases(show x=.int c by simpa[IsW]using ha);obtain⟨_,z⟩:=ru;cases z
  | str c=>cases(show x=.str c by simpa[IsW]using ha);obtain⟨_,z⟩:=ru;cases z
  | loc n=>simp[IsW]at ha
  | tup _=>obtain⟨c,_,rfl,_⟩:=qg ha;exact nomatch (show Value.float b t=.ref c from ru)
  | lst ds =>
        obtain⟨c,_,rfl,_⟩:∃a xs,x=.ref a/\LsL X.K H a xs/\ju X.K H ds xs:=by simpa[IsW]using ha
        exact nomatch (show Value.float b t=.ref c from ru)
 unfold eqBool
 refine EM ?_
 by_cases e:(u==v)=true
 ·rw[if_pos e]
  have e':u=v:=by simpa using e
  subst e'
  cases ru.inj rv
  rw[Ah k _ _ _ pa pb ha hb I]at q
  exact AB (GD (AL q))
 ·rw[if_neg e]
  have go:wpAny (model prog w) A (do
    let r <-richCompare .Eq u v
    truthOfDropped r) Q E s:=AB (h prog w _ _ (by exact ED q))
  cases u with
  | float b t=>exact absurd rfl (fl b t)
  | _=>exact go
theorem Fn (A:Around) (a b:D) (x y:V) (u v:Value) (pa:D.pureN 0 a=true) (pb:D.pureN 0 b=true) (ha:IsW X.K H a x) (hb:IsW X.K H b y) (ru:RelV x u) (rv:RelV y v):RcAt A s u v (deq a b)/\RcNeAt A s u v (!deq a b):=by
 have b2:∀(a b:Int),decide (a=b)=(a==b):=λa b=>(EO a b).symm
 cases a with
 | tup _=>simp[D.pureN]at pa
 | lst _=>simp[D.pureN]at pa
 | loc _=>simp[D.pureN]at pa
 | non =>
  have ex:x=.non:=by simpa[IsW]using ha
  subst ex
  cases(show u=Value.none from ru)
  cases b with
  | tup _=>simp[D.pureN]at pb
  | lst _=>simp[D.pureN]at pb
  | loc _=>simp[D.pureN]at pb
  | non=>cases(show y=.non by simpa[IsW]using hb);cases(show v=Value.none from rv);exact⟨RcAt.none_none,RcNeAt.none_none⟩
  | bl c=>cases(show y=.bl c by simpa[IsW]using hb);cases(show v=Value.bool c from rv);exact⟨RcAt.none_bool _,RcNeAt.none_bool _⟩
  | int c=>cases(show y=.int c by simpa[IsW]using hb);obtain⟨t,rfl⟩:=rv;exact⟨RcAt.none_int _ _,RcNeAt.none_int _ _⟩
  | str c=>cases(show y=.str c by simpa[IsW]using hb);obtain⟨t,rfl⟩:=rv;exact⟨RcAt.none_str _ _,RcNeAt.none_str _ _⟩
 | bl d =>
  have ex:x=.bl d:=by simpa[IsW]using ha
  subst ex
  cases(show u=Value.bool d from ru)
  cases b with
  | tup _=>simp[D.pureN]at pb
  | lst _=>simp[D.pureN]at pb
  | loc _=>simp[D.pureN]at pb
  | non=>cases(show y=.non by simpa[IsW]using hb);cases(show v=Value.none from rv);exact⟨RcAt.bool_none _,RcNeAt.bool_none _⟩
  | bl c=>cases(show y=.bl c by simpa[IsW]using hb);cases(show v=Value.bool c from rv);exact⟨RcAt.bool_bool _ _,RcNeAt.bool_bool _ _⟩
  | int c=>cases(show y=.int c by simpa[IsW]using hb);obtain⟨t,rfl⟩:=rv;rw[deq,b2];exact⟨RcAt.bool_int _ _ _,RcNeAt.bool_int _ _ _⟩
  | str c=>cases(show y=.str c by simpa[IsW]using hb);obtain⟨t,rfl⟩:=rv;exact⟨RcAt.bool_str _ _ _,RcNeAt.bool_str _ _ _⟩
 | int d =>
  have ex:x=.int d:=by simpa[IsW]using ha
  subst ex
  obtain⟨t',rfl⟩:=ru
  cases b with
  | tup _=>simp[D.pureN]at pb
  | lst _=>simp[D.pureN]at pb
  | loc _=>simp[D.pureN]at pb
  | non=>cases(show y=.non by simpa[IsW]using hb);cases(show v=Value.none from rv);exact⟨RcAt.int_none _ _,RcNeAt.int_none _ _⟩
  | bl c=>cases(show y=.bl c by simpa[IsW]using hb);cases(show v=Value.bool c from rv);rw[deq,b2];exact⟨RcAt.int_bool _ _ _,RcNeAt.int_bool _ _ _⟩
  | int c=>cases(show y=.int c by simpa[IsW]using hb);obtain⟨t,rfl⟩:=rv;rw[deq,b2];exact⟨RcAt.int_int _ _ _ _,RcNeAt.int_int _ _ _ _⟩
  | str c=>cases(show y=.str c by simpa[IsW]using hb);obtain⟨t,rfl⟩:=rv;exact⟨RcAt.int_str _ _ _ _,RcNeAt.int_str _ _ _ _⟩
 | str d =>
  have ex:x=.str d:=by simpa[IsW]using ha
  subst ex
  obtain⟨t',rfl⟩:=ru
  cases b with
  | tup _=>simp[D.pureN]at pb
  | lst _=>simp[D.pureN]at pb
  | loc _=>simp[D.pureN]at pb
  | non=>cases(show y=.non by simpa[IsW]using hb);cases(show v=Value.none from rv);exact⟨RcAt.str_none _ _,RcNeAt.str_none _ _⟩
  | bl c=>cases(show y=.bl c by simpa[IsW]using hb);cases(show v=Value.bool c from rv);exact⟨RcAt.str_bool _ _ _,RcNeAt.str_bool _ _ _⟩
  | int c=>cases(show y=.int c by simpa[IsW]using hb);obtain⟨t,rfl⟩:=rv;exact⟨RcAt.str_int _ _ _ _,RcNeAt.str_int _ _ _ _⟩
  | str c =>
   cases(show y=.str c by simpa[IsW]using hb);obtain⟨t,rfl⟩:=rv
   have e:deq (.str d) (.str c)=(d==c):=by rw[deq];exact(EO d c).symm
   rw[e];exact⟨RcAt.str_str _ _ _ _,RcNeAt.str_str _ _ _ _⟩
theorem Wk (I:Inv X pins σ H s):∀(k:Nat) (A:Around) (a b:D) (x y:V) (u v:Value),A.units+k<cLine->D.pureN k a=true->D.pureN k b=true->IsW X.K H a x->IsW X.K H b y->RelV x u->RelV y v->RcAt A s u v (deq a b)/\RcNeAt A s u v (!deq a b):=by
 intro k
 induction k with
 | zero=>exact λA a b x y u v _ pa pb ha hb ru rv=>Fn A a b x y u v pa pb ha hb ru rv
 | succ k ih =>
  intro A a b x y u v hu pa pb ha hb ru rv
  have hu0:A.units<cLine:=by lia
  have each:∀(as bs:List D) (xs ys:List V) (is js:List Value),as.all (D.pureN k)=true->bs.all (D.pureN k)=true->ju X.K H as xs->ju X.K H bs ys->bh xs is->bh ys js ->
    ∀j (h1:j<is.toArray.size) (h2:j<js.toArray.size),EqAt A.in1 s is.toArray[j] js.toArray[j] (deq (as.getD j .non) (bs.getD j .non)):=by
   intro as bs xs ys is js pas pbs has hbs hvx hvy j h1 h2
   have l1:as.length=is.length:=by rw[<-has.length,hvx.length]
   have l2:bs.length=js.length:=by rw[<-hbs.length,hvy.length]
   have j1:j<as.length:=by rw[l1];simpa using h1
   have j2:j<bs.length:=by rw[l2];simpa using h2
   obtain⟨p,e1,q1⟩:=has.get (AA j1)
   obtain⟨p',e1',q1'⟩:=hbs.get (AA j2)
   obtain⟨w,e2,q2⟩:=hvx.get e1
   obtain⟨w',e2',q2'⟩:=hvy.get e1'
   have g1:is.toArray[j]=w:=by
    have:is[j]? = some is.toArray[j]:=by simp[AA (show j<is.length by lia)]
    rw[this]at e2;exact BH e2
   have g2:js.toArray[j]=w':=by
    have:js[j]? = some js.toArray[j]:=by simp[AA (show j<js.length by lia)]
    rw[this]at e2';exact BH e2'
   rw[g1,g2,AF,AF,AA j1,AA j2]
   have pa:=AR.mp pas _ (EG j1)
   have pb:=AR.mp pbs _ (EG j2)
   exact Kf I pa pb q1 q1' q2 q2' (ih A.in1 _ _ p p' w w' (by rw[in1_units];lia) pa pb q1 q1' q2 q2').1
  have flat0:∀d:D,D.pureN (k+1) d=true->(∀ds,d≠.tup ds)->(∀ds,d≠.lst ds)->D.pureN 0 d=true:=λd h h1 h2=>by
   cases d with
   | tup ds=>exact absurd rfl (h1 ds)
   | lst ds=>exact absurd rfl (h2 ds)
   | loc n=>simp[D.pureN]at h
   | _=>rfl
  cases a with
  | loc n=>simp[D.pureN]at pa
  | tup as =>
   have pas:as.all (D.pureN k)=true:=by simpa[D.pureN]using pa
   obtain⟨p,xs,rfl,hq,hds⟩:=qg ha
   cases(show u=Value.ref p from ru)
   obtain⟨its,hv,ht,hz⟩:=I.tuple hq
   have ht':s.heap.IsTuple p its.toArray:=ht
   cases b with
   | loc n=>simp[D.pureN]at pb
   | tup bs =>
    have pbs:bs.all (D.pureN k)=true:=by simpa[D.pureN]using pb
    obtain⟨p',xs',rfl,hq',hds'⟩:=qg hb
    cases(show v=Value.ref p' from rv)
    obtain⟨its',hv',ht2,hz'⟩:=I.tuple hq'
    ·skip
     have ea:=each as bs xs xs' its its' pas pbs hds hds' hv hv'
     have q:=RcAt.tuples (A:=A) ht' (show s.heap.IsTuple p' its'.toArray from ht2) hu0 ea
     have q':=RcNeAt.tuples (A:=A) ht' (show s.heap.IsTuple p' its'.toArray from ht2) hu0 ea
     have l1:as.length=its.length:=by rw[<-hds.length,hv.length]
     have l2:bs.length=its'.length:=by rw[<-hds'.length,hv'.length]
     have e:((List.range (min its.toArray.size its'.toArray.size)).all (λj=>deq (as.getD j .non) (bs.getD j .non))&&its.toArray.size==its'.toArray.size)=deq (.tup as) (.tup bs):=by
      rw[deq]
      simp![AI,<-l1,<-l2]
      by_cases hl:as.length=bs.length
      ·rw[nq as bs hl,<-hl];simp
      ·rw[u9 as bs hl];simp[hl]
     rw[e]at q q'
     exact⟨q,q'⟩
   | lst bs =>
    obtain⟨p',xs',rfl,hq',hds'⟩:∃a xs,y=.ref a/\LsL X.K H a xs/\ju X.K H bs xs:=by simpa[IsW]using hb
    cases(show v=Value.ref p' from rv)
    obtain⟨z,its',n',hv',_,hg⟩:=I.ls hq'
    exact⟨RcAt.tuple_list ht' ⟨_,hg,rfl,n',rfl⟩ hu0,RcNeAt.tuple_list ht' ⟨_,hg,rfl,n',rfl⟩ hu0⟩
   | non=>cases(show y=.non by simpa[IsW]using hb);cases(show v=Value.none from rv);exact⟨RcAt.tuple_none ht' hu0,RcNeAt.tuple_none ht' hu0⟩
   | bl c=>cases(show y=.bl c by simpa[IsW]using hb);cases(show v=Value.bool c from rv);exact⟨RcAt.tuple_bool _ ht' hu0,RcNeAt.tuple_bool _ ht' hu0⟩
   | int c=>cases(show y=.int c by simpa[IsW]using hb);obtain⟨t,rfl⟩:=rv;exact⟨RcAt.tuple_int _ _ ht' hu0,RcNeAt.tuple_int _ _ ht' hu0⟩
   | str c=>cases(show y=.str c by simpa[IsW]using hb);obtain⟨t,rfl⟩:=rv;exact⟨RcAt.tuple_str _ _ ht' hu0,RcNeAt.tuple_str _ _ ht' hu0⟩
  | lst as =>
   have pas:as.all (D.pureN k)=true:=by simpa[D.pureN]using pa
   obtain⟨p,xs,rfl,hq,hds⟩:∃a xs,x=.ref a/\LsL X.K H a xs/\ju X.K H as xs:=by simpa[IsW]using ha
   cases(show u=Value.ref p from ru)
   obtain⟨z,its,n,hv,_,hg⟩:=I.ls hq
   have hl':s.heap.IsList p its.toArray:=⟨_,hg,rfl,n,rfl⟩
   cases b with
   | loc n=>simp[D.pureN]at pb
   | lst bs =>
    have pbs:bs.all (D.pureN k)=true:=by simpa[D.pureN]using pb
    obtain⟨p',xs',rfl,hq',hds'⟩:∃a xs,y=.ref a/\LsL X.K H a xs/\ju X.K H bs xs:=by simpa[IsW]using hb
    cases(show v=Value.ref p' from rv)
    obtain⟨z',its',n',hv',_,hg'⟩:=I.ls hq'
    have hl2:s.heap.IsList p' its'.toArray:=⟨_,hg',rfl,n',rfl⟩
    ·skip
     have l1:as.length=its.length:=by rw[<-hds.length,hv.length]
     have l2:bs.length=its'.length:=by rw[<-hds'.length,hv'.length]
     by_cases hl:as.length=bs.length
     ·have ea:=each as bs xs xs' its its' pas pbs hds hds' hv hv'
      have ez:its.toArray.size=its'.toArray.size:=by simp![AI];lia
      have q:=RcAt.lists (A:=A) hl' hl2 ez hu0 ea
      have q':=RcNeAt.lists (A:=A) hl' hl2 ez hu0 ea
      have e:(List.range its.toArray.size).all (λj=>deq (as.getD j .non) (bs.getD j .non))=deq (.lst as) (.lst bs):=by
       rw[deq,nq as bs hl]
       simp![AI,<-l1]
      rw[e]at q q'
      exact⟨q,q'⟩
     ·rw[deq,u9 as bs hl]
      exact⟨RcAt.lists_lengths hl' hl2 (by simp![AI];simp;lia) hu0,RcNeAt.lists_lengths hl' hl2 (by simp![AI];simp;lia) hu0⟩
   | tup bs =>
    obtain⟨p',xs',rfl,hq',hds'⟩:=qg hb
    cases(show v=Value.ref p' from rv)
    obtain⟨its',hv',ht2,hz'⟩:=I.tuple hq'
    exact⟨RcAt.list_tuple hl' (show s.heap.IsTuple p' its'.toArray from ht2) hu0,RcNeAt.list_tuple hl' (show s.heap.IsTuple p' its'.toArray from ht2) hu0⟩
   | non=>cases(show y=.non by simpa[IsW]using hb);cases(show v=Value.none from rv);exact⟨RcAt.list_none hl' hu0,RcNeAt.list_none hl' hu0⟩
   | bl c=>cases(show y=.bl c by simpa[IsW]using hb);cases(show v=Value.bool c from rv);exact⟨RcAt.list_bool _ hl' hu0,RcNeAt.list_bool _ hl' hu0⟩
   | int c=>cases(show y=.int c by simpa[IsW]using hb);obtain⟨t,rfl⟩:=rv;exact⟨RcAt.list_int _ _ hl' hu0,RcNeAt.list_int _ _ hl' hu0⟩
   | str c=>cases(show y=.str c by simpa[IsW]using hb);obtain⟨t,rfl⟩:=rv;exact⟨RcAt.list_str _ _ hl' hu0,RcNeAt.list_str _ _ hl' hu0⟩
  | _ =>
   cases b with
   | loc n=>simp[D.pureN]at pb
   | tup bs =>
    obtain⟨p',xs',rfl,hq',hds'⟩:=qg hb
    cases(show v=Value.ref p' from rv)
    obtain⟨its',hv',ht2,hz'⟩:=I.tuple hq'
    have ht':s.heap.IsTuple p' its'.toArray:=ht2
    first
    | (cases(show x=.non by simpa[IsW]using ha);cases(show u=Value.none from ru);exact⟨RcAt.none_tuple ht' hu0,RcNeAt.none_tuple ht' hu0⟩)
    | (cases(show x=.bl _ by simpa[IsW]using ha);cases(show u=Value.bool _ from ru);exact⟨RcAt.bool_tuple _ ht' hu0,RcNeAt.bool_tuple _ ht' hu0⟩)
    | (cases(show x=.int _ by simpa[IsW]using ha);obtain⟨t,rfl⟩:=ru;exact⟨RcAt.int_tuple _ _ ht' hu0,RcNeAt.int_tuple _ _ ht' hu0⟩)
    | (cases(show x=.str _ by simpa[IsW]using ha);obtain⟨t,rfl⟩:=ru;exact⟨RcAt.str_tuple _ _ ht' hu0,RcNeAt.str_tuple _ _ ht' hu0⟩)
   | lst bs =>
    obtain⟨p',xs',rfl,hq',hds'⟩:∃a xs,y=.ref a/\LsL X.K H a xs/\ju X.K H bs xs:=by simpa[IsW]using hb
    cases(show v=Value.ref p' from rv)
    obtain⟨z',its',n',hv',_,hg'⟩:=I.ls hq'
    have hl':s.heap.IsList p' its'.toArray:=⟨_,hg',rfl,n',rfl⟩
    first
    | (cases(show x=.non by simpa[IsW]using ha);cases(show u=Value.none from ru);exact⟨RcAt.none_list hl' hu0,RcNeAt.none_list hl' hu0⟩)
    | (cases(show x=.bl _ by simpa[IsW]using ha);cases(show u=Value.bool _ from ru);exact⟨RcAt.bool_list _ hl' hu0,RcNeAt.bool_list _ hl' hu0⟩)
    | (cases(show x=.int _ by simpa[IsW]using ha);obtain⟨t,rfl⟩:=ru;exact⟨RcAt.int_list _ _ hl' hu0,RcNeAt.int_list _ _ hl' hu0⟩)
    | (cases(show x=.str _ by simpa[IsW]using ha);obtain⟨t,rfl⟩:=ru;exact⟨RcAt.str_list _ _ hl' hu0,RcNeAt.str_list _ _ hl' hu0⟩)
   | _=>exact Fn A _ _ x y u v rfl rfl ha hb ru rv
end
open PySem.SeqAt (EqAt RcAt)
section
variable {X : Cx} {φ : Phi} {pins : List (Addr × Obj)} {σ : St} {H : Hp} {s : Shared}
theorem T6 (hu:X.A.units+8<cLine):OpR X (compareOp .Eq) (rOp X.K (cpD .eq)):=by
 intro pins s σ H x y v u Q I rx ry ⟨ι,a,b,μ,hS,ha,hb,h⟩
 unfold cpD at h
 simp only at h
 split at h
 ·rename_i hp
  exact(Wk I 8 X.A a b x y v u hu hp.1 hp.2 (IsW.ofD (IsD.pur hp.1 ha)) (IsW.ofD (IsD.pur hp.2 hb)) rx ry).1 _ _ _ _ ⟨.bl (deq a b),H,I,rfl,h.ok hS (by simp[IsD])⟩
 ·exact h.elim
end
open PySem.SeqAt (EqAt RcNeAt)
section
variable {X : Cx} {φ : Phi} {pins : List (Addr × Obj)} {σ : St} {H : Hp} {s : Shared}
theorem T7 (hu:X.A.units+8<cLine):OpR X (compareOp .NotEq) (rOp X.K (cpD .ne)):=by
 intro pins s σ H x y v u Q I rx ry ⟨ι,a,b,μ,hS,ha,hb,h⟩
 unfold cpD at h
 simp only at h
 split at h
 ·rename_i hp
  exact(Wk I 8 X.A a b x y v u hu hp.1 hp.2 (IsW.ofD (IsD.pur hp.1 ha)) (IsW.ofD (IsD.pur hp.2 hb)) rx ry).2 _ _ _ _ ⟨.bl (!deq a b),H,I,rfl,h.ok hS (by simp[IsD])⟩
 ·exact h.elim
end
end Lp
namespace LT
open PySem PySem.Spec PyProof.Rows HT
open PySem.SeqAt
open PySem.AutoSeq1 (wpAny_loadPart')
open PySem.MeetsSeq PySem.MeetsSeq2 PySem.MeetsSeq3
theorem aba (A:Around) (s:Shared) (a:Int) (t:Tok) (c:Int) (u:Tok) (prog:Program) (w:World) (E:Value->Shared->Prop) (Q:Value->Shared->Prop) (h:Q (.bool (decide (a<=c))) s) :
  wpAny (model prog w) A (richCompare .LtE (.int a t) (.int c u)) Q E s :=
 (PyProof.Rows.le_int h:wpAny (model prog w) A (compareOp .LtE (.int a t) (.int c u)) Q E s)
theorem Kg (l b:Addr) (items items2:Array Value) (n n2:Nat) (dd dd2:Option Addr) (sl sl2:Array (Option Value)) (ns ms:List Int) (ii:IntsAre items.toList ns) (jj:IntsAre items2.toList ms) :
  Meets (Builtin.«tuple.__le__» ⟨[.ref l,.ref b],[]⟩) (λ_ R s=>s.heap.get? l=some {cls:=.type "tuple",dict:=dd,data:=.seq items n,slots:=sl}/\s.heap.get? b=some {cls:=.type "tuple",dict:=dd2,data:=.seq items2 n2,slots:=sl2}/\R (.ok (.ret (.bool (!lexLt ms ns)))) s) :=
 .of_wp λprog w A R s h=>by
  obtain⟨hh0,g,d,tk0,os0⟩:=s;obtain⟨ql,hb,h⟩:=h
  have sub0:=EU
  have n1:ns.length=items.size:=by rw[<-ii.length,DI]
  have n2e:ms.length=items2.size:=by rw[<-jj.length,DI]
  wp_walk using CY ql,CY hb,GW _ (λrest b s'=>b.1=none/\s'=⟨hh0,g,d,tk0,os0⟩/\∃(us1 us2:List Value) (ms1 ms2:List Int),rest=us1.zip us2 /\
   IntsAre us1 ms1/\IntsAre us2 ms2/\ms1.length+items2.size=ms2.length+items.size/\R (.ok (.ret (.bool (!lexLt ms2 ms1)))) ⟨hh0,g,d,tk0,os0⟩) _
  case turn =>
   rintro⟨y,x⟩ rest b s' ⟨p0,rfl,us1,us2,ms1,ms2,pz,pv,pw,pl,fin0⟩
   cases pv with
   | nil=>rw[GH]at pz;cases pz
   | cons a t pv1 =>
    cases pw with
    | nil=>rw[Gt]at pz;cases pz
    | cons c u pw1 =>
     rw[DV]at pz
     injection pz with pyx pr
     injection pyx with py px
     subst py px
     rw[gi]at fin0
     simp![AU]at pl
     obtain⟨same,eq0,eqi⟩:=ur A.in1 ⟨hh0,g,d,tk0,os0⟩ a t c u
     refine AB (eq0 prog w _ _ ?_)
     cases same with
     | true =>
      rw[if_pos (eqi.mp rfl).symm]at fin0
      wp_walk
      exact⟨rfl,rfl,_,_,_,_,pr,pv1,pw1,by lia,fin0⟩
     | false =>
      have hne:¬c=a:=λq=>absurd (eqi.mpr q.symm) BB
      rw[if_neg hne]at fin0
      have ed:(!decide (c<a))=decide (a<=c):=by
       by_cases hc:c<a
       ·rw[decide_eq_true hc,decide_eq_false (by lia)];rfl
       ·rw[decide_eq_false hc,decide_eq_true (by lia)];rfl
      rw[ed]at fin0
      have low:=aba A.in1 ⟨hh0,g,d,tk0,os0⟩ a t c u prog w
      wp_walk using low
      exact⟨_,rfl,by simpa using fin0⟩
  case fin =>
   rintro⟨c1,c2⟩ s' ⟨p0,rfl,us1,us2,ms1,ms2,pz,pv,pw,pl,fin0⟩
   simp only at p0
   subst p0
   have hv:(!lexLt ms2 ms1)=decide (items.size<=items2.size):=by
    cases pv with
    | nil =>
     cases pw with
     | nil =>
      simp![CD]at pl
      rw[jf,decide_eq_true (by lia)];rfl
     | cons c u hw =>
      simp![CD,AU]at pl
      rw[ip,decide_eq_true (by lia)];rfl
    | cons a t hv =>
     cases pw with
     | nil =>
      simp![CD,AU]at pl
      rw[ik,decide_eq_false (by lia)];rfl
     | cons c u hw =>
      rw[DV]at pz
      cases pz
   rw[hv]at fin0
   wp_walk
   exact⟨_,rfl,by simpa[Builtin.Tuple.tupleCompareSizes]using fin0⟩
  case h =>
   exact⟨rfl,rfl,items.toList,items2.toList,ns,ms,rfl,ii,jj,by lia,h⟩
theorem T8 {prog:Program} {w:World} {A:Around} {E:Value->Shared->Prop} {s:Shared} {l b:Addr} {items items2:Array Value} {ns ms:List Int} {Q:Value->Shared->Prop} (hl:IsTup s.heap l items) (hb:IsTup s.heap b items2) (hi:IntsAre items.toList ns) (hj:IntsAre items2.toList ms)
  (hu:A.units<cLine) (h:Q (.bool (!lexLt ms ns)) s):wpAny (model prog w) A (compareOp .LtE (.ref l) (.ref b)) Q E s:=by
 obtain⟨⟨_,dd,_,sl⟩,ho,rfl,n,rfl⟩:=id hl
 obtain⟨⟨_,dd2,_,sl2⟩,ho2,rfl,n2,rfl⟩:=id hb
 exact FF (op:=.LtE) ⟨_,ho,rfl⟩ ⟨_,ho2,rfl⟩ PySem.F.slot_tuple_le PySem.F.entry_tuple_le (PySem.F.args_tuple_le_2 _ _) (Kg l b items items2 n n2 dd dd2 sl sl2 ns ms hi hj)
  ⟨ho,ho2,show Value.bool (!lexLt ms ns)≠Value.notImplemented/\Q (.bool (!lexLt ms ns)) s from⟨(λx=>nomatch x),h⟩⟩ hu
theorem abb (A:Around) (s:Shared) (a:Int) (t:Tok) (c:Int) (u:Tok) (prog:Program) (w:World) (E:Value->Shared->Prop) (Q:Value->Shared->Prop) (h:Q (.bool (decide (c<=a))) s) :
  wpAny (model prog w) A (richCompare .GtE (.int a t) (.int c u)) Q E s :=
 (PyProof.Rows.ge_int h:wpAny (model prog w) A (compareOp .GtE (.int a t) (.int c u)) Q E s)
theorem Kh (l b:Addr) (items items2:Array Value) (n n2:Nat) (dd dd2:Option Addr) (sl sl2:Array (Option Value)) (ns ms:List Int) (ii:IntsAre items.toList ns) (jj:IntsAre items2.toList ms) :
  Meets (Builtin.«tuple.__ge__» ⟨[.ref l,.ref b],[]⟩) (λ_ R s=>s.heap.get? l=some {cls:=.type "tuple",dict:=dd,data:=.seq items n,slots:=sl}/\s.heap.get? b=some {cls:=.type "tuple",dict:=dd2,data:=.seq items2 n2,slots:=sl2}/\R (.ok (.ret (.bool (!lexLt ns ms)))) s) :=
 .of_wp λprog w A R s h=>by
  obtain⟨hh0,g,d,tk0,os0⟩:=s;obtain⟨ql,hb,h⟩:=h
  have sub0:=EU
  have n1:ns.length=items.size:=by rw[<-ii.length,DI]
  have n2e:ms.length=items2.size:=by rw[<-jj.length,DI]
  wp_walk using CY ql,CY hb,GW _ (λrest b s'=>b.1=none/\s'=⟨hh0,g,d,tk0,os0⟩/\∃(us1 us2:List Value) (ms1 ms2:List Int),rest=us1.zip us2 /\
   IntsAre us1 ms1/\IntsAre us2 ms2/\ms1.length+items2.size=ms2.length+items.size/\R (.ok (.ret (.bool (!lexLt ms1 ms2)))) ⟨hh0,g,d,tk0,os0⟩) _
  case turn =>
   rintro⟨y,x⟩ rest b s' ⟨p0,rfl,us1,us2,ms1,ms2,pz,pv,pw,pl,fin0⟩
   cases pv with
   | nil=>rw[GH]at pz;cases pz
   | cons a t pv1 =>
    cases pw with
    | nil=>rw[Gt]at pz;cases pz
    | cons c u pw1 =>
     rw[DV]at pz
     injection pz with pyx pr
     injection pyx with py px
     subst py px
     rw[gi]at fin0
     simp![AU]at pl
     obtain⟨same,eq0,eqi⟩:=ur A.in1 ⟨hh0,g,d,tk0,os0⟩ a t c u
     refine AB (eq0 prog w _ _ ?_)
     cases same with
     | true =>
      rw[if_pos (eqi.mp rfl)]at fin0
      wp_walk
      exact⟨rfl,rfl,_,_,_,_,pr,pv1,pw1,by lia,fin0⟩
     | false =>
      have hne:¬a=c:=λq=>absurd (eqi.mpr q) BB
      rw[if_neg hne]at fin0
      have ed:(!decide (a<c))=decide (c<=a):=by
       by_cases hc:a<c
       ·rw[decide_eq_true hc,decide_eq_false (by lia)];rfl
       ·rw[decide_eq_false hc,decide_eq_true (by lia)];rfl
      rw[ed]at fin0
      have low:=abb A.in1 ⟨hh0,g,d,tk0,os0⟩ a t c u prog w
      wp_walk using low
      exact⟨_,rfl,by simpa using fin0⟩
  case fin =>
   rintro⟨c1,c2⟩ s' ⟨p0,rfl,us1,us2,ms1,ms2,pz,pv,pw,pl,fin0⟩
   simp only at p0
   subst p0
   have hv:(!lexLt ms1 ms2)=decide (items2.size<=items.size):=by
    cases pv with
    | nil =>
     cases pw with
     | nil =>
      simp![CD]at pl
      rw[jf,decide_eq_true (by lia)];rfl
     | cons c u hw =>
      simp![CD,AU]at pl
      rw[ik,decide_eq_false (by lia)];rfl
    | cons a t hv =>
     cases pw with
     | nil =>
      simp![CD,AU]at pl
      rw[ip,decide_eq_true (by lia)];rfl
     | cons c u hw =>
      rw[DV]at pz
      cases pz
   rw[hv]at fin0
   wp_walk
   exact⟨_,rfl,by simpa[Builtin.Tuple.tupleCompareSizes]using fin0⟩
  case h =>
   exact⟨rfl,rfl,items.toList,items2.toList,ns,ms,rfl,ii,jj,by lia,h⟩
theorem T9 {prog:Program} {w:World} {A:Around} {E:Value->Shared->Prop} {s:Shared} {l b:Addr} {items items2:Array Value} {ns ms:List Int} {Q:Value->Shared->Prop} (hl:IsTup s.heap l items) (hb:IsTup s.heap b items2) (hi:IntsAre items.toList ns) (hj:IntsAre items2.toList ms)
  (hu:A.units<cLine) (h:Q (.bool (!lexLt ns ms)) s):wpAny (model prog w) A (compareOp .GtE (.ref l) (.ref b)) Q E s:=by
 obtain⟨⟨_,dd,_,sl⟩,ho,rfl,n,rfl⟩:=id hl
 obtain⟨⟨_,dd2,_,sl2⟩,ho2,rfl,n2,rfl⟩:=id hb
 exact FF (op:=.GtE) ⟨_,ho,rfl⟩ ⟨_,ho2,rfl⟩ PySem.F.slot_tuple_ge PySem.F.entry_tuple_ge (PySem.F.args_tuple_ge_2 _ _) (Kh l b items items2 n n2 dd dd2 sl sl2 ns ms hi hj)
  ⟨ho,ho2,show Value.bool (!lexLt ns ms)≠Value.notImplemented/\Q (.bool (!lexLt ns ms)) s from⟨(λx=>nomatch x),h⟩⟩ hu
end LT
namespace L2
open PySem PySem.Spec PyProof.Rows
variable {X : Cx}
theorem Ua (hu:X.A.units<cLine) {pins s σ H x y v u Q} (I:Inv X pins σ H s) (rx:RelV x v) (ry:RelV y u) (h:∃a b ns ms,x=.ref a/\y=.ref b/\SqT X.K H a (ns.map V.int)/\SqT X.K H b (ms.map V.int)/\Q (.bl (!HT.lexLt ms ns)) H) :
  wpAny (model X.prog X.w) X.A (compareOp .LtE v u) (EP X pins σ Q) X.xe s:=by
 obtain⟨c,d,ns,ms,rfl,rfl,hc,hd,q⟩:=h
 cases rx
 cases ry
 obtain⟨us,r1,p1,_⟩:=I.tuple hc
 obtain⟨us2,r2,p2,_⟩:=I.tuple hd
 exact LT.T8 p1 p2 (intsAre_of r1) (intsAre_of r2) hu ⟨.bl (!HT.lexLt ms ns),H,I,rfl,q⟩
theorem Ub (hu:X.A.units<cLine) {pins s σ H x y v u Q} (I:Inv X pins σ H s) (rx:RelV x v) (ry:RelV y u) (h:∃a b ns ms,x=.ref a/\y=.ref b/\SqT X.K H a (ns.map V.int)/\SqT X.K H b (ms.map V.int)/\Q (.bl (!HT.lexLt ns ms)) H) :
  wpAny (model X.prog X.w) X.A (compareOp .GtE v u) (EP X pins σ Q) X.xe s:=by
 obtain⟨c,d,ns,ms,rfl,rfl,hc,hd,q⟩:=h
 cases rx
 cases ry
 obtain⟨us,r1,p1,_⟩:=I.tuple hc
 obtain⟨us2,r2,p2,_⟩:=I.tuple hd
 exact LT.T9 p1 p2 (intsAre_of r1) (intsAre_of r2) hu ⟨.bl (!HT.lexLt ns ms),H,I,rfl,q⟩
end L2
namespace Lp
open PySem PySem.Spec PyProof.Rows L2
open PySem.SeqAt (EqAt RcAt)
def opOf:Cp->CmpOp
 | .eq=>.Eq
 | .ne=>.NotEq
 | .eqM=>.Eq
 | .neM=>.NotEq
 | .lt=>.Lt
 | .le=>.LtE
 | .gt=>.Gt
 | .ge=>.GtE
 | .is=>.Is
 | .isnot=>.IsNot
 | .in_=>.In
 | .notin=>.NotIn
section
variable {X : Cx} {φ : Phi} {pins : List (Addr × Obj)} {σ : St} {H : Hp} {s : Shared}
theorem ints_of {K:PySem.W.Frag} {ι:List Addr}:∀{ds:List D} {xs:List V} {ns:List Int},af K ι H ds xs->bz ds=some ns->xs=ns.map V.int
 | [],xs,ns,h,e=>by
  simp![bz,BP]at e
  subst e
  simpa[af]using h
 | d::ds,xs,ns,h,e=>by
  simp![af]at h
  obtain⟨v,r,rfl,q,t⟩:=h
  cases d with
  | int i =>
   simp![bz,EH]at e
   obtain⟨ms,e1,rfl⟩:=e
   cases ck q
   rw[ints_of t e1]
   rfl
  | _=>simp[bz]at e
theorem Bo {K:PySem.W.Frag} {ι:List Addr}:∀{ds:List D} {xs:List V} {ns:List Bool},af K ι H ds xs->ma ds=some ns->xs=ns.map V.bl
 | [],xs,ns,h,e=>by
  simp![ma,BP]at e
  subst e
  simpa[af]using h
 | d::ds,xs,ns,h,e=>by
  simp![af]at h
  obtain⟨v,r,rfl,q,t⟩:=h
  cases d with
  | bl i =>
   simp![ma,EH]at e
   obtain⟨ms,e1,rfl⟩:=e
   cases Ag q
   rw[Bo t e1]
   rfl
  | _=>simp[ma]at e
theorem Ai {K:PySem.W.Frag} {ι:List Addr} {d:D} {v:V} (h:IsD K ι H d v) (hf:flat d=true):si v=true:=by
 cases d with
 | tup _=>simp[flat]at hf
 | lst _=>simp[flat]at hf
 | loc _=>simp[flat]at hf
 | _=>have e:=h;simp![IsD]at e;subst e;rfl
theorem ve {K:PySem.W.Frag} {ι:List Addr}:∀{ds:List D} {xs:List V},af K ι H ds xs->ds.all flat=true->xs.all si=true
 | [],xs,h,_=>by
  have e:xs=[]:=by simpa[af]using h
  subst e
  rfl
 | d::ds,xs,h,hf=>by
  simp![af]at h
  obtain⟨v,r,rfl,q,t⟩:=h
  simp![BM,AY]at hf ⊢
  exact⟨Ai q hf.1,ve t hf.2⟩
theorem Uc {K:PySem.W.Frag} {ι:List Addr} {d e:D} {v w:V} (hd:IsD K ι H d v) (he:IsD K ι H e w) (fd:flat d=true) (fe:flat e=true):eqV v w=deq d e:=by
 have b2:∀(a b:Int),decide (a=b)=(a==b):=λa b=>(EO a b).symm
 have b3:∀(a b:Str),decide (a=b)=(a==b):=λa b=>(EO a b).symm
 cases d with
 | tup _=>simp[flat]at fd
 | lst _=>simp[flat]at fd
 | loc _=>simp[flat]at fd
 | _ =>
  cases e with
  | tup _=>simp[flat]at fe
  | lst _=>simp[flat]at fe
  | loc _=>simp[flat]at fe
  | _ =>
   simp![IsD]at hd he
   subst hd he
   simp![eqV,deq,b2,b3]
theorem Fo {K:PySem.W.Frag} {ι:List Addr} {e:D} {w:V} (he:IsD K ι H e w) (fe:flat e=true):∀{ds:List D} {xs:List V},af K ι H ds xs->ds.all flat=true->inV w xs=ds.any λy=>deq y e
 | [],xs,h,_=>by
  have e:xs=[]:=by simpa[af]using h
  subst e
  rfl
 | d::ds,xs,h,hf=>by
  simp![af]at h
  obtain⟨v,r,rfl,q,t⟩:=h
  simp![BM,AY]at hf
  have ih:=Fo he fe t hf.2
  unfold inV at ih ⊢
  rw[CV,CV,Uc q he hf.1 fe,ih]
theorem is_bool {u:Bool} {v:Bool} {Q:VK} (I:Inv X pins σ H s) (q:Q (.bl (u==v)) H):wpAny (model X.prog X.w) X.A (compareOp .Is (.bool u) (.bool v)) (EP X pins σ Q) X.xe s:=by
 cases u<;>cases v<;>exact AL ⟨.bl _,H,I,rfl,q⟩
theorem isnot_bool {u:Bool} {v:Bool} {Q:VK} (I:Inv X pins σ H s) (q:Q (.bl (!(u==v))) H):wpAny (model X.prog X.w) X.A (compareOp .IsNot (.bool u) (.bool v)) (EP X pins σ Q) X.xe s:=by
 cases u<;>cases v<;>exact AL ⟨.bl _,H,I,rfl,q⟩
theorem yl {v:Bool} {Q:VK} (I:Inv X pins σ H s) (q:Q (.bl false) H):wpAny (model X.prog X.w) X.A (compareOp .Is .none (.bool v)) (EP X pins σ Q) X.xe s:=by
 cases v<;>exact AL ⟨.bl _,H,I,rfl,q⟩
theorem qi {v:Bool} {Q:VK} (I:Inv X pins σ H s) (q:Q (.bl true) H):wpAny (model X.prog X.w) X.A (compareOp .IsNot .none (.bool v)) (EP X pins σ Q) X.xe s:=by
 cases v<;>exact AL ⟨.bl _,H,I,rfl,q⟩
def kD:Key->D
 | .inl i=>.int i
 | .inr x=>.str x
theorem Aj {K:PySem.W.Frag} {ι:List Addr} {d:D} {x:V} (hk:ye d=true) (h:IsD K ι H d x):∃k,d=kD k/\x=kV k:=by
 cases d with
 | int i=>exact⟨.inl i,rfl,by simpa[IsD,kV]using h⟩
 | str i=>exact⟨.inr i,rfl,by simpa[IsD,kV]using h⟩
 | _=>simp[ye]at hk
theorem vf {K:PySem.W.Frag} {ι:List Addr} {d:D} {k:Key} (h:IsD K ι H d (kV k)):d=kD k:=by
 cases k with
 | inl i=>cases d<;>simp_all[IsD,kV,kD]
 | inr i=>cases d<;>simp_all[IsD,kV,kD]
theorem ym (a b:Key):deq (kD a) (kD b)=decide (a=b):=by
 cases a<;>cases b<;>simp[kD,deq]
def OR (K:PySem.W.Frag) (ι:List Addr) (H:Hp):Option D->Option V->Prop
 | some d,some v=>IsD K ι H d v
 | none,none=>True
 | _,_=>False
theorem OR.isSome {K:PySem.W.Frag} {ι:List Addr} {o:Option D} {p:Option V} (h:OR K ι H o p):p.isSome=o.isSome:=by
 cases o<;>cases p<;>first | rfl | exact h.elim
theorem me {K:PySem.W.Frag} {ι:List Addr} {k:Key}:∀{kvs:List (D×D)} {xs:List (Key×V)},u0 K ι H kvs xs->OR K ι H (uz (kD k) kvs) (xw xs k)
 | _,_,.nil=>True.intro
 | p::kvs,q::xs,.cons h t=>by
  obtain⟨d,e⟩:=p
  have hk:=vf h.1
  dsimp only at hk
  subst hk
  have ih:=me (k:=k) (kvs:=kvs) (xs:=xs) t
  by_cases z:q.1=k
  ·rw[o5 z,uz,ym,if_pos (by simpa using z)]
   exact h.2
  ·rw[o6 z,uz,ym,if_neg (by simpa using z)]
   exact ih
theorem Fp {K:PySem.W.Frag} {ι:List Addr} {k:Key}:∀{kvs:List (D×D)} {xs:List (Key×V)},u0 K ι H kvs xs->(kvs.any λp=>deq p.1 (kD k))=xs.any λkv=>decide (kv.1=k)
 | _,_,.nil=>rfl
 | p::kvs,q::xs,.cons h t=>by
  obtain⟨d,e⟩:=p
  have hk:=vf h.1
  dsimp only at hk
  subst hk
  rw[CV,CV,Fp t,ym]
theorem Bp {K:PySem.W.Frag} {ι:List Addr} {k:Key} {d:D} {v:V} (hv:IsD K ι H d v):∀{kvs:List (D×D)} {xs:List (Key×V)},u0 K ι H kvs xs ->
  u0 K ι H (kvs.map λp=>if deq p.1 (kD k)=true then(p.1,d)else p) (xs.map λkv=>if kv.1=k then(kv.1,v)else kv)
 | _,_,.nil=>.nil
 | p::kvs,q::xs,.cons h t=>by
  obtain⟨e,w⟩:=p
  have hk:=vf h.1
  dsimp only at hk
  subst hk
  rw[AO,AO]
  refine .cons ?_ (Bp hv t)
  by_cases z:q.1=k
  ·rw[if_pos z,ym,if_pos (by simpa using z)]
   exact⟨h.1,hv⟩
  ·rw[if_neg z,ym,if_neg (by simpa using z)]
   exact h
theorem qj {α β:Type} {F:α->β->Prop}:∀{xs:List α} {ys:List β} {x:α} {y:β},Paired F xs ys->F x y->Paired F (xs++[x]) (ys++[y])
 | _,_,_,_,.nil,h=>.cons h .nil
 | _,_,_,_,.cons a t,h=>.cons a (qj t h)
theorem Bq {K:PySem.W.Frag} {ι:List Addr} {k:Key} {d:D} {v:V} (hv:IsD K ι H d v) {kvs:List (D×D)} {xs:List (Key×V)} (h:u0 K ι H kvs xs):u0 K ι H (dput (kD k) d kvs) (putK xs k v):=by
 unfold dput putK
 rw[Fp h]
 split
 ·exact Bp hv h
 ·refine qj h ⟨?_,hv⟩
  cases k<;>simp[kD,kV,IsD]
theorem vg {K:PySem.W.Frag} {ι:List Addr} {μ:Sto} {o k:D} {x y:V} {kvs:List (D×D)} (hS:Sim K ι H μ) (ho:IsD K ι H o x) (hk:IsD K ι H k y) (h:dictAt μ o k=some kvs) :
  ∃p q xs,x=.ref p/\y=kV q/\k=kD q/\Rd H p (.dK xs)/\u0 K ι H kvs xs:=by
 cases o with
 | loc n =>
  obtain⟨p,rfl,hp⟩:∃p,x=.ref p/\ι[n]? = some p:=by simpa[IsD]using ho
  simp![dictAt]at h
  have up:∀{xs:List (Key×V)},u0 K [] H kvs xs->u0 K ι H kvs xs:=λz=>Paired.mapP z λp r z=>⟨z.1,IsD.mono CK (.refl _) _ _ z.2⟩
  have fin:∀{ob:O} {kvs':List (D×D)},μ[n]? = some ob->(if ye k=true then some kvs' else none)=some kvs->(OIs K ι H p ob->∃xs,Rd H p (.dK xs)/\(kvs'=kvs->u0 K ι H kvs xs)) ->
    ∃p' q xs,V.ref p=.ref p'/\y=kV q/\k=kD q/\Rd H p' (.dK xs)/\u0 K ι H kvs xs:=by
   intro ob kvs' em h f
   split at h
   ·rename_i hkey
    cases h
    obtain⟨a',q',ob⟩:=hS.at em
    rw[hp]at q';cases q'
    obtain⟨xs,e1,e2⟩:=f ob
    obtain⟨q,rfl,rfl⟩:=Aj hkey hk
    exact⟨p,q,xs,rfl,rfl,rfl,e1,e2 rfl⟩
   ·cases h
  split at h
  ·rename_i kvs' em
   exact fin em h fun⟨xs,e1,e2⟩=>⟨xs,.inl e1,λz=>by subst z;exact up e2⟩
  ·rename_i kvs' em
   exact fin em h fun⟨xs,e1,e2⟩=>⟨xs,.inl e1,λz=>by subst z;exact e2⟩
  ·rename_i kvs' em
   exact fin em h fun⟨o,xs,e1,e2⟩=>⟨xs,.inr ⟨o,e1⟩,λz=>by subst z;exact up e2⟩
  ·cases h
 | _=>simp[dictAt]at h
theorem Fq (cp:Cp) (hu:X.A.units+8<cLine):OpR X (compareOp (opOf cp)) (rOp X.K (cpD cp)):=by
 have hu0:X.A.units<cLine:=by lia
 cases cp with
 | eq=>exact T6 hu
 | ne=>exact T7 hu
 | eqM =>
  intro pins s σ H x y v u Q I rx ry ⟨ι,a,b,μ,hS,ha,hb,h⟩
  simp![cpD]at h
  cases e1:a9 μ 8 a with
  | none=>simp![e1]at h;exact h.elim
  | some a1 =>
   cases e2:a9 μ 8 b with
   | none=>simp![e1,e2]at h;exact h.elim
   | some b1 =>
    simp![e1,e2]at h
    exact(Wk I 8 X.A a1 b1 x y v u hu (i7 8 _ _ e1) (i7 8 _ _ e2) (yk hS 8 _ _ _ e1 ha) (yk hS 8 _ _ _ e2 hb) rx ry).1 _ _ _ _ ⟨.bl (deq a1 b1),H,I,rfl,h.ok hS (by simp[IsD])⟩
 | neM =>
  intro pins s σ H x y v u Q I rx ry ⟨ι,a,b,μ,hS,ha,hb,h⟩
  simp![cpD]at h
  cases e1:a9 μ 8 a with
  | none=>simp![e1]at h;exact h.elim
  | some a1 =>
   cases e2:a9 μ 8 b with
   | none=>simp![e1,e2]at h;exact h.elim
   | some b1 =>
    simp![e1,e2]at h
    exact(Wk I 8 X.A a1 b1 x y v u hu (i7 8 _ _ e1) (i7 8 _ _ e2) (yk hS 8 _ _ _ e1 ha) (yk hS 8 _ _ _ e2 hb) rx ry).2 _ _ _ _ ⟨.bl (!deq a1 b1),H,I,rfl,h.ok hS (by simp[IsD])⟩
 | lt =>
  intro pins s σ H x y v u Q I rx ry ⟨ι,a,b,μ,hS,ha,hb,h⟩
  simp![cpD]at h
  split at h
  ·cases ck ha;cases ck hb
   exact W5 pins s σ H _ _ v u Q I rx ry ⟨_,_,rfl,rfl,h.ok hS (by simp[IsD])⟩
  ·obtain⟨p,xs,rfl,hq,hds⟩:=gk ha
   obtain⟨p',xs',rfl,hq',hds'⟩:=gk hb
   split at h
   ·rename_i ns ms e1 e2
    have:=ints_of hds e1
    subst this
    have:=ints_of hds' e2
    subst this
    refine Sr hu0 pins s σ H _ _ v u Q I rx ry ⟨p,p',ns,ms,rfl,rfl,hq,hq',?_⟩
    have el:∀(a b:List Int),HT.lexLt a b=Lp.lexLt a b:=by
     intro a
     induction a with
     | nil=>intro b;cases b<;>rfl
     | cons x r ih=>intro b;cases b with
      | nil=>rfl
      | cons y q=>rw[HT.gi,Lp.lexLt,ih]
    rw[el]
    exact h.ok hS (by simp[IsD])
   ·exact h.elim
  ·exact h.elim
 | le =>
  intro pins s σ H x y v u Q I rx ry ⟨ι,a,b,μ,hS,ha,hb,h⟩
  simp![cpD]at h
  split at h
  ·cases ck ha;cases ck hb
   exact W6 pins s σ H _ _ v u Q I rx ry ⟨_,_,rfl,rfl,h.ok hS (by simp[IsD])⟩
  ·obtain⟨p,xs,rfl,hq,hds⟩:=gk ha
   obtain⟨p',xs',rfl,hq',hds'⟩:=gk hb
   split at h
   ·rename_i ns ms e1 e2
    have:=ints_of hds e1
    subst this
    have:=ints_of hds' e2
    subst this
    refine Ua hu0 I rx ry ⟨p,p',ns,ms,rfl,rfl,hq,hq',?_⟩
    have el:∀(a b:List Int),HT.lexLt a b=Lp.lexLt a b:=by
     intro a
     induction a with
     | nil=>intro b;cases b<;>rfl
     | cons x r ih=>intro b;cases b with
      | nil=>rfl
      | cons y q=>rw[HT.gi,Lp.lexLt,ih]
    rw[el]
    exact h.ok hS (by simp[IsD])
   ·exact h.elim
  ·exact h.elim
 | gt =>
  refine OpR.imp W7 λx y H Q ⟨ι,a,b,μ,hS,ha,hb,h⟩=>?_
  simp![cpD]at h
  split at h
  ·cases ck ha;cases ck hb
   exact⟨_,_,rfl,rfl,h.ok hS (by simp[IsD])⟩
  ·exact h.elim
 | ge =>
  intro pins s σ H x y v u Q I rx ry ⟨ι,a,b,μ,hS,ha,hb,h⟩
  simp![cpD]at h
  split at h
  ·cases ck ha;cases ck hb
   exact W8 pins s σ H _ _ v u Q I rx ry ⟨_,_,rfl,rfl,h.ok hS (by simp[IsD])⟩
  ·obtain⟨p,xs,rfl,hq,hds⟩:=gk ha
   obtain⟨p',xs',rfl,hq',hds'⟩:=gk hb
   split at h
   ·rename_i ns ms e1 e2
    have:=ints_of hds e1
    subst this
    have:=ints_of hds' e2
    subst this
    refine Ub hu0 I rx ry ⟨p,p',ns,ms,rfl,rfl,hq,hq',?_⟩
    have el:∀(a b:List Int),HT.lexLt a b=Lp.lexLt a b:=by
     intro a
     induction a with
     | nil=>intro b;cases b<;>rfl
     | cons x r ih=>intro b;cases b with
      | nil=>rfl
      | cons y q=>rw[HT.gi,Lp.lexLt,ih]
    rw[el]
    exact h.ok hS (by simp[IsD])
   ·exact h.elim
  ·exact h.elim
 | is =>
  intro pins s σ H x y v u Q I rx ry ⟨ι,a,b,μ,hS,ha,hb,h⟩
  simp![cpD]at h
  split at h
  ·refine Sd pins s σ H x y v u Q I rx ry ⟨by simpa[IsD]using hb,?_⟩
   cases a with
   | tup ds=>obtain⟨p,xs,rfl,_⟩:=gk ha;exact h.ok hS (by simp[IsD])
   | lst ds =>
         obtain⟨p,xs,rfl,_⟩:∃p xs,x=V.ref p/\FzL X.K H p xs/\af X.K ι H ds xs:=by simpa[IsD]using ha
         exact h.ok hS (by simp[IsD])
   | loc n =>
        obtain⟨p,rfl,_⟩:∃p,x=V.ref p/\ι[n]? = some p:=by simpa[IsD]using ha
        exact h.ok hS (by simp[IsD])
   | _=>have e:=ha;simp![IsD]at e;subst e;exact h.ok hS (by simp[IsD])
  ·cases Ag hb
   cases(show u=Value.bool _ from ry)
   split at h
   ·cases Ag ha
    cases(show v=Value.bool _ from rx)
    exact is_bool I (h.ok hS (by simp[IsD]))
   ·cases(show x=.non by simpa[IsD]using ha)
    cases(show v=Value.none from rx)
    exact yl I (h.ok hS (by simp[IsD]))
   ·exact h.elim
  ·exact h.elim
 | isnot =>
  intro pins s σ H x y v u Q I rx ry ⟨ι,a,b,μ,hS,ha,hb,h⟩
  simp![cpD]at h
  split at h
  ·refine Oe pins s σ H x y v u Q I rx ry ⟨by simpa[IsD]using hb,?_⟩
   cases a with
   | tup ds=>obtain⟨p,xs,rfl,_⟩:=gk ha;exact h.ok hS (by simp[IsD])
   | lst ds =>
         obtain⟨p,xs,rfl,_⟩:∃p xs,x=V.ref p/\FzL X.K H p xs/\af X.K ι H ds xs:=by simpa[IsD]using ha
         exact h.ok hS (by simp[IsD])
   | loc n =>
        obtain⟨p,rfl,_⟩:∃p,x=V.ref p/\ι[n]? = some p:=by simpa[IsD]using ha
        exact h.ok hS (by simp[IsD])
   | _=>have e:=ha;simp![IsD]at e;subst e;exact h.ok hS (by simp[IsD])
  ·cases Ag hb
   cases(show u=Value.bool _ from ry)
   split at h
   ·cases Ag ha
    cases(show v=Value.bool _ from rx)
    exact isnot_bool I (h.ok hS (by simp[IsD]))
   ·cases(show x=.non by simpa[IsD]using ha)
    cases(show v=Value.none from rx)
    exact qi I (h.ok hS (by simp[IsD]))
   ·exact h.elim
  ·exact h.elim
 | in_ =>
  intro pins s σ H x y v u Q I rx ry ⟨ι,a,b,μ,hS,ha,hb,h⟩
  simp![cpD]at h
  split at h
  ·rename_i ds e
   obtain⟨p,xs,rfl,hq,hds⟩:=qe hS hb e
   split at h
   ·rename_i hf
    refine Ez pins s σ H _ _ v u Q I rx ry ⟨p,xs,rfl,hq.imp (·.sq) id,Ai ha hf.1,ve hds hf.2,?_⟩
    simp![BF,if_false]
    rw[Fo ha hf.1 hds hf.2]
    exact h.ok hS (by simp[IsD])
   ·exact h.elim
  ·split at h
   ·rename_i kvs e
    obtain⟨p,q,xs,rfl,rfl,rfl,hp,hk⟩:=vg hS hb ha e
    cases(show u=Value.ref p from ry)
    refine aav (by lia) I (.inl ⟨_,_,hp,rfl,rfl⟩) rx λs' I'=>⟨.bl (xw xs q).isSome,H,I',rfl,?_⟩
    rw[(me hk).isSome]
    exact h.ok hS (by simp[IsD])
   ·exact h.elim
 | notin =>
  intro pins s σ H x y v u Q I rx ry ⟨ι,a,b,μ,hS,ha,hb,h⟩
  simp![cpD]at h
  split at h
  ·rename_i ds e
   obtain⟨p,xs,rfl,hq,hds⟩:=qe hS hb e
   split at h
   ·rename_i hf
    refine xn pins s σ H _ _ v u Q I rx ry ⟨p,xs,rfl,hq.imp (·.sq) id,Ai ha hf.1,ve hds hf.2,?_⟩
    simp![if_true]
    rw[Fo ha hf.1 hds hf.2]
    exact h.ok hS (by simp[IsD])
   ·exact h.elim
  ·split at h
   ·rename_i kvs e
    obtain⟨p,q,xs,rfl,rfl,rfl,hp,hk⟩:=vg hS hb ha e
    cases(show u=Value.ref p from ry)
    refine Ox (by lia) I (.inl ⟨_,_,hp,rfl,rfl⟩) rx λs' I'=>⟨.bl (!(xw xs q).isSome),H,I',rfl,?_⟩
    rw[(me hk).isSome]
    exact h.ok hS (by simp[IsD])
   ·exact h.elim
end
open PySem.SeqAt (EqAt RcAt)
section
variable {X : Cx} {φ : Phi} {pins : List (Addr × Obj)} {σ : St} {H : Hp} {s : Shared}
def PCh (X:Cx) (ops:List CmpOp) (es:List Expr) (t:V->TE):Prop :=
 ∀(pos:Pos) (pins:List (Addr×Obj)) (s:Shared) (σ:St) (H:Hp) (Q:VK) (x:V) (v:Value),Inv X pins σ H s->RelV x v->t x σ H Q ->
  wpAny (model X.prog X.w) X.A (compareChain pos v ops (evalEach es X.env)) (EP X pins σ Q) X.xe s
def PTh (X:Cx) (ops:List CmpOp) (es:List Expr) (t:V->TT):Prop :=
 ∀(pos:Pos) (pins:List (Addr×Obj)) (s:Shared) (σ:St) (H:Hp) (Q:Bool->Hp->Prop) (x:V) (v:Value),Inv X pins σ H s->RelV x v->t x σ H Q ->
  wpAny (model X.prog X.w) X.A (testChain pos v ops (evalEach es X.env)) (TP X pins σ Q) X.xe s
def tCh (K:PySem.W.Frag) (φ:Phi) (r:Cps):V->TE:=λx σv H Q=>∃ι σ μ d,Sim K ι H μ/\l5 K ι H σ σv/\IsD K ι H d x/\du K (RD K) ι H (evC φ r d σ μ) Q
def tTh (K:PySem.W.Frag) (φ:Phi) (r:Cps):V->TT:=λx σv H Q=>∃ι σ μ d,Sim K ι H μ/\l5 K ι H σ σv/\IsD K ι H d x/\du K RB ι H ((evC φ r d σ μ).bind λz μ=>zz z μ) Q
theorem Fs {op:Cp} {xe:Ex} {d:D} {σ:Sl} {μ:Sto}:evC φ (.cons op xe .nil) d σ μ=(evE φ xe σ μ).bind λy μ=>cpD op d y μ:=by
 simp![evC]
 cases evE φ xe σ μ with
 | ok y μ1 =>
  simp![Res.ar]
  cases cpD op d y μ1<;>rfl
 | exc _ _ _=>rfl
 | stuck=>rfl
theorem Ki {op op':Cp} {xe xe':Ex} {r:Cps} {d:D} {σ:Sl} {μ:Sto}:evC φ (.cons op xe (.cons op' xe' r)) d σ μ=(evE φ xe σ μ).bind λy μ=>(cpD op d y μ).bind λz μ=>match z with
  | .bl b=>if b=true then evC φ (.cons op' xe' r) y σ μ else .ok (.bl false) μ
  | _=>.stuck:=by
 rw[evC]
 all_goals rfl
theorem Pm {op:Cp} {e:Expr} {xe:Ex} (ho:OpR X (compareOp (opOf op)) (rOp X.K (cpD op))) (he:PE X e (tE X.K φ xe)):PCh X [opOf op] [e] (tCh X.K φ (.cons op xe .nil)):=by
 intro pos pins s σv H Q x v I rx ⟨ι,σ,μ,d,hS,hL,hd,h⟩
 rw[Fs]at h
 obtain⟨y,μ1,e1,h⟩:=h.bind
 refine chain_last (thn (he pins s σv H (λw H1=>rOp X.K (cpD op) x w H1 Q) I ⟨ι,σ,μ,hS,hL,?_⟩) λu s1 ⟨w,H1,I1,r1,q1⟩=>ho pins s1 σv H1 x w v u Q I1 rx r1 q1)
 rw[e1]
 exact λι1 w H1 p1 x1 s1 d1=>⟨ι1,d,y,μ1,s1,IsD.mono p1 x1 _ _ hd,d1,h.mono p1 x1⟩
theorem Pn {op op':Cp} {e e':Expr} {es:List Expr} {ops:List CmpOp} {xe xe':Ex} {r:Cps} (ho:OpR X (compareOp (opOf op)) (rOp X.K (cpD op))) (he:PE X e (tE X.K φ xe)) (hr:PCh X (opOf op'::ops) (e'::es) (tCh X.K φ (.cons op' xe' r))) :
  PCh X (opOf op::opOf op'::ops) (e::e'::es) (tCh X.K φ (.cons op xe (.cons op' xe' r))):=by
 intro pos pins s σv H Q x v I rx ⟨ι,σ,μ,d,hS,hL,hd,h⟩
 rw[Ki]at h
 obtain⟨y,μ1,e1,h⟩:=h.bind
 refine chain_link (thn (he pins s σv H (λw H1=>rOp X.K (cpD op) x w H1 (λz H2=>∃k,z=.bl k/\if k=true then tCh X.K φ (.cons op' xe' r) w σv H2 Q else Q (.bl false) H2)) I ⟨ι,σ,μ,hS,hL,?_⟩) λu s1 ⟨w,H1,I1,r1,q1⟩ =>
  thn (ho pins s1 σv H1 x w v u _ I1 rx r1 q1) λc s2 ⟨z,H2,I2,r2,k,ek,q2⟩=>?_)
 ·rw[e1]
  intro ι1 w H1 p1 x1 s1 d1
  obtain⟨z,μ2,e2,h⟩:=h.bind
  refine⟨ι1,d,y,μ1,s1,IsD.mono p1 x1 _ _ hd,d1,?_⟩
  rw[e2]
  intro ι2 z' H2 p2 x2 s2 d2
  cases z with
  | bl k =>
   refine⟨k,Ag d2,?_⟩
   cases k with
   | true=>exact⟨ι2,σ,μ2,y,s2,(hL.mono p1 x1).mono p2 x2,IsD.mono p2 x2 _ _ d1,(show du _ _ _ _ (evC φ (.cons op' xe' r) y σ μ2) _ from h).mono (p1.trans p2) (x1.trans x2)⟩
   | false=>exact h ι2 (.bl false) H2 (p1.trans p2) (x1.trans x2) s2 (by simp[IsD])
  | _=>exact h.elim
 ·subst ek
  cases r2
  refine ED ?_
  cases k with
  | false=>exact ite_ff ⟨.bl false,H2,I2,rfl,q2⟩
  | true=>exact ite_tt (hr pos pins s2 σv H2 Q w u I2 r1 q2)
theorem Po {op:Cp} {e:Expr} {xe:Ex} (ho:OpR X (compareOp (opOf op)) (rOp X.K (cpD op))) (he:PE X e (tE X.K φ xe)):PTh X [opOf op] [e] (tTh X.K φ (.cons op xe .nil)):=by
 intro pos pins s σv H Q x v I rx ⟨ι,σ,μ,d,hS,hL,hd,h⟩
 rw[Fs,Res.bind_assoc]at h
 obtain⟨y,μ1,e1,h⟩:=h.bind
 refine test_last (thn (he pins s σv H (λw H1=>rOp X.K (cpD op) x w H1 (λz H2=>∃k,z=.bl k/\Q k H2)) I ⟨ι,σ,μ,hS,hL,?_⟩) λu s1 ⟨w,H1,I1,r1,q1⟩=>thn (ho pins s1 σv H1 x w v u _ I1 rx r1 q1) λc s2 ⟨z,H2,I2,r2,k,ek,q2⟩=>?_)
 ·rw[e1]
  intro ι1 w H1 p1 x1 s1 d1
  obtain⟨z,μ2,e2,h⟩:=h.bind
  refine⟨ι1,d,y,μ1,s1,IsD.mono p1 x1 _ _ hd,d1,?_⟩
  rw[e2]
  intro ι2 z' H2 p2 x2 s2 d2
  cases z with
  | bl k=>exact⟨k,Ag d2,h ι2 k H2 (p1.trans p2) (x1.trans x2) s2 rfl⟩
  | _=>exact h.elim
 ·subst ek
  cases r2
  exact ED ⟨H2,I2,q2⟩
theorem Yd {a:Expr} {xa:Ex} {ops:List CmpOp} {es:List Expr} {r:Cps} {pos:Pos} (ha:PE X a (tE X.K φ xa)) (hr:PCh X ops es (tCh X.K φ r)) (hm:lastMarks ops es=false):PE X (.Compare a ops es pos) (tE X.K φ (.cmp xa r)):=by
 intro pins s σv H Q I ⟨ι,σ,μ,hS,hL,h⟩
 simp![evE]at h
 obtain⟨d,μ1,e1,h⟩:=h.bind
 show wpAny _ _ (do compareChain pos (<-eval a X.env) ops (markedEach ops es (evalEach es X.env))) _ _ _
 rw[markedEach_of_false _ _ _ hm]
 refine AB (thn (ha pins s σv H (λx H1=>tCh X.K φ r x σv H1 Q) I ⟨ι,σ,μ,hS,hL,?_⟩) λv s1 ⟨x,H1,I1,r1,q1⟩=>hr pos pins s1 σv H1 Q x v I1 r1 q1)
 rw[e1]
 exact λι1 x H1 p1 x1 s1 d1=>⟨ι1,σ,μ1,d,s1,hL.mono p1 x1,d1,h.mono p1 x1⟩
theorem Ud {a:Expr} {xa:Ex} {ops:List CmpOp} {es:List Expr} {r:Cps} {pos:Pos} (ha:PE X a (tE X.K φ xa)) (hr:PTh X ops es (tTh X.K φ r)) (hm:lastMarks ops es=false):PT X (.Compare a ops es pos) (tT X.K φ (.cmp xa r)):=by
 intro pins s σv H Q I ⟨ι,σ,μ,hS,hL,h⟩
 simp![evE]at h
 rw[Res.bind_assoc]at h
 obtain⟨d,μ1,e1,h⟩:=h.bind
 show wpAny _ _ (do testChain pos (<-eval a X.env) ops (markedEach ops es (evalEach es X.env))) _ _ _
 rw[markedEach_of_false _ _ _ hm]
 refine AB (thn (ha pins s σv H (λx H1=>tTh X.K φ r x σv H1 Q) I ⟨ι,σ,μ,hS,hL,?_⟩) λv s1 ⟨x,H1,I1,r1,q1⟩=>hr pos pins s1 σv H1 Q x v I1 r1 q1)
 rw[e1]
 exact λι1 x H1 p1 x1 s1 d1=>⟨ι1,σ,μ1,d,s1,hL.mono p1 x1,d1,h.mono p1 x1⟩
theorem Ue {l:Expr} {xl:Ex} {tg:Expr} (hl:PE X l (tE X.K φ xl)):PI X tg l (tI X.K φ (.seq xl)):=by
 intro pins s σv H R I ⟨ι,σ,μ,hS,hL,h⟩
 simp![evI]at h
 cases e1:evE φ xl σ μ with
 | exc _ _ _=>rw[e1]at h;exact h.elim
 | stuck=>rw[e1]at h;exact h.elim
 | ok d μ1 =>
 rw[e1]at h
 simp![Res.ar]at h
 have hq:tE X.K φ xl σv H (λv H1=>∃ι1,ι <+: ι1/\Ext H H1/\Sim X.K ι1 H1 μ1/\IsD X.K ι1 H1 d v):=⟨ι,σ,μ,hS,hL,by rw[e1];exact λι1 v H1 p1 x1 s1 d1=>⟨ι1,p1,x1,s1,d1⟩⟩
 refine thn (hl pins s σv H _ I hq) λu s1 ⟨v,H1,I1,r1,ι1,p1,x1,S1,d1⟩=>?_
 -- a list,at a,whatever its items
 have lst:∀(a:Addr) (xs:List V) (ds:List D) (g:Gd),v=.ref a->LsL X.K H1 a xs->af X.K ι1 H1 ds xs->(∀ι2 H2 μ2,ι1 <+: ι2->Ext H1 H2->Sim X.K ι2 H2 μ2->gd g μ2->∃ys,LsL X.K H2 a ys/\af X.K ι2 H2 ds ys) ->
   (∀ι' H' J,ι <+: ι'->Ext H H'->Sim X.K ι' H' μ1->Walk X.K ι' H' J ds g->R J H')->wpAny (model X.prog X.w) X.A (pyIter u) (PIE X pins σv tg R) X.xe s1:=by
  intro a xs ds g ev hls hds stay hR
  subst ev
  cases(show u=Value.ref a from r1)
  obtain⟨its,rv,p,hz⟩:=I1.list hls.sq
  refine GN p.isList ?_
  refine⟨s1.heap.objs.size,[s1.heap.objs.size],_,_,H1,rfl,I1.kept (t':=s1.toks) λb o e=>AE _ e,Ek a _,⟨_,AS _ rfl,rfl,rfl⟩,λb hb=>?_,hR ι1 H1 _ p1 x1 S1 ?_⟩
  ·have e:b=s1.heap.objs.size:=by simpa using hb
   subst e
   exact I1.fpOk (AN _) (I1.hok.fresh (AN _))
  ·refine⟨by rw[<-hds.length];exact hz,λi ι2 H2 μ2 q1 q2 q3 q4 hi=>?_,λi ι2 H2 μ2 w H3 q1 q2 q3 q4 hi hy=>?_,λι2 H2 μ2 q1 q2 q3 q4=>?_⟩
   ·obtain⟨ys,y1,y2⟩:=stay ι2 H2 μ2 q1 q2 q3 q4
    obtain⟨w,e,_⟩:=y2.get (AA hi)
    exact⟨ys,w,y1.sq,e⟩
   ·obtain⟨ys,y1,y2⟩:=stay ι2 H2 μ2 q1 q2 q3 q4
    obtain⟨e,hy⟩:=hy
    subst e
    obtain⟨w',e',q'⟩:=y2.get (AA hi)
    have:=hy ys y1.sq
    rw[e']at this;cases this
    exact⟨.refl _,q3,_,AA hi,q'⟩
   ·obtain⟨ys,y1,y2⟩:=stay ι2 H2 μ2 q1 q2 q3 q4
    exact⟨ys,y1.sq,by rw[y2.length];exact AN _⟩
 cases d with
 | tup ds =>
  simp![bc]at h
  obtain⟨a,xs,rfl,hq,hds⟩:=gk d1
  cases(show u=Value.ref a from r1)
  obtain⟨its,rv,p,hz⟩:=I1.tuple hq
  refine DW (show s1.heap.IsTuple a its.toArray from p) ?_
  refine⟨s1.heap.objs.size,[s1.heap.objs.size],_,_,H1,rfl,I1.kept (t':=s1.toks) λb o e=>AE _ e,C1 a _,⟨_,AS _ rfl,rfl,rfl⟩,λb hb=>?_,h ι1 H1 _ p1 x1 S1 ?_⟩
  ·have e:b=s1.heap.objs.size:=by simpa using hb
   subst e
   exact I1.fpOk (AN _) (I1.hok.fresh (AN _))
  ·refine⟨by rw[<-hds.length];exact hz,λi ι2 H2 μ2 q1 q2 q3 q4 hi=>?_,λi ι2 H2 μ2 w H3 q1 q2 q3 q4 hi hy=>?_,λι2 H2 μ2 q1 q2 q3 q4=>?_⟩
   ·obtain⟨w,e,_⟩:=hds.get (AA hi)
    exact⟨xs,w,hq.ext q2,e⟩
   ·obtain⟨e,hy⟩:=hy
    subst e
    obtain⟨w',e',q'⟩:=hds.get (AA hi)
    have:=hy xs (hq.ext q2)
    rw[e']at this;cases this
    exact⟨.refl _,q3,_,AA hi,IsD.mono q1 q2 _ _ q'⟩
   ·exact⟨xs,hq.ext q2,by rw[hds.length];exact AN _⟩
 | lst ds =>
  simp![bc]at h
  obtain⟨a,xs,rfl,hq,hds⟩:∃a xs,v=.ref a/\FzL X.K H1 a xs/\af X.K ι1 H1 ds xs:=by simpa[IsD]using d1
  exact lst a xs ds none rfl (.inr hq) hds (λι2 H2 μ2 q1 q2 q3 q4=>⟨xs,.inr (hq.ext q2),af.mono q1 q2 _ _ hds⟩) h
 | loc n =>
  obtain⟨a,rfl,hn⟩:∃a,v=.ref a/\ι1[n]? = some a:=by simpa[IsD]using d1
  have pre:∀{ι2:List Addr},ι1 <+: ι2->ι2[n]? = some a:=λhp=>by
   obtain⟨t,rfl⟩:=hp
   rw[AK (AC.mp hn).1];exact hn
  cases em:μ1[n]? with
  | none=>simp![bc,em]at h
  | some o =>
   simp![bc,em]at h
   cases o with
   | l ds =>
    simp only at h
    obtain⟨a',q',ho⟩:=S1.at em
    rw[hn]at q';cases q'
    obtain⟨xs,f1,f2⟩:=ho
    refine lst a xs ds (some (n,.l ds)) rfl (.inl f1) (af.mono (CK) (.refl _) _ _ f2) (λι2 H2 μ2 q1 q2 q3 q4=>?_) h
    obtain⟨a2,e2,o2⟩:=q3.at (show μ2[n]? = some (.l ds)from q4)
    rw[pre q1]at e2;cases e2
    obtain⟨ys,g1,g2⟩:=o2
    exact⟨ys,.inl g1,af.mono (CK) (.refl _) _ _ g2⟩
   | r ds =>
    simp only at h
    obtain⟨a',q',ho⟩:=S1.at em
    rw[hn]at q';cases q'
    obtain⟨xs,f1,f2⟩:=ho
    refine lst a xs ds (some (n,.r ds)) rfl (.inl f1) f2 (λι2 H2 μ2 q1 q2 q3 q4=>?_) h
    obtain⟨a2,e2,o2⟩:=q3.at (show μ2[n]? = some (.r ds)from q4)
    rw[pre q1]at e2;cases e2
    obtain⟨ys,g1,g2⟩:=o2
    exact⟨ys,.inl g1,g2⟩
   | d kvs=>simp only at h
   | dt kvs=>simp only at h
   | x _=>simp only at h
   | o _ _=>simp only at h
   | dr _=>simp only at h
   | fd _=>simp only at h
   | dead=>simp only at h
 | _=>simp![bc]at h
theorem Dn {K:PySem.W.Frag} {ι:List Addr} {H:Hp} (lo:Int) (n:Nat) (hn:n<=sizeLine):Walk K ι H (Itr lo n) ((List.range n).map fun(k:Nat)=>D.int (lo+k)) none:=by
 refine⟨by simpa using hn,λi ι2 H2 μ2 q1 q2 q3 q4 hi=>by simpa[Itr]using hi,λi ι2 H2 μ2 w H3 q1 q2 q3 q4 hi hy=>?_,λι2 H2 μ2 q1 q2 q3 q4=>by simp[Itr]⟩
 obtain⟨e,hy⟩:=hy
 subst e
 have hi':i<n:=by simpa using hi
 exact⟨.refl _,q3,.int (lo+i),by simp[hi'],by simp[IsD,hy]⟩
theorem Ug {a:Expr} {xa:Ex} {tg:Expr} {p pos:Pos} (hg:Gl X "range") (hm:X.mg "range"=none) (ha:PE X a (tE X.K φ xa)) (hs:starEach [a] X.env=[(false,eval a X.env)]):PI X tg (.Call (.Name "range" p) [a] [] pos) (tI X.K φ (.rng xa)) :=
 PI.imp (El hg hm (yh ha Ka hs) hs) λσv H R ⟨ι,σ,μ,hS,hL,h⟩=>by
  simp![evI]at h
  refine⟨ι,σ,μ,hS,hL,?_⟩
  simp![eh]
  cases e1:evE φ xa σ μ with
  | exc _ _ _=>rw[e1]at h;exact h.elim
  | stuck=>rw[e1]at h;exact h.elim
  | ok d μ1 =>
   rw[e1]at h
   simp![Res.ar]at h ⊢
   cases d with
   | int j =>
    simp only at h
    by_cases hj:-(lim:Int)<=j/\j<=lim
    ·rw[if_pos hj]at h
     rw[fg]at hj
     have h24:sizeLine=16777216:=DL
     rw[h24]at hj
     intro ι1 vs H1 p1 x1 s1 d1
     have e:vs=[.int j]:=by
      have q:af X.K ι1 H1 [.int j] vs:=d1
      simp![af]at q
      obtain⟨v,r,rfl,q1,rfl⟩:=q
      cases ck q1
      rfl
     refine⟨j,e,by lia,by lia,h ι1 H1 _ p1 x1 s1 ?_⟩
     have w:=Dn (K:=X.K) (ι:=ι1) (H:=H1) 0 j.toNat (by lia)
     simpa using w
    ·rw[if_neg hj]at h
     exact h.elim
   | _=>exact h.elim
def nr (K:PySem.W.Frag) (f:List D->Sto->Res D):List V->Hp->VK->Prop:=λxs H Q=>∃ι ds μ,Sim K ι H μ/\af K ι H ds xs/\du K (RD K) ι H (f ds μ) Q
theorem Mg {K:PySem.W.Frag} {ι:List Addr} {d:D} {xs:List V} (h:af K ι H [d] xs):∃v,xs=[v]/\IsD K ι H d v:=by
 simp![af]at h
 obtain⟨v,r,rfl,q,rfl⟩:=h
 exact⟨v,rfl,q⟩
theorem Ft {K:PySem.W.Frag} {ι:List Addr} {d e:D} {xs:List V} (h:af K ι H [d,e] xs):∃v w,xs=[v,w]/\IsD K ι H d v/\IsD K ι H e w:=by
 simp![af]at h
 obtain⟨v,r,rfl,q,w,r2,rfl,q2,rfl⟩:=h
 exact⟨v,w,rfl,q,q2⟩
theorem gm {K:PySem.W.Frag} {ι:List Addr} {ds:List D} {xs:List V} {μ:Sto} {f:D->Sto->Res D} {Q:VK} (hds:af K ι H ds xs) (h:du K (RD K) ι H (ku f ds μ) Q) :
  ∃d v,xs=[v]/\IsD K ι H d v/\du K (RD K) ι H (f d μ) Q:=by
 unfold ku at h
 split at h
 ·rename_i d
  obtain⟨v,rfl,hv⟩:=Mg hds
  exact⟨d,v,rfl,hv,h⟩
 ·exact h.elim
theorem Ak {K:PySem.W.Frag} {ι:List Addr} {d:D} {v:V} {μ:Sto} {f:List D->Sto->Res D} {Q:VK} (hS:Sim K ι H μ) (hd:IsD K ι H d v) (h:du K (RD K) ι H (seq1 f d μ) Q) :
  ∃a xs ds,v=.ref a/\(LsL K H a xs\/SqT K H a xs)/\af K ι H ds xs/\du K (RD K) ι H (f ds μ) Q:=by
 unfold seq1 at h
 split at h
 ·rename_i ds e
  obtain⟨a,xs,rfl,hq,hxs⟩:=qe hS hd e
  exact⟨a,xs,ds,rfl,hq,hxs,h⟩
 ·exact h.elim
theorem Al {K:PySem.W.Frag} {ι:List Addr} {d:D} {v:V} {μ:Sto} {f:List Int->Sto->Res D} {Q:VK} (hS:Sim K ι H μ) (hd:IsD K ι H d v) (h:du K (RD K) ι H (J7 f d μ) Q) :
  ∃a ns,v=.ref a/\(LsL K H a (ns.map V.int)\/SqT K H a (ns.map V.int))/\du K (RD K) ι H (f ns μ) Q:=by
 unfold J7 at h
 cases e:bj μ d with
 | none=>rw[e]at h;exact h.elim
 | some ds =>
  rw[e]at h
  simp![DT]at h
  split at h
  ·rename_i ns e2
   obtain⟨a,xs,rfl,hq,hxs⟩:=qe hS hd e
   rw[ints_of hxs e2]at hq
   exact⟨a,ns,rfl,hq,h⟩
  ·exact h.elim
theorem Kj {K:PySem.W.Frag} {ι:List Addr} {d:D} {v:V} {μ:Sto} {f:List Bool->Sto->Res D} {Q:VK} (hS:Sim K ι H μ) (hd:IsD K ι H d v) (h:du K (RD K) ι H (E8 f d μ) Q) :
  ∃a ns,v=.ref a/\(LsL K H a (ns.map V.bl)\/SqT K H a (ns.map V.bl))/\du K (RD K) ι H (f ns μ) Q:=by
 unfold E8 at h
 cases e:bj μ d with
 | none=>rw[e]at h;exact h.elim
 | some ds =>
  rw[e]at h
  simp![DT]at h
  split at h
  ·rename_i ns e2
   obtain⟨a,xs,rfl,hq,hxs⟩:=qe hS hd e
   rw[Bo hxs e2]at hq
   exact⟨a,ns,rfl,hq,h⟩
  ·exact h.elim
theorem bt_len {m:Mk}:dk X (.builtin "len") (nr X.K (btD .len m)):=dk.imp xp λxs H Q ⟨ι,ds,μ,hS,hds,h⟩=>by
 obtain⟨d,v,rfl,hv,h⟩:=gm hds h
 obtain⟨a,xs,es,rfl,hq,hxs,h⟩:=Ak hS hv h
 exact⟨a,xs,rfl,hq.imp (·.sq) id,by rw[hxs.length];exact h.ok hS (by simp[IsD])⟩
theorem bt_tuple {m:Mk}:dk X (.type "tuple") (nr X.K (btD .tuple m)):=dk.imp uy λxs H Q ⟨ι,ds,μ,hS,hds,h⟩=>by
 obtain⟨d,v,rfl,hv,h⟩:=gm hds h
 obtain⟨a,xs,es,rfl,hq,hxs,h⟩:=Ak hS hv h
 refine⟨a,xs,rfl,?_⟩
 rcases hq with hq | hq
 ·exact .inl ⟨hq.sq,λl hl=>u7 hS hxs h hl⟩
 ·exact .inr ⟨hq,h.ok hS (tup_is hq hxs)⟩
theorem bt_list {m:Mk}:dk X (.type "list") (nr X.K (btD .list m)):=dk.imp (dk.fq xq) λxs H Q ⟨ι,ds,μ,hS,hds,h⟩=>by
 obtain⟨d,v,rfl,hv,h⟩:=gm hds h
 obtain⟨a,xs,es,rfl,hq,hxs,h⟩:=Ak hS hv h
 exact⟨a,xs,rfl,hq.imp (·.sq) id,λl hl=>jg hS hxs h hl⟩
theorem bt_min {m:Mk} (hc:X.calm=true):dk X (.builtin "min") (nr X.K (btD .min m)):=dk.imp (Eo hc) λxs H Q ⟨ι,ds,μ,hS,hds,h⟩=>by
 simp![btD,minD]at h
 split at h
 ·rename_i i j
  obtain⟨v,w,rfl,hv,hw⟩:=Ft hds
  cases ck hv
  cases ck hw
  exact⟨i,j,rfl,h.ok hS (by simp[IsD])⟩
 ·exact h.elim
theorem bt_max {m:Mk} (hc:X.calm=true):dk X (.builtin "max") (nr X.K (btD .max m)):=dk.imp (En hc) λxs H Q ⟨ι,ds,μ,hS,hds,h⟩=>by
 simp![btD,maxD]at h
 split at h
 ·rename_i i j
  obtain⟨v,w,rfl,hv,hw⟩:=Ft hds
  cases ck hv
  cases ck hw
  exact⟨i,j,rfl,h.ok hS (by simp[IsD])⟩
 ·exact h.elim
theorem o7 {A:Around} {E:Value->Shared->Prop} {a:Addr} {xs:List V} (I:Inv X pins σ H s) (hq:LsL X.K H a xs\/SqT X.K H a xs) (hh:A.handled=none) {Q:Value->Shared->Prop}
  (h:∀(it:Addr) (fp:List Addr) (its:List Value) St s2,bh xs its->Walks X.prog X.w A it fp [it] its.length (λi v=>its[i]? = some v) St->St 0 s2.heap->(∀b∈fp,b<s2.heap.objs.size) ->
   (∀h' tk,(∀b o,b∉[it]->s2.heap.get? b=some o->h'.get? b=some o)->Inv X pins σ H {s2 with heap:=h',toks:=tk})->Q (.ref it) s2) :
  wpAny (model X.prog X.w) A (pyIter (.ref a)) Q E s:=by
 have fin:∀(ob:Obj) (h':Heap) (tk:Nat),(∀b o,b∉[s.heap.objs.size]->(s.heap.push ob).get? b=some o->h'.get? b=some o)->Inv X pins σ H {s with heap:=h',toks:=tk}:=λob h' tk hk =>
  I.kept λb u e=>hk b u (by simp;exact BA (AQ e)) (AE _ e)
 rcases hq with hq | hq
 ·obtain⟨z,its,n,hv,hl,hg⟩:=I.ls hq
  have hil:s.heap.IsList a its.toArray:=⟨_,hg,rfl,n,rfl⟩
  refine GN hil ?_
  have hne:a≠s.heap.objs.size:=BA (AQ hg)
  have W:=Walks.list (prog:=X.prog) (w:=X.w) (A:=A) hh s.heap.objs.size a hne its.toArray
  simp![AI,HV]at W
  refine h s.heap.objs.size _ its _ _ hv W ⟨⟨_,AS _ rfl,rfl,rfl⟩,hil.at λo e=>AE _ e⟩ (λb hb=>?_) (λh' tk hk=>fin _ h' tk hk)
  simp![AG,BS,or_false]at hb
  rw[CJ]
  rcases hb with rfl | rfl
  ·exact Do _
  ·exact DF (AQ hg)
 ·obtain⟨its,hv,ht,hz⟩:=I.tuple hq
  have hit:s.heap.IsTuple a its.toArray:=ht
  refine DW hit ?_
  obtain⟨o,ho,_⟩:=id hit
  have hne:a≠s.heap.objs.size:=BA (AQ ho)
  have W:=Walks.tuple (prog:=X.prog) (w:=X.w) (A:=A) hh s.heap.objs.size a hne its.toArray
  simp![AI,HV]at W
  refine h s.heap.objs.size _ its _ _ hv W ⟨⟨_,AS _ rfl,rfl,rfl⟩,hit.at λo e=>AE _ e⟩ (λb hb=>?_) (λh' tk hk=>fin _ h' tk hk)
  simp![AG,BS,or_false]at hb
  rw[CJ]
  rcases hb with rfl | rfl
  ·exact Do _
  ·exact DF (AQ ho)
theorem yn (ns:List Int):∀k,k<=ns.length->preSum (λi=>ns.getD i 0) k=(ns.take k).sum
 | 0,_=>by simp[preSum]
 | k+1,h=>by
  rw[preSum,yn ns k (by lia),List.take_succ,DQ,AF,AA (by lia)]
  simp
theorem bt_sum {m:Mk} (hc:X.calm=true):dk X (.builtin "sum") (nr X.K (btD .sum m)):=by
 intro pins s σ H xs us Q I r ⟨ι,ds,μ,hS,hds,h⟩
 obtain⟨d,v,rfl,hv,h⟩:=gm hds h
 obtain⟨a,ns,rfl,hq,h⟩:=Al hS hv h
 obtain⟨u,rfl,ru⟩:=vals1 r
 cases(show u=Value.ref a from ru)
 refine call_sum_walkG (o7 I hq (show X.A.in1.handled=none from I.ok.hd hc) λit fp its St s2 hvs W st hfp hI=>?_)
 have hl:ns.length=its.length:=by have:=hvs.length;simpa using this
 refine⟨it,fp,[it],its.length,_,St,λi=>ns.getD i 0,rfl,W,st,hfp,λi w e=>?_,λh' tk t' hk=>?_⟩
 ·have hi:i<ns.length:=by rw[hl];exact(AC.mp e).1
  obtain⟨u',e1,⟨t,e2⟩⟩:=hvs.get (i:=i) (x:=.int ns[i]) (by simp[AA hi])
  rw[e]at e1;cases e1
  exact⟨t,by rw[e2];simp[AF,AA hi]⟩
 ·refine⟨.int ns.sum,H,hI h' tk hk,⟨t',?_⟩,h.ok hS (by simp[IsD])⟩
  rw[<-hl,yn ns ns.length (AN _),DU]
theorem any_range (bs:List Bool):(List.range bs.length).any (λi=>bs.getD i false)=bs.any id:=by
 induction bs with
 | nil=>rfl
 | cons b r ih=>rw[AU,FH,CV,IM,CV];exact congrArg _ ih
theorem Kk {A:Around} {bs:List Bool} {its:List Value} (hvs:bh (bs.map V.bl) its):TruthOf X.prog X.w A (λi v=>its[i]? = some v) (λi=>bs.getD i false):=by
 intro i v s Q E e q
 have hl:bs.length=its.length:=by have:=hvs.length;simpa using this
 have hi:i<bs.length:=by rw[hl];exact(AC.mp e).1
 obtain⟨u',e1,e2⟩:=hvs.get (i:=i) (x:=.bl bs[i]) (by simp[AA hi])
 rw[e]at e1;cases e1
 cases(show v=Value.bool bs[i]from e2)
 refine ED ?_
 simpa[AF,AA hi]using q
theorem bt_any {m:Mk} (hc:X.calm=true):dk X (.builtin "any") (nr X.K (btD .any m)):=by
 intro pins s σ H xs us Q I r ⟨ι,ds,μ,hS,hds,h⟩
 obtain⟨d,v,rfl,hv,h⟩:=gm hds h
 obtain⟨a,bs,rfl,hq,h⟩:=Kj hS hv h
 obtain⟨u,rfl,ru⟩:=vals1 r
 cases(show u=Value.ref a from ru)
 refine call_any_walk (o7 I hq (show X.A.in1.handled=none from I.ok.hd hc) λit fp its St s2 hvs W st hfp hI=>?_)
 have hl:bs.length=its.length:=by have:=hvs.length;simpa using this
 refine⟨it,fp,[it],its.length,_,St,λi=>bs.getD i false,rfl,W,st,Kk hvs,λh' tk hk=>?_⟩
 refine⟨.bl (bs.any id),H,hI h' tk hk,?_,h.ok hS (by simp[IsD])⟩
 rw[<-hl,any_range]
 rfl
end
theorem Am {prog:Program} {w:World} {A:Around} {E:Value->Shared->Prop} {s:Shared} {t sl:Addr} {items:Array Value} {vl vu:Value} {lo hi:Option Int} {Q:Value->Shared->Prop} (ht:IsTup s.heap t items) (hs:s.heap.IsSliceOf sl vl vu .none) (pl:IsPart vl lo) (pu:IsPart vu hi)
  (hw:HT.sIx items.size 0 lo=0/\HT.sIx items.size items.size hi=items.size) (h:Q (.ref t) s):wpAny (model prog w) A (getItem (.ref t) (.ref sl)) Q E s:=by
 obtain⟨os,hos,hcs,hds⟩:=id hs
 have hTs:s.TypeIs (.ref sl) "slice":=⟨os,hos,hcs⟩
 unfold getItem
 try with_reducible refine EM ?_
 first | refine AB (AL ?_) | skip
 refine AB (wpAny_sequenceKey ht.typeIs (by decide) ?_)
 refine AB (CH (name:=Str.ofString "__getitem__") ht.typeIs CC
  (DA CC ht.typeIs entry_tuple_getitem ?_ (args_tuple_getitem _ _)))
 show wpAny _ _ (Builtin.Tuple.tupleItemsOf (.ref t)>>=_) _ _ s
 refine AB (tupleItemsOf_ ht ?_)
 refine AB (wpAny_typeOf hTs ?_)
 rw[if_pos (by decide)]
 refine AB (HT.jm hs pl pu ?_)
 have hyes:(((HT.sIx items.size 0 lo:Nat):Int)==0&&(1:Int)==1&&(HT.sIx items.size items.size hi-HT.sIx items.size 0 lo)==items.size)=true:=by
  rw[hw.1,hw.2];simp
 show wpAny _ _ (if(((HT.sIx items.size 0 lo:Nat):Int)==0&&(1:Int)==1&&(HT.sIx items.size items.size hi-HT.sIx items.size 0 lo)==items.size)=true then _ else _) _ _ s
 rw[if_pos hyes]
 refine AB ?_
 unfold Builtin.Tuple.tupleIsExact
 refine AB (wpAny_typeOf ht.typeIs (AL ?_))
 rw[if_pos (by decide)]
 exact AB (GD (AL ⟨_,rfl,AL h⟩))
section
variable {X : Cx} {φ : Phi} {pins : List (Addr × Obj)} {σ : St} {H : Hp} {s : Shared}
theorem Ye {m:Mk}:SlR X (λx lo hi H Q=>∃ι d μ,Sim X.K ι H μ/\IsD X.K ι H d x/\du X.K (RD X.K) ι H (slD m d lo hi μ) Q):=by
 intro pins s σ H x v vl vu lo hi sl Q I rx hs pl pu ⟨ι,d,μ,hS,hd,h⟩
 unfold slD at h
 split at h
 ·rename_i ds
  obtain⟨a,xs,rfl,hq,hxs⟩:=gk hd
  by_cases hw:HT.sIx xs.length 0 lo=0/\HT.sIx xs.length xs.length hi=xs.length
  ·cases(show v=Value.ref a from rx)
   obtain⟨its,r,ht,hz⟩:=I.tuple hq
   have hlen:its.toArray.size=xs.length:=by rw[AI];exact r.length.symm
   refine⟨"tuple",_,CC.lookup,ht.typeIs,Am ht hs pl pu (by rw[hlen];exact hw) ⟨.ref a,H,I,rfl,h.ok hS ?_⟩⟩
   have e1:∀n d o,Lp.sIx n d o=HT.sIx n d o:=λn d o=>by cases o<;>rfl
   have ec:cut ds lo hi=ds:=by
    unfold cut
    rw[e1,e1,<-hxs.length,hw.1,hw.2]
    simp[hxs.length]
   rw[ec]
   exact hd
  ·exact So pins s σ H _ v vl vu lo hi sl Q I rx hs pl pu ⟨a,xs,rfl,hq,hw,λp hp=>u7 hS (Mf hxs lo hi) h hp⟩
 ·split at h
  ·rename_i es
   obtain⟨a,xs,rfl,ha,hxs⟩:=jz hS hd es
   exact SlR.fq Ov pins s σ H _ v vl vu lo hi sl Q I rx hs pl pu ⟨a,xs,rfl,ha.sq,λp hp=>jg hS (Mf hxs lo hi) h hp⟩
  ·exact h.elim
theorem PO.imp {e:Option Expr} {t t':TO} (h:PO X e t) (i:∀σ H Q,t' σ H Q->t σ H Q):PO X e t':=by
 intro pins s σ H Q I q
 exact h pins s σ H Q I (i _ _ _ q)
theorem abc:PO X none (tEo X.K φ .no):=PO.imp Oo λσv H Q ⟨ι,σ,μ,hS,hL,h⟩=>by
 simp![evO]at h
 exact h.ok hS rfl
theorem abd {e:Expr} {x:Ex} (he:PE X e (tE X.K φ x)):PO X (some e) (tEo X.K φ (.so x)):=PO.imp (Oq he) λσv H Q ⟨ι,σ,μ,hS,hL,h⟩=>by
 simp![evO]at h
 obtain⟨d,μ1,e1,h⟩:=h.bind
 refine⟨ι,σ,μ,hS,hL,?_⟩
 rw[e1]
 intro ι1 v H1 p1 x1 s1 d1
 cases d with
 | int i=>exact⟨i,ck d1,h ι1 (some i) H1 p1 x1 s1 rfl⟩
 | _=>exact h.elim
theorem abe {e:Expr} {lo hi:Option Expr} {x:Ex} {xl xh:ExO} {m:Mk} {p2 pos:Pos} (he:PE X e (tE X.K φ x)) (hl:PO X lo (tEo X.K φ xl)) (hh:PO X hi (tEo X.K φ xh)):PE X (.Subscript e (.Slice lo hi none p2) pos) (tE X.K φ (.sl m x xl xh)) :=
 PE.imp (J2 Ye he hl hh) λσv H Q ⟨ι,σ,μ,hS,hL,h⟩=>by
  simp![evE]at h
  obtain⟨d,μ1,e1,h⟩:=h.bind
  refine⟨ι,σ,μ,hS,hL,?_⟩
  rw[e1]
  intro ι1 v H1 p1 x1 s1 d1
  obtain⟨l,μ2,e2,h⟩:=h.bind
  refine⟨ι1,σ,μ1,s1,hL.mono p1 x1,?_⟩
  rw[e2]
  intro ι2 l' H2 p2 x2 s2 d2
  cases d2
  obtain⟨u,μ3,e3,h⟩:=h.bind
  refine⟨ι2,σ,μ2,s2,(hL.mono p1 x1).mono p2 x2,?_⟩
  rw[e3]
  intro ι3 u' H3 p3 x3 s3 d3
  cases d3
  exact⟨ι3,d,μ3,s3,IsD.mono p3 x3 _ _ (IsD.mono p2 x2 _ _ d1),h.mono ((p1.trans p2).trans p3) ((x1.trans x2).trans x3)⟩
theorem Fu {K:PySem.W.Frag} {ι:List Addr} {μ:Sto} {n:Nat} {v:V} {ob:O} {xs:List D} (hS:Sim K ι H μ) (hd:IsD K ι H (.loc n) v) (e:μ[n]? = some ob) (hi:d9 ob=some xs) :
  ∃a vs,v=.ref a/\ι[n]? = some a/\H a=some (.lst vs)/\af K ι H xs vs/\(∀ds,ob=.l ds->af K [] H xs vs):=by
 obtain⟨a,rfl,ha⟩:∃a,v=.ref a/\ι[n]? = some a:=by simpa[IsD]using hd
 obtain⟨a',ea,ho⟩:=hS.at e
 rw[ha]at ea;cases ea
 cases ob with
 | l ds =>
  cases hi
  obtain⟨vs,e1,e2⟩:=ho
  exact⟨a,vs,rfl,ha,e1,af.mono (CK) (.refl _) _ _ e2,λ_ _=>e2⟩
 | r ds =>
  cases hi
  obtain⟨vs,e1,e2⟩:=ho
  exact⟨a,vs,rfl,ha,e1,e2,λ_ z=>by cases z⟩
 | d _=>cases hi
 | dt _=>cases hi
 | x _=>cases hi
 | o _ _=>cases hi
 | dr _=>cases hi
 | fd _=>cases hi
 | dead=>cases hi
theorem kg {K:PySem.W.Frag} {ι:List Addr} {μ:Sto} {n:Nat} {ob:O} {ys:List D} {vs ws:List V} {d:D} {v:V} {a:Addr} {Q:VK} (hS:Sim K ι H μ) (ha:ι[n]? = some a) (hH:H a=some (.lst vs))
  (hw:af K ι H ys ws) (hw0:∀ds,ob=.l ds->af K [] H ys ws) (hd:IsD K ι H d v) (h:du K (RD K) ι H (putL n ob ys d μ) Q):Q v (upd H a (.lst ws)):=by
 cases ob with
 | l ds =>
  exact h ι v _ (AH _) (.lst hH) (hS.put ha (.lst hH) ⟨ws,aq,af.mono (AH _) (.lst hH) _ _ (hw0 ds rfl)⟩) (IsD.mono (AH _) (.lst hH) _ _ hd)
 | r ds =>
  exact h ι v _ (AH _) (.lst hH) (hS.put ha (.lst hH) ⟨ws,aq,af.mono (AH _) (.lst hH) _ _ hw⟩) (IsD.mono (AH _) (.lst hH) _ _ hd)
 | d _=>exact h.elim
 | dt _=>exact h.elim
 | x _=>exact h.elim
 | o _ _=>exact h.elim
 | dr _=>exact h.elim
 | fd _=>exact h.elim
 | dead=>exact h.elim
theorem qk {K:PySem.W.Frag} {ι:List Addr} {ob:O} {d:D} {v:V} (hf:fits ob d=true) (hd:IsD K ι H d v):∀ds,ob=.l ds->IsD K [] H d v:=λds e=>by
 subst e
 exact IsD.pur hf hd
def rMt (K:PySem.W.Frag) (mt:Mt):V->List V->Hp->VK->Prop:=λx vs H Q=>∃ι d ds μ,Sim K ι H μ/\IsD K ι H d x/\af K ι H ds vs/\du K (RD K) ι H (mtD mt d ds μ) Q
theorem Kl {mt:Mt} (hne:mt≠.count/\mt≠.countL/\mt≠.get) {x:V} {vs:List V} {Q:VK} (h:rMt X.K mt x vs H Q):∃ι n ob xs ds μ a ws,Sim X.K ι H μ/\af X.K ι H ds vs/\x=.ref a/\ι[n]? = some a/\H a=some (.lst ws)/\af X.K ι H xs ws /\
  (∀es,ob=.l es->af X.K [] H xs ws)/\du X.K (RD X.K) ι H (mtL mt n ob xs ds μ) Q:=by
 obtain⟨ι,d,ds,μ,hS,hd,hds,h⟩:=h
 have e0:mtD mt d ds μ=yf mt d ds μ:=by
  cases mt<;>first | exact absurd rfl hne.1 | exact absurd rfl hne.2.1 | exact absurd rfl hne.2.2 | rfl
 rw[e0]at h
 cases d with
 | loc n =>
  simp![yf]at h
  cases em:μ[n]? with
  | none=>rw[em]at h;exact h.elim
  | some ob =>
   rw[em]at h
   simp only at h
   cases ei:d9 ob with
   | none=>rw[ei]at h;exact h.elim
   | some xs =>
    rw[ei]at h
    obtain⟨a,ws,ex,ha,hH,h1,h2⟩:=Fu hS hd em ei
    exact⟨ι,n,ob,xs,ds,μ,a,ws,hS,hds,ex,ha,hH,h1,h2,h⟩
 | _=>exact h.elim
theorem Km:MtR X "list.append" (rMt X.K .append):=MtR.imp E1 λx vs H Q h0=>by
 obtain⟨ι,n,ob,xs,ds,μ,a,ws,hS,hds,rfl,ha,hH,h1,h2,h⟩:=Kl (by decide) h0
 clear h0
 simp![mtL]at h
 obtain⟨d,v,rfl,hv,h⟩:=gm hds h
 split at h
 ·rename_i hf
  rw[fg]at hf
  refine⟨a,ws,v,rfl,rfl,hH,by rw[h1.length];exact hf.2,kg hS ha hH (h1.append (.one hv)) (λes e=>(h2 es e).append (.one (qk hf.1 hv es e))) (by simp[IsD]) h⟩
 ·exact h.elim
theorem Yf:MtR X "list.pop" (rMt X.K .pop):=by
 intro pins s σ H x vs v us Q I rx rv h0
 obtain⟨ι,n,ob,xs,ds,μ,a,ws,hS,hds,rfl,ha,hH,h1,h2,h⟩:=Kl (by decide) h0
 clear h0
 simp![mtL]at h
 split at h
 ·have e:vs=[]:=by simpa[af]using hds
  subst e
  split at h
  ·rename_i d ed
   have hl:xs[xs.length-1]? = some d:=by rw[<-List.getLast?_eq_getElem?];exact ed
   obtain⟨w,ew,hw⟩:=h1.get hl
   refine Sz pins s σ H _ _ v us Q I rx rv ⟨a,ws,w,rfl,rfl,hH,by rw[h1.length];exact ew,kg hS ha hH h1.dropLast (λes e=>(h2 es e).dropLast) hw h⟩
  ·exact h.elim
 ·rename_i i
  obtain⟨w0,rfl,hw0⟩:=Mg hds
  cases ck hw0
  split at h
  ·rename_i hi
   rw[fg]at hi
   have h24:sizeLine=16777216:=DL
   rw[h24]at hi
   split at h
   ·rename_i d ed
    obtain⟨w,ew,hw⟩:=h1.get ed
    have hlt:i.toNat<xs.length:=(AC.mp ed).1
    refine J3 pins s σ H _ _ v us Q I rx rv ⟨a,ws,i,i.toNat,w,rfl,rfl,hH,by lia,by lia,?_,ew,kg hS ha hH (h1.eraseIdx _) (λes e=>(h2 es e).eraseIdx _) hw h⟩
    rw[h1.length]
    exact PySem.StrLaws.seqIndex_nonneg hi.1 (by lia)
   ·exact h.elim
  ·exact h.elim
 ·exact h.elim
theorem Kn:MtR X "list.extend" (rMt X.K .extend):=by
 intro pins s σ H x vs v us Q I rx rv h0
 obtain⟨ι,n,ob,xs,ds,μ,a,ws,hS,hds,rfl,ha,hH,h1,h2,h⟩:=Kl (by decide) h0
 clear h0
 simp![mtL]at h
 obtain⟨d,w0,rfl,hv,h⟩:=gm hds h
 split at h
 ·rename_i ys ey
  split at h
  ·rename_i hf
   rw[fg]at hf
   obtain⟨b,zs,rfl,hb,hzs⟩:=jz hS hv ey
   cases(show v=Value.ref a from rx)
   obtain⟨u,rfl,ru⟩:=rv.one
   cases(show u=Value.ref b from ru)
   obtain⟨z,its,n1,r,hl,e⟩:=I.lstM hH
   obtain⟨z2,its2,n2,r2,hl2,e2⟩:=I.ls hb
   have l1:=h1.length
   have l2:=hzs.length
   have hsz:its.toArray.size+its2.toArray.size<=sizeLine:=by rw[AI,AI];lia
   have hlong:¬(!its.toArray.isEmpty&&Builtin.List.listTooLong (its.toArray.size+its2.toArray.size))=true:=by
    rw[Bh hsz,IB]
    exact BB
   refine FL F.slot_list_extend ⟨_,e,rfl⟩ F.entry_list_extend (F.args_list_extend_2 _ _)
    (AutoSeq1.list_extend_list_list_0 a its.toArray n1 b its2.toArray n2 hlong (by rw[AI];lia) (by lia)) ⟨e,e2,?_⟩
   refine⟨.non,_,I.lset (its':=its++its2) hH e (by simp) (r.append r2) ?_,rfl,kg hS ha hH (h1.append hzs) (λes ee=>(h2 es ee).append ?_) (by simp[IsD]) h⟩
   ·rw[BD]
    lia
   ·subst ee
    exact af.pur (by simpa[fits]using hf.1) hzs
  ·exact h.elim
 ·exact h.elim
end
theorem IsD.belowN {K:PySem.W.Frag} {ι ι':List Addr} {H:Hp} (hp:ι <+: ι'):∀(k:Nat) (d:D) (v:V),D.belowN ι.length k d=true->IsD K ι' H d v->IsD K ι H d v:=by
 have list:∀(k:Nat),(∀(d:D) (v:V),D.belowN ι.length k d=true->IsD K ι' H d v->IsD K ι H d v) ->
   ∀(ds:List D) (xs:List V),ds.all (D.belowN ι.length k)=true->af K ι' H ds xs->af K ι H ds xs:=by
  intro k ih ds
  induction ds with
  | nil=>intro xs _ h;simpa[af]using h
  | cons d ds ihd =>
   intro xs hp h
   simp![af]at h ⊢
   simp![BM,AY]at hp
   obtain⟨v,r,e,q,t⟩:=h
   exact⟨v,r,e,ih d v hp.1 q,ihd r hp.2 t⟩
 have loc:∀(n:Nat) (v:V),n<ι.length->IsD K ι' H (.loc n) v->IsD K ι H (.loc n) v:=λn v hn h=>by
  simp![IsD]at h ⊢
  obtain⟨a,e,q⟩:=h
  obtain⟨t,rfl⟩:=hp
  rw[AK hn]at q
  exact⟨a,e,q⟩
 intro k
 induction k with
 | zero =>
  intro d v hb h
  cases d with
  | loc n=>exact loc n v (by simpa[D.belowN]using hb) h
  | tup ds=>simp[D.belowN]at hb
  | lst ds=>simp[D.belowN]at hb
  | _=>simpa[IsD]using h
 | succ k ih =>
  intro d v hb h
  cases d with
  | tup ds =>
   simp![D.belowN]at hb
   simp![IsD]at h ⊢
   obtain⟨a,xs,e,q,r⟩:=h
   exact⟨a,xs,e,q,list k ih ds xs hb r⟩
  | lst ds =>
   simp![D.belowN]at hb
   simp![IsD]at h ⊢
   obtain⟨a,xs,e,q,r⟩:=h
   exact⟨a,xs,e,q,list k ih ds xs hb r⟩
  | loc n=>exact loc n v (by simpa[D.belowN]using hb) h
  | _=>simpa[IsD]using h
theorem af.belowN {K:PySem.W.Frag} {ι ι':List Addr} {H:Hp} (hp:ι <+: ι') {k:Nat}:∀(ds:List D) (xs:List V),ds.all (D.belowN ι.length k)=true->af K ι' H ds xs->af K ι H ds xs
 | [],xs,_,h=>by simpa[af]using h
 | d::ds,xs,hb,h=>by
  simp![af]at h ⊢
  simp![BM,AY]at hb
  obtain⟨v,r,e,q,t⟩:=h
  exact⟨v,r,e,IsD.belowN hp k d v hb.1 q,af.belowN hp ds r hb.2 t⟩
theorem Fv {K:PySem.W.Frag} {ι ι':List Addr} {H:Hp} (hp:ι <+: ι'):∀{fs:List (Str×D)} {xs:List (Str×V)},(fs.all λp=>D.belowN ι.length 8 p.2)=true->FsD K ι' H fs xs->FsD K ι H fs xs
 | _,_,_,.nil=>.nil
 | (f,d)::r,(g,v)::q,h,.cons z t=>by
  simp![BM,AY]at h
  exact .cons ⟨z.1,IsD.belowN hp 8 d v h.1 z.2⟩ (Fv hp h.2 t)
theorem Fw {K:PySem.W.Frag} {ι ι':List Addr} {H:Hp} (hp:ι <+: ι'):∀{fs:List (D×D)} {xs:List (Key×V)},(fs.all λp=>D.belowN ι.length 8 p.2)=true->u0 K ι' H fs xs->u0 K ι H fs xs
 | _,_,_,.nil=>.nil
 | (f,d)::r,(g,v)::q,h,.cons z t=>by
  simp![BM,AY]at h
  exact .cons ⟨z.1,IsD.belowN hp 8 d v h.1 z.2⟩ (Fw hp h.2 t)
theorem Sim.cut {K:PySem.W.Frag} {ι ι':List Addr} {H:Hp} {μ:Sto} (h:Sim K ι' H μ) (hp:ι <+: ι') (hc:(μ.take ι.length).all (ba ι.length)=true):Sim K ι H (μ.take ι.length):=by
 have hl:ι.length<=μ.length:=by rw[<-h.len];exact hp.length_le
 refine⟨by rw[CG];lia,hp.sublist.nodup h.nd,λn a o e1 e2=>?_⟩
 have hn:n<ι.length:=(AC.mp e1).1
 have e1':ι'[n]? = some a:=by
  obtain⟨t,rfl⟩:=hp
  rw[AK hn];exact e1
 have e2':μ[n]? = some o:=by
  rw[CU hn]at e2;exact e2
 have q:=h.obj n a o e1' e2'
 have c:ba ι.length o=true:=AR.mp hc o (BC e2)
 cases o with
 | l ds=>exact q
 | r ds =>
  obtain⟨xs,e,r⟩:=q
  exact⟨xs,e,af.belowN hp ds xs c r⟩
 | d kvs=>exact q
 | dt kvs=>exact q
 | x c=>exact q
 | o c' fs =>
  obtain⟨C,dx,xs,n,e,r⟩:=q
  exact⟨C,dx,xs,n,e,Fv hp c r⟩
 | dr kvs =>
  obtain⟨xs,e,r⟩:=q
  exact⟨xs,e,Fw hp c r⟩
 | fd kvs=>exact q
 | dead=>exact q
theorem yo {K:PySem.W.Frag} {ι:List Addr} {H:Hp} {μ:Sto} {keep:Bool} {r:Res D} {Q:VK} (hS:Sim K ι H μ) (h:du K (RD K) ι H (lj keep μ.length r) Q):du K (RD K) ι H r Q:=by
 cases r with
 | exc c ds μ'=>exact h
 | stuck=>exact h
 | ok d μ' =>
  cases keep with
  | true=>simpa[lj]using h
  | false =>
   simp![lj,BF,if_false]at h
   split at h
   ·rename_i hc
    rw[<-hS.len]at hc h
    exact λι' v H' p e s q=>h ι v H' (AH _) e (s.cut p hc.2) (IsD.belowN p 8 d v hc.1 q)
   ·exact h.elim
def spD (K:PySem.W.Frag) (φ:Phi) (f:Nat):Sp:=λvs H Q _=>∃ι ds μ,Sim K ι H μ/\af K ι H ds vs/\du K (RD K) ι H (φ f ds μ) Q
def Callee (P:Program) (w:World) (K:PySem.W.Frag) (mg:Str->Option Value) (base:Heap) (A:Around) (φ:Phi) (f:Nat) (x:Str):Prop :=
 ∃(k:Nat) (fa:Addr) (fd:FuncData) (ps:List Str),FnOk P w K mg base CX0 k fa fd ps (spD K φ f)/\uq k A/\mg x=some (.ref fa)/\PySem.W.keepIn K (.ref fa)=true/\Binds K fd ps []
section
variable {X : Cx} {φ : Phi} {x : Str} {p pos : Pos} {e : Expr} {es : List Expr} {xs : Exs} {f : Nat} {keep : Bool}
theorem s_call (C:Callee X.prog X.w X.K X.mg X.base X.A φ f x) (hg:Gl X x) (ha:PA X (e::es) (tEs X.K φ xs)) (hdb:(x==("__debug__":Str))=false)
  (he:starEach (e::es) X.env=(false,eval e X.env)::starEach es X.env) (hpl:(backTo pos (starEach es X.env)).any (·.1)=false):PE X (.Call (.Name x p) (e::es) [] pos) (tE X.K φ (.call keep f xs)):=by
 obtain⟨k,fa,fd,ps,F,hr,hm,hk,hb⟩:=C
 refine PE.imp (Et F hr.1 hg hm hk hb .nil E7 ha hdb he hpl) λσv H Q ⟨ι,σ,μ,hS,hL,h⟩=>?_
 simp![evE]at h
 obtain⟨ds,μ1,e1,h⟩:=h.bind
 refine⟨ι,σ,μ,hS,hL,?_⟩
 rw[e1]
 intro ι1 vs H1 p1 x1 s1 d1
 exact⟨ι1,ds,μ1,s1,by rw[DP];exact d1,yo s1 (h.mono p1 x1)⟩
end
theorem Fx {P:Program} {w:World} {K:PySem.W.Frag} {mg:Str->Option Value} {base:Heap} {x qual:Str} {st:Stmt} {fa:Addr} {fd:FuncData} {N ps:List Str} {n f:Nat} {T:List Df} {df:Df} (F:Fun K x qual st fa fd) (S:FnScope N ps (a8 st))
  (hd:T[f]? = some df) (hnp:df.np=ps.length) (hnn:df.nn=N.length)
  (hb:∀(cdv:Value) (A:Around) (outer:List Env) (s:Shared) (H:Hp) (E:XK),uq n (A.deeper (envOfC qual (a8 st) s.heap.objs.size fa cdv)) ->
   PSs (Jz CX0 P w K mg base N qual (a8 st) fa cdv A outer s H E).nox (gj st) (tSs K (ag T n) df.body)):FnOk P w K mg base CX0 (n+1) fa fd ps (spD K (ag T (n+1)) f):=by
 have len:∀{vs:List V} {H:Hp} {ds:List D} {ι:List Addr} {μ:Sto} {Q:VK},af K ι H ds vs->du K (RD K) ι H (ag T (n+1) f ds μ) Q->ds.length=df.np:=λ{vs H ds ι μ Q} hds h=>by
  simp![ag,hd,Rg]at h
  split at h
  ·assumption
  ·exact h.elim
 refine F.ok S (λvs H Q E ⟨ι,ds,μ,hS,hds,h⟩=>?_) λcdv A outer s H vs Q E hr ⟨ι,ds,μ,hS,hds,h⟩=>⟨_,hb cdv A outer s H E hr,?_⟩
 ·rw[hds.length,len hds h,hnp]
 ·have hl:=len hds h
  refine⟨ι,ds.map some++List.replicate (df.nn-df.np) none,μ,hS,λi d e=>?_,?_,?_⟩
  ·by_cases hi:i<ds.length
   ·rw[AK (by simpa using hi),AX]at e
    cases ed:ds[i]? with
    | none=>rw[ed]at e;cases e
    | some d' =>
     rw[ed]at e
     simp![EK,BP]at e
     subst e
     obtain⟨v,ev,hv⟩:=hds.get ed
     refine⟨v,?_,hv⟩
     unfold L2.start
     rw[AK (by rw[AM,hds.length];exact hi),AX,ev]
     rfl
   ·rw[AZ (by simpa using hi),CN]at e
    split at e<;>cases e
  ·unfold L2.start
   simp![BD,AM,EN,hds.length]
   lia
  ·simp![ag,hd,Rg,if_pos hl]at h
   cases er:jy (ag T n) df.body (ds.map some++List.replicate (df.nn-df.np) none) μ with
   | exc c es μ'=>rw[er]at h;exact h.elim
   | stuck=>rw[er]at h;exact h.elim
   | ok fl μ' =>
    rw[er]at h
    simp![Res.ar]at h
    cases fl with
    | nx σ'=>exact λι' σv H' p e s' l z=>h ι' .non H' p e s' (by simp[IsD])
    | rt d=>exact λι' v H' p e s' q=>h ι' v H' p e s' q
    | bk σ'=>exact h.elim
    | ct σ'=>exact h.elim
theorem Fy {P:Program} {w:World} {K:PySem.W.Frag} {mg:Str->Option Value} {base:Heap} {fa:Addr} {fd:FuncData} {ps:List Str} {f:Nat} {T:List Df}:FnOk P w K mg base CX0 0 fa fd ps (spD K (ag T 0) f) :=
 ⟨λvs H Q E ⟨ι,ds,μ,hS,hds,h⟩=>h.elim,λA outer s H args us vs Q E hr he hb hv ⟨ι,ds,μ,hS,hds,h⟩=>h.elim⟩
structure Ent where
 id:Nat
 name:Str
 st:Stmt
 N:List Str
 ps:List Str
 df:Df
structure ModOf (K:PySem.W.Frag) (mg:Str->Option Value) (e:Ent):Prop where
 ex:∃(fa:Addr) (fd:FuncData),mg e.name=some (.ref fa)/\Fun K e.name e.name e.st fa fd/\∀us:List Value,us.length=e.ps.length->bindArgs fd ⟨us,[]⟩=pure (e.ps.zip us)
theorem c9 {K:PySem.W.Frag} {h:Heap} {mg:Str->Option Value} {e:Ent} {f:Addr} {oc:Value} {od an:Option Addr} {sl:Array (Option Value)} {kV dc pm cd ct:Value} (X:K.In h) (G:h.Ns mainGlobals mg) (a:PySem.W.nsIn K mainGlobals e.name=some (some (.ref f)))
  (l:K.lookup f=some ⟨oc,od,.func (PySem.W.fnOf e.name e.name (k9 e.st) (gj e.st) (a8 e.st) .none kV dc pm an cd ct),sl⟩) (c:PySem.W.codeIn K cd e.name=true) (k:PySem.W.keepIn K (.ref f)=true)
  (hb:∀(kV doc pm:Value) (an:Option Addr) (cdv ct:Value) (us:List Value),us.length=e.ps.length->bindArgs (PySem.W.fnOf e.name e.name (k9 e.st) (gj e.st) (a8 e.st) .none kV doc pm an cdv ct) ⟨us,[]⟩=pure (e.ps.zip us)):ModOf K mg e :=
 ⟨f,_,PySem.W.mg_of X G a,L8 l c k,hb kV dc pm an cd ct⟩
def Pp (K:PySem.W.Frag):Sp:=λvs H Q _=>∃(a:Addr) (ns:List Int),vs=[.ref a]/\FzL K H a (ns.map V.int)/\ns.length<=63/\∀H',Q (.bl true) H'
theorem Ko {l:PySem.W.OpenLaw} {n:Nat} {q:Program} {loose:List Str} {XP:(Str->Option Value)->Heap->Prop} {YP:World->Heap->Prop} {d:DefRec} {K:Params->PySem.W.Frag} (hr:Room n callerA) (hn:l.most=some 63) (hdf:d.params.defaults=[])
  (hY:∀(w:World) (h:Heap),YP w h->(K w.params).In h)
  (F:∀(w:World) (mg:Str->Option Value) (fa:Addr) (h:Heap),(K w.params).In h->h.Ns mainGlobals mg->mg d.name=some (.ref fa) ->
   ∃fd:FuncData,(∀(s:Shared) (u:Value),BindsTo s fd ⟨[u],[]⟩ [("script",u)])/\∀base:Heap,(K w.params).In base->base.Ns mainGlobals mg->FnOk l.prog w (K w.params) mg base CX0 n fa fd ["script"] (Pp (K w.params))) :
  PySem.W.WalkO q loose XP YP l.row.toRowW d [] (λf vs=>PySem.call f vs) :=
 L2.O3 (n:=63) (k:=n) (x:="script") (CX:=λ_=>CX0) (sp:=λw=>Pp (K w.params)) hn (by decide) hdf hr hY F (λ_ _ a ns hl _ hS=>⟨a,ns,rfl,hS,hl,λ_=>rfl⟩) λ_ _ _ _ _ z=>z
def Exs.len:Exs->Nat
 | .nil=>0
 | .cons _ r=>r.len+1
theorem vh {φ:Phi}:∀{xs:Exs} {σ:Sl} {μ:Sto} {ds:List D} {μ':Sto},eh φ xs σ μ=.ok ds μ'->ds.length=xs.len
 | .nil,σ,μ,ds,μ',h=>by
  simp![eh]at h
  cases h;rfl
 | .cons e r,σ,μ,ds,μ',h=>by
  simp![eh]at h
  cases e1:evE φ e σ μ with
  | exc _ _ _=>rw[e1]at h;cases h
  | stuck=>rw[e1]at h;cases h
  | ok d μ1 =>
   rw[e1]at h
   simp![Res.ar]at h
   cases e2:eh φ r σ μ1 with
   | exc _ _ _=>rw[e2]at h;cases h
   | stuck=>rw[e2]at h;cases h
   | ok es μ2 =>
    rw[e2]at h
    cases h
    simp[Exs.len,vh e2]
def Br (sc scope:Scope) (N Nb:List Str) (cap:List Nat) (nl:Nat):Bool :=
 decide (scope.kind=.function)&&scope.names.all (λy=>decide (scope.names.lookup y.1=some y.2)
  && (!decide (y.2=.free) || decide (sc.names.lookup y.1=some .cell) || decide (sc.names.lookup y.1=some .free)))
 && decide Nb.Nodup&&decide (Nb.length=cap.length+nl)
 && (List.range cap.length).all (λj=>match cap[j]?,Nb[j]? with
  | some i,some x=>decide (N[i]? = some x)&&scope.names.any λy=>decide (y.1=x)&&decide (y.2=.free)
  | _,_=>false)
theorem lookup_mem {l:List (Str×NameKind)} {n:Str} {k:NameKind} (h:l.lookup n=some k):(n,k)∈l:=by
 induction l with
 | nil=>cases h
 | cons a r ih =>
  obtain⟨m,j⟩:=a
  rw[BL]at h
  cases hb:n==m with
  | true =>
   rw[hb]at h
   cases h
   have:n=m:=by simpa using hb
   subst this
   exact AT
  | false =>
   rw[hb]at h
   exact AJ _ (ih h)
theorem qm {scope:Scope} {env:Env} {n:Str} {k:NameKind} (h:(n,k)∈(relabel scope env).names):(n,k)∈scope.names\/(k=.cell/\(n,NameKind.free)∈scope.names):=by
 have h2:(n,k)∈scope.names.map (fun(n,k)=>if(k==NameKind.free&&env.scope.kind==.function&&env.kindOf n==some .cell)then(n,NameKind.cell)else(n,k)):=h
 obtain⟨⟨m,j⟩,hm,e⟩:=BK.mp h2
 dsimp only at e
 split at e
 ·rename_i hc
  cases e
  simp![AY,beq_iff_eq]at hc
  obtain⟨⟨rfl,_⟩,_⟩:=hc
  exact .inr ⟨rfl,hm⟩
 ·cases e
  exact .inl hm
theorem tx {sc scope:Scope} {N Nb:List Str} {cap:List Nat} {nl:Nat} (h:Br sc scope N Nb cap nl=true):CompScope sc scope N Nb cap nl:=by
 simp![Br,AY,AR,decide_eq_true_eq,HM,Bool.not_eq_true',decide_eq_false_iff_not]at h
 obtain⟨⟨⟨⟨h1,h2⟩,h3⟩,h4⟩,h5⟩:=h
 refine⟨h1,λy hy=>(h2 y hy).1,λn hn=>?_,λn hn=>?_,h3,h4,λj i e=>?_⟩
 ·rcases(h2 (n,.free) hn).2 with(z | z) | z
  ·exact absurd rfl z
  ·exact .inl z
  ·exact .inr z
 ·rcases hn with hn | hn
  ·rcases qm (lookup_mem hn)with z | z
   ·exact .inr z
   ·exact .inl z.2
  ·rcases qm (lookup_mem hn)with z | z
   ·exact .inl z
   ·exact .inl z.2
 ·have hj:j<cap.length:=(AC.mp e).1
  have q:=h5 j (List.mem_range.mpr hj)
  rw[e]at q
  cases ex:Nb[j]? with
  | none=>rw[ex]at q;simp at q
  | some x =>
   rw[ex]at q
   simp![AY,decide_eq_true_eq,List.any_eq_true]at q
   obtain⟨q1,⟨y,k⟩,hy,e1,e2⟩:=q
   dsimp only at e1 e2
   subst e1;subst e2
   exact⟨y,rfl,q1,hy⟩
def ndB (l:List Str):Bool:=decide l.Nodup
theorem Bs {l:List Str} (h:ndB l=true):l.Nodup:=of_decide_eq_true h
section
variable {X : Cx} {φ : Phi} {a b c e : Expr} {es : List Expr} {xa xb xc xe : Ex} {xs : Exs} {pos : Pos}
theorem aa (i:Nat) {x:Str} (hN:X.N[i]? = some x:=by rfl) (hv:Vis X.env.scope x:=by first | exact Or.inl rfl | exact Or.inr (Or.inl rfl) | exact Or.inr (Or.inr rfl)) (hd:(x==("__debug__":Str))=false:=by decide)
  (hcd:(x==("__classdict__":Str))=false:=by decide):PE X (.Name x pos) (tE X.K φ (.var i)):=Xp hN hv hd hcd
theorem Uh (i:Nat) {x:Str} (hN:X.N[i]? = some x:=by rfl) (hv:Vis X.env.scope x:=by first | exact Or.inl rfl | exact Or.inr (Or.inl rfl) | exact Or.inr (Or.inr rfl)) (hd:(x==("__debug__":Str))=false:=by decide)
  (hcd:(x==("__classdict__":Str))=false:=by decide):PE X (.Name x pos) (tE X.K φ (.frz i)):=Yc hN hv hd hcd
theorem aj {i:Int} {j:Nat}:PE X (.Constant (.int i) j pos) (tE X.K φ (.cst (.int i))):=Xq
theorem Wl {i:Bool} {j:Nat}:PE X (.Constant (.bool i) j pos) (tE X.K φ (.cst (.bl i))):=aa7
theorem Fz {j:Nat}:PE X (.Constant .none j pos) (tE X.K φ (.cst .non)):=Xr
theorem ai:PA X [] (tEs X.K φ .nil):=Ka
theorem ae (ha:PE X a (tE X.K φ xa)) (hb:PA X es (tEs X.K φ xs)) (hs:starEach (a::es) X.env=(false,eval a X.env)::starEach es X.env:=by rfl):PA X (a::es) (tEs X.K φ (.cons xa xs)):=yh ha hb hs
theorem aw {op:Operator} {m:Mk} (ha:PE X a (tE X.K φ xa)) (hb:PE X b (tE X.K φ xb)):PE X (.BinOp a op b pos) (tE X.K φ (.bin op m xa xb)):=Xs T5 ha hb
theorem An (ha:PE X a (tE X.K φ xa)):PE X (.UnaryOp .USub a pos) (tE X.K φ (.neg xa)):=Xv ha
theorem Yg (ha:PE X a (tE X.K φ xa)):PE X (.UnaryOp .Not a pos) (tE X.K φ (.not xa)):=Tq ha
theorem Yh (hc:PT X c (tT X.K φ xc)) (ha:PE X a (tE X.K φ xa)) (hb:PE X b (tE X.K φ xb)):PE X (.IfExp c a b pos) (tE X.K φ (.ite xc xa xb)):=Xw hc ha hb
theorem kx {k:Nat} (h:PA X es (tEs X.K φ xs)) (hl:xs.len<=1000:=by decide):PE X (.Tuple es k pos) (tE X.K φ (.tup xs)):=Xt h λσ μ ds μ' e=>by
 rw[vh e];exact EC (yd hl)
theorem ky {m:Mk} (h:PA X es (tEs X.K φ xs)) (hl:xs.len<=1000:=by decide):PE X (.List es pos) (tE X.K φ (.lst m xs)):=Yb h λσ μ ds μ' e=>by
 rw[vh e];exact EC (yd hl)
theorem g6 (ha:PE X a (tE X.K φ xa)) (hb:PE X b (tE X.K φ xb)) (hs:uw b:=by intro _ _;rfl):PE X (.Subscript a b pos) (tE X.K φ (.ix xa xb)):=aa8 Tx ha hb hs
theorem Yi:PO X none (tEo X.K φ .no):=abc
theorem Ui (he:PE X e (tE X.K φ xe)):PO X (some e) (tEo X.K φ (.so xe)):=abd he
theorem Wm {lo hi:Option Expr} {xl xh:ExO} {m:Mk} {p2:Pos} (he:PE X e (tE X.K φ xe)) (hl:PO X lo (tEo X.K φ xl)) (hh:PO X hi (tEo X.K φ xh)):PE X (.Subscript e (.Slice lo hi none p2) pos) (tE X.K φ (.sl m xe xl xh)):=abe he hl hh
theorem Pq (hu:X.A.units+64<cLine) (op:Cp) (he:PE X e (tE X.K φ xe)):PCh X [opOf op] [e] (tCh X.K φ (.cons op xe .nil)):=Pm (Fq op (by lia)) he
theorem abf (hu:X.A.units+64<cLine) (op:Cp) {op':Cp} {e':Expr} {ops:List CmpOp} {xe':Ex} {r:Cps} (he:PE X e (tE X.K φ xe)) (hr:PCh X (opOf op'::ops) (e'::es) (tCh X.K φ (.cons op' xe' r))) :
  PCh X (opOf op::opOf op'::ops) (e::e'::es) (tCh X.K φ (.cons op xe (.cons op' xe' r))):=Pn (Fq op (by lia)) he hr
theorem g7 (hu:X.A.units+64<cLine) (op:Cp) (he:PE X e (tE X.K φ xe)):PTh X [opOf op] [e] (tTh X.K φ (.cons op xe .nil)):=Po (Fq op (by lia)) he
theorem Pr {ops:List CmpOp} {r:Cps} (ha:PE X a (tE X.K φ xa)) (hr:PCh X ops es (tCh X.K φ r)) (hm:lastMarks ops es=false:=by rfl):PE X (.Compare a ops es pos) (tE X.K φ (.cmp xa r)):=Yd ha hr hm
theorem c7 {ops:List CmpOp} {r:Cps} (ha:PE X a (tE X.K φ xa)) (hr:PTh X ops es (tTh X.K φ r)) (hm:lastMarks ops es=false:=by rfl):PT X (.Compare a ops es pos) (tT X.K φ (.cmp xa r)):=Ud ha hr hm
theorem F4 (ha:PE X a (tE X.K φ xa)) (he:∀whole,isTrue a X.env whole=(do let v <-whole;standAt a.pos;holding [v] (truthy v)):=by intro _;rfl):PT X a (tT X.K φ xa):=Pc ha he
theorem Mh (ha:PT X a (tT X.K φ xa)):PT X (.UnaryOp .Not a pos) (tT X.K φ (.not xa)):=Tp ha
theorem Ao (ha:PT X a (tT X.K φ xa)):PW X (.BoolOp .And [a] pos) (tT X.K φ xa):=N7 ha
theorem F5 {rest:List Expr} (ha:PT X a (tT X.K φ xa)) (hb:PW X (.BoolOp .And (b::rest) pos) (tT X.K φ xb)):PW X (.BoolOp .And (a::b::rest) pos) (tT X.K φ (.and xa xb)):=Tr ha hb
theorem Yj {t:TT} (h:PW X a t):PT X a t:=h.pt
theorem bu {x:Str} {p:Pos} {f:Nat} {keep:Bool} (C:Callee X.prog X.w X.K X.mg X.base X.A φ f x) (ha:PA X (e::es) (tEs X.K φ xs)) (hg:Gl X x:=by rfl) (hdb:(x==("__debug__":Str))=false:=by decide)
  (he:starEach (e::es) X.env=(false,eval e X.env)::starEach es X.env:=by rfl) (hpl:(backTo pos (starEach es X.env)).any (·.1)=false:=by rfl):PE X (.Call (.Name x p) (e::es) [] pos) (tE X.K φ (.call keep f xs)):=s_call C hg ha hdb he hpl
theorem jh {r:List V->Hp->VK->Prop} {b:Bt} {m:Mk} {es:List Expr} (h:PE X e (tCB (nr X.K (btD b m)) (tEs X.K φ xs))):PE X e (tE X.K φ (.blt b m xs)) :=
 PE.imp h λσv H Q ⟨ι,σ,μ,hS,hL,h⟩=>by
  simp![evE]at h
  obtain⟨ds,μ1,e1,h⟩:=h.bind
  refine⟨ι,σ,μ,hS,hL,?_⟩
  rw[e1]
  exact λι1 vs H1 p1 x1 s1 d1=>⟨ι1,ds,μ1,s1,d1,h.mono p1 x1⟩
theorem qo {m:Mk} {p:Pos} (hm:X.mg "len"=none) (ha:PA X (e::es) (tEs X.K φ xs)) (hg:Gl X "len":=by rfl) (he:starEach (e::es) X.env=(false,eval e X.env)::starEach es X.env:=by rfl) (hpl:(backTo pos (starEach es X.env)).any (·.1)=false:=by rfl) :
  PE X (.Call (.Name "len" p) (e::es) [] pos) (tE X.K φ (.blt .len m xs)):=jh (r:=λ_ _ _=>True) (es:=es) (je bt_len hg hm PySem.boot_len ha (by decide) (by decide) he hpl)
theorem fj {m:Mk} {p:Pos} (hm:X.mg "tuple"=none) (ha:PA X (e::es) (tEs X.K φ xs)) (hg:Gl X "tuple":=by rfl) (he:starEach (e::es) X.env=(false,eval e X.env)::starEach es X.env:=by rfl) (hpl:(backTo pos (starEach es X.env)).any (·.1)=false:=by rfl) :
  PE X (.Call (.Name "tuple" p) (e::es) [] pos) (tE X.K φ (.blt .tuple m xs)):=jh (r:=λ_ _ _=>True) (es:=es) (xk bt_tuple hg hm (by first | exact PyProof.Rows.boot_tuple | decide +kernel) ha (by decide) (by decide) he hpl)
theorem Kp {m:Mk} {p:Pos} (hm:X.mg "list"=none) (ha:PA X (e::es) (tEs X.K φ xs)) (hg:Gl X "list":=by rfl) (he:starEach (e::es) X.env=(false,eval e X.env)::starEach es X.env:=by rfl) (hpl:(backTo pos (starEach es X.env)).any (·.1)=false:=by rfl) :
  PE X (.Call (.Name "list" p) (e::es) [] pos) (tE X.K φ (.blt .list m xs)):=jh (r:=λ_ _ _=>True) (es:=es) (xk bt_list hg hm (by first | exact PyProof.Rows.boot_list | decide +kernel) ha (by decide) (by decide) he hpl)
theorem Pt {m:Mk} {p:Pos} (hm:X.mg "sum"=none) (ha:PA X (e::es) (tEs X.K φ xs)) (hc:X.calm=true:=by rfl) (hg:Gl X "sum":=by rfl) (he:starEach (e::es) X.env=(false,eval e X.env)::starEach es X.env:=by rfl) (hpl:(backTo pos (starEach es X.env)).any (·.1)=false:=by rfl) :
  PE X (.Call (.Name "sum" p) (e::es) [] pos) (tE X.K φ (.blt .sum m xs)):=jh (r:=λ_ _ _=>True) (es:=es) (je (bt_sum hc) hg hm (by first | exact PyProof.Rows.boot_sum | decide +kernel) ha (by decide) (by decide) he hpl)
theorem F6 {m:Mk} {p:Pos} (hm:X.mg "any"=none) (ha:PA X (e::es) (tEs X.K φ xs)) (hc:X.calm=true:=by rfl) (hg:Gl X "any":=by rfl) (he:starEach (e::es) X.env=(false,eval e X.env)::starEach es X.env:=by rfl) (hpl:(backTo pos (starEach es X.env)).any (·.1)=false:=by rfl) :
  PE X (.Call (.Name "any" p) (e::es) [] pos) (tE X.K φ (.blt .any m xs)):=jh (r:=λ_ _ _=>True) (es:=es) (je (bt_any hc) hg hm (by first | exact PyProof.Rows.boot_any | decide +kernel) ha (by decide) (by decide) he hpl)
theorem jn {tg:Expr} (hl:PE X e (tE X.K φ xe)):PI X tg e (tI X.K φ (.seq xe)):=Ue hl
theorem F7 {tg:Expr} {p:Pos} (hm:X.mg "range"=none) (ha:PE X a (tE X.K φ xa)) (hg:Gl X "range":=by rfl) (hs:starEach [a] X.env=[(false,eval a X.env)]:=by rfl):PI X tg (.Call (.Name "range" p) [a] [] pos) (tI X.K φ (.rng xa)):=Ug hg hm ha hs
theorem dm (i:Nat) {y:Str} (hi:X.N[i]? = some y:=by rfl) (hN:ndB X.N=true:=by first | rfl | kernel_rfl) (hx:Loc X.env.scope y:=by first | exact Or.inl rfl | exact Or.inr rfl) (hf:X.fn y=true\/X.env.scope.names.lookup y=some .local:=by first | exact Or.inl rfl | exact Or.inr rfl) :
  PG X (.Name y pos) (tG X.K (.one i)):=Tu (Bs hN) hi hx hf
theorem jo:PGs X [] (tGs X.K []):=Tv
theorem ay (i:Nat) {is:List Nat} {y:Str} (h2:PGs X es (tGs X.K is)) (hi:X.N[i]? = some y:=by rfl) (hN:ndB X.N=true:=by first | rfl | kernel_rfl) (hx:Loc X.env.scope y:=by first | exact Or.inl rfl | exact Or.inr rfl) (hf:X.fn y=true\/X.env.scope.names.lookup y=some .local:=by first | exact Or.inl rfl | exact Or.inr rfl)
  (hs:(assignEach (.Name y pos::es) X.env).map (·.2)=assign (.Name y pos) X.env::(assignEach es X.env).map (·.2):=by rfl):PGs X (.Name y pos::es) (tGs X.K (i::is)):=Pd (Ej (Bs hN) hi hx hf) h2 hs
theorem jq {is:List Nat} {k:Nat} (h:PGs X es (tGs X.K is)) (hc:X.calm=true:=by rfl) (hn:(assignEach es X.env).length=is.length:=by rfl) (hst:(assignEach es X.env).findIdx? (·.1)=none:=by rfl):PG X (.Tuple es k pos) (tG X.K (.many is)):=Xz hc h hn hst
theorem iw:PTs X [] (tTs X.K φ .nil):=Tz
theorem vi {r:List Expr} {xr:Exs} (h1:PT X c (tT X.K φ xc)) (h2:PTs X r (tTs X.K φ xr)):PTs X (c::r) (tTs X.K φ (.cons xc xr)):=Pj h1 h2
theorem mf (Nb:List Str) {target iter:Expr} {ifs:List Expr} {scope:Scope} {cap:List Nat} {nl:Nat} {m:Mk} {tg:Tg} {it:It} {cs:Exs} {elt:Ex} (hi:PI X target iter (tI X.K φ it))
  (B:Af X scope Nb target ifs e (tG X.K tg) (tTs X.K φ cs) (tE X.K φ elt)) (S:Br X.env.scope scope X.N Nb cap nl=true:=by first | rfl | kernel_rfl) (hc:X.calm=true:=by rfl) (hf:∀x,foldedSetIterable iter X.env x=pure x:=by intro _;rfl) (hs:∀j∈slots tg,cap.length<=j:=by decide) :
  PE X (.ListComp e [⟨target,iter,ifs,0⟩] scope pos) (tE X.K φ (.comp m cap nl tg it cs elt)):=T4 (tx S) hc hi B hf hs
theorem F8 (i:Nat) (Nb:List Str) {target iter:Expr} {ifs:List Expr} {scope:Scope} {cap:List Nat} {nl:Nat} {m:Mk} {tg:Tg} {it:It} {cs:Exs} {elt:Ex} {spos py:Pos} {y:Str} (hi:PI X target iter (tI X.K φ it))
  (B:Af X scope Nb target ifs e (tG X.K tg) (tTs X.K φ cs) (tE X.K φ elt)) (S:Br X.env.scope scope X.N Nb cap nl=true:=by first | rfl | kernel_rfl) (hc:X.calm=true:=by rfl) (hf:∀x,foldedSetIterable iter X.env x=pure x:=by intro _;rfl) (hs:∀j∈slots tg,cap.length<=j:=by decide)
  (hsw:swapsWith (.ListComp e [⟨target,iter,ifs,0⟩] scope pos) (some (.Name y py)) spos.line X.env=pure true:=by rfl) (hiN:X.N[i]? = some y:=by rfl) (hN:ndB X.N=true:=by first | rfl | kernel_rfl) (hy:X.env.scope.names.lookup y=some .local:=by rfl) :
  PS X (.Assign [.Name y py] (.ListComp e [⟨target,iter,ifs,0⟩] scope pos) spos) (tS X.K φ (.set i (.comp m cap nl tg it cs elt))):=Fj (tx S) hc hi B hf hs hsw (Bs hN) hiN hy
theorem cw:PSs X [] (tSs X.K φ .nil):=Xx
theorem av {s:Stmt} {ss:List Stmt} {x:Sm} {xss:Sms} (h1:PS X s (tS X.K φ x)) (h2:PSs X ss (tSs X.K φ xss)):PSs X (s::ss) (tSs X.K φ (.cons x xss)):=Ts h1 h2
theorem Dp (he:PE X e (tE X.K φ xe)) (hs:swapsWith e none pos.line X.env=pure false:=by rfl):PS X (.Expr e pos) (tS X.K φ (.ex xe)):=Tt he hs
theorem c8 (he:PE X e (tE X.K φ xe)):PS X (.Return (some e) pos) (tS X.K φ (.ret xe)):=Xy he
theorem yp {x y:List Stmt} {xx xy:Sms} (hc:PT X c (tT X.K φ xc)) (ha:PSs X x (tSs X.K φ xx)) (hb:PSs X y (tSs X.K φ xy)):PS X (.If c x y pos) (tS X.K φ (.ite xc xx xy)):=aa9 hc ha hb
theorem cc (i:Nat) {y:Str} {pos':Pos} (he:PE X e (tE X.K φ xe)) (hi:X.N[i]? = some y:=by rfl) (hN:ndB X.N=true:=by first | rfl | kernel_rfl) (hx:Loc X.env.scope y:=by first | exact Or.inl rfl | exact Or.inr rfl) (hf:X.fn y=true\/X.env.scope.names.lookup y=some .local:=by first | exact Or.inl rfl | exact Or.inr rfl)
  (hs:swapsWith e (some (.Name y pos')) pos.line X.env=pure false:=by rfl):PS X (.Assign [.Name y pos'] e pos) (tS X.K φ (.set i xe)):=X0 (Bs hN) hi hx hf he hs
theorem Ap {is:List Nat} {tg:Expr} (hg:PG X tg (tG X.K (.many is))) (he:PE X e (tE X.K φ xe)) (hs:swapsWithSole [tg] e pos.line X.env=pure false:=by rfl) (hw:swappedStores [tg] e X.env=pure none:=by rfl)
  (h1:(assignEach [tg] X.env).map (·.2)=[assign tg X.env]:=by rfl):PS X (.Assign [tg] e pos) (tS X.K φ (.unp is xe)):=X9 hg he hs hw h1
theorem sk {tg it:Expr} {body:List Stmt} {xt:Tg} {xi:It} {xb:Sms} (hi:PI X tg it (tI X.K φ xi)) (hg:PG X tg (tG X.K xt)) (hb:PSs X body (tSs X.K φ xb)) (hp:PassesOwn (model X.prog X.w) X.A X.env X.xe:=by exact PassesOwn.never) (hc:X.calm=true:=by rfl)
  (hs:∀x,foldedSetIterable it X.env x=pure x:=by intro _;rfl):PS X (.For tg it body [] pos) (tS X.K φ (.loop xt xi xb)):=Ya hp hc hi hg hb hs
end
structure Ma (X:Cx) (o:Expr) (nm:Str) (e:Expr) (es:List Expr) (apos cpos:Pos):Prop where
 b:attributeBase o nm X.env (eval o X.env)=eval o X.env
 f:((backTo cpos (starEach (e::es) X.env)).all (λx=>!x.1)&&(backToKw cpos (keywordEach [] X.env)).all (λx=>x.1.isSome)&&decide ((e::es).length+([]:List Keyword).length+(if([]:List Keyword).isEmpty then 0 else 1)<30))=true
 l:(apos.endLine==cpos.line)=true
 s:starEach (e::es) X.env=(false,eval e X.env)::starEach es X.env
 p:(backTo cpos (starEach es X.env)).any (·.1)=false
section
variable {X : Cx} {φ : Phi} {o e : Expr} {es : List Expr} {xo : Ex} {xs : Exs} {apos cpos : Pos} {T id : String} {name : Str} {mt : Mt}
theorem Pu (hT:∀(ι:List Addr) (H:Hp) (μ:Sto) (d:D) (x:V),Sim X.K ι H μ->IsD X.K ι H d x->md mt d μ=true->tyV X.K T x H) (h:PE X e (Zc X.K T (rMt X.K mt) (tE X.K φ xo))):PE X e (tE X.K φ (.meth mt xo .nil)) :=
 PE.imp h λσv H Q ⟨ι,σ,μ,hS,hL,h⟩=>by
  simp![evE,eh]at h
  obtain⟨d,μ1,e1,h⟩:=h.bind
  refine⟨ι,σ,μ,hS,hL,?_⟩
  rw[e1]
  intro ι1 x H1 p1 x1 s1 d1
  split at h
  ·rename_i hm
   exact⟨hT ι1 H1 μ1 d x s1 d1 hm,ι1,d,[],μ1,s1,d1,by simp[af],h.mono p1 x1⟩
  ·exact h.elim
theorem F9 (hT:∀(ι:List Addr) (H:Hp) (μ:Sto) (d:D) (x:V),Sim X.K ι H μ->IsD X.K ι H d x->md mt d μ=true->tyV X.K T x H) (h:PE X e (tBM X.K T (rMt X.K mt) (tE X.K φ xo) (tEs X.K φ xs))):PE X e (tE X.K φ (.meth mt xo xs)) :=
 PE.imp h λσv H Q ⟨ι,σ,μ,hS,hL,h⟩=>by
  simp![evE]at h
  obtain⟨d,μ1,e1,h⟩:=h.bind
  refine⟨ι,σ,μ,hS,hL,?_⟩
  rw[e1]
  intro ι1 x H1 p1 x1 s1 d1
  split at h
  ·rename_i hm
   refine⟨hT ι1 H1 μ1 d x s1 d1 hm,ι1,σ,μ1,s1,hL.mono p1 x1,?_⟩
   obtain⟨ds,μ2,e2,h⟩:=h.bind
   rw[e2]
   exact λι2 vs H2 p2 x2 s2 d2=>⟨ι2,d,ds,μ2,s2,IsD.mono p2 x2 _ _ d1,d2,h.mono (p1.trans p2) (x1.trans x2)⟩
  ·exact h.elim
theorem kh (hmt:∀d μ,md mt d μ=(listOf μ d).isSome) (ι:List Addr) (H:Hp) (μ:Sto) (d:D) (x:V) (hS:Sim X.K ι H μ) (hd:IsD X.K ι H d x) (hm:md mt d μ=true):tyV X.K "list" x H:=by
 rw[hmt]at hm
 obtain⟨ds,e⟩:=BJ.mp hm
 obtain⟨a,xs,rfl,hls,_⟩:=jz hS hd e
 exact .inl ⟨rfl,_,hls.sq⟩
theorem vj (ho:PE X o (tE X.K φ xo)) (hbase:attributeBase o "pop" X.env (eval o X.env)=eval o X.env:=by rfl) (hline:(apos.endLine==cpos.line)=true:=by rfl):PE X (.Call (.Attribute o "pop" apos) [] [] cpos) (tE X.K φ (.meth .pop xo .nil)) :=
 Pu (kh λ_ _=>rfl) (Sy FI HL F.type_list_pop Yf ho hbase hline)
theorem gn (ho:PE X o (tE X.K φ xo)) (ha:PA X (e::es) (tEs X.K φ xs)) (h5:Ma X o "append" e es apos cpos:=by exact⟨rfl,rfl,rfl,rfl,rfl⟩):PE X (.Call (.Attribute o "append" apos) (e::es) [] cpos) (tE X.K φ (.meth .append xo xs)) :=
 F9 (kh λ_ _=>rfl) (Ow FI F.slot_list_append F.type_list_append Km ho ha h5.b h5.f h5.l h5.s h5.p)
theorem qp (ho:PE X o (tE X.K φ xo)) (ha:PA X (e::es) (tEs X.K φ xs)) (h5:Ma X o "extend" e es apos cpos:=by exact⟨rfl,rfl,rfl,rfl,rfl⟩):PE X (.Call (.Attribute o "extend" apos) (e::es) [] cpos) (tE X.K φ (.meth .extend xo xs)) :=
 F9 (kh λ_ _=>rfl) (Ow FI F.slot_list_extend F.type_list_extend Kn ho ha h5.b h5.f h5.l h5.s h5.p)
end
section
variable {X : Cx} {φ : Phi} {a : Expr} {xa : Ex} {p p2 pos pos2 : Pos} {m : Mk}
theorem Mi (hu:X.A.units+64<cLine):Rw X (Zl X.K):=by
 intro pins s σ H o i v ov iv u Q I ro ri rv ⟨ι,a,b,d,μ,hS,ha,hb,hd,h⟩
 cases a with
 | loc n =>
  simp![zy]at h
  cases em:μ[n]? with
  | none=>rw[em]at h;exact h.elim
  | some ob =>
   rw[em]at h
   obtain⟨q,rfl,hq⟩:∃q,o=.ref q/\ι[n]? = some q:=by simpa[IsD]using ha
   obtain⟨q',eq',hob⟩:=hS.at em
   rw[hq]at eq';cases eq'
   have lst:∀(ob:O) (xs:List D),d9 ob=some xs->μ[n]? = some ob->OIs X.K ι H q ob->du X.K (λ_ _ _ (_:Unit)=>True) ι H (match some xs,b with
     | some xs,.int i=>match ixN xs.length i with
      | some j=>if fits ob d=true then(putL n ob (xs.set j d) .non μ).bind λ_ μ=>.ok () μ else .stuck
      | none=>.stuck
     | _,_=>.stuck) (λ_ H'=>Q H')->wpAny (model X.prog X.w) X.A (setItem ov iv u) (λ_ s'=>∃H',Inv X pins σ H' s'/\Q H') X.xe s:=by
    intro ob xs ei em ho h
    cases b with
    | int k =>
     simp only at h
     split at h
     ·rename_i j ej
      split at h
      ·rename_i hf
       obtain⟨a',vs,ea,hι,hH,h1,h2⟩:=Fu hS ha em ei
       cases ea
       cases ck hb
       refine set_list pins s σ H _ _ v ov iv u Q I ro ri rv ⟨_,vs,k,j,rfl,rfl,hH,by rw[h1.length];exact ej,?_⟩
       have h':du X.K (RD X.K) ι H (putL n ob (xs.set j d) .non μ) λ_ H'=>Q H':=by
        cases ob with
        | l _=>exact λι' v' H' p e s' _=>h ι' () H' p e s' trivial
        | r _=>exact λι' v' H' p e s' _=>h ι' () H' p e s' trivial
        | d _=>exact h.elim
        | dt _=>exact h.elim
        | x _=>exact h.elim
        | o _ _=>exact h.elim
        | dr _=>exact h.elim
        | fd _=>exact h.elim
        | dead=>exact h.elim
       exact kg (v:=.non) hS hι hH (h1.set hd j) (λes e=>(h2 es e).set (qk hf hd es e) j) (by simp[IsD]) h'
      ·exact h.elim
     ·exact h.elim
    | _=>exact h.elim
   cases ob with
   | l xs=>exact lst (.l xs) xs rfl em hob h
   | r xs=>exact lst (.r xs) xs rfl em hob h
   | d kvs =>
    simp only at h
    split at h
    ·rename_i hc
     obtain⟨hk,hv,hl⟩:=hc
     obtain⟨xs,hH,hkv⟩:=hob
     obtain⟨k,rfl,rfl⟩:=Aj hk hb
     cases(show ov=Value.ref q from ro)
     have hlen:xs.length=kvs.length:=(DB hkv).symm
     refine yb (by lia) I (S5.k (k:=k) (v:=v) hH (by rw[hlen,<-fg];exact hl)) ri rv λs' I'=>⟨_,I',?_⟩
     exact h ι () _ (AH _) (.dK hH) (hS.put hq (.dK hH) ⟨_,aq,Paired.mapP (Bq (IsD.pur hv hd) hkv) λp r z=>⟨IsD.mono (AH _) (.dK hH) _ _ z.1,IsD.mono (AH _) (.dK hH) _ _ z.2⟩⟩) trivial
    ·exact h.elim
   | dr kvs =>
    simp only at h
    split at h
    ·rename_i hc
     obtain⟨hk,hl⟩:=hc
     obtain⟨xs,hH,hkv⟩:=hob
     obtain⟨k,rfl,rfl⟩:=Aj hk hb
     cases(show ov=Value.ref q from ro)
     have hlen:xs.length=kvs.length:=(DB hkv).symm
     refine yb (by lia) I (S5.k (k:=k) (v:=v) hH (by rw[hlen,<-fg];exact hl)) ri rv λs' I'=>⟨_,I',?_⟩
     exact h ι () _ (AH _) (.dK hH) (hS.put hq (.dK hH) ⟨_,aq,Paired.mapP (Bq hd hkv) λp r z=>⟨IsD.mono (AH _) (.dK hH) _ _ z.1,IsD.mono (AH _) (.dK hH) _ _ z.2⟩⟩) trivial
    ·exact h.elim
   | dt kvs=>simp![d9]at h;exact h.elim
   | x _=>simp![d9]at h;exact h.elim
   | o _ _=>simp![d9]at h;exact h.elim
   | fd _=>simp![d9]at h;exact h.elim
   | dead=>simp![d9]at h;exact h.elim
 | _=>exact h.elim
theorem Bu (hu:X.A.units+64<cLine) {o i e:Expr} {xo xi x:Ex} {tp:Pos} (ho:PE X o (tE X.K φ xo)) (hi:PE X i (tE X.K φ xi)) (he:PE X e (tE X.K φ x))
  (ha:∀v,assign (.Subscript o i tp) X.env v=(do
   let ov <-holding [v] (eval o X.env)
   let iv <-holding [v,ov] (eval i X.env)
   standAt tp
   holding [v,ov,iv] (setItem ov iv v)
   release [v,ov,iv] []):=by intro _;rfl) (hs:swapsWithSole [.Subscript o i tp] e pos.line X.env=pure false:=by rfl) (hw:swappedStores [.Subscript o i tp] e X.env=pure none:=by rfl)
  (h1:(assignEach [.Subscript o i tp] X.env).map (·.2)=[assign (.Subscript o i tp) X.env]:=by rfl):PS X (.Assign [.Subscript o i tp] e pos) (tS X.K φ (.setx xo xi x)):=Tw (Mi hu) ho hi he ha hs hw h1
end
def SI (b:Bool) (h:Heap) (it l:Addr) (i:Nat):Prop:=match b with
 | true=>h.IsListIter it l i
 | false=>h.IsTupleIter it l i
def SQ (b:Bool) (h:Heap) (l:Addr) (xs:Array Value):Prop:=match b with
 | true=>h.IsList l xs
 | false=>h.IsTuple l xs
def Uj:Bool->String
 | true=>"list_iterator"
 | false=>"tuple_iterator"
theorem SI.keep {b:Bool} {h h':Heap} {it l:Addr} {i:Nat} (x:SI b h it l i) (e:∀o,h.get? it=some o->h'.get? it=some o):SI b h' it l i:=by
 cases b
 ·exact Heap.IsTupleIter.at x e
 ·exact Heap.IsListIter.at x e
theorem SI.but {b:Bool} {h h':Heap} {it l c:Addr} {i:Nat} (x:SI b h it l i) (e:Heap.ExtBut c h h') (n:it≠c):SI b h' it l i:=x.keep λo q=>e it o n q
theorem SI.obj {b:Bool} {h:Heap} {it l:Addr} {i:Nat} (x:SI b h it l i):∃o,h.get? it=some o/\o.cls=.type (Uj b)/\o.data=.fields #[.ref l,.int i 0]:=by
 cases b<;>exact x
theorem SQ.but {b:Bool} {h h':Heap} {l c:Addr} {xs:Array Value} (x:SQ b h l xs) (e:Heap.ExtBut c h h') (n:l≠c):SQ b h' l xs:=by
 cases b
 ·exact Heap.IsTuple.at x λo q=>e l o n q
 ·exact Heap.IsList.at x λo q=>e l o n q
theorem SQ.lt {b:Bool} {h:Heap} {l:Addr} {xs:Array Value} (x:SQ b h l xs):l<h.objs.size:=by
 cases b
 ·obtain⟨o,e,_⟩:=x;exact AQ e
 ·obtain⟨o,e,_⟩:=x;exact AQ e
theorem SQ.push {b:Bool} {h:Heap} {l:Addr} {xs:Array Value} (x:SQ b h l xs) (o:Obj):SQ b (h.push o) l xs:=by
 cases b
 ·exact Heap.IsTuple.push x o
 ·exact Heap.IsList.push x o
section
variable {prog : Program} {w : World} {A : Around} {E : Value -> Shared -> Prop} {s : Shared}
theorem Ga {b:Bool} {l:Addr} {xs:Array Value} {Q:Value->Shared->Prop} (x:SQ b s.heap l xs) (hQ:Q (.ref s.heap.objs.size) {s with heap:=s.heap.push {cls:=.type (Uj b),data:=.fields #[.ref l,.int 0 0]}}) :
  wpAny (model prog w) A (pyIter (.ref l)) Q E s:=by
 cases b
 ·exact DW x hQ
 ·exact GN x hQ
theorem vk {b:Bool} {it l:Addr} {i:Nat} {xs:Array Value} {x:Value} {Q:Value->Shared->Prop} (hit:SI b s.heap it l i) (hl:SQ b s.heap l xs) (hx:xs[i]? = some x)
  (hQ:∀h',SI b h' it l (i+1)->Heap.SameBut it s.heap h'->Q x {s with heap:=h'}):wpAny (model prog w) A (Builtin.SmallTypes.nextOf (.ref it)) Q E s:=by
 cases b
 ·obtain⟨o,ho,hc,hd⟩:=hit.obj
  obtain⟨ol,hol,_,nl,hdl⟩:=hl
  have ht:s.TypeIs (.ref it) "tuple_iterator":=⟨o,ho,hc⟩
  unfold Builtin.SmallTypes.nextOf
  refine AB (CH (name:=Str.ofString "__next__") ht DX (DA DX ht FW ?_ (FR _)))
  show wpAny _ _ (field (.ref it) 0>>=_) _ _ s
  refine AB (BW ho hd (x:=.ref l) rfl ?_)
  show wpAny _ _ (if(Value.ref l==Value.none)=true then _ else _) _ _ s
  rw[if_neg (show ¬((Value.ref l==Value.none)=true)from BB)]
  show wpAny _ _ (field (.ref it) 1>>=_) _ _ s
  refine AB (BW ho hd (x:=.int i 0) rfl ?_)
  show wpAny _ _ (seqItems? (.ref l)>>=_) _ _ s
  refine AB (DY hol hdl ?_)
  simp![DN,hx]
  refine AB (wpAny_setField ho hd (by simp) (AL ⟨x,rfl,AL (hQ _ ?_ (IF ..))⟩))
  exact⟨_,HR _ ho (Obj.isFreed_of_fields (Obj.data_mapFields hd _)),(Obj.cls_mapFields ..).trans hc,by rw[Obj.data_mapFields hd];simp[rawInt]⟩
 ·exact wpAny_nextOf_list_item hit hl hx hQ
theorem Gb {b:Bool} {it l:Addr} {i:Nat} {xs:Array Value} {Q:Value->Shared->Prop} (hh:A.handled=none) (hit:SI b s.heap it l i) (hl:SQ b s.heap l xs) (hx:xs[i]? = none)
  (hE:∀h' e,Heap.ExtBut it s.heap h'->(∃o,h'.get? e=some o/\o.cls=.type "StopIteration")->E (.ref e) {s with heap:=h'}):wpAny (model prog w) A (Builtin.SmallTypes.nextOf (.ref it)) Q E s:=by
 cases b
 ·obtain⟨o,ho,hc,hd⟩:=hit.obj
  obtain⟨ol,hol,_,nl,hdl⟩:=hl
  have ht:s.TypeIs (.ref it) "tuple_iterator":=⟨o,ho,hc⟩
  unfold Builtin.SmallTypes.nextOf
  refine AB (CH (name:=Str.ofString "__next__") ht DX (DA DX ht FW ?_ (FR _)))
  show wpAny _ _ (field (.ref it) 0>>=_) _ _ s
  refine AB (BW ho hd (x:=.ref l) rfl ?_)
  show wpAny _ _ (if(Value.ref l==Value.none)=true then _ else _) _ _ s
  rw[if_neg (show ¬((Value.ref l==Value.none)=true)from BB)]
  show wpAny _ _ (field (.ref it) 1>>=_) _ _ s
  refine AB (BW ho hd (x:=.int i 0) rfl ?_)
  show wpAny _ _ (seqItems? (.ref l)>>=_) _ _ s
  refine AB (DY hol hdl ?_)
  simp![DN,hx]
  refine AB (GD (AB (wpAny_setField ho hd (by simp) ?_)))
  show wpAny _ _ (newExc (.type "StopIteration") []>>=_) _ _ _
  refine AB ?_
  simp![newExc,newTuple]
  refine AB (DE ?_ (by size_fits))
  refine AB (m:=firstArgMember _ _) (wpAny_of_eq (a:=Value.none) (by first | rfl | (simp![firstArgMember];rfl)) ?_)
  refine DE ?_ (by size_fits)
  simp![raiseNew]
  refine AB (wpAny_handled ?_)
  first | rw[show A.in1.handled=none from hh] | rw[hh]
  refine AB (AL (wpAny_throw ?_))
  exact hE _ _ (((IF ..).extBut.push _).push _) ⟨_,AS _ rfl,rfl⟩
 ·exact wpAny_nextOf_list_end hh hit hl hx hE
variable {b1 b2 : Bool} {z TI TO i1 i2 l1 l2 : Addr} {k1 k2 : Nat} {xs ys : Array Value} {x y a b : Value}
theorem Pw {Q:Option Value->Shared->Prop} (D:ZipApart z TI TO i1 i2 l1 l2)
  (hz:IsZip s.heap z TI TO .none) (hTI:IsPair s.heap TI (.ref i1) (.ref i2)) (hTO:IsPair s.heap TO a b)
  (h1:SI b1 s.heap i1 l1 k1) (h2:SI b2 s.heap i2 l2 k2) (hl1:SQ b1 s.heap l1 xs) (hl2:SQ b2 s.heap l2 ys) (hx:xs[k1]? = some x) (hy:ys[k2]? = some y)
  (hQ:∀h',IsZip h' z TI TO (rawInt s.heap.objs.size)->IsPair h' TO x y->SI b1 h' i1 l1 (k1+1)->SI b2 h' i2 l2 (k2+1)->IsPair h' s.heap.objs.size x y ->
   (∀c o,c≠z->c≠TO->c≠i1->c≠i2->s.heap.get? c=some o->h'.get? c=some o)->Q (some (.ref s.heap.objs.size)) {s with heap:=h'}) :
  wpAny (model prog w) A (pyNext (.ref z)) Q E s:=by
 have hT:s.TypeIs (.ref z) "zip":=⟨_,hz,rfl⟩
 unfold pyNext
 refine AB (GR (CH (name:=Str.ofString "__next__") hT FS (DA FS hT F.entry_zip_next ?_ (F.args_zip_next_1 _))))
 show wpAny _ _ (field (.ref z) 2>>=_) _ _ _
 refine AB (BW hz rfl (x:=.bool false) rfl ?_)
 show wpAny _ _ (field (.ref z) 3>>=_) _ _ _
 refine AB (BW hz rfl (x:=.ref TI) rfl ?_)
 refine AB (DY hTI rfl ?_)
 show wpAny _ _ (Builtin.SmallTypes.ownedTupleIsFree (.ref z)>>=_) _ _ _
 refine AB ?_
 unfold Builtin.SmallTypes.ownedTupleIsFree
 refine AB (BW hz rfl (x:=.none) rfl (AL ?_))
 simp![if_true]
 refine AB (GD ?_)
 refine AB (BW hz rfl (x:=.ref TO) rfl ?_)
 refine AB (CA hz (by simp) λh₁ hz₁ hs₁=>?_)
 replace hz₁:IsZip h₁ z TI TO .ellipsis:=hz₁
 refine AB ?_
 simp![List.zipIdx_cons,List.zipIdx_nil,EY,IA]
 refine AB (AB (GS ?_))
 show wpAny _ _ (Builtin.SmallTypes.nextOf (.ref i1)>>=_) _ _ _
 refine AB (vk (h1.but hs₁.extBut D.i1z) (hl1.but hs₁.extBut D.l1z) hx λh₂ h1₂ hs₂=>AL ?_)
 have hTO₂:IsPair h₂ TO a b:=hs₂.extBut _ _ D.TOi1 (hs₁.extBut _ _ D.TOz hTO)
 refine AB (DY hTO₂ rfl ?_)
 refine AB (FO hTO₂ λh₃ hTO₃ hs₃=>?_)
 replace hTO₃:IsPair h₃ TO x b:=hTO₃
 refine AB (IC (AL ?_))
 refine AB (AB (GS ?_))
 show wpAny _ _ (Builtin.SmallTypes.nextOf (.ref i2)>>=_) _ _ _
 refine AB (vk (((h2.but hs₁.extBut D.i2z).but hs₂.extBut D.i12.symm).but hs₃.extBut D.TOi2.symm) (((hl2.but hs₁.extBut D.l2z).but hs₂.extBut D.l2i1).but hs₃.extBut D.l2TO) hy λh₄ h2₄ hs₄=>AL ?_)
 have hTO₄:IsPair h₄ TO x b:=hs₄.extBut _ _ D.TOi2 hTO₃
 refine AB (DY hTO₄ rfl ?_)
 refine AB (FO hTO₄ λh₅ hTO₅ hs₅=>?_)
 replace hTO₅:IsPair h₅ TO x y:=hTO₅
 refine AB (IC (AL (AL ?_)))
 refine AB (DY hTO₅ rfl ?_)
 refine AB (wpAny_newTuple ?_)
 have hsz:h₅.objs.size=s.heap.objs.size:=by rw[hs₅.1,hs₄.1,hs₃.1,hs₂.1,hs₁.1]
 have hz₅:IsZip h₅ z TI TO .ellipsis:=hs₅.extBut _ _ D.TOz.symm (hs₄.extBut _ _ D.i2z.symm (hs₃.extBut _ _ D.TOz.symm (hs₂.extBut _ _ D.i1z.symm hz₁)))
 have hk₅:∀c o,c≠z->c≠TO->c≠i1->c≠i2->s.heap.get? c=some o->h₅.get? c=some o:=λc o c1 c2 c3 c4 e=>hs₅.extBut _ _ c2 (hs₄.extBut _ _ c4 (hs₃.extBut _ _ c2 (hs₂.extBut _ _ c3 (hs₁.extBut _ _ c1 e))))
 have h1₅:SI b1 h₅ i1 l1 (k1+1):=((h1₂.but hs₃.extBut D.TOi1.symm).but hs₄.extBut D.i12).but hs₅.extBut D.TOi1.symm
 have h2₅:SI b2 h₅ i2 l2 (k2+1):=h2₄.but hs₅.extBut D.TOi2.symm
 have hzlt:z<h₅.objs.size:=AQ hz₅
 show wpAny _ _ (Builtin.SmallTypes.ownedTupleHandOut (.ref z) (.ref h₅.objs.size)>>=_) _ _ _
 refine AB ?_
 unfold Builtin.SmallTypes.ownedTupleHandOut
 have hz₆:IsZip (h₅.push {cls:=.type "tuple",data:=.seq #[x,y]}) z TI TO .ellipsis:=AE _ hz₅
 refine AB (CA hz₆ (by simp) λh₇ hz₇ hs₇=>?_)
 replace hz₇:IsZip h₇ z TI TO (rawInt h₅.objs.size):=hz₇
 refine CA hz₇ (by simp) λh₈ hz₈ hs₈=>?_
 replace hz₈:IsZip h₈ z TI TO (rawInt h₅.objs.size):=hz₈
 have up:∀c o,c≠z->h₅.get? c=some o->h₈.get? c=some o:=λc o c1 e=>hs₈.extBut _ _ c1 (hs₇.extBut _ _ c1 (AE _ e))
 have hT₈:IsPair h₈ h₅.objs.size x y:=hs₈.extBut _ _ (CW hzlt) (hs₇.extBut _ _ (CW hzlt) (AS _ rfl))
 rw[hsz]at hz₈ hT₈
 refine AL ⟨_,rfl,?_⟩
 show wpAny _ _ (pure (some (Value.ref h₅.objs.size))) _ _ _
 rw[hsz]
 exact AL (hQ h₈ hz₈ (up _ _ D.TOz hTO₅) (h1₅.keep λo e=>up _ o D.i1z e) (h2₅.keep λo e=>up _ o D.i2z e) hT₈ λc o c1 c2 c3 c4 e=>up c o c1 (hk₅ c o c1 c2 c3 c4 e))
theorem Px {Q:Fin->Shared->Prop} (hh:A.handled=none) (D:ZipApart z TI TO i1 i2 l1 l2)
  (hz:IsZip s.heap z TI TO .none) (hTI:IsPair s.heap TI (.ref i1) (.ref i2)) (hTO:IsPair s.heap TO a b)
  (h1:SI b1 s.heap i1 l1 k1) (h2:SI b2 s.heap i2 l2 k2) (hl1:SQ b1 s.heap l1 xs) (hl2:SQ b2 s.heap l2 ys) (hend:xs[k1]? = none\/ys[k2]? = none)
  (hE:∀h' e,(∀c o,c≠z->c≠TO->c≠i1->c≠i2->s.heap.get? c=some o->h'.get? c=some o)->(∃o,h'.get? e=some o/\o.cls=.type "StopIteration")->E (.ref e) {s with heap:=h'}) :
  wpAny (model prog w) A (Builtin.«zip.__next__» ⟨[.ref z],[]⟩) Q E s:=by
 show wpAny _ _ (field (.ref z) 2>>=_) _ _ _
 refine AB (BW hz rfl (x:=.bool false) rfl ?_)
 show wpAny _ _ (field (.ref z) 3>>=_) _ _ _
 refine AB (BW hz rfl (x:=.ref TI) rfl ?_)
 refine AB (DY hTI rfl ?_)
 show wpAny _ _ (Builtin.SmallTypes.ownedTupleIsFree (.ref z)>>=_) _ _ _
 refine AB ?_
 unfold Builtin.SmallTypes.ownedTupleIsFree
 refine AB (BW hz rfl (x:=.none) rfl (AL ?_))
 simp![if_true]
 refine AB (GD ?_)
 refine AB (BW hz rfl (x:=.ref TO) rfl ?_)
 refine AB (CA hz (by simp) λh₁ hz₁ hs₁=>?_)
 replace hz₁:IsZip h₁ z TI TO .ellipsis:=hz₁
 refine AB ?_
 simp![List.zipIdx_cons,List.zipIdx_nil,EY,IA]
 refine AB (AB (GS ?_))
 show wpAny _ _ (Builtin.SmallTypes.nextOf (.ref i1)>>=_) _ _ _
 cases hx:xs[k1]? with
 | none =>
  refine AB (Gb hh (h1.but hs₁.extBut D.i1z) (hl1.but hs₁.extBut D.l1z) hx λh₂ e hs₂ ⟨oe,hoe,hce⟩=>?_)
  have hz₂:IsZip h₂ z TI TO .ellipsis:=hs₂ _ _ D.i1z.symm hz₁
  have hez:e≠z:=λx=>by subst x;rw[hz₂]at hoe;cases hoe;simp at hce
  exact CA hz₂ (by simp) λh₃ _ hs₃=>hE h₃ e (λc o c1 _ c3 _ x=>hs₃.extBut _ _ c1 (hs₂ _ _ c3 (hs₁.extBut _ _ c1 x))) ⟨oe,hs₃.extBut _ _ hez hoe,hce⟩
 | some x =>
  have hy:ys[k2]? = none:=by rcases hend with h | h;rw[hx]at h;cases h;exact h
  refine AB (vk (h1.but hs₁.extBut D.i1z) (hl1.but hs₁.extBut D.l1z) hx λh₂ h1₂ hs₂=>AL ?_)
  have hTO₂:IsPair h₂ TO a b:=hs₂.extBut _ _ D.TOi1 (hs₁.extBut _ _ D.TOz hTO)
  refine AB (DY hTO₂ rfl ?_)
  refine AB (FO hTO₂ λh₃ hTO₃ hs₃=>?_)
  refine AB (IC (AL ?_))
  refine AB (AB (GS ?_))
  show wpAny _ _ (Builtin.SmallTypes.nextOf (.ref i2)>>=_) _ _ _
  refine AB (Gb hh (((h2.but hs₁.extBut D.i2z).but hs₂.extBut D.i12.symm).but hs₃.extBut D.TOi2.symm) (((hl2.but hs₁.extBut D.l2z).but hs₂.extBut D.l2i1).but hs₃.extBut D.l2TO) hy λh₄ e hs₄ ⟨oe,hoe,hce⟩=>?_)
  have hz₄:IsZip h₄ z TI TO .ellipsis:=hs₄ _ _ D.i2z.symm (hs₃.extBut _ _ D.TOz.symm (hs₂.extBut _ _ D.i1z.symm hz₁))
  have hez:e≠z:=λx=>by subst x;rw[hz₄]at hoe;cases hoe;simp at hce
  exact CA hz₄ (by simp) λh₅ _ hs₅=>hE h₅ e (λc o c1 c2 c3 c4 x=>hs₅.extBut _ _ c1 (hs₄ _ _ c4 (hs₃.extBut _ _ c2 (hs₂.extBut _ _ c3 (hs₁.extBut _ _ c1 x))))) ⟨oe,hs₅.extBut _ _ hez hoe,hce⟩
theorem Uk {Q:Option Value->Shared->Prop} (hh:A.handled=none) (D:ZipApart z TI TO i1 i2 l1 l2)
  (hz:IsZip s.heap z TI TO .none) (hTI:IsPair s.heap TI (.ref i1) (.ref i2)) (hTO:IsPair s.heap TO a b)
  (h1:SI b1 s.heap i1 l1 k1) (h2:SI b2 s.heap i2 l2 k2) (hl1:SQ b1 s.heap l1 xs) (hl2:SQ b2 s.heap l2 ys) (hend:xs[k1]? = none\/ys[k2]? = none)
  (hQ:∀h',(∀c o,c≠z->c≠TO->c≠i1->c≠i2->s.heap.get? c=some o->h'.get? c=some o)->Q none {s with heap:=h'}):wpAny (model prog w) A (pyNext (.ref z)) Q E s:=by
 have hT:s.TypeIs (.ref z) "zip":=⟨_,hz,rfl⟩
 unfold pyNext
 refine AB (GR (CH (name:=Str.ofString "__next__") hT FS
  (DA FS hT F.entry_zip_next (Px hh D hz hTI hTO h1 h2 hl1 hl2 hend λh' e hk he=>?_) (F.args_zip_next_1 _))))
 obtain⟨o,ho,hc⟩:=he
 exact AB (wpAny_isInstance (T:="StopIteration") (b:=true) ⟨o,ho,hc⟩ isSubtype_stop (AL (hQ _ hk)))
abbrev zp1 (b1:Bool) (h:Heap) (l1:Addr):Heap:=h.push {cls:=.type (Uj b1),data:=.fields #[.ref l1,.int 0 0]}
abbrev zp2 (b1 b2:Bool) (h:Heap) (l1 l2:Addr):Heap:=(zp1 b1 h l1).push {cls:=.type (Uj b2),data:=.fields #[.ref l2,.int 0 0]}
abbrev zp3 (b1 b2:Bool) (h:Heap) (l1 l2:Addr):Heap:=(zp2 b1 b2 h l1 l2).push {cls:=.type "tuple",data:=.seq #[.ref h.objs.size,.ref (zp1 b1 h l1).objs.size]}
abbrev zp4 (b1 b2:Bool) (h:Heap) (l1 l2:Addr):Heap:=(zp3 b1 b2 h l1 l2).push {cls:=.type "tuple",data:=.seq #[.none,.none]}
abbrev zp5 (b1 b2:Bool) (h:Heap) (l1 l2:Addr):Heap:=(zp4 b1 b2 h l1 l2).push {cls:=.type "zip",data:=.fields #[.none,.bool false,.bool false,.ref (zp2 b1 b2 h l1 l2).objs.size,.ref (zp3 b1 b2 h l1 l2).objs.size]}
theorem Ul (b1 b2:Bool) (l1 l2:Addr) (xs ys:Array Value) :
  Meets (Builtin.«zip.__new__» ⟨[.type "zip",.ref l1,.ref l2],[]⟩) (λ_ R s=>SQ b1 s.heap l1 xs/\SQ b2 s.heap l2 ys /\
   R (.ok (.ret (.ref (zp4 b1 b2 s.heap l1 l2).objs.size))) {s with heap:=zp5 b1 b2 s.heap l1 l2}) :=
 .of_wp λprog w A R s h=>by
  obtain⟨hp,g,d,tk,os⟩:=s;obtain⟨hl1,hl2,h⟩:=h
  have hsub:=sub_zip
  have hL1:SQ b1 (Shared.heap ⟨hp,g,d,tk,os⟩) l1 xs:=hl1
  have hL2:SQ b2 (Shared.heap ⟨hp.push {cls:=.type (Uj b1),data:=.fields #[.ref l1,.int 0 0]},g,d,tk,os⟩) l2 ys:=SQ.push hl2 _
  wp_walk using Ga hL1,Ga hL2
  exact⟨_,rfl,h⟩
theorem Py {Q:Value->Shared->Prop} (hl1:SQ b1 s.heap l1 xs) (hl2:SQ b2 s.heap l2 ys)
  (h:∀h',IsZip h' (s.heap.objs.size+4) (s.heap.objs.size+2) (s.heap.objs.size+3) .none->IsPair h' (s.heap.objs.size+2) (.ref s.heap.objs.size) (.ref (s.heap.objs.size+1)) ->
   IsPair h' (s.heap.objs.size+3) .none .none->SI b1 h' s.heap.objs.size l1 0->SI b2 h' (s.heap.objs.size+1) l2 0 ->
   (∀c o,s.heap.get? c=some o->h'.get? c=some o)->Q (.ref (s.heap.objs.size+4)) {s with heap:=h'}) :
  wpAny (model prog w) A (call (.type "zip") [.ref l1,.ref l2]) Q E s:=by
 refine callType_new F.called_zip (by decide) (F.typeCall_zip_2 _ _) (F.newCall_zip_2 _ _) (λobj=>F.args_object_init_3 obj _ _) F.entry_zip_new (Ul b1 b2 l1 l2 xs ys) ⟨hl1,hl2,?_⟩
 have z1:(zp1 b1 s.heap l1).objs.size=s.heap.objs.size+1:=CJ ..
 have z2:(zp2 b1 b2 s.heap l1 l2).objs.size=s.heap.objs.size+2:=by rw[CJ,z1]
 have z3:(zp3 b1 b2 s.heap l1 l2).objs.size=s.heap.objs.size+3:=by rw[CJ,z2]
 have z4:(zp4 b1 b2 s.heap l1 l2).objs.size=s.heap.objs.size+4:=by rw[CJ,z3]
 have g5:(zp5 b1 b2 s.heap l1 l2).get? (zp4 b1 b2 s.heap l1 l2).objs.size=some _:=AS _ rfl
 have g4:(zp5 b1 b2 s.heap l1 l2).get? (zp3 b1 b2 s.heap l1 l2).objs.size=some _:=AE _ (AS _ rfl)
 have g3:(zp5 b1 b2 s.heap l1 l2).get? (zp2 b1 b2 s.heap l1 l2).objs.size=some _:=AE _ (AE _ (AS _ rfl))
 have g2:(zp5 b1 b2 s.heap l1 l2).get? (zp1 b1 s.heap l1).objs.size=some _:=AE _ (AE _ (AE _ (AS _ rfl)))
 have g1:(zp5 b1 b2 s.heap l1 l2).get? s.heap.objs.size=some _:=AE _ (AE _ (AE _ (AE _ (AS _ rfl))))
 have s1:SI b1 (zp5 b1 b2 s.heap l1 l2) s.heap.objs.size l1 0:=by cases b1<;>exact⟨_,g1,rfl,rfl⟩
 have s2:SI b2 (zp5 b1 b2 s.heap l1 l2) (zp1 b1 s.heap l1).objs.size l2 0:=by cases b2<;>exact⟨_,g2,rfl,rfl⟩
 show _/\_
 rw[z2,z3,z4]at g5
 rw[z1,z2]at g3
 rw[z3]at g4
 rw[z1]at s2
 rw[z4]
 exact⟨⟨_,g5,rfl⟩,h _ g5 g3 g4 s1 s2 λc o x=>AE _ (AE _ (AE _ (AE _ (AE _ x))))⟩
end
section
variable {X : Cx} {pins : List (Addr × Obj)} {σ : St} {H : Hp} {s : Shared} {φ : Phi}
theorem vm {h':Heap} {t':Nat} {ch:List Addr} (I:Inv X pins σ H s) (k:∀b o,b∉ch->s.heap.get? b=some o->h'.get? b=some o) (hf:∀b∈ch,C0 X pins H b):Inv X pins σ H {s with heap:=h',toks:=t'}:=by
 have nit:∀b u,H b=some u->b∉ch:=λb u e z=>by rw[(hf b z).1]at e;cases e
 refine I.step (g':=s.gens) (d':=s.drawn) (ch:=ch) (λb hb=>⟨(hf b hb).2.2.2.1,(hf b hb).2.1,(hf b hb).2.2.2.2.1,(hf b hb).2.2.2.2.2⟩) (λb o _ _ hc e _=>k b o hc e) (λb o _ _ hc e _=>⟨o.slots,k b o hc e⟩) (λ_ _ _ _ n=>n)
  (λb o hc e=>⟨o,k b o hc e⟩) (λ_ _ e=>e) (λ_ _ _ e=>e) (λb ps e=>⟨#[],by rw[e];simp⟩) (λm hm=>?_) (λb u e=>?_) I.bare
 ·obtain⟨o,es,ep,ho,r⟩:=hm
  exact⟨o,es,ep,k _ o (λz=>(hf _ z).2.1 rfl) ho,r⟩
 ·refine(I.hok b u e).stay (λc v hc q=>k c v ?_ q) (λ_ q=>q) λ_ _ q=>q
  rcases hc with z | z
  ·rw[z];exact nit b u e
  ·exact nit c _ z
def Sq (b:Bool) (K:PySem.W.Frag) (H:Hp) (a:Addr) (xs:List V):Prop:=match b with
 | true=>SqL K H a xs
 | false=>SqT K H a xs
theorem Sq.vals {b:Bool} {a:Addr} {xs:List V} (h:Sq b X.K H a xs) (I:Inv X pins σ H s):∃its:List Value,bh xs its/\SQ b s.heap a its.toArray/\xs.length<=sizeLine:=by
 cases b
 ·obtain⟨its,rv,p,hz⟩:=I.tuple h
  exact⟨its,rv,p,hz⟩
 ·obtain⟨its,rv,p,hz⟩:=I.list h
  exact⟨its,rv,p.isList,hz⟩
theorem Sq.inj {b:Bool} {a:Addr} {xs ys:List V} (h:Sq b X.K H a xs) (I:Inv X pins σ H s) (h':Sq b X.K H a ys):ys=xs:=by
 cases b
 ·exact I.tuple_inj h' h
 ·exact I.list_inj h' h
def Itz (K:PySem.W.Frag) (b1 b2:Bool) (a1 a2:Addr):L2.It :=
 ⟨λi H=>∃xs ys x y,Sq b1 K H a1 xs/\Sq b2 K H a2 ys/\xs[i]? = some x/\ys[i]? = some y,
 λi H v H'=>∃p x y,v=.ref p/\H p=none/\H'=upd H p (.tup [x,y])/\(∀xs,Sq b1 K H a1 xs->xs[i]? = some x)/\(∀ys,Sq b2 K H a2 ys->ys[i]? = some y),
 λi H=>∃xs ys,Sq b1 K H a1 xs/\Sq b2 K H a2 ys/\(xs.length<=i\/ys.length<=i)⟩
theorem Kq {P:Program} {w:World} {K:PySem.W.Frag} {elts:List Expr} {k:Nat} {tp:Pos} {b1 b2:Bool} {z TI TO i1 i2 a1 a2:Addr} (D:ZipApart z TI TO i1 i2 a1 a2) :
  Turn P w K (.Tuple elts k tp) (Itz K b1 b2 a1 a2) [z,TI,TO,i1,i2] z (λi h=>IsZip h z TI TO .none/\IsPair h TI (.ref i1) (.ref i2)/\(∃a b,IsPair h TO a b)/\SI b1 h i1 a1 i/\SI b2 h i2 a2 i) where
 mem:=by simp
 obj:=λi h ⟨hz,hTI,⟨ta,tb,hTO⟩,s1,s2⟩ b hb=>by
  simp![AG,BS,or_false]at hb
  rcases hb with rfl | rfl | rfl | rfl | rfl
  ·exact⟨_,hz,λv e=>by cases e⟩
  ·exact⟨_,hTI,λv e=>by cases e⟩
  ·exact⟨_,hTO,λv e=>by cases e⟩
  ·obtain⟨o,e,_,d⟩:=s1.obj
   exact⟨o,e,λv q=>by rw[d]at q;cases q⟩
  ·obtain⟨o,e,_,d⟩:=s2.obj
   exact⟨o,e,λv q=>by rw[d]at q;cases q⟩
 keep:=λi h h' ⟨hz,hTI,⟨ta,tb,hTO⟩,s1,s2⟩ k=>⟨k z (by simp) _ hz,k TI (by simp) _ hTI,⟨ta,tb,k TO (by simp) _ hTO⟩,s1.keep λo e=>k i1 (by simp) o e,s2.keep λo e=>k i2 (by simp) o e⟩
 item:=by
  intro X hP hw hK hc i pins s σ H E I hf ⟨hz,hTI,⟨ta,tb,hTO⟩,s1,s2⟩ hg
  subst hP hw hK
  obtain⟨xs,ys,x,y,q1,q2,ex,ey⟩:=hg
  obtain⟨is1,rv1,p1,_⟩:=q1.vals I
  obtain⟨is2,rv2,p2,_⟩:=q2.vals I
  obtain⟨u1,hu1,ru1⟩:=rv1.get ex
  obtain⟨u2,hu2,ru2⟩:=rv2.get ey
  refine Pw D hz hTI hTO s1 s2 p1 p2 (x:=u1) (y:=u2) (by simpa using hu1) (by simpa using hu2) λh' c1 c2 c3 c4 c5 kk=>⟨_,rfl,wpAny_letOwnedTupleGo_zip c1 λh'' z'' sb=>?_⟩
  have fr:H s.heap.objs.size=none:=I.hok.fresh (AN _)
  have lt:∀b∈[z,TI,TO,i1,i2],b≠s.heap.objs.size:=by
   intro b hb
   simp![AG,BS,or_false]at hb
   rcases hb with rfl | rfl | rfl | rfl | rfl
   ·exact BA (AQ hz)
   ·exact BA (AQ hTI)
   ·exact BA (AQ hTO)
   ·obtain⟨o,e,_⟩:=s1.obj;exact BA (AQ e)
   ·obtain⟨o,e,_⟩:=s2.obj;exact BA (AQ e)
  have I1:Inv X pins σ (upd H s.heap.objs.size (.tup [x,y])) {s with heap:=s.heap.push {cls:=.type "tuple",data:=.seq #[u1,u2]},toks:=s.toks} :=
   I.laid (λb u e=>AE _ e) (AN _) ⟨by show 2<=sizeLine;rw[DL];decide,[u1,u2],.cons ru1 (.cons ru2 .nil),⟨_,AS _ rfl,rfl,rfl,_,rfl⟩⟩
  have hf':∀b∈[z,TI,TO,i1,i2],C0 X pins (upd H s.heap.objs.size (.tup [x,y])) b:=λb hb=>by
   obtain⟨f0,f⟩:=hf b hb
   exact⟨by rw[ao (lt b hb)];exact f0,f⟩
  have up:∀c o,c≠z->h'.get? c=some o->h''.get? c=some o:=λc o n e=>sb.extBut _ _ n e
  have I2:=vm (s:={s with heap:=s.heap.push {cls:=.type "tuple",data:=.seq #[u1,u2]},toks:=s.toks}) (h':=h'') (t':=s.toks) (ch:=[z,TI,TO,i1,i2]) I1 (λb o hb e=>by
   simp![AG,BS,or_false,not_or]at hb
   rcases Heap.get?_push_cases e with⟨rfl,rfl⟩ | e
   ·exact up _ _ hb.1 c5
   ·exact up _ _ hb.1 (kk b o hb.1 hb.2.2.1 hb.2.2.2.1 hb.2.2.2.2 e)) hf'
  refine⟨.ref s.heap.objs.size,_,I2,rfl,⟨_,x,y,rfl,fr,rfl,λzs hz'=>by rw[q1.inj I hz'];exact ex,λzs hz'=>by rw[q2.inj I hz'];exact ey⟩,?_,λb hb=>(hf' b hb).1⟩
  ·exact⟨z'',up _ _ D.TIz (kk _ _ D.TIz D.TITO D.TIi1 D.TIi2 hTI),⟨u1,u2,up _ _ D.TOz c2⟩,c3.keep λo e=>up _ o D.i1z e,c4.keep λo e=>up _ o D.i2z e⟩
 done:=by
  intro X hP hw hK hc i pins s σ H E I hf ⟨hz,hTI,⟨ta,tb,hTO⟩,s1,s2⟩ hg
  subst hP hw hK
  obtain⟨xs,ys,q1,q2,en⟩:=hg
  obtain⟨is1,rv1,p1,_⟩:=q1.vals I
  obtain⟨is2,rv2,p2,_⟩:=q2.vals I
  have l1:=rv1.length
  have l2:=rv2.length
  refine Uk (I.ok.hd hc) D hz hTI hTO s1 s2 p1 p2 (by rcases en with en | en;exact .inl (by simp;lia);exact .inr (by simp;lia)) λh' kk=>⟨rfl,vm I (h':=h') (t':=s.toks) (ch:=[z,TI,TO,i1,i2]) (λb o hb e=>?_) hf⟩
  simp![AG,BS,or_false,not_or]at hb
  exact kk b o hb.1 hb.2.2.1 hb.2.2.2.1 hb.2.2.2.2 e
 self:=λ_ _ _ _ _ st h=>wpAny_pyIter_zip st.1 h
theorem Aq {K:PySem.W.Frag} {ι:List Addr} {H:Hp} {μ:Sto} {d:D} {v:V} {ds:List D} {g:Gd} (S:Sim K ι H μ) (hd:IsD K ι H d v) (hw:bc μ d=some (ds,g)) :
  ∃b a xs,v=.ref a/\Sq b K H a xs/\af K ι H ds xs/\∀ι2 H2 μ2,ι <+: ι2->Ext H H2->Sim K ι2 H2 μ2->gd g μ2->∃ys,Sq b K H2 a ys/\af K ι2 H2 ds ys:=by
 cases d with
 | tup es =>
  simp![bc,BP,GU]at hw
  obtain⟨rfl,rfl⟩:=hw
  obtain⟨a,xs,rfl,hq,hds⟩:=gk hd
  exact⟨false,a,xs,rfl,hq,hds,λι2 H2 μ2 q1 q2 q3 q4=>⟨xs,hq.ext q2,af.mono q1 q2 _ _ hds⟩⟩
 | lst es =>
  simp![bc,BP,GU]at hw
  obtain⟨rfl,rfl⟩:=hw
  obtain⟨a,xs,rfl,hq,hds⟩:∃a xs,v=.ref a/\FzL K H a xs/\af K ι H es xs:=by simpa[IsD]using hd
  exact⟨true,a,xs,rfl,hq.sq,hds,λι2 H2 μ2 q1 q2 q3 q4=>⟨xs,(hq.ext q2).sq,af.mono q1 q2 _ _ hds⟩⟩
 | loc n =>
  obtain⟨a,rfl,hn⟩:∃a,v=.ref a/\ι[n]? = some a:=by simpa[IsD]using hd
  have pre:∀{ι2:List Addr},ι <+: ι2->ι2[n]? = some a:=λhp=>by
   obtain⟨t,rfl⟩:=hp
   rw[AK (AC.mp hn).1];exact hn
  cases em:μ[n]? with
  | none=>simp[bc,em]at hw
  | some o =>
   cases o with
   | l es =>
    simp![bc,em,BP,GU]at hw
    obtain⟨rfl,rfl⟩:=hw
    obtain⟨a',q',ho⟩:=S.at em
    rw[hn]at q';cases q'
    obtain⟨xs,f1,f2⟩:=ho
    refine⟨true,a,xs,rfl,(show LsL K H a xs from .inl f1).sq,af.mono (CK) (.refl _) _ _ f2,λι2 H2 μ2 q1 q2 q3 q4=>?_⟩
    obtain⟨a2,e2,o2⟩:=q3.at (show μ2[n]? = some (.l es)from q4)
    rw[pre q1]at e2;cases e2
    obtain⟨ys,g1,g2⟩:=o2
    exact⟨ys,(show LsL K H2 a ys from .inl g1).sq,af.mono (CK) (.refl _) _ _ g2⟩
   | r es =>
    simp![bc,em,BP,GU]at hw
    obtain⟨rfl,rfl⟩:=hw
    obtain⟨a',q',ho⟩:=S.at em
    rw[hn]at q';cases q'
    obtain⟨xs,f1,f2⟩:=ho
    refine⟨true,a,xs,rfl,(show LsL K H a xs from .inl f1).sq,f2,λι2 H2 μ2 q1 q2 q3 q4=>?_⟩
    obtain⟨a2,e2,o2⟩:=q3.at (show μ2[n]? = some (.r es)from q4)
    rw[pre q1]at e2;cases e2
    obtain⟨ys,g1,g2⟩:=o2
    exact⟨ys,(show LsL K H2 a ys from .inl g1).sq,g2⟩
   | d kvs=>simp[bc,em]at hw
   | dt kvs=>simp[bc,em]at hw
   | x _=>simp[bc,em]at hw
   | o _ _=>simp[bc,em]at hw
   | dr _=>simp[bc,em]at hw
   | fd _=>simp[bc,em]at hw
   | dead=>simp[bc,em]at hw
 | _=>simp[bc]at hw
theorem Kr {y:D} {ys:List D} (h:bj [] y=some ys) (μ:Sto):bc μ y=some (ys,none):=by
 cases y<;>simp_all[bj,bc]
theorem Um {a b:Expr} {xa xb:Ex} {elts:List Expr} {k:Nat} {tp:Pos} {p pos:Pos} (hg:Gl X "zip") (hm:X.mg "zip"=none) (ha:PE X a (tE X.K φ xa)) (hb:PE X b (tE X.K φ xb)) (hs:starEach [a,b] X.env=[(false,eval a X.env),(false,eval b X.env)])
  (hs2:starEach [b] X.env=[(false,eval b X.env)]):PI X (.Tuple elts k tp) (.Call (.Name "zip" p) [a,b] [] pos) (tI X.K φ (.zip xa xb)):=by
 intro pins s σv H R I ⟨ι,σ,μ,hS,hL,h⟩
 simp![evI]at h
 cases e1:evE φ xa σ μ with
 | exc _ _ _=>rw[e1]at h;exact h.elim
 | stuck=>rw[e1]at h;exact h.elim
 | ok d μ1 =>
 rw[e1]at h
 simp![Res.ar]at h
 cases e2:evE φ xb σ μ1 with
 | exc _ _ _=>rw[e2]at h;exact h.elim
 | stuck=>rw[e2]at h;exact h.elim
 | ok d2 μ2 =>
 rw[e2]at h
 simp![Res.ar]at h
 have hq:tEs X.K φ (.cons xa (.cons xb .nil)) σv H (λvs H1=>∃ι1,ι <+: ι1/\Ext H H1/\Sim X.K ι1 H1 μ2/\af X.K ι1 H1 [d,d2] vs):=⟨ι,σ,μ,hS,hL,by
  simp![eh,e1,e2,Res.ar]
  exact λι1 v H1 p1 x1 s1 d1=>⟨ι1,p1,x1,s1,d1⟩⟩
 refine Call_ (w4 I hg hm PyProof.Rows.boot_zip (DS (thn (yh ha (yh hb Ka hs2) (by rw[hs,hs2]) pos pins s σv H _ I hq) λus s1 ⟨vs,H1,I1,r1,ι1,p1,x1,S1,d1⟩=>?_) (by rw[hs,hs2]) (by rw[hs2];rfl)))
 simp![af]at d1
 obtain⟨v1,_,rfl,q1,v2,_,rfl,q2,rfl⟩:=d1
 cases r1 with
 | cons ra rr =>
 cases rr with
 | cons rb rr =>
 cases rr
 cases ew:bc μ2 d with
 | none=>simp![ew]at h
 | some wg =>
 obtain⟨ds,g⟩:=wg
 cases ey:bj [] d2 with
 | none=>simp![ew,ey]at h
 | some es =>
 simp![ew,ey]at h
 obtain⟨b1,a1,xs,rfl,sq1,ds1,st1⟩:=Aq S1 q1 ew
 obtain⟨b2,a2,ys,rfl,sq2,ds2,st2⟩:=Aq S1 q2 (Kr ey μ2)
 cases ra
 cases rb
 obtain⟨i1,rv1,p1',z1⟩:=sq1.vals I1
 obtain⟨i2,rv2,p2',z2⟩:=sq2.vals I1
 refine Py p1' p2' λh' c1 c2 c3 c4 c5 kk=>?_
 refine wpAny_pyIter_zip c1 ?_
 have I2:Inv X pins σv H1 {s1 with heap:=h'}:=I1.kept (t':=s1.toks) kk
 refine⟨_,[s1.heap.objs.size+4,s1.heap.objs.size+2,s1.heap.objs.size+3,s1.heap.objs.size,s1.heap.objs.size+1],_,_,H1,rfl,I2,Kq (b1:=b1) (b2:=b2) (zipApart_new p1'.lt p2'.lt),⟨c1,c2,⟨_,_,c3⟩,c4,c5⟩,λb hb=>?_,h ι1 H1 _ p1 x1 S1 ?_⟩
 ·have hb':s1.heap.objs.size<=b:=by
   simp![AG,BS,or_false]at hb
   rcases hb with rfl | rfl | rfl | rfl | rfl<;>first | exact AN _ | exact Nat.le_add_right _ _
  exact I1.fpOk hb' (I1.hok.fresh hb')
 ·have hlen:((ds.zip es).map λp=>D.tup [p.1,p.2]).length=min ds.length es.length:=by simp
  have n1:=ds1.length
  have n2:=ds2.length
  refine⟨by rw[hlen];lia,λi ι2 H2 μ3 q1 q2 q3 q4 hi=>?_,λi ι2 H2 μ3 w H3 q1 q2 q3 q4 hi hy=>?_,λι2 H2 μ3 q1 q2 q3 q4=>?_⟩
  ·rw[hlen]at hi
   obtain⟨xs',y1,y2⟩:=st1 ι2 H2 μ3 q1 q2 q3 q4
   obtain⟨ys',y3,y4⟩:=st2 ι2 H2 μ3 q1 q2 q3 trivial
   obtain⟨v,ev,_⟩:=y2.get (AA (by lia:i<ds.length))
   obtain⟨v',ev',_⟩:=y4.get (AA (by lia:i<es.length))
   exact⟨xs',ys',v,v',y1,y3,ev,ev'⟩
  ·rw[hlen]at hi
   obtain⟨xs',y1,y2⟩:=st1 ι2 H2 μ3 q1 q2 q3 q4
   obtain⟨ys',y3,y4⟩:=st2 ι2 H2 μ3 q1 q2 q3 trivial
   have hi1:i<ds.length:=by lia
   have hi2:i<es.length:=by lia
   obtain⟨v,ev,hv⟩:=y2.get (AA hi1)
   obtain⟨v',ev',hv'⟩:=y4.get (AA hi2)
   obtain⟨p,x,y,rfl,hp,rfl,f1,f2⟩:=hy
   have e1':=f1 _ y1
   rw[ev]at e1';cases e1'
   have e2':=f2 _ y3
   rw[ev']at e2';cases e2'
   have X1:Ext H2 (upd H2 p (.tup [v,v'])):=Ext.new hp
   refine⟨X1,q3.new hp,.tup [ds[i],es[i]],by simp[DJ,hi1,hi2],tup_is (xs:=[v,v']) (.inl ?_) ?_⟩
   ·exact .inl aq
   ·simp![af]
    exact⟨v,_,rfl,IsD.mono (AH _) X1 _ _ hv,v',_,rfl,IsD.mono (AH _) X1 _ _ hv',rfl⟩
  ·obtain⟨xs',y1,y2⟩:=st1 ι2 H2 μ3 q1 q2 q3 q4
   obtain⟨ys',y3,y4⟩:=st2 ι2 H2 μ3 q1 q2 q3 trivial
   have m1:=y2.length
   have m2:=y4.length
   rw[hlen]
   exact⟨xs',ys',y1,y3,by lia⟩
theorem Mj {a b:Expr} {xa xb:Ex} {elts:List Expr} {k:Nat} {tp:Pos} {p pos:Pos} (hm:X.mg "zip"=none) (ha:PE X a (tE X.K φ xa)) (hb:PE X b (tE X.K φ xb)) (hg:Gl X "zip":=by rfl) (hs:starEach [a,b] X.env=[(false,eval a X.env),(false,eval b X.env)]:=by rfl) (hs2:starEach [b] X.env=[(false,eval b X.env)]:=by rfl) :
  PI X (.Tuple elts k tp) (.Call (.Name "zip" p) [a,b] [] pos) (tI X.K φ (.zip xa xb)):=Um hg hm ha hb hs hs2
end
open AutoSeq1 (wpAny_loadPart')
theorem Pz (l:Addr) (items:Array Value) (n:Nat) (dct:Option Addr) (sl:Array (Option Value)) :
  Meets (Builtin.«enumerate.__new__» ⟨[.type "enumerate",.ref l],[]⟩) (λ_ R s=>s.heap.get? l=some {cls:=.type "tuple",dict:=dct,data:=.seq items n,slots:=sl} /\
   R (.ok (.ret (.ref (s.heap.push {cls:=.type "tuple_iterator",data:=.fields #[.ref l,.int 0 0]}).objs.size)))
    {s with heap:=(s.heap.push {cls:=.type "tuple_iterator",data:=.fields #[.ref l,.int 0 0]}).push {cls:=.type "enumerate",data:=.fields #[.none,.bool false,.ref s.heap.objs.size,rawInt 0,.none,.none]}}) :=
 .of_wp λprog w A R s h=>by
  obtain⟨hp,g,d,tk,os⟩:=s;obtain⟨hl,h⟩:=h
  have hsub:=sub_enumerate
  have hL:Heap.IsTuple (Shared.heap ⟨hp,g,d,tk,os⟩) l items:=⟨_,hl,rfl,n,rfl⟩
  wp_walk using CY hl
  refine wpAny_stack_any λst=>AL ?_
  split
  ·rename_i c _ _ _ _ _
   cases(c==Value.type "enumerate")
   ·wp_walk using CY hl,DW hL
    exact⟨_,rfl,h⟩
   ·wp_walk using CY hl,DW hL
    exact⟨_,rfl,h⟩
  ·wp_walk using CY hl,DW hL
   exact⟨_,rfl,h⟩
section
variable {prog : Program} {w : World} {A : Around} {E : Value -> Shared -> Prop} {s : Shared} {b : Bool}
theorem P1 {l:Addr} {items:Array Value} {Q:Value->Shared->Prop} (hL:SQ b s.heap l items)
  (h:∀h',IsEnum h' (s.heap.objs.size+1) s.heap.objs.size 0 .none->SI b h' s.heap.objs.size l 0->(∀b o,s.heap.get? b=some o->h'.get? b=some o)->Q (.ref (s.heap.objs.size+1)) {s with heap:=h'}) :
  wpAny (model prog w) A (call (.type "enumerate") [.ref l]) Q E s:=by
 cases b
 ·obtain⟨⟨c,dct,dt,sl⟩,hl,hc,n,hd⟩:=hL
  replace hc:c=.type "tuple":=hc
  replace hd:dt=.seq items n:=hd
  subst hc hd
  refine callType_new F.called_enumerate (by decide) (F.typeCall_enumerate_1 _) (F.newCall_enumerate_1 _) (λobj=>F.args_object_init_2 obj _) F.entry_enumerate_new (Pz l items n dct sl) ⟨hl,?_⟩
  have hz:(s.heap.push {cls:=.type "tuple_iterator",data:=.fields #[.ref l,.int 0 0]}).objs.size=s.heap.objs.size+1:=CJ ..
  show _/\_
  rw[hz]
  have he:IsEnum ((s.heap.push {cls:=.type "tuple_iterator",data:=.fields #[.ref l,.int 0 0]}).push
    {cls:=.type "enumerate",data:=.fields #[.none,.bool false,.ref s.heap.objs.size,rawInt 0,.none,.none]}) (s.heap.objs.size+1) s.heap.objs.size 0 .none:=by
   have:=AS (s.heap.push {cls:=.type "tuple_iterator",data:=.fields #[.ref l,.int 0 0]})
    (o:={cls:=.type "enumerate",data:=.fields #[.none,.bool false,.ref s.heap.objs.size,rawInt 0,.none,.none]}) rfl
   rw[hz]at this;exact this
  exact⟨⟨_,he,rfl⟩,h _ he ⟨_,AE _ (AS _ rfl),rfl,rfl⟩ λb o x=>AE _ (AE _ x)⟩
 ·exact call_enumerate_list hL λh' a1 a2 _ a3=>h h' a1 a2 a3
theorem P5 {e it l:Addr} {i:Nat} {items:Array Value} {x old:Value} {Q:Option Value->Shared->Prop}
  (he:IsEnum s.heap e it i old) (hit:SI b s.heap it l i) (hl:SQ b s.heap l items) (hx:items[i]? = some x) (hne:e≠it)
  (hQ:∀h',IsEnumOut h' e it ((i:Int)+1) x s.heap.objs.size->SI b h' it l (i+1)->h'.get? s.heap.objs.size=some {cls:=.type "tuple",data:=.seq #[.int i s.toks,x]} ->
   (∀b o,b≠e->b≠it->s.heap.get? b=some o->h'.get? b=some o)->Q (some (.ref s.heap.objs.size)) {s with heap:=h',toks:=s.toks+1}) :
  wpAny (model prog w) A (pyNext (.ref e)) Q E s:=by
 have hT:s.TypeIs (.ref e) "enumerate":=⟨_,he,rfl⟩
 unfold pyNext
 refine AB (GR (CH (name:=Str.ofString "__next__") hT ER (DA ER hT F.entry_enumerate_next ?_ (F.args_enumerate_next_1 _))))
 obtain⟨hp,g,d,tk,os⟩:=s
 show wpAny _ _ (field (.ref e) 2>>=_) _ _ _
 refine AB (BW he rfl (x:=.ref it) rfl ?_)
 refine AB (vk hit hl hx λh₁ hit₁ hs₁=>?_)
 replace hs₁:Heap.SameBut it hp h₁:=hs₁
 have he₁:IsEnum h₁ e it i old:=(hs₁.2 e hne).trans he
 show wpAny _ _ (field (.ref e) 3>>=_) _ _ ⟨h₁,g,d,tk,os⟩
 refine AB (BW he₁ rfl (x:=rawInt i) rfl ?_)
 show wpAny _ _ (field (.ref e) 4>>=_) _ _ ⟨h₁,g,d,tk,os⟩
 refine AB (BW he₁ rfl (x:=.none) rfl ?_)
 show wpAny _ _ (mkInt i>>=_) _ _ ⟨h₁,g,d,tk,os⟩
 refine AB (wpAny_mkInt ?_)
 show wpAny _ _ (setField (.ref e) 3 (rawInt ((i:Int)+1))>>=_) _ _ ⟨h₁,g,d,tk+1,os⟩
 refine AB (CA he₁ (by simp) λh₂ he₂ hs₂=>?_)
 replace hs₂:Heap.SameBut e h₁ h₂:=hs₂
 replace he₂:IsEnum h₂ e it ((i:Int)+1) old:=he₂
 show wpAny _ _ (setField (.ref e) 4 .none>>=_) _ _ ⟨h₂,g,d,tk+1,os⟩
 refine AB (CA he₂ (by simp) λh₃ he₃ hs₃=>?_)
 replace hs₃:Heap.SameBut e h₂ h₃:=hs₃
 replace he₃:IsEnum h₃ e it ((i:Int)+1) old:=he₃
 show wpAny _ _ (newTuple [.int i tk,x]>>=_) _ _ ⟨h₃,g,d,tk+1,os⟩
 refine AB (wpAny_newTuple ?_)
 have he₄:IsEnum (h₃.push {cls:=.type "tuple",data:=.seq #[.int i tk,x]}) e it ((i:Int)+1) old:=AE _ he₃
 generalize hh₄:h₃.push {cls:=.type "tuple",data:=.seq #[.int i tk,x]}=h₄ at he₄
 have hsz:h₃.objs.size=hp.objs.size:=by rw[hs₃.1,hs₂.1,hs₁.1]
 have hel:e<hp.objs.size:=AQ he
 have ht₄:h₄.get? hp.objs.size=some {cls:=.type "tuple",data:=.seq #[.int i tk,x]}:=by rw[<-hh₄,<-hsz];exact AS _ rfl
 have hk₄:∀b o,b≠e->b≠it->hp.get? b=some o->h₄.get? b=some o:=λb o hbe hbi hb=>by
  rw[<-hh₄];exact AE _ (hs₃.extBut b o hbe (hs₂.extBut b o hbe (hs₁.extBut b o hbi hb)))
 have hit₄:SI b h₄ it l (i+1):=by
  rw[<-hh₄];exact((hit₁.but hs₂.extBut (Ne.symm hne)).but hs₃.extBut (Ne.symm hne)).keep λo ho=>AE _ ho
 show wpAny _ _ (Builtin.SmallTypes.ownedTupleIsFree (.ref e)>>=_) _ _ ⟨h₄,g,d,tk+1,os⟩
 rw[hsz]
 clear hh₄ he₃ hs₃ he₂ hs₂ he₁ hs₁ hit₁ hsz h₃ h₂ h₁
 refine AB ?_
 unfold Builtin.SmallTypes.ownedTupleIsFree
 refine AB (BW he₄ rfl (x:=.none) rfl (AL ?_))
 simp![if_true]
 refine AB (GD ?_)
 refine AB (BW he₄ rfl (x:=old) rfl ?_)
 refine AB (CA he₄ (by simp) λh₅ he₅ hs₅=>?_)
 replace hs₅:Heap.SameBut e h₄ h₅:=hs₅
 replace he₅:IsEnum h₅ e it ((i:Int)+1) x:=he₅
 show wpAny _ _ (Builtin.SmallTypes.ownedTupleHandOut (.ref e) (.ref hp.objs.size)>>=_) _ _ ⟨h₅,g,d,tk+1,os⟩
 refine AB ?_
 unfold Builtin.SmallTypes.ownedTupleHandOut
 refine AB (CA he₅ (by simp) λh₆ he₆ hs₆=>?_)
 replace hs₆:Heap.SameBut e h₅ h₆:=hs₆
 replace he₆:IsEnumOut h₆ e it ((i:Int)+1) x hp.objs.size:=he₆
 refine CA he₆ (by simp) λh₇ he₇ hs₇=>?_
 replace hs₇:Heap.SameBut e h₆ h₇:=hs₇
 replace he₇:IsEnumOut h₇ e it ((i:Int)+1) x hp.objs.size:=he₇
 refine AB (IC (AL ⟨_,rfl,AL (hQ h₇ he₇ ?_ ?_ ?_)⟩))
 ·exact((hit₄.but hs₅.extBut (Ne.symm hne)).but hs₆.extBut (Ne.symm hne)).but hs₇.extBut (Ne.symm hne)
 ·exact hs₇.extBut _ _ (CW hel) (hs₆.extBut _ _ (CW hel) (hs₅.extBut _ _ (CW hel) ht₄))
 ·exact λb o hbe hbi hb=>hs₇.extBut b o hbe (hs₆.extBut b o hbe (hs₅.extBut b o hbe (hk₄ b o hbe hbi hb)))
theorem Uo {e it l:Addr} {i:Nat} {items:Array Value} {old:Value} {Q:Option Value->Shared->Prop} (hh:A.handled=none)
  (he:IsEnum s.heap e it i old) (hit:SI b s.heap it l i) (hl:SQ b s.heap l items) (hx:items[i]? = none)
  (hQ:∀h',Heap.ExtBut it s.heap h'->Q none {s with heap:=h'}):wpAny (model prog w) A (pyNext (.ref e)) Q E s:=by
 have hT:s.TypeIs (.ref e) "enumerate":=⟨_,he,rfl⟩
 unfold pyNext
 refine AB (GR (CH (name:=Str.ofString "__next__") hT ER (DA ER hT F.entry_enumerate_next ?_ (F.args_enumerate_next_1 _))))
 show wpAny _ _ (field (.ref e) 2>>=_) _ _ _
 refine AB (BW he rfl (x:=.ref it) rfl ?_)
 refine AB (Gb hh hit hl hx λh' x he' hx'=>?_)
 obtain⟨o,ho,hc⟩:=hx'
 refine AB (wpAny_isInstance (T:="StopIteration") (b:=true) ⟨o,ho,hc⟩ isSubtype_stop ?_)
 exact AL (hQ _ he')
end
section
variable {X : Cx} {pins : List (Addr × Obj)} {σ : St} {H : Hp} {s : Shared} {φ : Phi}
def Ite (K:PySem.W.Frag) (b:Bool) (a:Addr):L2.It :=
 ⟨λi H=>∃xs x,Sq b K H a xs/\xs[i]? = some x,
 λi H v H'=>∃p x,v=.ref p/\H p=none/\H'=upd H p (.tup [.int i,x])/\∀xs,Sq b K H a xs->xs[i]? = some x,
 λi H=>∃xs,Sq b K H a xs/\xs.length<=i⟩
theorem Gc {P:Program} {w:World} {K:PySem.W.Frag} {elts:List Expr} {k:Nat} {tp:Pos} {b:Bool} {e it a:Addr} (hne:e≠it) :
  Turn P w K (.Tuple elts k tp) (Ite K b a) [e,it] e (λi h=>(∃old,IsEnum h e it i old)/\SI b h it a i) where
 mem:=by simp
 obj:=λi h ⟨⟨old,he⟩,s1⟩ c hc=>by
  simp![AG,BS,or_false]at hc
  rcases hc with rfl | rfl
  ·exact⟨_,he,λv e=>by cases e⟩
  ·obtain⟨o,e,_,d⟩:=s1.obj
   exact⟨o,e,λv q=>by rw[d]at q;cases q⟩
 keep:=λi h h' ⟨⟨old,he⟩,s1⟩ k=>⟨⟨old,k e (by simp) _ he⟩,s1.keep λo q=>k it (by simp) o q⟩
 item:=by
  intro X hP hw hK hc i pins s σ H E I hf ⟨⟨old,he⟩,s1⟩ hg
  subst hP hw hK
  obtain⟨xs,x,q1,ex⟩:=hg
  obtain⟨is1,rv1,p1,_⟩:=q1.vals I
  obtain⟨u1,hu1,ru1⟩:=rv1.get ex
  refine P5 he s1 p1 (x:=u1) (by simpa using hu1) hne λh' c1 c2 c3 kk=>⟨_,rfl,wpAny_letOwnedTupleGo_enum c1 λh'' z'' sb=>?_⟩
  have fr:H s.heap.objs.size=none:=I.hok.fresh (AN _)
  have lt:∀c∈[e,it],c≠s.heap.objs.size:=by
   intro c hc
   simp![AG,BS,or_false]at hc
   rcases hc with rfl | rfl
   ·exact BA (AQ he)
   ·obtain⟨o,q,_⟩:=s1.obj;exact BA (AQ q)
  have I1:Inv X pins σ (upd H s.heap.objs.size (.tup [.int i,x])) {s with heap:=s.heap.push {cls:=.type "tuple",data:=.seq #[.int i s.toks,u1]},toks:=s.toks+1} :=
   I.laid (λb u e=>AE _ e) (AN _) ⟨by show 2<=sizeLine;rw[DL];decide,[.int i s.toks,u1],.cons ⟨s.toks,rfl⟩ (.cons ru1 .nil),⟨_,AS _ rfl,rfl,rfl,_,rfl⟩⟩
  have hf':∀c∈[e,it],C0 X pins (upd H s.heap.objs.size (.tup [.int i,x])) c:=λc hc=>by
   obtain⟨f0,f⟩:=hf c hc
   exact⟨by rw[ao (lt c hc)];exact f0,f⟩
  have up:∀c o,c≠e->h'.get? c=some o->h''.get? c=some o:=λc o n q=>sb.extBut _ _ n q
  have I2:=vm (s:={s with heap:=s.heap.push {cls:=.type "tuple",data:=.seq #[.int i s.toks,u1]},toks:=s.toks+1}) (h':=h'') (t':=s.toks+1) (ch:=[e,it]) I1 (λc o hc q=>by
   simp![AG,BS,or_false,not_or]at hc
   rcases Heap.get?_push_cases q with⟨rfl,rfl⟩ | q
   ·exact up _ _ hc.1 c3
   ·exact up _ _ hc.1 (kk c o hc.1 hc.2 q)) hf'
  refine⟨.ref s.heap.objs.size,_,I2,rfl,⟨_,x,rfl,fr,rfl,λzs hz'=>by rw[q1.inj I hz'];exact ex⟩,⟨⟨u1,?_⟩,c2.keep λo q=>up _ o (Ne.symm hne) q⟩,λc hc=>(hf' c hc).1⟩
  exact z''
 done:=by
  intro X hP hw hK hc i pins s σ H E I hf ⟨⟨old,he⟩,s1⟩ hg
  subst hP hw hK
  obtain⟨xs,q1,en⟩:=hg
  obtain⟨is1,rv1,p1,_⟩:=q1.vals I
  have l1:=rv1.length
  refine Uo (I.ok.hd hc) he s1 p1 (by simp;lia) λh' kk=>⟨rfl,vm I (h':=h') (t':=s.toks) (ch:=[e,it]) (λc o hc q=>?_) hf⟩
  simp![AG,BS,or_false,not_or]at hc
  exact kk c o hc.2 q
 self:=λ_ _ _ _ _ st h=>wpAny_pyIter_enum st.1.choose_spec h
theorem P6 {a:Expr} {xa:Ex} {elts:List Expr} {k:Nat} {tp:Pos} {p pos:Pos} (hg:Gl X "enumerate") (hm:X.mg "enumerate"=none) (ha:PE X a (tE X.K φ xa)) (hs:starEach [a] X.env=[(false,eval a X.env)]) :
  PI X (.Tuple elts k tp) (.Call (.Name "enumerate" p) [a] [] pos) (tI X.K φ (.enum xa)):=by
 intro pins s σv H R I ⟨ι,σ,μ,hS,hL,h⟩
 simp![evI]at h
 cases e1:evE φ xa σ μ with
 | exc _ _ _=>rw[e1]at h;exact h.elim
 | stuck=>rw[e1]at h;exact h.elim
 | ok d μ2 =>
 rw[e1]at h
 simp![Res.ar]at h
 have hq:tEs X.K φ (.cons xa .nil) σv H (λvs H1=>∃ι1,ι <+: ι1/\Ext H H1/\Sim X.K ι1 H1 μ2/\af X.K ι1 H1 [d] vs):=⟨ι,σ,μ,hS,hL,by
  simp![eh,e1,Res.ar]
  exact λι1 v H1 p1 x1 s1 d1=>⟨ι1,p1,x1,s1,d1⟩⟩
 refine Call_ (w4 I hg hm PyProof.Rows.boot_enumerate (DS (thn (yh ha Ka hs pos pins s σv H _ I hq) λus s1 ⟨vs,H1,I1,r1,ι1,p1,x1,S1,d1⟩=>?_) hs rfl))
 simp![af]at d1
 obtain⟨v1,_,rfl,q1,rfl⟩:=d1
 cases r1 with
 | cons ra rr =>
 cases rr
 cases ew:bc μ2 d with
 | none=>simp![ew]at h
 | some wg =>
 obtain⟨ds,g⟩:=wg
 simp![ew]at h
 obtain⟨b1,a1,xs,rfl,sq1,ds1,st1⟩:=Aq S1 q1 ew
 cases ra
 obtain⟨i1,rv1,p1',z1⟩:=sq1.vals I1
 refine P1 p1' λh' c1 c2 kk=>?_
 refine wpAny_pyIter_enum c1 ?_
 have I2:Inv X pins σv H1 {s1 with heap:=h'}:=I1.kept (t':=s1.toks) kk
 refine⟨_,[s1.heap.objs.size+1,s1.heap.objs.size],_,_,H1,rfl,I2,Gc (b:=b1) (a:=a1) (Nat.succ_ne_self _),⟨⟨_,c1⟩,c2⟩,λc hc=>?_,h ι1 H1 _ p1 x1 S1 ?_⟩
 ·have hc':s1.heap.objs.size<=c:=by
   simp![AG,BS,or_false]at hc
   rcases hc with rfl | rfl<;>first | exact AN _ | exact Nat.le_add_right _ _
  exact I1.fpOk hc' (I1.hok.fresh hc')
 ·have hlen:(((List.range ds.length).zip ds).map fun(p:Nat×D)=>D.tup [.int p.1,p.2]).length=ds.length:=by simp
  have n1:=ds1.length
  refine⟨by rw[hlen];lia,λi ι2 H2 μ3 q1 q2 q3 q4 hi=>?_,λi ι2 H2 μ3 w H3 q1 q2 q3 q4 hi hy=>?_,λι2 H2 μ3 q1 q2 q3 q4=>?_⟩
  ·rw[hlen]at hi
   obtain⟨xs',y1,y2⟩:=st1 ι2 H2 μ3 q1 q2 q3 q4
   obtain⟨v,ev,_⟩:=y2.get (AA hi)
   exact⟨xs',v,y1,ev⟩
  ·rw[hlen]at hi
   obtain⟨xs',y1,y2⟩:=st1 ι2 H2 μ3 q1 q2 q3 q4
   obtain⟨v,ev,hv⟩:=y2.get (AA hi)
   obtain⟨p,x,rfl,hp,rfl,f1⟩:=hy
   have e1':=f1 _ y1
   rw[ev]at e1';cases e1'
   have X1:Ext H2 (upd H2 p (.tup [.int i,v])):=Ext.new hp
   refine⟨X1,q3.new hp,.tup [.int i,ds[i]],by simp[DJ,hi],tup_is (xs:=[.int i,v]) (.inl ?_) ?_⟩
   ·exact .inl aq
   ·simp![af]
    exact⟨.int i,_,rfl,by simp[IsD],v,_,rfl,IsD.mono (AH _) X1 _ _ hv,rfl⟩
  ·obtain⟨xs',y1,y2⟩:=st1 ι2 H2 μ3 q1 q2 q3 q4
   have m1:=y2.length
   rw[hlen]
   exact⟨xs',y1,by lia⟩
theorem Ge {a:Expr} {xa:Ex} {elts:List Expr} {k:Nat} {tp:Pos} {p pos:Pos} (hm:X.mg "enumerate"=none) (ha:PE X a (tE X.K φ xa)) (hg:Gl X "enumerate":=by rfl) (hs:starEach [a] X.env=[(false,eval a X.env)]:=by rfl) :
  PI X (.Tuple elts k tp) (.Call (.Name "enumerate" p) [a] [] pos) (tI X.K φ (.enum xa)):=P6 hg hm ha hs
theorem P7 {p:Addr} {xs:List (Key×V)} (I:Inv X pins σ H s) (h:H p=some (.dK xs)):∃o,Inv X pins σ (upd H p (.frz o (.dK xs))) s:=by
 have hp:=I.hok p _ h
 obtain⟨hz,hsys,vs,rel,o,es,ep,hget,r⟩:=id hp
 refine⟨o,I.ok,I.os,I.bare,⟨I.base.keep,I.base.slot,λb o e hn hx=>?_,I.base.there,λb ys e=>?_,λb o u e=>?_,λb ps e=>?_⟩,I.loc,I.cell,?_,λx c e=>?_,λq hq=>?_,λb u e=>?_,I.len⟩
 ·have q:=I.base.free b o e hn hx
  rw[ao (λz=>by subst z;rw[h]at q;cases q)]
  exact q
 ·have q:=I.base.tups b ys e
  rw[ao (jw q h (by intro z;cases z))];exact q
 ·have q:=I.base.frzs b o u e
  rw[ao (jw q h (by intro z;cases z))];exact q
 ·obtain⟨more,q⟩:=I.base.tbls b ps e
  exact⟨more,by rw[ao (jw q h (by intro z;cases z))];exact q⟩
 ·rw[ao (λz=>by rw[<-z,I.free]at h;cases h)];exact I.free
 ·rw[ao (λz=>by rw[<-z,I.freeC x c e]at h;cases h)];exact I.freeC x c e
 ·obtain⟨e1,e2,e3⟩:=I.pin q hq
  refine⟨e1,?_,e3⟩
  rw[ao (λz=>by rw[<-z,e2]at h;cases h)];exact e2
 ·by_cases hb:b=p
  ·subst hb
   rw[aq]at e;cases e
   exact⟨hget,hz,hsys,vs,rel,o,es,ep,hget,r⟩
  ·rw[ao hb]at e
   refine(I.hok b u e).stay (λc v _ q=>q) (λc q=>?_) (λc ys q=>?_)
   ·rw[ao (jw q h (by intro z;cases z))];exact q
   ·rw[ao (jw q h (by intro z;cases z))];exact q
theorem t4 {α β:Type} {F:α->β->Prop}:∀{xs:List α} {ys:List β} {i:Nat} {y:β},Paired F xs ys->ys[i]? = some y->∃x,xs[i]? = some x/\F x y
 | _,_,_,_,.nil,e=>by simp at e
 | x::_,_::_,0,_,.cons h _,e=>by simp at e;subst e;exact⟨x,rfl,h⟩
 | _::_,_::_,i+1,_,.cons _ t,e=>by
  obtain⟨x,h1,h2⟩:=t4 (i:=i) t (by simpa using e)
  exact⟨x,by simpa using h1,h2⟩
theorem Ml:∀{kvs:List (Key×V)} {vs:List (Key×Value)} {i:Nat} {p:Key×V},KV kvs vs->kvs[i]? = some p->∃u,vs[i]? = some (p.1,u)/\RelV p.2 u
 | _,_,_,_,.nil,e=>by simp at e
 | q::_,r::_,0,p,.cons h _,e=>by
  simp at e;subst e
  exact⟨r.2,by rw[h.1];rfl,h.2⟩
 | q::kvs,r::vs,i+1,p,.cons _ t,e=>by
  obtain⟨u,h1,h2⟩:=Ml (i:=i) t (by simpa using e)
  exact⟨u,by simpa using h1,h2⟩
theorem Mm {a:Addr} {o:Obj} {xs:List (Key×V)} {ep:Nat} (I:Inv X pins σ H s) (hep:∃es,o.data=.dict es ep) (e:H a=some (.frz o (.dK xs))):∃vs,KV xs vs/\s.heap.DictAt (bx X.prog X.w) a vs ep:=by
 obtain⟨hget,hz,hsys,vs,rel,o',es',ep',hget',r1,r2,r3⟩:=(show fu X.prog X.w H s.heap a (.frz o (.dK xs))from I.hok a _ e)
 rw[hget]at hget';cases hget'
 obtain⟨es,h⟩:=hep
 rw[h]at r2;cases r2
 exact⟨vs,rel,o,_,hget,r1,h,r3⟩
end
end Lp
namespace L2
open PySem PySem.Spec PyProof.Rows
variable {X : Cx}
theorem Ks:Wz X (Wi X.K):=by
 intro pins s σ H o i ov iv Q I rx ry h
 obtain⟨p,xs,k,z,rfl,rfl,hq,he,q⟩:=h
 cases rx
 obtain⟨t,rfl⟩:=ry
 obtain⟨its,r,pl,hz⟩:=I.list hq
 obtain⟨j,h1,h2,h3,h4,h5⟩:=uv he
 obtain⟨w,ew,rw'⟩:=r.get h2
 have hl:=r.length
 have hn:=pk
 have fin:EP X pins σ Q w s:=⟨z,H,I,rw',q⟩
 by_cases h0:0<=k
 ·have hj:k.toNat=j:=by
   rw[Ix h0 h5]at h1
   exact BH h1
  exact wpAny_getItem_list pl.isList h0 (by lia) (by rw[hj];simpa using ew) fin
 ·have hj:(k+(its.toArray.size:Int)).toNat=j:=by
   rw[HD (by lia) h4]at h1
   rw[AI,<-hl]
   exact BH h1
  exact wpAny_getItem_list_neg pl.isList (by lia) (by rw[AI]<;>lia) (by lia) (by rw[hj];simpa using ew) fin
end L2
namespace Lp
open PySem PySem.Spec PyProof.Rows L2
section
variable {X : Cx} {φ : Phi} {pos : Pos}
theorem Up:Wz X (rOp X.K ixL):=by
 intro pins s σ H o i ov iv Q I rx ry ⟨ι,d,e,μ,hS,hd,he,h⟩
 refine Ks pins s σ H o i ov iv Q I rx ry ?_
 cases d with
 | loc n =>
  cases e with
  | int k =>
   have hy:=ck he
   subst hy
   cases em:μ[n]? with
   | none=>simp[ixL,ixD,bj,em,du]at h
   | some ob =>
    have go:∀zs,d9 ob=some zs->bj μ (.loc n)=some zs->Wi X.K o (.int k) H Q:=λzs ei es=>by
     obtain⟨a,vs,rfl,_,hH,h1,_⟩:=Fu hS hd em ei
     simp![ixL,ixD,es]at h
     split at h
     ·rename_i j ej
      split at h
      ·rename_i d' ed
       obtain⟨v,ev,hv⟩:=Me h1 ej ed
       exact⟨a,vs,k,v,rfl,rfl,.of hH,ev,h.ok hS hv⟩
      ·exact h.elim
     ·exact h.elim
    cases ob with
    | l zs=>exact go zs rfl (by simp[bj,em])
    | r zs=>exact go zs rfl (by simp[bj,em])
    | _=>simp[ixL,ixD,bj,em,du]at h
  | _=>exact h.elim
 | _=>exact h.elim
def abg (K:PySem.W.Frag) (op:Operator):TIp:=rOp K (Xm op)
theorem Uq {op:Operator} (ho:op=.Add\/op=.Sub):PIp X op (abg X.K op):=by
 intro pins s σ H x y v u Q I r1 r2 ⟨ι,d,e,μ,hS,hd,he,h⟩
 cases d with
 | int i =>
  cases e with
  | int j =>
   cases ck hd
   cases ck he
   rcases ho with rfl | rfl
   ·exact R5 pins s σ H _ _ v u Q I r1 r2 ⟨i,j,rfl,rfl,(show du X.K (RD X.K) ι H (.ok (.int (i+j)) μ) Q from h).ok hS (by simp[IsD])⟩
   ·exact R6 pins s σ H _ _ v u Q I r1 r2 ⟨i,j,rfl,rfl,(show du X.K (RD X.K) ι H (.ok (.int (i-j)) μ) Q from h).ok hS (by simp[IsD])⟩
  | _=>exact h.elim
 | _=>exact h.elim
theorem t6 (hu:X.A.units+64<cLine) {op:Operator} {o i e:Expr} {xo xi x:Ex} {tp:Pos} (ho:PE X o (tE X.K φ xo)) (hi:PE X i (tE X.K φ xi)) (he:PE X e (tE X.K φ x)) (hop:op=.Add\/op=.Sub:=by first | exact Or.inl rfl | exact Or.inr rfl)
  (ha:∀ov iv new,augStore i ov iv new=(do holding [new,ov,iv] (setItem ov iv new);release [new,ov,iv] [];pure .next):=by intros;rfl):PS X (.AugAssign (.Subscript o i tp) op e pos) (tS X.K φ (.augx op xo xi x)) :=
 PS.imp (Oc ho hi Up he (Uq hop) (Mi hu) ha) λE σv H ⟨ι,σ,μ,hS,hL,hl,h⟩=>by
  simp![evS]at h
  obtain⟨a,μ1,e1,h⟩:=h.bind
  refine⟨ι,σ,μ,hS,hL,?_⟩
  rw[e1]
  intro ι1 va H1 p1 x1 s1 d1
  obtain⟨b,μ2,e2,h⟩:=h.bind
  refine⟨ι1,σ,μ1,s1,hL.mono p1 x1,?_⟩
  rw[e2]
  intro ι2 vb H2 p2 x2 s2 d2
  obtain⟨c,μ3,e3,h⟩:=h.bind
  refine⟨ι2,a,b,μ2,s2,IsD.mono p2 x2 _ _ d1,d2,?_⟩
  rw[e3]
  intro ι3 vc H3 p3 x3 s3 d3
  obtain⟨d,μ4,e4,h⟩:=h.bind
  refine⟨ι3,σ,μ3,s3,((hL.mono p1 x1).mono p2 x2).mono p3 x3,?_⟩
  rw[e4]
  intro ι4 vd H4 p4 x4 s4 d4
  obtain⟨z,μ5,e5,h⟩:=h.bind
  refine⟨ι4,c,d,μ4,s4,IsD.mono p4 x4 _ _ d3,d4,?_⟩
  rw[e5]
  intro ι5 vz H5 p5 x5 s5 d5
  obtain⟨_,μ6,e6,h⟩:=h.bind
  refine⟨ι5,a,b,z,μ5,s5,IsD.mono p5 x5 _ _ (IsD.mono p4 x4 _ _ (IsD.mono p3 x3 _ _ (IsD.mono p2 x2 _ _ d1))),IsD.mono p5 x5 _ _ (IsD.mono p4 x4 _ _ (IsD.mono p3 x3 _ _ d2)),d5,?_⟩
  rw[e6]
  exact λι6 _ H6 p6 x6 s6 _=>h ι6 σv H6 (((((p1.trans p2).trans p3).trans p4).trans p5).trans p6) (((((x1.trans x2).trans x3).trans x4).trans x5).trans x6) s6 ((((((hL.mono p1 x1).mono p2 x2).mono p3 x3).mono p4 x4).mono p5 x5).mono p6 x6) hl
theorem P8 (hu:X.A.units+64<cLine) {o i:Expr} {xo xi:Ex} (ho:PE X o (tE X.K φ xo)) (hi:PE X i (tE X.K φ xi)) (hs:Xg i:=by intro _ _;rfl):PE X (.Subscript o i pos) (tE X.K φ (.dix xo xi)):=by
 refine PE.imp (Oz (by lia) ho hi hs) λσv H Q ⟨ι,σ,μ,hS,hL,h⟩=>?_
 simp![evE]at h
 obtain⟨d,μ1,e1,h⟩:=h.bind
 refine⟨ι,σ,μ,hS,hL,?_⟩
 rw[e1]
 intro ι1 x H1 p1 x1 s1 d1
 obtain⟨y,μ2,e2,h⟩:=h.bind
 refine⟨ι1,σ,μ1,s1,hL.mono p1 x1,?_⟩
 rw[e2]
 intro ι2 yv H2 p2 x2 s2 d2
 simp![Fc]at h
 cases ed:dictAt μ2 d y with
 | none=>simp![ed]at h;exact h.elim
 | some kvs =>
  simp![ed]at h
  obtain⟨p,q,xs,e4,rfl,rfl,hp,hk⟩:=vg s2 (IsD.mono p2 x2 _ _ d1) d2 ed
  cases e4
  have hv:=me (k:=q) hk
  cases eg:uz (kD q) kvs with
  | none=>simp![eg]at h;exact h.elim
  | some v =>
   simp![eg]at h
   rw[eg]at hv
   cases ev:xw xs q with
   | none=>rw[ev]at hv;exact hv.elim
   | some w =>
    have g:L6 H2 p (kV q) (xw xs q):=.inl ⟨_,_,hp,rfl,rfl⟩
    rw[ev]at g hv
    have hw:IsD X.K ι2 H2 v w:=hv
    exact⟨p,w,rfl,g,h ι2 w H2 (p1.trans p2) (x1.trans x2) s2 hw⟩
theorem Gf:∀(r:List Int) (x:Int),tm x r<=x/\(∀y∈r,tm x r<=y)/\(tm x r=x\/tm x r∈r)
 | [],x=>⟨FE _,by simp,.inl rfl⟩
 | y::r,x=>by
  have ih:=Gf r (if y<x then y else x)
  simp![tm]
  split at ih
  ·rename_i hlt
   rw[if_pos hlt]
   refine⟨by lia,λz hz=>?_,?_⟩
   ·rcases AG.mp hz with rfl | hz
    ·exact ih.1
    ·exact ih.2.1 z hz
   ·rcases ih.2.2 with e | e
    ·exact .inr (by rw[e];simp)
    ·exact .inr (AJ _ e)
  ·rename_i hlt
   rw[if_neg hlt]
   refine⟨ih.1,λz hz=>?_,?_⟩
   ·rcases AG.mp hz with rfl | hz
    ·lia
    ·exact ih.2.1 z hz
   ·rcases ih.2.2 with e | e
    ·exact .inl e
    ·exact .inr (AJ _ e)
theorem P9 {m:Mk} (hc:X.calm=true):dk X (.builtin "min") (nr X.K (btD .min1 m)):=by
 intro pins s σ H xs us Q I r ⟨ι,ds,μ,hS,hds,h⟩
 obtain⟨d,v,rfl,hv,h⟩:=gm hds h
 obtain⟨a,ns,rfl,hq,h⟩:=Al hS hv h
 obtain⟨u,rfl,ru⟩:=vals1 r
 cases(show u=Value.ref a from ru)
 cases ns with
 | nil=>exact h.elim
 | cons n0 r0 =>
 refine call_min_walk (o7 I hq (show X.A.in1.handled=none from I.ok.hd hc) λit fp its St s2 hvs W st hfp hI=>?_)
 have hl:(n0::r0).length=its.length:=by have:=hvs.length;simpa using this
 have at_:∀(i:Nat) w,its[i]? = some w->∃t,w=.int ((n0::r0).getD i 0) t:=λi w e=>by
  have hi:i<(n0::r0).length:=by rw[hl];exact(AC.mp e).1
  obtain⟨u',e1,⟨t,e2⟩⟩:=hvs.get (i:=i) (x:=.int (n0::r0)[i]) (by rw[AX,AA hi];rfl)
  rw[e]at e1;cases e1
  exact⟨t,by rw[e2];simp[AF,AA hi]⟩
 refine⟨it,fp,[it],its.length,_,St,λi j=>decide ((n0::r0).getD i 0<(n0::r0).getD j 0),rfl,W,st,hfp,by rw[<-hl];simp,CmpOf.ints_lt (λi=>(n0::r0).getD i 0) at_,λw h' tk hw hk=>?_⟩
 ·obtain⟨t,rfl⟩:=at_ _ w hw
  have ab:=argBest_lt (λi=>(n0::r0).getD i 0) (its.length-1)
  have ml:=Gf r0 n0
  have hl':r0.length+1=its.length:=by simpa using hl
  have e:(n0::r0).getD (argBest (λi j=>decide ((n0::r0).getD i 0<(n0::r0).getD j 0)) (its.length-1)) 0=tm n0 r0:=by
   apply HN
   ·have mem:tm n0 r0∈n0::r0:=by rcases ml.2.2 with e | e;(rw[e];simp);exact AJ _ e
    obtain⟨k,hk,ek⟩:=BZ.mp mem
    have:=ab.2 k (by simp at hk;lia)
    rw[<-ek]
    simpa[AF,AA hk]using this
   ·have hb:argBest (λi j=>decide ((n0::r0).getD i 0<(n0::r0).getD j 0)) (its.length-1)<(n0::r0).length:=by
     have:=ab.1
     simp![AU];lia
    generalize argBest (λi j=>decide ((n0::r0).getD i 0<(n0::r0).getD j 0)) (its.length-1)=b at hb
    have mem:(n0::r0).getD b 0∈n0::r0:=by
     rw[AF,AA hb]
     exact EG hb
    rcases AG.mp mem with e | e
    ·rw[e];exact ml.1
    ·exact ml.2.1 _ e
  exact⟨.int (tm n0 r0),H,hI h' tk hk,⟨t,by rw[e]⟩,h.ok hS (by simp[IsD])⟩
theorem Kt {m:Mk} {p:Pos} {e:Expr} {xs:Exs} (hm:X.mg "min"=none) (ha:PA X [e] (tEs X.K φ xs)) (hc:X.calm=true:=by rfl) (hg:Gl X "min":=by rfl) (he:starEach [e] X.env=(false,eval e X.env)::starEach [] X.env:=by rfl) (hpl:(backTo pos (starEach [] X.env)).any (·.1)=false:=by rfl) :
  PE X (.Call (.Name "min" p) [e] [] pos) (tE X.K φ (.blt .min1 m xs)):=jh (r:=λ_ _ _=>True) (es:=[]) (je (P9 hc) hg hm (by first | exact HW | decide +kernel) ha (by decide) (by decide) he hpl)
theorem Gg:∀(r:List Int) (x:Int),x<=Ec x r/\(∀y∈r,y<=Ec x r)/\(Ec x r=x\/Ec x r∈r)
 | [],x=>⟨FE _,by simp,.inl rfl⟩
 | y::r,x=>by
  have ih:=Gg r (if y > x then y else x)
  simp![Ec]
  split at ih
  ·rename_i hlt
   rw[if_pos hlt]
   refine⟨by lia,λz hz=>?_,?_⟩
   ·rcases AG.mp hz with rfl | hz
    ·exact ih.1
    ·exact ih.2.1 z hz
   ·rcases ih.2.2 with e | e
    ·exact .inr (by rw[e];simp)
    ·exact .inr (AJ _ e)
  ·rename_i hlt
   rw[if_neg hlt]
   refine⟨ih.1,λz hz=>?_,?_⟩
   ·rcases AG.mp hz with rfl | hz
    ·lia
    ·exact ih.2.1 z hz
   ·rcases ih.2.2 with e | e
    ·exact .inl e
    ·exact .inr (AJ _ e)
theorem Qa {m:Mk} (hc:X.calm=true):dk X (.builtin "max") (nr X.K (btD .max1 m)):=by
 intro pins s σ H xs us Q I r ⟨ι,ds,μ,hS,hds,h⟩
 obtain⟨d,v,rfl,hv,h⟩:=gm hds h
 obtain⟨a,ns,rfl,hq,h⟩:=Al hS hv h
 obtain⟨u,rfl,ru⟩:=vals1 r
 cases(show u=Value.ref a from ru)
 cases ns with
 | nil=>exact h.elim
 | cons n0 r0 =>
 refine call_max_walk (o7 I hq (show X.A.in1.handled=none from I.ok.hd hc) λit fp its St s2 hvs W st hfp hI=>?_)
 have hl:(n0::r0).length=its.length:=by have:=hvs.length;simpa using this
 have at_:∀(i:Nat) w,its[i]? = some w->∃t,w=.int ((n0::r0).getD i 0) t:=λi w e=>by
  have hi:i<(n0::r0).length:=by rw[hl];exact(AC.mp e).1
  obtain⟨u',e1,⟨t,e2⟩⟩:=hvs.get (i:=i) (x:=.int (n0::r0)[i]) (by rw[AX,AA hi];rfl)
  rw[e]at e1;cases e1
  exact⟨t,by rw[e2];simp[AF,AA hi]⟩
 refine⟨it,fp,[it],its.length,_,St,λi j=>decide ((n0::r0).getD i 0 > (n0::r0).getD j 0),rfl,W,st,hfp,by rw[<-hl];simp,CmpOf.ints_gt (λi=>(n0::r0).getD i 0) at_,λw h' tk hw hk=>?_⟩
 ·obtain⟨t,rfl⟩:=at_ _ w hw
  have ab:=argBest_gt (λi=>(n0::r0).getD i 0) (its.length-1)
  have ml:=Gg r0 n0
  have hl':r0.length+1=its.length:=by simpa using hl
  have e:(n0::r0).getD (argBest (λi j=>decide ((n0::r0).getD i 0 > (n0::r0).getD j 0)) (its.length-1)) 0=Ec n0 r0:=by
   apply Eq.symm
   apply HN
   ·have mem:Ec n0 r0∈n0::r0:=by rcases ml.2.2 with e | e;(rw[e];simp);exact AJ _ e
    obtain⟨k,hk,ek⟩:=BZ.mp mem
    have:=ab.2 k (by simp at hk;lia)
    rw[<-ek]
    simpa[AF,AA hk]using this
   ·have hb:argBest (λi j=>decide ((n0::r0).getD i 0 > (n0::r0).getD j 0)) (its.length-1)<(n0::r0).length:=by
     have:=ab.1
     simp![AU];lia
    generalize argBest (λi j=>decide ((n0::r0).getD i 0 > (n0::r0).getD j 0)) (its.length-1)=b at hb
    have mem:(n0::r0).getD b 0∈n0::r0:=by
     rw[AF,AA hb]
     exact EG hb
    rcases AG.mp mem with e | e
    ·rw[e];exact ml.1
    ·exact ml.2.1 _ e
  exact⟨.int (Ec n0 r0),H,hI h' tk hk,⟨t,by rw[e]⟩,h.ok hS (by simp[IsD])⟩
theorem Ku {m:Mk} {p:Pos} {e:Expr} {xs:Exs} (hm:X.mg "max"=none) (ha:PA X [e] (tEs X.K φ xs)) (hc:X.calm=true:=by rfl) (hg:Gl X "max":=by rfl) (he:starEach [e] X.env=(false,eval e X.env)::starEach [] X.env:=by rfl) (hpl:(backTo pos (starEach [] X.env)).any (·.1)=false:=by rfl) :
  PE X (.Call (.Name "max" p) [e] [] pos) (tE X.K φ (.blt .max1 m xs)):=jh (r:=λ_ _ _=>True) (es:=[]) (je (Qa hc) hg hm (by first | exact PyProof.Rows.boot_max | decide +kernel) ha (by decide) (by decide) he hpl)
theorem Kv (ns:List Int):bz (ns.map D.int)=some ns:=by
 induction ns with
 | nil=>rfl
 | cons n r ih=>simp[bz,ih]
theorem Bv:∀{ds:List D} {ns:List Int},bz ds=some ns->ns.map D.int=ds
 | [],ns,h=>by simp[bz]at h;subst h;rfl
 | .int i::r,ns,h=>by
  simp![bz]at h
  cases e:bz r with
  | none=>rw[e]at h;simp at h
  | some q =>
   rw[e]at h
   simp at h
   subst h
   rw[AO,Bv e]
 | .non::_,_,h=>by simp[bz]at h
 | .bl _::_,_,h=>by simp[bz]at h
 | .str _::_,_,h=>by simp[bz]at h
 | .tup _::_,_,h=>by simp[bz]at h
 | .lst _::_,_,h=>by simp[bz]at h
 | .loc _::_,_,h=>by simp[bz]at h
end
end Lp
namespace Lp.Sets
open PySem PySem.W PyProof.Rows PySem.Calls
theorem Bw:∀{vs:List Value} {ns:List Int},IntsAre vs ns->vs.length=ns.length
 | _,_,.nil=>rfl
 | _,_,.cons n t r=>by simp[Bw r]
def intOf:Value->Int
 | .int n _=>n
 | _=>0
theorem ints_of:∀{vs:List Value} {ns:List Int},IntsAre vs ns->ns=vs.map intOf/\∀v∈vs,∃n t,v=.int n t
 | _,_,.nil=>⟨rfl,λv h=>by simp at h⟩
 | _,_,.cons n t r=>by
  obtain⟨e,h⟩:=ints_of r
  refine⟨by rw[AO,<-e];rfl,λv hv=>?_⟩
  rcases AG.mp hv with rfl | hv
  ·exact⟨n,t,rfl⟩
  ·exact h v hv
end Lp.Sets
namespace Lp
open PySem PySem.Spec PyProof.Rows L2
namespace Sets
theorem insI_perm (x:Int):∀l:List Int,(insI x l).Perm (x::l)
 | []=>.refl _
 | y::r=>by
  unfold insI
  split
  ·exact .refl _
  ·exact((insI_perm x r).cons y).trans (List.Perm.swap ..)
theorem sortI_perm:∀l:List Int,(sortI l).Perm l
 | []=>.refl _
 | x::r=>(insI_perm x (sortI r)).trans ((sortI_perm r).cons x)
theorem Gh (x:Int):∀l:List Int,l.Pairwise (·<=·)->(insI x l).Pairwise (·<=·)
 | [],_=>by simp[insI]
 | y::r,h=>by
  obtain⟨h1,h2⟩:=CI.mp h
  unfold insI
  split
  ·rename_i hc
   refine CI.mpr ⟨λz hz=>?_,h⟩
   rcases AG.mp hz with rfl | hz
   ·exact hc
   ·exact Int.le_trans hc (h1 z hz)
  ·rename_i hc
   refine CI.mpr ⟨λz hz=>?_,Gh x r h2⟩
   rcases AG.mp ((insI_perm x r).mem_iff.mp hz)with rfl | hz
   ·lia
   ·exact h1 z hz
theorem vn:∀l:List Int,(sortI l).Pairwise (·<=·)
 | []=>.nil
 | x::r=>Gh x _ (vn r)
theorem Ar:∀{l m:List Int},l.Perm m->l.Pairwise (·<=·)->m.Pairwise (·<=·)->l=m
 | [],m,p,_,_=>(List.nil_perm.mp p).symm
 | x::l,[],p,_,_=>by have:=p.length_eq;simp at this
 | x::l,y::m,p,h1,h2=>by
  obtain⟨a1,a2⟩:=CI.mp h1
  obtain⟨b1,b2⟩:=CI.mp h2
  have e:x=y:=by
   have hx:x∈y::m:=p.mem_iff.mp AT
   have hy:y∈x::l:=p.mem_iff.mpr AT
   rcases AG.mp hx with e | hx
   ·exact e
   ·rcases AG.mp hy with e | hy
    ·exact e.symm
    ·exact HN (a1 y hy) (b1 x hx)
  subst e
  rw[Ar (List.Perm.cons_inv p) a2 b2]
theorem vals_ints:∀{ns:List Int} {us:List Value},bh (ns.map V.int) us->IntsAre us ns
 | [],[],_=>.nil
 | n::r,u::us,h=>by
  cases h with
  | cons h1 h2 =>
   obtain⟨t,rfl⟩:=h1
   exact .cons n t (vals_ints h2)
 | [],u::us,h=>by cases h
 | n::r,[],h=>by cases h
theorem qq:∀{us:List Value} {ns:List Int},IntsAre us ns->bh (ns.map V.int) us
 | _,_,.nil=>.nil
 | _,_,.cons n t r=>.cons ⟨t,rfl⟩ (qq r)
end Sets
section
variable {X : Cx} {φ : Phi} {o e : Expr} {es : List Expr} {xo : Ex} {xs : Exs} {apos cpos : Pos}
def rInsert:V->List V->Hp->VK->Prop:=λx vs H Q=>∃l xs i y,x=.ref l/\vs=[.int i,y]/\H l=some (.lst xs)/\0<=i/\i<=(xs.length:Int)/\xs.length<sizeLine/\Q .non (upd H l (.lst (xs.take i.toNat++y::xs.drop i.toNat)))
theorem Gi:MtM X "list.insert" rInsert:=by
 intro pins s σ H x vs v us Q I rx rv h
 obtain⟨l,xs,i,y,rfl,rfl,hH,h1,h2,hz,q⟩:=h
 cases rx
 obtain⟨a,u,rfl,ra,ru⟩:=vals2 rv
 obtain⟨t,rfl⟩:=ra
 obtain⟨z,its,n,r,hl,e⟩:=I.lstM hH
 have h24:sizeLine=16777216:=DL
 refine FL F.slot_list_insert ⟨_,e,rfl⟩ F.entry_list_insert (F.args_list_insert_3 _ _ _)
  (AutoSeq1.list_insert_list_int_val_1 l its.toArray n i t u (by rw[fitsIndex_both (k:=i) (by lia) (by lia)];decide) (by rw[AI];lia)) ⟨e,?_⟩
 refine⟨.non,_,I.lset (its':=its.take i.toNat++u::its.drop i.toNat) hH e ?_ ((r.take i.toNat).append (.cons ru (r.drop i.toNat))) ?_,rfl,q⟩
 ·have hk:(if i<0 then(i+((its.toArray.size:Nat):Int)).toNat else min i.toNat its.toArray.size)=i.toNat:=by
   rw[if_neg (by lia),AI];lia
  simp![hk]
  apply Array.toList_inj.mp
  simp
  exact DG (by simp)
 ·simp
  lia
theorem Kw:MtR X "list.insert" (rMt X.K .insert):=MtR.imp Gi λx vs H Q h0=>by
 obtain⟨ι,n,ob,xs,ds,μ,a,ws,hS,hds,rfl,ha,hH,h1,h2,h⟩:=Kl (by decide) h0
 clear h0
 simp![mtL]at h
 split at h
 ·rename_i i d
  obtain⟨v,w,rfl,hv,hw⟩:=Ft hds
  cases ck hv
  split at h
  ·rename_i hf
   rw[fg]at hf
   refine⟨a,ws,i,w,rfl,rfl,hH,hf.1,by rw[h1.length];exact hf.2.1,by rw[h1.length];exact hf.2.2.2,kg hS ha hH ((h1.take _).append ((af.one hw).append (h1.drop _))) (λes e=>((h2 es e).take _).append ((af.one (qk hf.2.2.1 hw es e)).append ((h2 es e).drop _))) (by simp[IsD]) h⟩
  ·exact h.elim
 ·exact h.elim
theorem As (ho:PE X o (tE X.K φ xo)) (ha:PA X (e::es) (tEs X.K φ xs)) (h5:Ma X o "insert" e es apos cpos:=by exact⟨rfl,rfl,rfl,rfl,rfl⟩):PE X (.Call (.Attribute o "insert" apos) (e::es) [] cpos) (tE X.K φ (.meth .insert xo xs)) :=
 F9 (kh λ_ _=>rfl) (Ow FI F.slot_list_insert F.type_list_insert Kw ho ha h5.b h5.f h5.l h5.s h5.p)
end
theorem Rh {α:Type} {Q:α->Prop}:∀(j:Nat) e,([]:List α)[j]? = some e->Q e:=λj e h=>by simp at h
theorem cx {α:Type} {Q:α->Prop} {a:α} {l:List α} (h:Q a) (t:∀(j:Nat) e,l[j]? = some e->Q e):∀(j:Nat) e,(a::l)[j]? = some e->Q e
 | 0,_,z=>by
  have z':some a=some _:=z
  cases z'
  exact h
 | j+1,_,z=>t j _ z
abbrev EXK:=Value->Hp->Prop
structure DerB (T:List Df) (e:Ent):Prop where
 sc:FnScope e.N e.ps (a8 e.st)
 tb:T[e.id]? = some e.df
 np:e.df.np=e.ps.length
 nn:e.df.nn=e.N.length
section
variable (T : List Df) (P : Program) (w : World) (K : PySem.W.Frag) (mg : Str -> Option Value) (base : Heap) (es xs qs : List Ent)
abbrev Cs (A:Around) (n:Nat):Prop:=∀(j:Nat) e',es[j]? = some e'->Callee P w K mg base A (ag T n) e'.id e'.name
end
section
variable {T : List Df} {P : Program} {w : World} {K : PySem.W.Frag} {mg : Str -> Option Value} {base : Heap} {es xs qs : List Ent}
abbrev Zm (K:PySem.W.Frag) (mg:Str->Option Value) (es:List Ent):Prop:=∀(j:Nat) e,es[j]? = some e->ModOf K mg e
end
end Lp
namespace PySem
open Builtin Builtin.ObjectAttr
section
variable {prog : Program} {w : World} {A : Around} {E : Value -> Shared -> Prop} {h : Heap} {g : Array GenState} {d : Drawn} {t : Nat} {os : OsState}
variable {nms : List Str} {nm q : Str} {C N x : Addr} {bs bm bmB : List Value} {sn : List Str} {sub : List Value} {ab : Bool} {col : Option Bool} {dd : Option Addr} {k0 k1 k2 k3 k5 : Option Value} {B newId sa owner : String}
 {mN mA:Str->Option Value} {name:Str} {v:Value}
end
end PySem
namespace L2
open PySem PySem.Spec PyProof.Rows
section
variable {prog : Program} {w : World} {A : Around} {E : Value -> Shared -> Prop} {h : Heap} {g : Array GenState} {d : Drawn} {t : Nat} {os : OsState}
variable {nms : List Str} {nm q : Str} {C N x : Addr} {bs bm bmB : List Value} {sn : List Str} {sub : List Value} {ab : Bool} {col : Option Bool} {dd : Option Addr} {k0 k1 k2 k3 k5 : Option Value} {B newId sa owner : String}
 {mN mA:Str->Option Value} {v:Value}
end
end L2
namespace Lp
open PySem PySem.Spec PyProof.Rows L2
section
variable {X : Cx} {φ : Phi} {c : Expr} {body : List Stmt} {xc : Ex} {xb : Sms} {pos : Pos}
theorem Kx {c:Sl->Sto->Res Bool} {b:Sl->Sto->Res Fl} {σ:Sl} {μ:Sto} (h:whR c b σ μ≠.stuck):∃n,whN c b n σ μ≠.stuck/\whR c b σ μ=whN c b n σ μ:=by
 unfold whR at h ⊢
 split at h
 ·rename_i ex
  rw[dif_pos ex]
  exact⟨_,ex.choose_spec,rfl⟩
 ·exact absurd rfl h
theorem Yk (hp:PassesOwn (model X.prog X.w) X.A X.env X.xe) (hc:PT X c (tT X.K φ xc)) (hb:PSs X body (tSs X.K φ xb)):PS X (.While c body [] pos) (tS X.K φ (.whl xc xb)) :=
 PS.imp (Jt hp hc hb) λE σv H ⟨ι,σ,μ,hS,hL,hl,h⟩=>by
  simp![evS]at h
  have hne:whR (λσ μ=>(evE φ xc σ μ).bind λd μ=>zz d μ) (λσ μ=>jy φ xb σ μ) σ μ≠.stuck:=λz=>by rw[z]at h;exact h
  obtain⟨n,hn,e⟩:=Kx hne
  rw[e]at h
  refine⟨λm σv' H'=>∃ι' σ' μ',Sim X.K ι' H' μ'/\l5 X.K ι' H' σ' σv'/\σ'.length=σv'.length/\f9 X.K ι' H' (whN (λσ μ=>(evE φ xc σ μ).bind λd μ=>zz d μ) (λσ μ=>jy φ xb σ μ) m σ' μ') E,⟨n,ι,σ,μ,hS,hL,hl,h⟩,?_⟩
  rintro m σv' H' ⟨ι',σ',μ',s',l',z',h'⟩
  cases m with
  | zero=>exact h'.elim
  | succ m =>
   simp![whN]at h'
   obtain⟨k,μ1,e1,h'⟩:=h'.bind
   refine⟨ι',σ',μ',s',l',?_⟩
   rw[e1]
   intro ι1 k' H1 p1 x1 s1 ek
   cases ek
   cases k with
   | true =>
    rw[if_pos rfl]at h' ⊢
    obtain⟨fl,μ2,e2,h2⟩:=h'.bind
    refine⟨λσ2 H2=>∃ι2 σs,Sim X.K ι2 H2 μ2/\l5 X.K ι2 H2 σs σ2/\σs.length=σ2.length/\f9 X.K ι2 H2 (whN (λσ μ=>(evE φ xc σ μ).bind λd μ=>zz d μ) (λσ μ=>jy φ xb σ μ) m σs μ2) E,?_,ι1,σ',μ1,s1,l'.mono p1 x1,z',?_⟩
    ·rintro σ2 H2 ⟨ι2,σs,q1,q2,q3,q4⟩
     exact⟨m,Do _,ι2,σs,μ2,q1,q2,q3,q4⟩
    ·rw[e2]
     cases fl with
     | nx σ3=>exact λι3 σv3 H3 p3 x3 s3 l3 z3=>⟨ι3,σ3,s3,l3,z3,(show f9 _ _ _ (whN _ _ m σ3 μ2) _ from h2).mono (p1.trans p3) (x1.trans x3)⟩
     | ct σ3=>exact λι3 σv3 H3 p3 x3 s3 l3 z3=>⟨ι3,σ3,s3,l3,z3,(show f9 _ _ _ (whN _ _ m σ3 μ2) _ from h2).mono (p1.trans p3) (x1.trans x3)⟩
     | bk σ3=>exact(show f9 _ _ _ (.ok (.nx σ3) μ2) _ from h2).mono p1 x1
     | rt w=>exact(show f9 _ _ _ (.ok (.rt w) μ2) _ from h2).mono p1 x1
   | false =>
    rw[if_neg BB]at h' ⊢
    exact h' ι1 σv' H1 p1 x1 s1 (l'.mono p1 x1) z'
theorem Ky (hc:PT X c (tT X.K φ xc)) (hb:PSs X body (tSs X.K φ xb)) (hp:PassesOwn (model X.prog X.w) X.A X.env X.xe:=by exact PassesOwn.never):PS X (.While c body [] pos) (tS X.K φ (.whl xc xb)):=Yk hp hc hb
end
theorem t8 {K:PySem.W.Frag} {ι:List Addr} {H:Hp} {μ:Sto} {r:Res D} {Q:VK} (hS:Sim K ι H μ) (h:du K (RD K) ι H (Ac μ.length r) Q):du K (RD K) ι H r Q:=by
 cases r with
 | exc c ds μ'=>exact h
 | stuck=>exact h
 | ok d μ' =>
  simp![Ac]at h
  split at h
  ·rename_i hc
   rw[<-hS.len]at hc h
   split at h
   ·rename_i hb
    exact λι' v H' p e s q=>h ι v H' (AH _) e (s.cut p hc) (IsD.belowN p 8 d v hb q)
   ·rename_i hb
    split at h
    ·rename_i n
     split at h
     ·rename_i o eo
      split at h
      ·rename_i hs
       intro ι' v H' p e s q
       obtain⟨a,rfl,ha⟩:∃a,v=.ref a/\ι'[n]? = some a:=by simpa[RD,IsD]using q
       have hn:ι.length<=n:=by
        rcases Nat.lt_or_ge n ι.length with z | z
        ·exact absurd (by simp[D.belowN,z]) hb
        ·exact z
       have hnm:a∉ι:=λz=>by
        obtain⟨t,rfl⟩:=p
        obtain⟨j,hj,ej⟩:=BZ.mp z
        have h1:(ι++t)[j]? = some a:=by rw[AK hj,AA hj,ej]
        obtain⟨k1,k2⟩:=AC.mp h1
        obtain⟨k3,k4⟩:=AC.mp ha
        have:=(ES s.nd).mp (k2.trans k4.symm)
        lia
       have c:=s.cut p hc
       have ho:=s.obj n a o ha eo
       refine h (ι++[a]) (.ref a) H' ⟨[a],rfl⟩ e ⟨?_,?_,λm b ob e1 e2=>?_⟩ ?_
       ·have:=c.len
        simp![BD,CS];lia
       ·refine GM.mpr ⟨c.nd,by simp,λx hx y hy=>?_⟩
        have:y=a:=by simpa using hy
        subst this
        exact λz=>hnm (z ▸ hx)
       ·by_cases hm:m<ι.length
        ·rw[AK hm]at e1
         rw[AK (by rw[<-c.len];exact hm)]at e2
         obtain⟨u,hu⟩:=c.used e1
         exact(c.obj m b ob e1 e2).mono ⟨[a],rfl⟩ (.refl _) rfl
        ·have hm':m=ι.length:=by
          have:=(AC.mp e1).1
          simp at this;lia
         subst hm'
         have ea:a=b:=by simpa using e1
         have eb:o=ob:=by
          have e3:(μ'.take ι.length++[o])[ι.length]? = some o:=by
           rw[AZ (Nat.le_of_eq c.len.symm),<-c.len,Nat.sub_self];rfl
          rw[e3]at e2;exact BH e2
         subst ea;subst eb
         cases o with
         | l ds=>exact ho
         | d kvs=>exact ho
         | dt kvs=>exact ho
         | fd kvs=>exact ho
         | r _=>cases hs
         | x _=>cases hs
         | o _ _=>cases hs
         | dr _=>cases hs
         | dead=>cases hs
       ·show IsD _ _ _ _ _
        simp![IsD]
        exact⟨a,rfl,by simp⟩
      ·exact h.elim
     ·exact h.elim
    ·exact h.elim
  ·exact h.elim
theorem Dq {K:PySem.W.Frag} {ι:List Addr} {H:Hp} {μ:Sto} {r:Res D} {Q:VK} {k1:Bool} (hS:Sim K ι H μ) (h:du K (RD K) ι H (Fd k1 μ.length r) Q):du K (RD K) ι H r Q:=by
 unfold Fd at h
 split at h
 ·exact t8 hS h
 ·exact yo hS h
section
variable {X : Cx} {φ : Phi} {x : Str} {p pos : Pos} {e : Expr} {es : List Expr} {xs : Exs} {f : Nat}
theorem vo (C:Callee X.prog X.w X.K X.mg X.base X.A φ f x) (ha:PA X (e::es) (tEs X.K φ xs)) (hg:Gl X x:=by rfl) (hdb:(x==("__debug__":Str))=false:=by decide)
  (he:starEach (e::es) X.env=(false,eval e X.env)::starEach es X.env:=by rfl) (hpl:(backTo pos (starEach es X.env)).any (·.1)=false:=by rfl):PE X (.Call (.Name x p) (e::es) [] pos) (tE X.K φ (.callK f xs)):=by
 obtain⟨k,fa,fd,ps,F,hr,hm,hk,hb⟩:=C
 refine PE.imp (Et F hr.1 hg hm hk hb .nil E7 ha hdb he hpl) λσv H Q ⟨ι,σ,μ,hS,hL,h⟩=>?_
 simp![evE]at h
 obtain⟨ds,μ1,e1,h⟩:=h.bind
 refine⟨ι,σ,μ,hS,hL,?_⟩
 rw[e1]
 intro ι1 vs H1 p1 x1 s1 d1
 exact⟨ι1,ds,μ1,s1,by rw[DP];exact d1,t8 s1 (h.mono p1 x1)⟩
end
def CF (K:PySem.W.Frag):Prop:=∀(c f:Str) (C:Addr),PySem.W.nsIn K mainGlobals c=some (some (.ref C))->yg c f=true->Cls K C/\l7 K C f
theorem qr {K:PySem.W.Frag} {ι:List Addr} {H:Hp} {f:Str}:∀{fs:List (Str×D)} {xs:List (Str×V)},FsD K ι H fs xs ->
  (∀d,fs.lookup f=some d->∃v,xs.lookup f=some v/\IsD K ι H d v)/\(fs.lookup f=none->xs.lookup f=none)
 | _,_,.nil=>⟨λd e=>by simp at e,λ_=>rfl⟩
 | (g,d)::r,(k,v)::q,.cons z t=>by
  obtain⟨z1,z2⟩:=z
  have z1':g=k:=z1
  subst z1'
  have ih:=qr (f:=f) t
  simp![BL]
  cases hb:f==g with
  | true=>exact⟨λe he=>by cases he;exact⟨v,rfl,z2⟩,λhe=>by cases he⟩
  | false=>exact ih
theorem Ur {K:PySem.W.Frag} {ι:List Addr} {H:Hp} {fs:List (Str×D)} {xs:List (Str×V)} (h:FsD K ι H fs xs):xs.length=fs.length:=(DB h).symm
theorem Mn {K:PySem.W.Frag} {ι:List Addr} {H:Hp} {f:Str} {d:D} {v:V} (hd:IsD K ι H d v):∀{fs:List (Str×D)} {xs:List (Str×V)},FsD K ι H fs xs->FsD K ι H (Tj f d fs) (uo f v xs)
 | _,_,.nil=>.cons ⟨rfl,hd⟩ .nil
 | (g,e)::r,(k,w)::q,.cons z t=>by
  obtain⟨z1,z2⟩:=z
  have z1':g=k:=z1
  subst z1'
  unfold Tj uo
  split
  ·exact .cons ⟨rfl,hd⟩ t
  ·exact .cons ⟨rfl,z2⟩ (Mn hd t)
theorem Gj {K:PySem.W.Frag} {ι:List Addr} {H:Hp} {μ:Sto} {d:D} {v:V} {n:Nat} {c:Str} {fs:List (Str×D)} (hS:Sim K ι H μ) (hd:IsD K ι H d v) (e:objOf μ d=some (n,c,fs)) :
  ∃a C dx xs,v=.ref a/\ι[n]? = some a/\μ[n]? = some (.o c fs)/\PySem.W.nsIn K mainGlobals c=some (some (.ref C))/\H a=some (.ins C dx xs)/\FsD K ι H fs xs:=by
 cases d with
 | loc m =>
  simp![objOf]at e
  split at e
  ·rename_i c' fs' em
   cases e
   obtain⟨a,rfl,ha⟩:∃a,v=.ref a/\ι[n]? = some a:=by simpa[IsD]using hd
   obtain⟨a',ea,ho⟩:=hS.at em
   rw[ha]at ea;cases ea
   obtain⟨C,dx,xs,n1,n2,n3⟩:=ho
   exact⟨a,C,dx,xs,rfl,ha,em,n1,n2,n3⟩
  ·cases e
 | _=>simp[objOf]at e
section
variable {X : Cx} {φ : Phi} {a o e : Expr} {xa xo xe : Ex} {f m : Str} {pos pos' apos : Pos} {es : List Expr} {xs : Exs}
theorem eu (cf:CF X.K) (ha:PE X a (tE X.K φ xa)) (hb:attributeBase a f X.env (eval a X.env)=eval a X.env:=by rfl):PE X (.Attribute a f pos) (tE X.K φ (.att xa f)) :=
 PE.imp (Sf ha hb) λσv H Q ⟨ι,σ,μ,hS,hL,h⟩=>by
  simp![evE]at h
  obtain⟨d,μ1,e1,h⟩:=h.bind
  refine⟨ι,σ,μ,hS,hL,?_⟩
  rw[e1]
  intro ι1 v H1 p1 x1 s1 d1
  have h:=h.mono p1 x1
  unfold Ed at h
  cases eo:objOf μ1 d with
  | none=>simp![eo]at h;exact h.elim
  | some t =>
   obtain⟨n,c,fs⟩:=t
   simp![eo]at h
   obtain⟨b,C,dx,ys,rfl,hb,em,hn,hH,hf⟩:=Gj s1 d1 eo
   split at h
   ·rename_i hk
    obtain⟨cl,na⟩:=cf c f C hn hk
    split at h
    ·rename_i v0 ev
     obtain⟨w,ew,hw⟩:=(qr hf).1 v0 ev
     exact⟨b,C,dx,ys,w,rfl,hH,cl,na,ew,h.ok s1 hw⟩
    ·exact h.elim
   ·exact h.elim
theorem Bx (cf:CF X.K) (ho:PE X o (tE X.K φ xo)) (he:PE X e (tE X.K φ xe)) (hs:swapsWith e (some (.Attribute o f pos')) pos.line X.env=pure false:=by rfl):PS X (.Assign [.Attribute o f pos'] e pos) (tS X.K φ (.seta xo f xe)) :=
 PS.imp (Sg ho he hs) λD σv H ⟨ι,σ,μ,hS,hL,hl,h⟩=>by
  simp![evS]at h
  obtain⟨d,μ1,e1,h⟩:=h.bind
  refine⟨ι,σ,μ,hS,hL,?_⟩
  rw[e1]
  intro ι1 y H1 p1 x1 s1 d1
  obtain⟨x,μ2,e2,h⟩:=h.bind
  refine⟨ι1,σ,μ1,s1,hL.mono p1 x1,?_⟩
  rw[e2]
  intro ι2 v H2 p2 x2 s2 d2
  have h:=(h.mono p1 x1).mono p2 x2
  unfold sj at h
  cases eo:objOf μ2 x with
  | none=>simp![eo]at h;exact h.elim
  | some t =>
   obtain⟨n,c,fs⟩:=t
   simp![eo]at h
   obtain⟨b,C,dx,ys,rfl,hb,em,hn,hH,hf⟩:=Gj s2 d2 eo
   split at h
   ·rename_i hk
    obtain⟨cl,na⟩:=cf c f C hn hk.1
    refine⟨b,C,dx,ys,rfl,hH,cl,na,by rw[Ur hf];lia,?_⟩
    have hx:Ext H2 (upd H2 b (.ins C dx (uo f y ys))):=.ins hH
    refine h ι2 σv _ (AH _) hx (s2.put hb hx ⟨C,dx,_,hn,aq,?_⟩) (((hL.mono p1 x1).mono p2 x2).mono (AH _) hx) hl
    exact Paired.mapP (Mn (IsD.mono p2 x2 _ _ d1) hf) λp r z=>⟨z.1,IsD.mono (AH _) hx _ _ z.2⟩
   ·exact h.elim
def vp (P:Program) (w:World) (K:PySem.W.Frag) (mg:Str->Option Value) (base:Heap) (A:Around) (φ:Phi) (f:Nat) (c m:Str):Prop :=
 ∃(k:Nat) (C fa:Addr) (fd:FuncData) (ps:List Str),FnOk P w K mg base CX0 k fa fd ps (spD K φ f)/\uq k A/\PySem.W.nsIn K mainGlobals c=some (some (.ref C))/\mg c=some (.ref C)/\Cls K C/\Meth K C m fa/\Binds K fd ps []
def MkC (K:PySem.W.Frag) (c:Str):Prop:=∀C:Addr,PySem.W.nsIn K mainGlobals c=some (some (.ref C))->PySem.W.makesIn K C=true/\PySem.W.keepIn K (.ref C)=true
theorem Kz {c:Str} {d:D} {μ:Sto} (h:isObj c m d μ=true):∃n fs,objOf μ d=some (n,c,fs)/\fs.lookup m=none:=by
 unfold isObj at h
 split at h
 ·rename_i n c' fs e
  simp![AY,decide_eq_true_eq]at h
  obtain⟨rfl,h⟩:=h
  exact⟨n,fs,e,by simpa using h⟩
 ·cases h
theorem yq {c:Str} {fi:Nat} {k1:Bool} {C:Addr} {σv:St} {H:Hp} {Q:VK} (hC:PySem.W.nsIn X.K mainGlobals c=some (some (.ref C))) (h:tE X.K φ (.mcall k1 c m fi xo xs) σv H Q) :
  Oj C m (spD X.K φ fi) [] E0 (tE X.K φ xo) (tEs X.K φ xs) σv H Q:=by
 obtain⟨ι,σ,μ,hS,hL,h⟩:=h
 simp![evE]at h
 obtain⟨d,μ1,e1,h⟩:=h.bind
 refine⟨ι,σ,μ,hS,hL,?_⟩
 rw[e1]
 intro ι1 v H1 p1 x1 s1 d1
 have h:=h.mono p1 x1
 split at h
 ·rename_i hi
  obtain⟨n,fs,eo,hn⟩:=Kz hi
  obtain⟨b,C',dx,ys,rfl,hb,em,hc,hH,hf⟩:=Gj s1 d1 eo
  rw[hC]at hc;cases hc
  refine⟨b,dx,ys,rfl,hH,(qr hf).2 hn,?_⟩
  obtain⟨ds,μ2,e2,h⟩:=h.bind
  refine⟨ι1,σ,μ1,s1,hL.mono p1 x1,?_⟩
  rw[e2]
  intro ι2 vs H2 p2 x2 s2 d2
  refine⟨ι2,d::ds,μ2,s2,?_,Dq s2 (h.mono p2 x2)⟩
  simp![af,DP]
  exact⟨_,_,rfl,IsD.mono p2 x2 _ _ d1,d2⟩
 ·exact h.elim
theorem Gk {c:Str} {fi:Nat} {k1:Bool} {pl:Sem Bool} (C:vp X.prog X.w X.K X.mg X.base X.A φ fi c m) (ho:PE X o (tE X.K φ xo)) (ha:PA X (e::es) (tEs X.K φ xs))
  (hst:starEach (e::es) X.env=(false,eval e X.env)::starEach es X.env:=by rfl) (hpl:(backTo pos (starEach es X.env)).any (·.1)=false:=by rfl)
  (ht:eval (.Call (.Attribute o m apos) (e::es) [] pos) X.env=(do
   let ov <-eval o X.env
   standAt apos.atName
   let (f,first) <-holding [ov] (getMethod ov m pl)
   callWith pos f first (backTo pos (starEach (e::es) X.env)) (backToKw pos (keywordEach [] X.env))):=by rfl) :
  PE X (.Call (.Attribute o m apos) (e::es) [] pos) (tE X.K φ (.mcall k1 c m fi xo xs)):=by
 obtain⟨k,C,fa,fd,ps,F,hr,hc,hg,cl,hm,hb⟩:=C
 exact PE.imp (Ol ho cl hm F hr.1 hb .nil E7 ha hst hpl ht) λσv H Q h=>yq hc h
theorem Qb {c:Str} {fi:Nat} {k1:Bool} {pl:Sem Bool} (C:vp X.prog X.w X.K X.mg X.base X.A φ fi c m) (ho:PE X o (tE X.K φ xo))
  (ht:eval (.Call (.Attribute o m apos) [] [] pos) X.env=(do
   let ov <-eval o X.env
   standAt apos.atName
   let (f,first) <-holding [ov] (getMethod ov m pl)
   callWith pos f first (backTo pos (starEach [] X.env)) (backToKw pos (keywordEach [] X.env))):=by rfl) :
  PE X (.Call (.Attribute o m apos) [] [] pos) (tE X.K φ (.mcall k1 c m fi xo .nil)):=by
 obtain⟨k,C,fa,fd,ps,F,hr,hc,hg,cl,hm,hb⟩:=C
 refine PE.imp (Jy ho cl hm F hr.1 hb .nil E7 ht) λσv H Q h=>?_
 obtain⟨ι,σ,μ,hS,hL,z⟩:=yq hc h
 refine⟨ι,σ,μ,hS,hL,z.imp λv H' ⟨a,dx,fs,e1,e2,e3,z⟩=>⟨a,dx,fs,e1,e2,e3,?_⟩⟩
 obtain⟨ι2,σ2,μ2,s2,l2,z⟩:=z
 simp![eh]at z
 exact z.ok s2 (by simp[af])
theorem Gm {CX:CXT} {k:Nat} {g C:Addr} {fd:FuncData} {ps:List Str} {sp:Sp} {dvs:List V} {ds:List Value} {E:XK} {pins:List (Addr×Obj)} {σ:St} {H:Hp} {s:Shared} {Q:VK} {us:List Value} {vs:List V} (M:L2.Mk X.K C g) (F:FnOk X.prog X.w X.K X.mg X.base CX k g fd ps sp) (hr:uq k X.A) (hb:Binds X.K fd ps ds) (hd:bh dvs ds)
  (hx:sy CX X E) (I:Inv X pins σ H s) (r:bh vs us)
  (h:∀x dx,H x=none->H dx=none->dx≠x->sp (.ref x::(vs++dvs)) (upd (upd H dx (.own x)) x (.ins C dx [])) (λv H2=>v=.non/\Q (.ref x) H2) E) :
  wpAny (model X.prog X.w) X.A (call (.ref C) us) (EP X pins σ Q) X.xe s:=by
 have hq:=h (s.heap.objs.size+1) s.heap.objs.size (I.hok.fresh (GJ _)) (I.hok.fresh (AN _)) (BA (Do _))
 have I2:=Inv.made (C:=C) I
 have r2:bh (V.ref (s.heap.objs.size+1)::(vs++dvs)) (Value.ref (s.heap.objs.size+1)::(us++ds)):=.cons rfl (r.append hd)
 have hl:(Value.ref (s.heap.objs.size+1)::us++ds).length=ps.length:=by
  have e:=r2.length
  rw[F.len _ _ _ _ hq]at e
  exact e.symm
 refine wpAny_call (Jx (f:=g) I.kIn M.makes M.init (beq_iff_eq.mp M.fn) (FV (F.run _ X.stack _ _ ⟨Value.ref (s.heap.objs.size+1)::us,[]⟩ (Value.ref (s.heap.objs.size+1)::(us++ds)) _ _ E (hr.2 C us [])
  (I2.env0.make C us []) (hb _ (Value.ref (s.heap.objs.size+1)::us) I2.kIn hl) r2 hq) λr s' hq'=>?_))
 cases r with
 | error e=>exact hx pins σ _ _ e s' I2 hq'
 | ok fl =>
  cases fl with
  | ret u =>
   obtain⟨v,H',I3,rv,ev,q3⟩:=I2.after hq'
   subst ev
   exact⟨rv,⟨V.ref (s.heap.objs.size+1),H',I3,rfl,q3⟩⟩
  | next=>exact False.elim hq'
  | brk=>exact False.elim hq'
  | cont=>exact False.elim hq'
theorem Us {c:Str} {fi:Nat} {p:Pos} (C:vp X.prog X.w X.K X.mg X.base X.A φ fi c "__init__") (mk:MkC X.K c) (ha:PA X (e::es) (tEs X.K φ xs)) (hg:Gl X c:=by rfl) (hdb:(c==("__debug__":Str))=false:=by decide)
  (he:starEach (e::es) X.env=(false,eval e X.env)::starEach es X.env:=by rfl) (hpl:(backTo pos (starEach es X.env)).any (·.1)=false:=by rfl) :
  PE X (.Call (.Name c p) (e::es) [] pos) (tE X.K φ (.make c fi xs)):=by
 obtain⟨k,C,fa,fd,ps,F,hr,hc,hgc,cl,hm,hb⟩:=C
 obtain⟨m1,m2⟩:=mk C hc
 refine PE.imp (t:=Xb C (spD X.K φ fi) [] E0 (tEs X.K φ xs)) ?_ λσv H Q ⟨ι,σ,μ,hS,hL,h⟩=>?_
 ·intro pins s σ H Q I h
  refine EZ (Ei I hg hgc ?_ hdb)
  refine Go (h₀:=X.base) I.ok.mod.kin m2 (thn (ha pos pins s σ H _ I h) λus s1 ⟨vs,H1,I1,r,q⟩=>⟨I1.kIn,?_⟩) he hpl
  exact Gm ⟨m1,hm.at_,hm.fn,m2⟩ F hr hb .nil E7 I1 r q
 ·simp![evE]at h
  obtain⟨ds,μ1,e1,h⟩:=h.bind
  refine⟨ι,σ,μ,hS,hL,?_⟩
  rw[e1]
  intro ι1 vs H1 p1 x1 s1 d1 x dx hx hdx hne
  have h:=h.mono p1 x1
  have s2:=s1.new (o:=.own x) hdx
  have hx2:upd H1 dx (.own x) x=none:=by rw[ao (Ne.symm hne)];exact hx
  have s3:Sim X.K (ι1++[x]) (upd (upd H1 dx (.own x)) x (.ins C dx [])) (μ1++[.o c []]):=s2.push hx2 ⟨C,dx,[],hc,aq,.nil⟩
  have x3:Ext H1 (upd (upd H1 dx (.own x)) x (.ins C dx [])):=(Ext.new hdx).trans (.new hx2)
  refine⟨ι1++[x],.loc μ1.length::ds,μ1++[.o c []],s3,?_,?_⟩
  ·simp![af,DP,IsD]
   exact⟨_,_,rfl,⟨x,rfl,by rw[<-s1.len];simp⟩,af.mono ⟨[x],rfl⟩ x3 _ _ d1⟩
  ·unfold J9 at h
   split at h
   ·rename_i μ' er
    rw[er]
    intro ι' v H' p e s q
    have ev:v=.non:=by simpa[RD,IsD]using q
    refine⟨ev,h ι' (.ref x) H' (List.IsPrefix.trans ⟨[x],rfl⟩ p) (x3.trans e) s ?_⟩
    show IsD _ _ _ _ _
    simp![IsD]
    obtain⟨t,rfl⟩:=p
    exact⟨x,rfl,by rw[BY,<-s1.len];simp⟩
   ·exact h.elim
end
section
variable {X : Cx} {φ : Phi} {a : Expr} {xa : Ex}
theorem K0 (ha:PE X a (tE X.K φ xa)) (he:∀whole,isTrue a X.env whole=(do let v <-whole;standAt a.pos;holding [v] (truthy v)):=by intro _;rfl):PT X a (tT X.K φ (.tru xa)) :=
 PT.imp (Bg ha he) λσv H Q ⟨ι,σ,μ,hS,hL,h⟩=>by
  simp![evE]at h
  rw[Res.bind_assoc]at h
  obtain⟨d,μ1,e1,h⟩:=h.bind
  refine⟨ι,σ,μ,hS,hL,?_⟩
  rw[e1]
  intro ι1 v H1 p1 x1 s1 d1
  have h:=h.mono p1 x1
  have seq:∀x,(match bj μ1 x with
    | some xs=>Res.ok (D.bl (!xs.isEmpty)) μ1
    | none=>.stuck)=truD x μ1\/∃b,x=.bl b:=λx=>by
   cases x with
   | bl b=>exact .inr ⟨b,rfl⟩
   | _=>exact .inl rfl
  rcases seq d with e | ⟨b,rfl⟩
  ·rw[<-e]at h
   cases es:bj μ1 d with
   | none=>simp![es]at h;exact h.elim
   | some ds =>
    simp![es]at h
    obtain⟨p,ys,rfl,hq,hds⟩:=qe s1 d1 es
    refine⟨!ds.isEmpty,?_,(show du X.K RB ι1 H1 (.ok (!ds.isEmpty) μ1) Q from h).ok s1 rfl⟩
    have el:ys.isEmpty=ds.isEmpty:=by
     have:=hds.length
     cases ys<;>cases ds<;>simp_all
    rw[<-el]
    rcases hq with hq | hq
    ·exact .inl ⟨ys,hq.sq,rfl⟩
    ·exact .inr (.inl ⟨ys,hq,rfl⟩)
  ·have ev:v=.bl b:=by simpa[RD,IsD]using d1
   subst ev
   exact⟨b,rfl,(show du X.K RB ι1 H1 (.ok b μ1) Q from h).ok s1 rfl⟩
end
section
variable {X : Cx} {pins : List (Addr × Obj)} {σ : St} {H : Hp} {s : Shared} {φ : Phi}
theorem Qc {k:Key} {v:Value} (h:wy k v=true):RelV (kV k) v:=by
 rcases bg h with⟨i,t,rfl,rfl⟩ | ⟨x,t,rfl,rfl⟩
 ·exact⟨t,rfl⟩
 ·exact⟨t,rfl⟩
def Itk (a:Addr) (o:Obj) (xs:List (Key×V)):L2.It :=
 ⟨λi H=>H a=some (.frz o (.dK xs))/\i<xs.length,λi H x H'=>H'=H/\∃k v,xs[i]? = some (k,v)/\x=kV k,λi H=>H a=some (.frz o (.dK xs))/\xs.length<=i⟩
theorem Gn {P:Program} {w:World} {K:PySem.W.Frag} {tg:Expr} {a it:Addr} {o:Obj} {xs:List (Key×V)} {ep:Nat} (hep:∃es,o.data=.dict es ep) :
  Turn P w K tg (Itk a o xs) [it] it (λi h=>h.IsKeyIter it a i xs.length ep) where
 mem:=by simp
 obj:=λi h st b hb=>by
  have e:b=it:=by simpa using hb
  subst e
  obtain⟨o,e,c,d⟩:=st
  exact⟨o,e,λv z=>by rw[d]at z;cases z⟩
 keep:=λi h h' ⟨o,e,r⟩ k=>⟨o,k it (by simp) o e,r⟩
 item:=by
  intro X hP hw hK hc i pins s σ H E I hf st hg
  subst hP hw hK
  obtain⟨hq,hi⟩:=hg
  obtain⟨vs,rel,dd⟩:=Mm I hep hq
  have hl:vs.length=xs.length:=(DB rel).symm
  obtain⟨u,hu,ru⟩:=Ml rel (AA hi)
  obtain⟨f0,f1,f2,f3,f4,f5⟩:=hf it (by simp)
  refine wpAny_pyNext_dict_item (by rw[hl];exact st) dd hu λkey h' hkey st' sb=>?_
  rw[hl]at st'
  have I1:Inv X pins σ H {s with heap:=h'}:=I.turned (t':=s.toks) (λb o hb e=>(sb.2 b hb).trans e) f0 f1 f3 f4 f5
  obtain⟨o',e',c',d'⟩:=id st'
  exact⟨key,rfl,Ju (s:={s with heap:=h'}) e' c' d' (by decide) ⟨_,H,I1,Qc hkey,⟨rfl,_,_,AA hi,rfl⟩,st',λb hb=>(hf b hb).1⟩⟩
 done:=by
  intro X hP hw hK hc i pins s σ H E I hf st hg
  subst hP hw hK
  obtain⟨hq,hi⟩:=hg
  obtain⟨vs,rel,dd⟩:=Mm I hep hq
  have hl:vs.length=xs.length:=(DB rel).symm
  obtain⟨f0,f1,f2,f3,f4,f5⟩:=hf it (by simp)
  exact wpAny_pyNext_dict_end (I.ok.hd hc) (by rw[hl];exact st) dd (CT (by lia)) λh' eb=>⟨rfl,I.turned (t':=s.toks) (λb o hb e=>eb b o hb e) f0 f1 f3 f4 f5⟩
 self:=λA i s Q E st h=>wpAny_pyIter_keyiter st h
theorem Qd {o tg:Expr} {xo:Ex} (ho:PE X o (tE X.K φ xo)):PI X tg o (tI X.K φ (.keys xo)):=by
 intro pins s σv H R I ⟨ι,σ,μ,hS,hL,h⟩
 simp![evI]at h
 cases e1:evE φ xo σ μ with
 | exc _ _ _=>rw[e1]at h;exact h.elim
 | stuck=>rw[e1]at h;exact h.elim
 | ok d μ1 =>
 rw[e1]at h
 simp![Res.ar]at h
 cases d with
 | loc n =>
  simp only at h
  cases em:μ1[n]? with
  | none=>rw[em]at h;exact h.elim
  | some ob =>
   rw[em]at h
   cases ob with
   | d kvs =>
    simp only at h
    have hq:tE X.K φ xo σv H (λv H1=>∃ι1,ι <+: ι1/\Ext H H1/\Sim X.K ι1 H1 μ1/\Lp.IsD X.K ι1 H1 (.loc n) v):=⟨ι,σ,μ,hS,hL,by rw[e1];exact λι1 v H1 p1 x1 s1 d1=>⟨ι1,p1,x1,s1,d1⟩⟩
    refine thn (ho pins s σv H _ I hq) λu s1 ⟨v,H1,I1,r1,ι1,p1,x1,S1,d1⟩=>?_
    obtain⟨a,rfl,hn⟩:∃a,v=.ref a/\ι1[n]? = some a:=by simpa[Lp.IsD]using d1
    obtain⟨a',q',xs,hH,hkv⟩:=S1.at em
    rw[hn]at q';cases q'
    obtain rfl:u=Value.ref a:=r1
    obtain⟨t1,t2,hsys⟩:=S6 I1 (.inl ⟨_,.inl hH⟩)
    obtain⟨fo,I2⟩:=P7 I1 hH
    obtain⟨hget,hz,_,vs,rel,o',es,ep,hget',r⟩:=(show fu X.prog X.w _ _ a (.frz fo (.dK xs))from I2.hok a _ aq)
    rw[hget]at hget';cases hget'
    have dat:Heap.DictAt (bx X.prog X.w) s1.heap a vs ep:=⟨fo,es,hget,r⟩
    have hl:vs.length=xs.length:=(DB rel).symm
    refine wpAny_pyIter_dict (knd:=bx X.prog X.w) hsys dat ?_
    have X2:Ext H1 (upd H1 a (.frz fo (.dK xs))):=.dK hH
    have sh:Xo X.K (upd H1 a (.frz fo (.dK xs))) kvs xs:=Paired.mapP hkv λp r z=>⟨IsD.mono (AH _) X2 _ _ z.1,IsD.mono (AH _) X2 _ _ z.2⟩
    refine⟨_,[s1.heap.objs.size],_,_,_,rfl,I2.kept (t':=s1.toks) λb o e=>AE _ e,Gn (a:=a) (o:=fo) (xs:=xs) (ep:=ep) ⟨es,r.2.1⟩,⟨_,AS _ rfl,rfl,by rw[hl];rfl⟩,λb hb=>?_,h ι1 _ _ p1 (x1.trans X2) (S1.put hn X2 ⟨fo,xs,aq,sh⟩) ?_⟩
    ·have e:b=s1.heap.objs.size:=by simpa using hb
     subst e
     exact I2.fpOk (AN _) (I2.hok.fresh (AN _))
    ·have hk:kvs.length=xs.length:=DB hkv
     have get:∀(i:Nat) (hi:i<xs.length) k x,xs[i]? = some (k,x)->∃d,(kvs.map (·.1))[i]? = some d/\Lp.IsD X.K [] H1 d (kV k):=λi hi k x e=>by
      obtain⟨p,e1,q,_⟩:=t4 hkv e
      exact⟨p.1,by rw[AX,e1];rfl,q⟩
     refine⟨by rw[AM,hk];exact hz,λi ι2 H2 μ3 q1 q2 q3 q4 hi=>?_,λi ι2 H2 μ3 w H3 q1 q2 q3 q4 hi hy=>?_,λι2 H2 μ3 q1 q2 q3 q4=>?_⟩
     ·exact⟨q2.frzs _ _ _ aq,by rw[AM,hk]at hi;exact hi⟩
     ·obtain⟨rfl,k,x,e,rfl⟩:=hy
      rw[AM,hk]at hi
      obtain⟨d,e2,hd⟩:=get i hi k x e
      exact⟨.refl _,q3,d,e2,IsD.mono CK (X2.trans q2) _ _ hd⟩
     ·exact⟨q2.frzs _ _ _ aq,by rw[AM,hk];exact AN _⟩
   | _=>exact h.elim
 | _=>exact h.elim
def rIxD:R2:=λx y H Q=>∃a v,x=.ref a/\L6 H a y (some v)/\Q v H
theorem Qe (hu:X.A.units+1<cLine):IxR X rIxD:=by
 intro value slice pins s σ H x y v u Q I rx ry h hs
 obtain⟨a,z,rfl,g,q⟩:=h
 obtain rfl:v=Value.ref a:=rx
 have hT:=qb I g
 unfold subscriptTail
 refine AB ?_
 rw[getitemInPython_of_ne hT.not_modules]
 refine AB (wpAny_specialOf hT GF.lookup ?_)
 have fin:wpAny (model X.prog X.w) X.A (subscripted slice false (.ref a) u) (λr s₃=>wpAny (model X.prog X.w) X.A (letTemporaryGo value (.ref a) r>>=λ_=>pure r) (EP X pins σ Q) X.xe s₃) X.xe s:=by
  rw[hs]
  exact wpAny_operating (DD (ya hu I g ry (Q:=λr s₃=>EP X pins σ Q r s₃) λw' s3 I3 rw'=>⟨z,H,I3,rw',q⟩) (λr s₃ h₃=>AB (wpAny_letTemporaryGo (AL h₃))) λ_ _ x=>x)
 first
  | exact AL (AB fin)
  | exact AB (AL (AB fin))
  | exact AB fin
theorem Ut {K:PySem.W.Frag} {ι:List Addr} {H:Hp} {μ:Sto} {d e:D} {x y:V} {Q:VK} (hS:Sim K ι H μ) (hd:IsD K ι H d x) (he:IsD K ι H e y) (h:du K (RD K) ι H (Fc d e μ) Q):rIxD x y H Q:=by
 unfold Fc at h
 cases ed:dictAt μ d e with
 | none=>simp![ed]at h;exact h.elim
 | some kvs =>
  simp![ed]at h
  obtain⟨p,q,xs,rfl,rfl,rfl,hp,hk⟩:=vg hS hd he ed
  have hv:=me (k:=q) hk
  cases eg:uz (kD q) kvs with
  | none=>simp![eg]at h;exact h.elim
  | some v =>
   simp![eg]at h
   rw[eg]at hv
   cases ev:xw xs q with
   | none=>rw[ev]at hv;exact hv.elim
   | some w =>
    have g:L6 H p (kV q) (xw xs q):=.inl ⟨_,_,hp,rfl,rfl⟩
    rw[ev]at g hv
    exact⟨p,w,rfl,g,h.ok hS hv⟩
theorem Gp (hu:X.A.units+64<cLine) {a b:Expr} {xa xb:Ex} {pos:Pos} (ha:PE X a (tE X.K φ xa)) (hb:PE X b (tE X.K φ xb)) (hs:uw b:=by intro _ _;rfl):PE X (.Subscript a b pos) (tE X.K φ (.gix xa xb)) :=
 PE.imp (Ss (IxR.or (Qe (by lia)) Tx) ha hb hs) λσv H Q ⟨ι,σ,μ,hS,hL,h⟩=>by
  simp![evE]at h
  refine two hS hL h λι' H' d e x y μ' s d1 d2 p=>?_
  unfold Pb at p
  split at p
  ·exact .inl (Ut s d1 d2 p)
  ·exact .inr ⟨ι',d,e,μ',s,d1,d2,p⟩
theorem Qf {m:Mk} (hc:X.calm=true):dk X (.builtin "min") (nr X.K (btD .min3 m)):=by
 intro pins s σ H xs us Q I r ⟨ι,ds,μ,hS,hds,h⟩
 simp![btD,S7]at h
 split at h
 ·rename_i i j k
  simp![af,IsD]at hds
  obtain⟨_,_,rfl,rfl,_,_,rfl,rfl,_,_,rfl,rfl,rfl⟩:=hds
  cases r with
  | cons r1 r =>
  cases r with
  | cons r2 r =>
  cases r with
  | cons r3 r =>
  cases r
  obtain⟨t1,rfl⟩:=r1
  obtain⟨t2,rfl⟩:=r2
  obtain⟨t3,rfl⟩:=r3
  have q:=h.ok (v:=.int (if k<(if j<i then j else i)then k else(if j<i then j else i))) hS (by simp[IsD])
  refine min_three_ints (I.ok.hd hc) λh' tk kp=>⟨_,H,I.kept kp,?_,q⟩
  by_cases hj:j<i
  ·simp![if_pos hj]
   split<;>exact⟨_,rfl⟩
  ·simp![if_neg hj]
   split<;>exact⟨_,rfl⟩
 ·exact h.elim
theorem K1 {m:Mk} {p pos:Pos} {e:Expr} {es:List Expr} {xs:Exs} (hm:X.mg "min"=none) (ha:PA X (e::es) (tEs X.K φ xs)) (hc:X.calm=true:=by rfl) (hg:Gl X "min":=by rfl) (he:starEach (e::es) X.env=(false,eval e X.env)::starEach es X.env:=by rfl) (hpl:(backTo pos (starEach es X.env)).any (·.1)=false:=by rfl) :
  PE X (.Call (.Name "min" p) (e::es) [] pos) (tE X.K φ (.blt .min3 m xs)):=jh (r:=λ_ _ _=>True) (es:=es) (je (Qf hc) hg hm (by first | exact HW | decide +kernel) ha (by decide) (by decide) he hpl)
theorem Uu {pos:Pos}:PE X (.Dict [] [] pos) (tE X.K φ .dicr):=by
 refine PE.imp J4 λσv H Q ⟨ι,σ,μ,hS,hL,h⟩=>?_
 simp![evE]at h
 intro p hp
 refine h (ι++[p]) _ _ (List.prefix_append _ _) (Ext.new hp) (hS.push hp ⟨[],aq,Paired.nil⟩) ?_
 simp![Lp.IsD]
 exact⟨p,rfl,by rw[<-hS.len];simp⟩
theorem abh {il:Nat} {xl:Str} {p1 pos:Pos} {e:Expr} {c:D} {vc:V} (he:PE X e (tC vc)) (hc:∀ι H,IsD X.K ι H c vc) (hp:c.pure=true) (hNl:X.N[il]? = some xl) (hvl:Vis X.env.scope xl) (hdl:(xl==("__debug__":Str))=false) (hcl:(xl==("__classdict__":Str))=false) :
  PE X (.Dict [some (.Name xl p1)] [e] pos) (tE X.K φ (.dic false (.cons (.var il) (.cons (.cst c) .nil)))):=by
 refine PE.imp (O1 (J5 (Bf hNl hvl hdl hcl) he O0) rfl rfl (by simp) (by simp)) λσv H Q ⟨ι,σ,μ,hS,hL,h⟩=>?_
 simp![evE,eh,Res.ar]at h
 intro p hn
 cases el:σ[il]? with
 | none=>rw[el]at h;exact h.elim
 | some ol =>
 cases ol with
 | none=>rw[el]at h;exact h.elim
 | some dl =>
 rw[el]at h
 simp![Res.ar]at h
 cases dl with
 | int l =>
  simp![Tn,hp,and_self,if_true]at h
  obtain⟨vl,e2,q2⟩:=hL _ _ el
  cases ck q2
  refine⟨.int l,e2,aq,[(.inl l,vc)],rfl,by simp,?_⟩
  rw[Eg]
  refine h (ι++[p]) _ _ (List.prefix_append _ _) (Ext.new hn) (hS.push hn ⟨_,aq,.cons ⟨by simp[Lp.IsD,kV],hc _ _⟩ .nil⟩) ?_
  simp![Lp.IsD]
  exact⟨p,rfl,by rw[<-hS.len];simp⟩
 | _=>exact h.elim
theorem Uv (il:Nat) {xl:Str} {c:Int} {j:Nat} {p1 p2 pos:Pos} (hNl:X.N[il]? = some xl:=by rfl) (hvl:Vis X.env.scope xl:=by first | exact Or.inl rfl | exact Or.inr (Or.inl rfl) | exact Or.inr (Or.inr rfl)) (hdl:(xl==("__debug__":Str))=false:=by decide) (hcl:(xl==("__classdict__":Str))=false:=by decide) :
  PE X (.Dict [some (.Name xl p1)] [.Constant (.int c) j p2] pos) (tE X.K φ (.dic false (.cons (.var il) (.cons (.cst (.int c)) .nil)))):=abh Lx (λ_ _=>by simp[IsD]) rfl hNl hvl hdl hcl
def yr (xs:List V):List V:=(List.range (xs.length / 2)).filterMap λi=>xs[2*i+1]?
theorem Gq {K:PySem.W.Frag} {ι:List Addr} {H:Hp} {ds:List D} {xs:List V} (h:af K ι H ds xs):af K ι H (Fb ds) (yr xs):=by
 unfold Fb yr
 have hl:=h.length
 rw[hl]
 have go:∀l:List Nat,af K ι H (l.filterMap λi=>ds[2*i+1]?) (l.filterMap λi=>xs[2*i+1]?):=by
  intro l
  induction l with
  | nil=>simp[af]
  | cons a r ih =>
   cases e:ds[2*a+1]? with
   | none =>
    have e2:xs[2*a+1]? = none:=Ev.mpr (by rw[hl];exact Ev.mp e)
    simpa[e,e2]using ih
   | some d =>
    obtain⟨v,e2,hv⟩:=h.get e
    simp![DH,e,e2,af]
    exact⟨v,_,rfl,hv,ih⟩
 exact go _
theorem By {α β:Type} {f g:α->Option β}:∀{l:List α},(∀x∈l,f x=g x)->l.filterMap f=l.filterMap g
 | [],_=>rfl
 | a::r,h=>by simp![DH,h a AT,By λx hx=>h x (AJ _ hx)]
theorem Gr (its:List Value):slicePick its.toArray (some 1) none (some 2)=((List.range (its.length / 2)).filterMap λi=>its[2*i+1]?).toArray:=by
 have hb:sliceBounds (some 1) none (some 2) its.toArray.size=(((if(1:Int)<=its.length then 1 else(its.length:Int)),(its.length:Int),(2:Int)):Int×Int×Int):=by
  unfold sliceBounds
  simp![ET,AI]
  refine Prod.ext ?_ (Prod.ext ?_ rfl)
  ·simp only[]
   split<;>split<;>lia
  ·simp
 unfold slicePick
 rw[hb]
 congr 1
 unfold sliceRange
 have hcnt:(if(2:Int) > 0 then(if(if(1:Int)<=its.length then 1 else(its.length:Int))<(its.length:Int)then((its.length:Int)-(if(1:Int)<=its.length then 1 else(its.length:Int))+2-1) / 2 else 0)
   else(if(if(1:Int)<=its.length then 1 else(its.length:Int)) > (its.length:Int)then((if(1:Int)<=its.length then 1 else(its.length:Int))-its.length-2-1) / (-2)else 0)).toNat=its.length / 2:=by
  rw[if_pos (by decide)]
  by_cases h:(1:Int)<=its.length
  ·simp![if_pos h]
   split<;>lia
  ·simp![if_neg h]
   split<;>lia
 dsimp only
 rw[hcnt,List.filterMap_map]
 refine By λk hk=>?_
 have hk':k<its.length / 2:=by simpa using hk
 have h1:(1:Int)<=its.length:=by lia
 simp![Function.comp,if_pos h1]
 rw[show((1:Int)+2*(k:Int)).toNat=2*k+1 by lia]
 simp
theorem Gs (xs:List V):(yr xs).length<=xs.length:=by
 unfold yr
 refine BX (List.length_filterMap_le _ _) ?_
 rw[GO]
 lia
theorem Gu {xs:List V} {its:List Value} (h:bh xs its):bh (yr xs) ((List.range (its.length / 2)).filterMap λi=>its[2*i+1]?):=by
 unfold yr
 rw[h.length]
 have go:∀l:List Nat,bh (l.filterMap λi=>xs[2*i+1]?) (l.filterMap λi=>its[2*i+1]?):=by
  intro l
  induction l with
  | nil=>exact .nil
  | cons a r ih =>
   cases e:xs[2*a+1]? with
   | none=>simpa[e,h.none_of e]using ih
   | some d =>
    obtain⟨v,e2,hv⟩:=h.get e
    simp![DH,e,e2]
    exact .cons hv ih
 exact go _
theorem Uw {a:Expr} {xa:Ex} {m:Mk} {j1 j2:Nat} {p1 p2 p3 pos:Pos} (ha:PE X a (tE X.K φ xa)):PE X (.Subscript a (.Slice (some (.Constant (.int 1) j1 p1)) none (some (.Constant (.int 2) j2 p2)) p3) pos) (tE X.K φ (.blt .odds m (.cons xa .nil))):=by
 refine PE.imp (t:=λσ H Q=>tE X.K φ xa σ H λx H1=>∃b xs,x=.ref b/\SqL X.K H1 b xs/\∀p,H1 p=none->FQ Q (.ref p) (upd H1 p (.lst (yr xs)))) ?_ λσv H Q ⟨ι,σ,μ,hS,hL,h⟩=>?_
 ·intro pins s σ H Q I h
  refine Subscript_ (thn (ha pins s σ H _ I h) λv s1 ⟨x,H1,I1,r1,b,xs,ex,hq,q⟩=>?_)
  subst ex
  obtain rfl:v=Value.ref b:=r1
  have fin:∀(v1 v2:Value) (tk:Nat),IsPart v1 (some 1)->IsPart v2 (some 2)->wpAny (model X.prog X.w) X.A (subscriptTail a (.Slice (some (.Constant (.int 1) j1 p1)) none (some (.Constant (.int 2) j2 p2)) p3) (.ref b) (.ref s1.heap.objs.size)) (EP X pins σ Q) X.xe {s1 with heap:=s1.heap.push {cls:=.type "slice",data:=.fields #[v1,.none,v2]},toks:=tk}:=by
   intro v1 v2 tk i1 i2
   refine Fe ?_
   have I4:Inv X pins σ H1 {s1 with heap:=s1.heap.push {cls:=.type "slice",data:=.fields #[v1,.none,v2]},toks:=tk}:=I1.kept (t':=tk) λb ob q=>AE _ q
   obtain⟨its',r',ht',hz'⟩:=I4.list hq
   have hlen':=r'.length
   refine tail_any (ops:=[.ref b,.ref s1.heap.objs.size]) ht'.isList.typeIs GI.lookup (wpAny_getItem_list_slice ht'.isList (IL ..) i1 .none i2 (by decide) ?_ (by rw[AI]<;>lia)) (by with_unfolding_all rfl)
   rw[Gr]
   refine⟨.ref _,_,I4.laid (t':=tk) (o:=.lst (yr xs)) (λb ob q=>AE _ q) (AN _) ?_,rfl,q _ (I4.hok.fresh (AN _))⟩
   exact⟨BX (Gs xs) hz',_,0,Gu r',AS _ rfl⟩
  refine wpAny_Slice ?_
  rw[evalPart_some]
  refine FX ?_
  rw[evalPart_none]
  refine AL ?_
  rw[evalPart_some]
  refine FX ?_
  exact fin _ _ _ (.int 1 _) (.int 2 _)
 ·simp![evE,eh]at h
  rw[Res.bind_assoc]at h
  obtain⟨d,μ1,e1,h⟩:=h.bind
  refine⟨ι,σ,μ,hS,hL,?_⟩
  rw[e1]
  intro ι1 v H1 p1 x1 s1 d1
  have h:=h.mono p1 x1
  simp![Res.ar,btD,g8,O9]at h
  cases el:Lp.listOf μ1 d with
  | none=>simp![el]at h;exact h.elim
  | some ds =>
   simp![el]at h
   obtain⟨b,xs,rfl,hq,hds⟩:=jz s1 d1 el
   exact⟨b,xs,rfl,hq.sq,λp hp=>jg s1 (Gq hds) h hp⟩
theorem Ri {m:Mk}:dk X (.builtin "sorted") (nr X.K (btD .sortedI m)):=by
 intro pins s σ H xs us Q I r ⟨ι,ds,μ,hS,hds,h⟩
 obtain⟨d,v,rfl,hv,h⟩:=gm hds h
 unfold Mb at h
 cases el:Lp.listOf μ d with
 | none=>rw[el]at h;exact h.elim
 | some zs =>
 rw[el]at h
 simp![DT]at h
 cases en:bz zs with
 | none=>rw[en]at h;exact h.elim
 | some ns =>
 rw[en]at h
 simp only at h
 split at h
 ·rename_i h64
  obtain⟨a,vV,rfl,hq,hz⟩:=jz hS hv el
  have ez:=Bv en
  subst ez
  have ev:=ints_of hz (Kv ns)
  subst ev
  obtain⟨u,rfl,ru⟩:=vals1 r
  cases(show u=Value.ref a from ru)
  obtain⟨its,rv,pl,hlen⟩:=I.list hq.sq
  have hI:=Sets.vals_ints rv
  have l2:its.length=ns.length:=by rw[<-rv.length,AM]
  refine sorted_ints pl.isList hI (by lia) λout ms i1 i2 i3=>Dk ?_
  have e:ms=sortI ns:=Sets.Ar (i2.trans (Sets.sortI_perm _).symm) i3 (Sets.vn _)
  subst e
  obtain⟨e',he⟩:=sortedAll_at s.heap its out
  exact⟨.ref (s.heap.objs.size+1),upd H (s.heap.objs.size+1) (.lst ((sortI ns).map V.int)),I.laid (t':=s.toks) (λb u e=>sortedAll_old e) (GJ _) ⟨by rw[AM,(Sets.sortI_perm _).length_eq,DL];lia,out.toList,e',Sets.qq i1,by rw[ID];exact he⟩,rfl,jg hS (af.ints _) h (I.hok.fresh (GJ _))⟩
 ·exact h.elim
theorem yt:∀{kvs:List (Key×Value)} {ns:List Int} {acc:List Value},kvs.map (·.1)=ns.map Sum.inl->acc.length=kvs.length->(∀(i:Nat) (v:Value),acc[i]? = some v->∃k x,kvs[i]? = some (k,x)/\wy k v=true)->IntsAre acc ns
 | [],[],[],_,_,_=>.nil
 | [],[],_::_,_,h,_=>by simp at h
 | [],_::_,_,h,_,_=>by simp at h
 | _::_,[],_,h,_,_=>by simp at h
 | _::_,_::_,[],_,h,_=>by simp at h
 | (k,x)::kvs,n::ns,v::acc,hk,hl,hi=>by
  simp![AO,List.cons.injEq]at hk
  obtain⟨rfl,hk⟩:=hk
  obtain⟨k',x',e,q⟩:=hi 0 v rfl
  simp at e
  obtain⟨rfl,rfl⟩:=e
  rcases bg q with⟨i,t,e,rfl⟩ | ⟨y,t,e,_⟩
  ·cases e
   exact .cons n t (yt hk (by simpa using hl) λi v e=>by simpa using hi (i+1) v (by simpa using e))
  ·cases e
theorem yu {A:Around} {E:Value->Shared->Prop} {a:Addr} {vs:List (Key×Value)} {ep:Nat} {ns:List Int} {Q:List Value->Shared->Prop} (hh:A.handled=none) (hsys:(a==sysModules)=false) (hD:Heap.DictAt (bx X.prog X.w) s.heap a vs ep) (hk:vs.map (·.1)=ns.map Sum.inl) (few:vs.length<=sizeLine)
  (hQ:∀(h':Heap) tk us,(∀b o,s.heap.get? b=some o->h'.get? b=some o)->s.heap.objs.size<h'.objs.size->IntsAre us ns->Q us {s with heap:=h',toks:=tk}):wpAny (model X.prog X.w) A (collect (.ref a)) Q E s:=by
 have la:a<s.heap.objs.size:=by obtain⟨o,_,q,_⟩:=hD;exact AQ q
 unfold collect
 refine AB (wpAny_runValue (codeAny_builtin PySem.F.entry_proto_collect ?_))
 rw[IE PySem.F.plain_proto_collect]
 show wpAny (model X.prog X.w) A.in1 (newList []>>=λz=>again (.builtin "list.__iadd__" ⟨[z,.ref a],[]⟩)) _ _ s
 refine AB (DE (AL ⟨plainId_quiet GZ _,codeAny_builtin PySem.F.entry_list_iadd ?_⟩))
 rw[IE GZ]
 have qD:(s.heap.push {cls:=.type "list",data:=.seq ([]:List Value).toArray}).get? s.heap.objs.size=some {cls:=.type "list",data:=.seq #[] 0}:=AS _ rfl
 refine DD (PySem.W.kdl_extend (A:=A) (s:={s with heap:=s.heap.push {cls:=.type "list",data:=.seq ([]:List Value).toArray}}) (R:=λr' s'=>r'=.ok (.ret (.ref s.heap.objs.size))/\∃(h':Heap) (tk:Nat) (acc:Array Value) (c':Nat),s'={s with heap:=h',toks:=tk}/\(∀b o',s.heap.get? b=some o'->h'.get? b=some o') /\
   h'.get? s.heap.objs.size=some {cls:=.type "list",dict:=none,data:=.seq acc c',slots:=#[]}/\IntsAre acc.toList ns) (PySem.W.kdl_dict (knd:=bx X.prog X.w) (kvs:=vs) (ep:=ep) hsys) hh (hD.at' λo z=>AE _ z) s.heap.objs.size (CW la) (CW la) (.ref s.heap.objs.size) 0 qD
   (λh' tk acc c' k q m=>⟨rfl,h',tk,acc,c',rfl,λb o z=>k b o (BA (AQ z)) (AE _ z),q,yt hk (by simpa using m.1) λi v e=>m.2 i v (by simpa using e)⟩) few) (λfin s' h=>?_) λe s' h=>absurd h.1 (by simp)
 have fin':∀(r':Result) (s'':Shared),(r'=.ok (.ret (.ref s.heap.objs.size))/\∃(h':Heap) (tk:Nat) (acc:Array Value) (c':Nat),s''={s with heap:=h',toks:=tk}/\(∀b o',s.heap.get? b=some o'->h'.get? b=some o') /\
   h'.get? s.heap.objs.size=some {cls:=.type "list",dict:=none,data:=.seq acc c',slots:=#[]}/\IntsAre acc.toList ns)->wpAny (model X.prog X.w) A (match Value.ref s.heap.objs.size with
   | Value.ref a=>do
    match(<-load a).data with
     | Data.seq xs _=>pure xs.toList
     | _=>unsupported "internal:collect"
   | _=>unsupported "internal:collect") Q E s'':=by
  rintro r' s'' ⟨rfl,h',tk,acc,c',rfl,k,q,i⟩
  show wpAny (model X.prog X.w) A (load s.heap.objs.size>>=_) _ _ _
  exact AB (wpAny_load q (AL (hQ h' tk _ k (AQ q) i)))
 cases fin with
 | done f =>
  have e:f=.ret (.ref s.heap.objs.size):=by have:=h.1;cases this;rfl
  subst e
  exact fin' _ _ h
 | again c'=>exact⟨h.1,FV h.2 λr' s'' hr=>by obtain⟨rfl,z⟩:=hr;exact fin' _ _ ⟨rfl,z⟩⟩
theorem Qg {K:PySem.W.Frag} {ι:List Addr} {H:Hp} {μ:Sto} {d:D} {v:V} {kvs:List (D×D)} (hS:Sim K ι H μ) (hd:IsD K ι H d v) (e:keysOf μ d=some kvs):∃p xs,v=.ref p/\Rd H p (.dK xs)/\u0 K ι H kvs xs:=by
 cases d with
 | loc n =>
  obtain⟨p,rfl,hp⟩:∃p,v=.ref p/\ι[n]? = some p:=by simpa[IsD]using hd
  have up:∀{xs:List (Key×V)},u0 K [] H kvs xs->u0 K ι H kvs xs:=λz=>Paired.mapP z λp r z=>⟨z.1,IsD.mono CK (.refl _) _ _ z.2⟩
  have at_:∀{ob:O},μ[n]? = some ob->OIs K ι H p ob:=λ{ob} em=>by
   obtain⟨a',q',ob⟩:=hS.at em
   rw[hp]at q';cases q'
   exact ob
  simp![keysOf]at e
  split at e
  ·rename_i kvs' em
   cases e
   obtain⟨xs,e1,e2⟩:=at_ em
   exact⟨p,xs,rfl,.inl e1,up e2⟩
  ·rename_i kvs' em
   cases e
   obtain⟨xs,e1,e2⟩:=at_ em
   exact⟨p,xs,rfl,.inl e1,e2⟩
  ·rename_i kvs' em
   cases e
   obtain⟨o,xs,e1,e2⟩:=at_ em
   exact⟨p,xs,rfl,.inr ⟨o,e1⟩,up e2⟩
  ·cases e
 | _=>simp[keysOf]at e
theorem t9 {K:PySem.W.Frag} {ι:List Addr} {H:Hp}:∀{kvs:List (D×D)} {xs:List (Key×V)} {ns:List Int},u0 K ι H kvs xs->bz (kvs.map (·.1))=some ns->xs.map (·.1)=ns.map Sum.inl
 | _,_,ns,.nil,e=>by
  simp![CZ,bz,BP]at e
  subst e;rfl
 | (k,d)::kvs,(q,v)::xs,ns,.cons z t,e=>by
  have hk:=vf z.1
  dsimp only at hk
  subst hk
  cases q with
  | inr x=>simp[kD,bz]at e
  | inl i =>
   simp![AO,kD,bz,EH]at e
   obtain⟨r,er,rfl⟩:=e
   simp[t9 t er]
theorem Gv:∀{xs:List (Key×V)} {vs:List (Key×Value)},KV xs vs->vs.map (·.1)=xs.map (·.1)
 | _,_,.nil=>rfl
 | _::_,_::_,.cons z t=>by simp[Gv t,z.1]
theorem Dr {m:Mk} (hc:X.calm=true):dk X (.builtin "sorted") (nr X.K (btD .sortedD m)):=by
 intro pins s σ H xs us Q I r ⟨ι,ds,μ,hS,hds,h⟩
 obtain⟨d,v,rfl,hv,h⟩:=gm hds h
 unfold E9 at h
 cases el:keysOf μ d with
 | none=>rw[el]at h;exact h.elim
 | some kvs =>
 rw[el]at h
 simp![DT]at h
 cases en:bz (kvs.map (·.1))with
 | none=>rw[en]at h;exact h.elim
 | some ns =>
 rw[en]at h
 simp only at h
 split at h
 ·rename_i h64
  obtain⟨a,zs,rfl,hq,hz⟩:=Qg hS hv el
  obtain⟨u,rfl,ru⟩:=vals1 r
  cases(show u=Value.ref a from ru)
  obtain⟨hsz,hsys,vs,rel,o,es,ep,hget,rr⟩:=z8 I.hok hq
  have hk:vs.map (·.1)=ns.map Sum.inl:=(Gv rel).trans (t9 hz en)
  have hln:vs.length=ns.length:=by have:=congrArg List.length hk;simpa using this
  have small:vs.length<=sizeLine:=by rw[DL];lia
  have hh:=I.ok.hd hc
  refine Calls.call_function_entry kind_sorted plain_sorted entry_sorted (args_sorted1 _) ?_
  unfold Builtin.«sorted»
  refine AB (m:=checkCount "sorted" 1 1 _) (AL (AB (yu (X:=X) (A:=X.A.in1) (show X.A.in1.handled=none from hh) hsys ⟨o,es,hget,rr⟩ hk small λh1 tk us k lz i=>?_)))
  have lu:us.length=ns.length:=Sets.Bw i
  refine AB (wpAny_newList ?_ (by lia))
  have qL:(h1.push (seqObj "list" us.toArray 0)).get? h1.objs.size=some (seqObj "list" us.toArray 0):=AS _ rfl
  refine AB (EM (DA slot_list_sort ⟨_,qL,rfl⟩ entry_list_sort (list_sort_tree (s:={s with heap:=h1.push (seqObj "list" us.toArray 0),toks:=tk}) qL i (by lia) λout ms j1 j2 j3=>⟨_,rfl,?_⟩) (args_list_sort _)))
  obtain⟨c,qc⟩:∃c,(sortedHeap (h1.push (seqObj "list" us.toArray 0)) h1.objs.size us out).get? h1.objs.size=some (seqObj "list" out c) :=
   ⟨_,get?_update_seq (AE _ (AE _ (get?_update_seq qL λ_=>#[]))) λ_=>out⟩
  have e:ms=sortI ns:=Sets.Ar (j2.trans (Sets.sortI_perm _).symm) j3 (Sets.vn _)
  subst e
  refine AL ⟨_,rfl,Dk ⟨.ref h1.objs.size,upd H h1.objs.size (.lst ((sortI ns).map V.int)),I.laid (t':=tk) (λb o z=>?_) (EC lz) ⟨by rw[AM,(Sets.sortI_perm _).length_eq,DL];lia,out.toList,c,Sets.qq j1,by rw[ID];exact qc⟩,rfl,jg hS (af.ints _) h (I.hok.fresh (EC lz))⟩⟩
  have zb:b≠h1.objs.size:=BA (AQ (k b o z))
  unfold sortedHeap
  rw[Heap.get?_update_ne _ _ _ _ zb]
  refine AE _ (AE _ ?_)
  rw[Heap.get?_update_ne _ _ _ _ zb]
  exact AE _ (k b o z)
 ·exact h.elim
theorem Au {m:Mk} {p pos:Pos} {e:Expr} {es:List Expr} {xs:Exs} (hm:X.mg "sorted"=none) (ha:PA X (e::es) (tEs X.K φ xs)) (hc:X.calm=true:=by rfl) (hg:Gl X "sorted":=by rfl) (he:starEach (e::es) X.env=(false,eval e X.env)::starEach es X.env:=by rfl) (hpl:(backTo pos (starEach es X.env)).any (·.1)=false:=by rfl) :
  PE X (.Call (.Name "sorted" p) (e::es) [] pos) (tE X.K φ (.blt .sortedD m xs)):=jh (r:=λ_ _ _=>True) (es:=es) (je (Dr hc) hg hm (by first | exact PyProof.Rows.boot_sorted | decide +kernel) ha (by decide) (by decide) he hpl)
end
structure MEnt where
 cls:Str
 m:Str
 e:Ent
def K2 (s:Stmt) (j:Nat):Stmt:=match s with
 | .ClassDef _ _ _ body _ _ _ _ _ _ _=>body.getD j s
 | s=>s
structure MModOf (K:PySem.W.Frag) (mg:Str->Option Value) (x:MEnt):Prop where
 ex:∃(C fa:Addr) (fd:FuncData),PySem.W.nsIn K mainGlobals x.cls=some (some (.ref C))/\mg x.cls=some (.ref C)/\Cls K C/\Meth K C x.m fa/\Fun K x.m x.e.name x.e.st fa fd/\∀us:List Value,us.length=x.e.ps.length->bindArgs fd ⟨us,[]⟩=pure (x.e.ps.zip us)
theorem vq {K:PySem.W.Frag} {h:Heap} {mg:Str->Option Value} {x:MEnt} {C f:Addr} {oc:Value} {od an:Option Addr} {sl:Array (Option Value)} {kV dc pm cd ct:Value} (X:K.In h) (G:h.Ns mainGlobals mg) (a:PySem.W.nsIn K mainGlobals x.cls=some (some (.ref C))) (cl:Cls K C)
  (at_:PySem.W.findIn K (.ref C) x.m=some (some (.ref f))) (l:K.lookup f=some ⟨oc,od,.func (PySem.W.fnOf x.m x.e.name (k9 x.e.st) (gj x.e.st) (a8 x.e.st) .none kV dc pm an cd ct),sl⟩) (fn:PySem.W.isFn K (.ref f)=true) (c:PySem.W.codeIn K cd x.e.name=true) (k:PySem.W.keepIn K (.ref f)=true)
  (hb:∀(kV doc pm:Value) (an:Option Addr) (cdv ct:Value) (us:List Value),us.length=x.e.ps.length->bindArgs (PySem.W.fnOf x.m x.e.name (k9 x.e.st) (gj x.e.st) (a8 x.e.st) .none kV doc pm an cdv ct) ⟨us,[]⟩=pure (x.e.ps.zip us)):MModOf K mg x :=
 ⟨C,f,_,a,PySem.W.mg_of X G a,cl,⟨at_,fn,k⟩,L8 l c k,hb kV dc pm an cd ct⟩
section
variable {T : List Df} {P : Program} {w : World} {K : PySem.W.Frag} {mg : Str -> Option Value} {base : Heap} {es : List Ent} {ms : List MEnt}
abbrev CsM (T:List Df) (P:Program) (w:World) (K:PySem.W.Frag) (mg:Str->Option Value) (base:Heap) (ms:List MEnt) (A:Around) (n:Nat):Prop:=∀(j:Nat) x,ms[j]? = some x->vp P w K mg base A (ag T n) x.e.id x.cls x.m
structure DerO (T:List Df) (P:Program) (w:World) (K:PySem.W.Frag) (mg:Str->Option Value) (base:Heap) (es:List Ent) (ms:List MEnt) (e:Ent):Prop extends DerB T e where
 dv:∀(n:Nat) (fa:Addr) (cdv:Value) (A:Around) (outer:List Env) (s:Shared) (H:Hp) (E:XK),(A.deeper (envOfC e.name (a8 e.st) s.heap.objs.size fa cdv)).units+64<cLine ->
  Cs T P w K mg base es (A.deeper (envOfC e.name (a8 e.st) s.heap.objs.size fa cdv)) n->CsM T P w K mg base ms (A.deeper (envOfC e.name (a8 e.st) s.heap.objs.size fa cdv)) n ->
  PSs (Jz CX0 P w K mg base e.N e.name (a8 e.st) fa cdv A outer s H E).nox (gj e.st) (tSs K (ag T n) e.df.body)
theorem ow {e:Ent} (dv:∀(n:Nat) (fa:Addr) (cdv:Value) (A:Around) (outer:List Env) (s:Shared) (H:Hp) (E:XK),(A.deeper (envOfC e.name (a8 e.st) s.heap.objs.size fa cdv)).units+64<cLine ->
  Cs T P w K mg base es (A.deeper (envOfC e.name (a8 e.st) s.heap.objs.size fa cdv)) n->CsM T P w K mg base ms (A.deeper (envOfC e.name (a8 e.st) s.heap.objs.size fa cdv)) n ->
  PSs (Jz CX0 P w K mg base e.N e.name (a8 e.st) fa cdv A outer s H E).nox (gj e.st) (tSs K (ag T n) e.df.body))
  (b:DerB T e:=by exact⟨⟨rfl,rfl,rfl,by decide +kernel,rfl,by decide +kernel,by decide +kernel⟩,rfl,rfl,rfl⟩):DerO T P w K mg base es ms e:=⟨b,dv⟩
abbrev Ux (K:PySem.W.Frag) (mg:Str->Option Value) (ms:List MEnt):Prop:=∀(j:Nat) x,ms[j]? = some x->MModOf K mg x
theorem Zn (M:Zm K mg es) (MM:Ux K mg ms) (Dv:∀(j:Nat) e,es[j]? = some e->DerO T P w K mg base es ms e) (DM:∀(j:Nat) x,ms[j]? = some x->DerO T P w K mg base es ms x.e):∀(n:Nat),
  (∀(j:Nat) e,es[j]? = some e->∀(fa:Addr) (fd:FuncData),mg e.name=some (.ref fa)->Fun K e.name e.name e.st fa fd->FnOk P w K mg base CX0 n fa fd e.ps (spD K (ag T n) e.id)) /\
  (∀(j:Nat) x,ms[j]? = some x->∀(fa:Addr) (fd:FuncData),Fun K x.m x.e.name x.e.st fa fd->FnOk P w K mg base CX0 n fa fd x.e.ps (spD K (ag T n) x.e.id))
 | 0=>⟨λj e _ fa fd _ _=>Fy,λj e _ fa fd _=>Fy⟩
 | n+1=>by
  obtain⟨ih,ihM⟩:=Zn M MM Dv DM n
  have cs:∀{A:Around},uq n A->Cs T P w K mg base es A n:=λ{A} hr i e' he'=>by
   obtain⟨fa',fd',hm',hF',hb'⟩:=(M i e' he').ex
   exact⟨n,fa',fd',e'.ps,ih i e' he' fa' fd' hm' hF',hr,hm',hF'.kp,.all hb'⟩
  have cm:∀{A:Around},uq n A->CsM T P w K mg base ms A n:=λ{A} hr i x hx=>by
   obtain⟨C,fa',fd',h1,h2,h3,h4,hF',hb'⟩:=(MM i x hx).ex
   exact⟨n,C,fa',fd',x.e.ps,ihM i x hx fa' fd' hF',hr,h1,h2,h3,h4,.all hb'⟩
  refine⟨λj e he fa fd hm hF=>?_,λj x hx fa fd hF=>?_⟩
  ·have d:=Dv j e he
   exact Fx hF d.sc d.tb d.np d.nn λcdv A outer s H E hr=>d.dv n fa cdv A outer s H E hr.1.units (cs hr) (cm hr)
  ·have d:=DM j x hx
   exact Fx hF d.sc d.tb d.np d.nn λcdv A outer s H E hr=>d.dv n fa cdv A outer s H E hr.1.units (cs hr) (cm hr)
theorem K3 {n j:Nat} {e:Ent} {fa:Addr} (M:Zm K mg es) (MM:Ux K mg ms)
  (Dv:∀(base:Heap) (j:Nat) e,es[j]? = some e->DerO T P w K mg base es ms e) (DM:∀(base:Heap) (j:Nat) x,ms[j]? = some x->DerO T P w K mg base es ms x.e)
  (he:es[j]? = some e) (hfa:mg e.name=some (.ref fa)) (hps:e.ps=[("script":Str)])
  (hlaw:∀ns:List Int,ns.length<=63->∃μ',ag T n e.id [.lst (ns.map D.int)] []=.ok (.bl true) μ') :
  ∃fd:FuncData,(∀(s:Shared) (v:Value),BindsTo s fd ⟨[v],[]⟩ [("script",v)])/\∀base:Heap,K.In base->base.Ns mainGlobals mg->FnOk P w K mg base CX0 n fa fd ["script"] (Pp K):=by
 obtain⟨fa',fd,hm,hF,hb⟩:=(M j e he).ex
 have z:=hfa.symm.trans hm
 cases z
 rw[hps]at hb
 refine⟨fd,λs v=>.of_eq (hb [v] rfl),λbase _ _=>?_⟩
 have q:=(Zn M MM (Dv base) (DM base) n).1 j e he fa fd hm hF
 rw[hps]at q
 refine q.imp λvs H Q E ⟨a,ns,ev,hS,hl,q⟩=>?_
 subst ev
 obtain⟨μ',el⟩:=hlaw ns hl
 refine⟨[],[.lst (ns.map D.int)],[],⟨rfl,List.nodup_nil,λn a o e1 e2=>by simp at e1⟩,?_,?_⟩
 ·simp![af,IsD]
  exact⟨.ref a,[],rfl,⟨a,_,rfl,hS,af.ints ns⟩,rfl⟩
 ·rw[el]
  intro ι' v H' p x s' d
  have ev:v=.bl true:=by simpa[IsD]using d
  subst ev
  exact q H'
structure CfQ (K:PySem.W.Frag) (c:Str) (fs:List Str):Prop where
 ex:∃C,PySem.W.nsIn K mainGlobals c=some (some (.ref C))/\Cls K C/\(∀f∈fs,l7 K C f)/\PySem.W.makesIn K C=true/\PySem.W.keepIn K (.ref C)=true
theorem Uy {c:Str} {C:Addr} {fs:List Str} (n:PySem.W.nsIn K mainGlobals c=some (some (.ref C))) (pg:PySem.W.plainGet K C Str.empty=true) (hd:PySem.W.hasDictIn K C=true) (po:PySem.W.plainOver K C=true) (sa:PySem.W.findIn K (.ref C) "__setattr__"=some (some (.builtin "object.__setattr__")))
  (mk:PySem.W.makesIn K C=true) (kp:PySem.W.keepIn K (.ref C)=true) (na:(fs.all λf=>PySem.W.findIn K (.ref C) f==some none)=true):CfQ K c fs :=
 ⟨C,n,⟨pg,hd,po,sa⟩,λf hf=>beq_iff_eq.mp (AR.mp na f hf),mk,kp⟩
abbrev Mo (K:PySem.W.Frag) (c:Str) (fs:List Str):Prop:=CfQ K c fs\/PySem.W.nsIn K mainGlobals c=some none
theorem Gw {c:Str} {fs:List Str} (q:Mo K c fs):MkC K c:=λC hC=>by
 rcases q with⟨C',n,_,_,m,k⟩ | q
 ·rw[n]at hC;cases hC
  exact⟨m,k⟩
 ·rw[q]at hC;cases hC
theorem Yl (r:Mo K "Residue" ["heads","rooms","leaving","surplus"]) (l:Mo K "Slope" ["residue","scale","costs","worths"]) (v:Mo K "Watch" ["rests"]):CF K:=by
 have one:∀{c:Str} {fs:List Str} (q:Mo K c fs) (f:Str) (C:Addr),PySem.W.nsIn K mainGlobals c=some (some (.ref C))->f∈fs->Cls K C/\l7 K C f:=λq f C hC hf=>by
  rcases q with⟨C',n,cl,na,_,_⟩ | q
  ·rw[n]at hC;cases hC
   exact⟨cl,na f hf⟩
  ·rw[q]at hC;cases hC
 intro c f C hC hf
 unfold yg at hf
 split at hf
 ·rename_i e
  subst e
  simp![HM,decide_eq_true_eq]at hf
  exact one r f C hC (by rcases hf with((rfl | rfl) | rfl) | rfl<;>simp)
 ·split at hf
  ·rename_i e
   subst e
   simp![HM,decide_eq_true_eq]at hf
   exact one l f C hC (by rcases hf with((rfl | rfl) | rfl) | rfl<;>simp)
  ·split at hf
   ·rename_i e
    subst e
    simp![decide_eq_true_eq]at hf
    exact one v f C hC (by subst hf;simp)
   ·cases hf
end
end Lp
namespace Lp.Tim
open PySem PyProof.Rows
structure Sm (st st':SortSt):Prop where
 kind:kindOf st'=kindOf st
 arr:arrOf st'=arrOf st
 pend:pendingOf st'=pendingOf st
 fail:failedOf st'=failedOf st
end Lp.Tim
namespace Lp
open PySem PySem.Spec PyProof.Rows L2
section
variable {X : Cx} {φ : Phi} {pos : Pos} {ι : List Addr} {H : Hp}
theorem deqs_self:∀(x:List Int),Bk (x.map D.int) (x.map D.int)=true
 | []=>rfl
 | a::x=>by simp[Bk,deq,deqs_self x]
end
end Lp
namespace Lr
open Lp
open PySem
theorem vt {f:D->Sl->Sto->Res Fl} (I:Nat->Sl->Sto->Prop):∀{ds:List D} {σ:Sl} {μ:Sto} (k:Nat),I k σ μ ->
  (∀(j:Nat) d σ μ,ds[j]? = some d->I (k+j) σ μ->∃σ' μ',f d σ μ=.ok (.nx σ') μ'/\I (k+j+1) σ' μ') ->
  ∃σ' μ',iq none f ds σ μ=.ok (.nx σ') μ'/\I (k+ds.length) σ' μ'
 | [],σ,μ,k,h,_=>⟨σ,μ,by simp[iq],h⟩
 | d::ds,σ,μ,k,h,st=>by
  obtain⟨σ1,μ1,e1,h1⟩:=st 0 d σ μ rfl h
  obtain⟨σ2,μ2,e2,h2⟩:=vt I (ds:=ds) (σ:=σ1) (μ:=μ1) (k+1) h1 λj d σ μ e i=>by
   obtain⟨σ',μ',a,b⟩:=st (j+1) d σ μ (by simpa using e) (by rw[show k+(j+1)=k+1+j by omega];exact i)
   exact⟨σ',μ',a,by rw[show k+1+j+1=k+(j+1)+1 by omega];exact b⟩
  refine⟨σ2,μ2,?_,by rw[show k+(d::ds).length=k+1+ds.length by simp;omega];exact h2⟩
  simp![iq,Ab,if_true,e1,Res.ar,e2]
theorem qt {g:Gd} {f:D->Sl->Sto->Res Fl} (I:Nat->Sl->Sto->Prop) (R:Fl->Sto->Prop):∀{ds:List D} {σ:Sl} {μ:Sto} (k:Nat),(∀j σ μ,I j σ μ->gd g μ)->I k σ μ ->
  (∀(j:Nat) d σ μ,ds[j]? = some d->I (k+j) σ μ->∃fl μ',f d σ μ=.ok fl μ'/\match fl with
   | .nx σ'=>I (k+j+1) σ' μ'
   | .ct σ'=>I (k+j+1) σ' μ'
   | .bk σ'=>R (.nx σ') μ'
   | .rt v=>R (.rt v) μ')->(∀σ μ,I (k+ds.length) σ μ->R (.nx σ) μ) ->
  ∃fl μ',iq g f ds σ μ=.ok fl μ'/\R fl μ'
 | [],σ,μ,k,hg,h,_,fin=>⟨.nx σ,μ,by simp[iq,hg k σ μ h],fin σ μ h⟩
 | d::ds,σ,μ,k,hg,h,st,fin=>by
  obtain⟨fl,μ1,e1,h1⟩:=st 0 d σ μ rfl h
  have rest:∀σ1,I (k+1) σ1 μ1->∃fl μ',iq g f ds σ1 μ1=.ok fl μ'/\R fl μ':=λσ1 i=>qt I R (ds:=ds) (k+1) hg i (λj d σ μ e i=>by
   obtain⟨fl,μ',a,b⟩:=st (j+1) d σ μ (by simpa using e) (by rw[show k+(j+1)=k+1+j by omega];exact i)
   refine⟨fl,μ',a,?_⟩
   rw[show k+(j+1)+1=k+1+j+1 by omega]at b
   exact b) λσ μ i=>fin σ μ (by rw[show k+(d::ds).length=k+1+ds.length by simp;omega];exact i)
  cases fl with
  | nx σ1 =>
   obtain⟨fl,μ',a,b⟩:=rest σ1 h1
   exact⟨fl,μ',by simp![iq,hg k σ μ h,if_true,e1,Res.ar,a],b⟩
  | ct σ1 =>
   obtain⟨fl,μ',a,b⟩:=rest σ1 h1
   exact⟨fl,μ',by simp![iq,hg k σ μ h,if_true,e1,Res.ar,a],b⟩
  | bk σ1=>exact⟨.nx σ1,μ1,by simp![iq,hg k σ μ h,if_true,e1,Res.ar],h1⟩
  | rt v=>exact⟨.rt v,μ1,by simp![iq,hg k σ μ h,if_true,e1,Res.ar],h1⟩
theorem ak {T:List Df} {n i:Nat} {d:Df} {ds:List D} {μ:Sto} (h:T[i]? = some d):ag T (n+1) i ds μ=Rg (ag T n) d ds μ:=by
 simp![ag,h]
def finD (fl:Fl) (μ:Sto):Res D:=match fl with
 | .nx _=>.ok .non μ
 | .rt d=>.ok d μ
 | _=>.stuck
@[simp] theorem Gx (d:D) (μ:Sto):finD (.rt d) μ=.ok d μ:=rfl
@[simp] theorem Gy (σ:Sl) (μ:Sto):finD (.nx σ) μ=.ok .non μ:=rfl
theorem run_eq {φ:Phi} {f:Df} {ds:List D} {μ:Sto} (h:ds.length=f.np):Rg φ f ds μ=(jy φ f.body (ds.map some++List.replicate (f.nn-f.np) none) μ).bind finD:=by
 rw[Rg,if_pos h];rfl
theorem i8 (b:Nat):∀(k:Nat) (d:D),D.pureN k d=true->D.belowN b k d=true
 | 0,d,h=>by cases d<;>simp_all[D.pureN,D.belowN]
 | k+1,d,h=>by
  cases d with
  | tup ds =>
   simp![D.pureN,D.belowN,AR]at h ⊢
   exact λx hx=>i8 b k x (h x hx)
  | lst ds =>
   simp![D.pureN,D.belowN,AR]at h ⊢
   exact λx hx=>i8 b k x (h x hx)
  | loc n=>simp[D.pureN]at h
  | _=>rfl
theorem g9 {k:Nat} {ds:List D}:D.pureN (k+1) (.tup ds)=ds.all (D.pureN k):=rfl
theorem vv {k:Nat} {ds:List D}:D.pureN (k+1) (.lst ds)=ds.all (D.pureN k):=rfl
theorem qu {k:Nat} {i:Int}:D.pureN k (.int i)=true:=by cases k<;>rfl
abbrev c6 (μ:Sto):Prop:=μ.all (ba μ.length)=true
theorem ua {d:D} {μ:Sto} {b:Nat} (hd:d.pure=true) (hb:μ.length=b) (hr:c6 μ):lj false b (.ok d μ)=.ok d μ:=by
 have e:μ.take b=μ:=DG (by omega)
 have hr':μ.all (ba b)=true:=by rw[<-hb];exact hr
 simp![lj,BF,if_false,e,i8 b 8 d hd,hr',and_self,if_true]
@[simp] theorem nu {d:D} {μ:Sto} {b:Nat}:lj true b (.ok d μ)=.ok d μ:=by simp[lj]
theorem op_mul {i j:Int} {μ:Sto} (h:CMul i j):opI .Mult i j μ=.ok (.int (i*j)) μ:=by simp[opI,h]
theorem qw {i j:Int} {μ:Sto} (h:0<j) (h2:j<1073741824):opI .FloorDiv i j μ=.ok (.int (i / j)) μ:=by simp[opI,h,h2]
theorem op_mod {i j:Int} {μ:Sto} (h:0<j):opI .Mod i j μ=.ok (.int (i % j)) μ:=by simp[opI,h]
theorem op_add {i j:Int} {μ:Sto}:opI .Add i j μ=.ok (.int (i+j)) μ:=rfl
theorem op_sub {i j:Int} {μ:Sto}:opI .Sub i j μ=.ok (.int (i-j)) μ:=rfl
theorem op_pow {i:Int} {j:Int} {μ:Sto} (h:0<=j/\j<=1000000/\i.natAbs<2 ^ 64):opI .Pow i j μ=.ok (.int (i ^ j.toNat)) μ:=by simp[opI,h]
theorem op_shr {i j:Int} {μ:Sto} (h:0<=j):opI .RShift i j μ=.ok (.int (i / 2 ^ j.toNat)) μ:=by simp[opI,h]
theorem Av {op:Operator} {m:Mk} {i j:Int} {μ:Sto}:opD op m (.int i) (.int j) μ=opI op i j μ:=rfl
theorem _root_.Lp.CMul.left {i j:Int} (h:-(2 ^ 64)<i) (h2:i<2 ^ 64):CMul i j:=.inl ⟨h,h2⟩
theorem _root_.Lp.CMul.right {i j:Int} (h:-(2 ^ 64)<j) (h2:j<2 ^ 64):CMul i j:=.inr ⟨h,h2⟩
theorem mh (ns:List Int):bz (ns.map D.int)=some ns:=by
 induction ns with
 | nil=>rfl
 | cons n r ih=>simp[bz,ih]
theorem ub (ns:List Bool):ma (ns.map D.bl)=some ns:=by
 induction ns with
 | nil=>rfl
 | cons n r ih=>simp[ma,ih]
theorem vw (i:Int):(D.int i).pure=true:=rfl
open PySem
section
variable (φ : Phi)
def Zo (o:Option (Option D)) (μ:Sto):Res D:=match o with
 | some (some d)=>.ok d μ
 | _=>.stuck
def kB (op:Operator) (m:Mk) (b:Ex) (σ:Sl) (x:D) (μ:Sto):Res D:=(evE φ b σ μ).bind (opD op m x)
def kNeg (x:D) (μ:Sto):Res D:=match x with
 | .int i=>.ok (.int (-i)) μ
 | _=>.stuck
def kNot (x:D) (μ:Sto):Res D:=match x with
 | .bl b=>.ok (.bl (!b)) μ
 | _=>.stuck
def Ym (b:Ex) (σ:Sl) (x:D) (μ:Sto):Res D:=match x with
 | .bl c=>if c=true then evE φ b σ μ else .ok (.bl false) μ
 | _=>.stuck
def kOr (b:Ex) (σ:Sl) (x:D) (μ:Sto):Res D:=match x with
 | .bl c=>if c=true then .ok (.bl true) μ else evE φ b σ μ
 | _=>.stuck
def Yn (a b:Ex) (σ:Sl) (x:D) (μ:Sto):Res D:=match x with
 | .bl c=>if c=true then evE φ a σ μ else evE φ b σ μ
 | _=>.stuck
def Zp (r:Cps) (σ:Sl) (x:D) (μ:Sto):Res D:=evC φ r x σ μ
def Wn (r:Cps) (y:D) (σ:Sl) (z:D) (μ:Sto):Res D:=match z with
 | .bl b=>if b=true then evC φ r y σ μ else .ok (.bl false) μ
 | _=>.stuck
def kCh (op:Cp) (x:D) (r:Cps) (σ:Sl) (y:D) (μ:Sto):Res D:=(cpD op x y μ).bind (Wn φ r y σ)
def iy (keep:Bool) (f:Nat) (ds:List D) (μ:Sto):Res D:=lj keep μ.length (φ f ds μ)
def kM (mt:Mt) (es:Exs) (σ:Sl) (x:D) (μ:Sto):Res D:=if md mt x μ=true then(eh φ es σ μ).bind (mtD mt x)else .stuck
def kIx (b:Ex) (σ:Sl) (x:D) (μ:Sto):Res D:=(evE φ b σ μ).bind (ixD x)
def Yo (m:Mk) (hi:ExO) (σ:Sl) (x:D) (l:Option Int) (μ:Sto):Res D:=(evO φ hi σ μ).bind (slD m x l)
def kSl (m:Mk) (lo hi:ExO) (σ:Sl) (x:D) (μ:Sto):Res D:=(evO φ lo σ μ).bind (Yo φ m hi σ x)
def kTup (ds:List D) (μ:Sto):Res D:=.ok (.tup ds) μ
def Yp (d:D) (ds:List D) (μ:Sto):Res (List D):=.ok (d::ds) μ
def kEs (es:Exs) (σ:Sl) (d:D) (μ:Sto):Res (List D):=(eh φ es σ μ).bind (Yp d)
def kInt (x:D) (μ:Sto):Res (Option Int):=match x with
 | .int i=>.ok (some i) μ
 | _=>.stuck
def kOne (x:D) (μ:Sto):Res (List D):=.ok [x] μ
def Wo (elt:Ex) (σ:Sl) (b:Bool) (μ:Sto):Res (List D):=if b=true then(evE φ elt σ μ).bind kOne else .ok [] μ
def Zq (cs:Exs) (elt:Ex) (μ:Sto) (σ:Sl):Res (List D):=(Dj φ cs σ μ).bind (Wo φ elt σ)
def ox (tg:Tg) (cs:Exs) (elt:Ex) (σ0:Sl) (d:D) (μ:Sto):Res (List D):=jx (f6 tg d σ0) (Zq φ cs elt μ)
def j0 (m:Mk) (tg:Tg) (cs:Exs) (elt:Ex) (σ0:Sl) (w:List D×Gd) (μ:Sto):Res D:=(mapR w.2 (ox φ tg cs elt σ0) w.1 μ).bind (mkL m)
def kCs (es:Exs) (σ:Sl) (x:D) (μ:Sto):Res Bool:=match x with
 | .bl b=>if b=true then Dj φ es σ μ else .ok false μ
 | _=>.stuck
def kSeq (x:D) (μ:Sto):Res (List D×Gd):=match bc μ x with
 | some w=>.ok w μ
 | none=>.stuck
def kRng (x:D) (μ:Sto):Res (List D×Gd):=match x with
 | .int j=>if -(lim:Int)<=j/\j<=lim then .ok ((List.range j.toNat).map fun(i:Nat)=>D.int i,none) μ else .stuck
 | _=>.stuck
def Mp (x y:D) (μ:Sto):Res (List D×Gd):=match x,y with
 | .int i,.int j=>if -(lim:Int)<=i/\i<=lim/\j<=lim /\ -(lim:Int)<=j/\(j-i)<=lim then .ok ((List.range (j-i).toNat).map fun(k:Nat)=>D.int (i+k),none) μ else .stuck
 | _,_=>.stuck
def Uz (b:Ex) (σ:Sl) (x:D) (μ:Sto):Res (List D×Gd):=(evE φ b σ μ).bind (Mp x)
def K4 (x y:D) (μ:Sto):Res (List D×Gd):=match bc μ x,bj [] y with
 | some w,some ys=>.ok ((w.1.zip ys).map λp=>.tup [p.1,p.2],w.2) μ
 | _,_=>.stuck
def Zr (b:Ex) (σ:Sl) (x:D) (μ:Sto):Res (List D×Gd):=(evE φ b σ μ).bind (K4 x)
def kEnum (x:D) (μ:Sto):Res (List D×Gd):=match bc μ x with
 | some w=>.ok ((List.range w.1.length |>.zip w.1).map fun(p:Nat×D)=>.tup [.int p.1,p.2],w.2) μ
 | none=>.stuck
def kVals (x:D) (μ:Sto):Res (List D×Gd):=match x with
 | .loc n=>match μ[n]? with
  | some (.d kvs)=>.ok (kvs.map (·.2),none) (μ.set n .dead)
  | _=>.stuck
 | _=>.stuck
def Zs (i:Nat) (σ:Sl) (d:D) (μ:Sto):Res Fl:=.ok (.nx (σ.set i (some d))) μ
def Yq (o:Option Sl) (μ:Sto):Res Fl:=match o with
 | some σ'=>.ok (.nx σ') μ
 | none=>.stuck
def Zt (is:List Nat) (σ:Sl) (d:D) (μ:Sto):Res Fl:=Yq (f6 (.many is) d σ) μ
def kNx {α:Type} (σ:Sl) (_:α) (μ:Sto):Res Fl:=.ok (.nx σ) μ
def Yr (σ:Sl) (d x:D) (y:D) (μ:Sto):Res Fl:=(zy x y d μ).bind (kNx σ)
def Ys (i:Ex) (σ:Sl) (d:D) (x:D) (μ:Sto):Res Fl:=(evE φ i σ μ).bind (Yr σ d x)
def kSx (o i:Ex) (σ:Sl) (d:D) (μ:Sto):Res Fl:=(evE φ o σ μ).bind (Ys φ i σ d)
def kIf (a b:Sms) (σ:Sl) (x:D) (μ:Sto):Res Fl:=match x with
 | .bl k=>if k=true then jy φ a σ μ else jy φ b σ μ
 | _=>.stuck
def kLp (b:Sms) (μ:Sto) (σ:Sl):Res Fl:=jy φ b σ μ
def fLp (tg:Tg) (b:Sms) (d:D) (σ:Sl) (μ:Sto):Res Fl:=jx (f6 tg d σ) (kLp φ b μ)
def Ds (tg:Tg) (b:Sms) (σ:Sl) (w:List D×Gd) (μ:Sto):Res Fl:=iq w.2 (fLp φ tg b) w.1 σ μ
def kRet (d:D) (μ:Sto):Res Fl:=.ok (.rt d) μ
def kSs (r:Sms) (fl:Fl) (μ:Sto):Res Fl:=match fl with
 | .nx σ'=>jy φ r σ' μ
 | fl=>.ok fl μ
end
section
variable {φ : Phi} {σ : Sl} {μ : Sto} {a b c e o i : Ex} {es : Exs} {m : Mk} {op : Operator} {r : Cps} {s : Sm} {rs : Sms}
theorem U0 {i:Nat}:evE φ (.var i) σ μ=Zo σ[i]? μ:=rfl
theorem U1 {d:D}:evE φ (.cst d) σ μ=.ok d μ:=rfl
theorem U2:evE φ (.bin op m a b) σ μ=(evE φ a σ μ).bind (kB φ op m b σ):=rfl
theorem U3:evE φ (.neg a) σ μ=(evE φ a σ μ).bind kNeg:=rfl
theorem U4:evE φ (.not a) σ μ=(evE φ a σ μ).bind kNot:=rfl
theorem U5:evE φ (.and a b) σ μ=(evE φ a σ μ).bind (Ym φ b σ):=rfl
theorem Zu:evE φ (.or a b) σ μ=(evE φ a σ μ).bind (kOr φ b σ):=rfl
theorem U6:evE φ (.ite c a b) σ μ=(evE φ c σ μ).bind (Yn φ a b σ):=rfl
theorem U7:evE φ (.cmp a r) σ μ=(evE φ a σ μ).bind (Zp φ r σ):=rfl
theorem K5 {α:Type} (x:Res α):(x.bind λa μ=>.ok a μ)=x:=by cases x<;>rfl
theorem U8 {op:Cp} {x:D}:evC φ (.cons op e .nil) x σ μ=(evE φ e σ μ).bind (cpD op x):=by
 simp![evC,K5]
theorem Mq {op op':Cp} {x:D} {e':Ex}:evC φ (.cons op e (.cons op' e' r)) x σ μ=(evE φ e σ μ).bind (kCh φ op x (.cons op' e' r) σ):=by
 rw[evC]
 all_goals rfl
theorem Mr {keep:Bool} {f:Nat}:evE φ (.call keep f es) σ μ=(eh φ es σ μ).bind (iy φ keep f):=rfl
theorem U9 {b:Bt}:evE φ (.blt b m es) σ μ=(eh φ es σ μ).bind (btD b m):=rfl
theorem Va {c:Cl}:evE φ (.isi a c) σ μ=(evE φ a σ μ).bind (Zg c):=rfl
theorem Ms {mt:Mt}:evE φ (.meth mt o es) σ μ=(evE φ o σ μ).bind (kM φ mt es σ):=rfl
theorem Zv:evE φ (.ix a b) σ μ=(evE φ a σ μ).bind (kIx φ b σ):=rfl
theorem Zw {lo hi:ExO}:evE φ (.sl m a lo hi) σ μ=(evE φ a σ μ).bind (kSl φ m lo hi σ):=rfl
theorem Vb:evE φ (.tup es) σ μ=(eh φ es σ μ).bind kTup:=rfl
theorem Vc:evE φ (.lst m es) σ μ=(eh φ es σ μ).bind (mkL m):=rfl
theorem Vd {t:Bool}:evE φ (.dic t es) σ μ=(eh φ es σ μ).bind (Tn t):=rfl
theorem Mu {cap:List Nat} {nl:Nat} {tg:Tg} {it:It} {cs:Exs} {elt:Ex}:evE φ (.comp m cap nl tg it cs elt) σ μ=(evI φ it σ μ).bind (j0 φ m tg cs elt (cap.map (λi=>(σ[i]?).getD none)++List.replicate nl none)):=rfl
theorem Mv:eh φ .nil σ μ=.ok [] μ:=rfl
theorem Gz:eh φ (.cons e es) σ μ=(evE φ e σ μ).bind (kEs φ es σ):=rfl
theorem Zx:evO φ .no σ μ=.ok none μ:=rfl
theorem Zy:evO φ (.so e) σ μ=(evE φ e σ μ).bind kInt:=rfl
theorem Mw:Dj φ .nil σ μ=.ok true μ:=rfl
theorem G0:Dj φ (.cons e es) σ μ=(evE φ e σ μ).bind (kCs φ es σ):=rfl
theorem Ve:evI φ (.seq e) σ μ=(evE φ e σ μ).bind kSeq:=rfl
theorem Vf:evI φ (.rng e) σ μ=(evE φ e σ μ).bind kRng:=rfl
theorem Mx:evI φ (.rng2 a b) σ μ=(evE φ a σ μ).bind (Uz φ b σ):=rfl
theorem Vg:evI φ (.zip a b) σ μ=(evE φ a σ μ).bind (Zr φ b σ):=rfl
theorem My:evI φ (.enum a) σ μ=(evE φ a σ μ).bind kEnum:=rfl
theorem Mz:evI φ (.vals a) σ μ=(evE φ a σ μ).bind kVals:=rfl
theorem Vh {i:Nat}:evS φ (.set i e) σ μ=(evE φ e σ μ).bind (Zs i σ):=rfl
theorem Vi {is:List Nat}:evS φ (.unp is e) σ μ=(evE φ e σ μ).bind (Zt is σ):=rfl
theorem M1:evS φ (.setx o i e) σ μ=(evE φ e σ μ).bind (kSx φ o i σ):=rfl
theorem Zz:evS φ (.ex e) σ μ=(evE φ e σ μ).bind (kNx σ):=rfl
theorem Vj {x y:Sms}:evS φ (.ite c x y) σ μ=(evE φ c σ μ).bind (kIf φ x y σ):=rfl
theorem M3 {tg:Tg} {it:It} {b:Sms}:evS φ (.loop tg it b) σ μ=(evI φ it σ μ).bind (Ds φ tg b σ):=rfl
theorem Vk:evS φ (.ret e) σ μ=(evE φ e σ μ).bind kRet:=rfl
theorem M4:evS φ .pass σ μ=.ok (.nx σ) μ:=rfl
theorem Vl:evS φ .brk σ μ=.ok (.bk σ) μ:=rfl
theorem M5:evS φ .cont σ μ=.ok (.ct σ) μ:=rfl
theorem M6:jy φ .nil σ μ=.ok (.nx σ) μ:=rfl
theorem G1:jy φ (.cons s rs) σ μ=(evS φ s σ μ).bind (kSs φ rs):=rfl
theorem dz {f:Nat} {ds:List D} {d:D} {μ':Sto} (h:φ f ds μ=.ok d μ') (hd:d.pure=true) (hl:μ'.length=μ.length) (hr:c6 μ'):iy φ false f ds μ=.ok d μ':=by
 rw[iy,h,ua hd hl hr]
theorem ki {f:Nat} {ds:List D} {d:D} {μ':Sto} (h:φ f ds μ=.ok d μ'):iy φ true f ds μ=.ok d μ':=by
 rw[iy,h];simp
theorem Vm {mt:Mt} {x:D} (h:md mt x μ=true):kM φ mt es σ x μ=(eh φ es σ μ).bind (mtD mt x):=by rw[kM,if_pos h]
theorem yw {d:D}:Zo (some (some d)) μ=.ok d μ:=rfl
theorem Bz {i:Int}:kNeg (.int i) μ=.ok (.int (-i)) μ:=rfl
theorem G4 {b:Bool}:kNot (.bl b) μ=.ok (.bl (!b)) μ:=rfl
theorem M7 {b:Ex}:Ym φ b σ (.bl true) μ=evE φ b σ μ:=rfl
theorem M8 {b:Ex}:Ym φ b σ (.bl false) μ=.ok (.bl false) μ:=rfl
theorem Vn {b:Ex}:kOr φ b σ (.bl true) μ=.ok (.bl true) μ:=rfl
theorem Vo {b:Ex}:kOr φ b σ (.bl false) μ=evE φ b σ μ:=rfl
theorem M9:Yn φ a b σ (.bl true) μ=evE φ a σ μ:=rfl
theorem Na:Yn φ a b σ (.bl false) μ=evE φ b σ μ:=rfl
theorem Nc {y:D}:Wn φ r y σ (.bl true) μ=evC φ r y σ μ:=rfl
theorem Nd {y:D}:Wn φ r y σ (.bl false) μ=.ok (.bl false) μ:=rfl
theorem Vp:kCs φ es σ (.bl true) μ=Dj φ es σ μ:=rfl
theorem Vq:kCs φ es σ (.bl false) μ=.ok false μ:=rfl
theorem Nf {elt:Ex}:Wo φ elt σ true μ=(evE φ elt σ μ).bind kOne:=rfl
theorem Ng {elt:Ex}:Wo φ elt σ false μ=.ok [] μ:=rfl
theorem B1 {i:Int}:kInt (.int i) μ=.ok (some i) μ:=rfl
theorem Vr {x y:Sms}:kIf φ x y σ (.bl true) μ=jy φ x σ μ:=rfl
theorem Vs {x y:Sms}:kIf φ x y σ (.bl false) μ=jy φ y σ μ:=rfl
theorem Nh {σ':Sl}:kSs φ rs (.nx σ') μ=jy φ rs σ' μ:=rfl
theorem Ni {d:D}:kSs φ rs (.rt d) μ=.ok (.rt d) μ:=rfl
theorem Nj {σ':Sl}:kSs φ rs (.bk σ') μ=.ok (.bk σ') μ:=rfl
theorem Nk {σ':Sl}:kSs φ rs (.ct σ') μ=.ok (.ct σ') μ:=rfl
theorem yx {σ':Sl}:Yq (some σ') μ=.ok (.nx σ') μ:=rfl
theorem B2 {ds:List D}:kSeq (.tup ds) μ=.ok (ds,none) μ:=rfl
theorem B3 {ds:List D}:kSeq (.lst ds) μ=.ok (ds,none) μ:=rfl
theorem Qh {j:Int} (h:-1000000<=j/\j<=1000000):kRng (.int j) μ=.ok ((List.range j.toNat).map fun(i:Nat)=>D.int i,none) μ:=by
 have:=lb
 simp![kRng]
 rw[if_pos ⟨by lia,by lia⟩]
theorem o8 {n:Nat} (h:n<=1000000):kRng (.int n) μ=.ok ((List.range n).map fun(i:Nat)=>D.int i,none) μ:=by
 rw[Qh ⟨by lia,by lia⟩,DN]
theorem yy {i:Nat} {d:D}:f6 (.one i) d σ=some (σ.set i (some d)):=rfl
theorem Vt {i j:Int}:cpD .lt (.int i) (.int j) μ=.ok (.bl (decide (i<j))) μ:=rfl
theorem Vu {i j:Int}:cpD .le (.int i) (.int j) μ=.ok (.bl (decide (i<=j))) μ:=rfl
theorem Vv {i j:Int}:cpD .gt (.int i) (.int j) μ=.ok (.bl (decide (j<i))) μ:=rfl
theorem Vw {i j:Int}:cpD .ge (.int i) (.int j) μ=.ok (.bl (decide (j<=i))) μ:=rfl
theorem Nl {i j:Int}:cpD .eq (.int i) (.int j) μ=.ok (.bl (decide (i=j))) μ:=rfl
theorem Qi {x y:D} (hx:x.pure=true) (hy:y.pure=true):cpD .ne x y μ=.ok (.bl (!deq x y)) μ:=by simp[cpD,hx,hy]
theorem Nm {i j:Int}:cpD .ne (.int i) (.int j) μ=.ok (.bl (!decide (i=j))) μ:=Qi rfl rfl
theorem Nn {i j:Bool}:cpD .ne (.bl i) (.bl j) μ=.ok (.bl (!(i==j))) μ:=Qi rfl rfl
theorem Yt {x y:D} (hx:x.pure=true) (hy:y.pure=true):cpD .eq x y μ=.ok (.bl (deq x y)) μ:=by simp[cpD,hx,hy]
theorem bt_len {x:D} {xs:List D} (h:bj μ x=some xs):btD .len m [x] μ=.ok (.int xs.length) μ:=by simp[btD,seq1,h]
theorem bt_tuple {x:D} {xs:List D} (h:bj μ x=some xs):btD .tuple m [x] μ=.ok (.tup xs) μ:=by simp[btD,seq1,h]
theorem bt_list {x:D} {xs:List D} (h:bj μ x=some xs):btD .list m [x] μ=mkL m xs μ:=by simp[btD,seq1,h]
theorem bt_sum {x:D} {xs:List D} {ns:List Int} (h:bj μ x=some xs) (h2:bz xs=some ns):btD .sum m [x] μ=.ok (.int ns.sum) μ:=by simp[btD,J7,h,h2]
theorem bt_any {x:D} {xs:List D} {ns:List Bool} (h:bj μ x=some xs) (h2:ma xs=some ns):btD .any m [x] μ=.ok (.bl (ns.any id)) μ:=by simp[btD,E8,h,h2]
theorem bt_min {i j:Int}:btD .min m [.int i,.int j] μ=.ok (.int (min i j)) μ:=by
 simp![btD,minD]
 congr 2
 split<;>lia
theorem bt_max {i j:Int}:btD .max m [.int i,.int j] μ=.ok (.int (max i j)) μ:=by
 simp![btD,maxD]
 congr 2
 split<;>lia
theorem yz {ds:List D}:bj μ (.tup ds)=some ds:=rfl
theorem bo {ds:List D}:bj μ (.lst ds)=some ds:=rfl
theorem mi {ds:List D}:mkL .z ds μ=.ok (.lst ds) μ:=rfl
theorem B4 {x:D} {xs:List D} {k:Nat} {d:D} (h:bj μ x=some xs) (hd:xs[k]? = some d):ixD x (.int k) μ=.ok d μ:=by
 have hk:k<xs.length:=(AC.mp hd).1
 have e:ixN xs.length (k:Int)=some k:=by simp[ixN,hk]
 simp![ixD,h,e,hd]
theorem gp {i j:Nat} {a b:D}:f6 (.many [i,j]) (.tup [a,b]) σ=some ((σ.set i (some a)).set j (some b)):=rfl
theorem G5 {i j k:Nat} {a b c:D}:f6 (.many [i,j,k]) (.tup [a,b,c]) σ=some (((σ.set i (some a)).set j (some b)).set k (some c)):=rfl
theorem G6 {i j k l:Nat} {a b c d:D}:f6 (.many [i,j,k,l]) (.tup [a,b,c,d]) σ=some ((((σ.set i (some a)).set j (some b)).set k (some c)).set l (some d)):=rfl
theorem G7 {i j k l m:Nat} {a b c d e:D}:f6 (.many [i,j,k,l,m]) (.tup [a,b,c,d,e]) σ=some (((((σ.set i (some a)).set j (some b)).set k (some c)).set l (some d)).set m (some e)):=rfl
theorem Qj {α:Type} {xs:List α} {en:α->D} {k:Nat} {a:α} (h:xs[k]? = some a):ixD (.lst (xs.map en)) (.int k) μ=.ok (en a) μ:=B4 bo (by rw[AX,h];rfl)
theorem Qk {α:Type} {tg:Tg} {b:Sms} {xs:List α} {en:α->D} (I:Nat->Sl->Prop) (h0:I 0 σ) (st:∀(k:Nat) a σ,xs[k]? = some a->I k σ->∃σ',fLp φ tg b (en a) σ μ=.ok (.nx σ') μ/\I (k+1) σ') :
  ∃σ',Ds φ tg b σ (xs.map en,none) μ=.ok (.nx σ') μ/\I xs.length σ':=by
 obtain⟨σ',μ',e,rfl,i⟩:=vt (f:=fLp φ tg b) (λk σ μ'=>μ'=μ/\I k σ) (ds:=xs.map en) (σ:=σ) (μ:=μ) 0 ⟨rfl,h0⟩ λj d σ μ' e ⟨q,i⟩=>by
  subst q
  rw[AX]at e
  cases ex:xs[j]? with
  | none=>rw[ex]at e;cases e
  | some a =>
   rw[ex]at e
   cases e
   obtain⟨σ',e',i'⟩:=st j a σ ex (by simpa using i)
   exact⟨σ',_,e',rfl,by simpa using i'⟩
 exact⟨σ',e,by simpa using i⟩
theorem comp_map {α:Type} {tg:Tg} {cs:Exs} {elt:Ex} {σ0:Sl} {xs:List α} {en:α->D} {g:α->D} (h:∀a∈xs,ox φ tg cs elt σ0 (en a) μ=.ok [g a] μ):j0 φ m tg cs elt σ0 (xs.map en,none) μ=mkL m (xs.map g) μ:=by
 have e:mapR none (ox φ tg cs elt σ0) (xs.map en) μ=.ok (xs.map g) μ:=by
  induction xs with
  | nil=>simp[mapR]
  | cons a r ih =>
   simp![AO,mapR,Ab,if_true,h a AT,Res.ar,ih λx hx=>h x (AJ _ hx)]
   rfl
 rw[j0]
 show(mapR none _ (xs.map en) μ).bind _=_
 rw[e];rfl
theorem qx {α:Type} {tg:Tg} {cs:Exs} {elt:Ex} {σ0:Sl} {xs:List α} {en:α->D} {g:α->D} {p:α->Bool} (h:∀a∈xs,ox φ tg cs elt σ0 (en a) μ=.ok (if p a=true then [g a]else []) μ):j0 φ m tg cs elt σ0 (xs.map en,none) μ=mkL m ((xs.filter p).map g) μ:=by
 have e:mapR none (ox φ tg cs elt σ0) (xs.map en) μ=.ok ((xs.filter p).map g) μ:=by
  induction xs with
  | nil=>simp[mapR]
  | cons a r ih =>
   simp![AO,mapR,Ab,if_true,h a AT,Res.ar,ih λx hx=>h x (AJ _ hx)]
   by_cases hp:p a=true
   ·simp[hp]
   ·simp[hp]
 rw[j0]
 show(mapR none _ (xs.map en) μ).bind _=_
 rw[e];rfl
def many {S α:Type} (G:S->α×S):Nat->S->List α×S
 | 0,s=>([],s)
 | n+1,s=>((G s).1::(many G n (G s).2).1,(many G n (G s).2).2)
theorem Vx {x:D}:kB φ op m b σ x μ=(evE φ b σ μ).bind (opD op m x):=rfl
theorem G8 {x:D}:Zp φ r σ x μ=evC φ r x σ μ:=rfl
theorem Np {o:Cp} {x y:D}:kCh φ o x r σ y μ=(cpD o x y μ).bind (Wn φ r y σ):=rfl
theorem Nq {x:D}:kIx φ b σ x μ=(evE φ b σ μ).bind (ixD x):=rfl
theorem G9 {hi:ExO} {x:D} {l:Option Int}:Yo φ m hi σ x l μ=(evO φ hi σ μ).bind (slD m x l):=rfl
theorem Nr {lo hi:ExO} {x:D}:kSl φ m lo hi σ x μ=(evO φ lo σ μ).bind (Yo φ m hi σ x):=rfl
theorem Ha {ds:List D}:kTup ds μ=.ok (.tup ds) μ:=rfl
theorem Hb {d:D} {ds:List D}:Yp d ds μ=.ok (d::ds) μ:=rfl
theorem Nt {d:D}:kEs φ es σ d μ=(eh φ es σ μ).bind (Yp d):=rfl
theorem Hc {x:D}:kOne x μ=.ok [x] μ:=rfl
theorem Hd {cs:Exs} {elt:Ex}:Zq φ cs elt μ σ=(Dj φ cs σ μ).bind (Wo φ elt σ):=rfl
theorem B5 {x:D}:Uz φ b σ x μ=(evE φ b σ μ).bind (Mp x):=rfl
theorem He {x:D}:Zr φ b σ x μ=(evE φ b σ μ).bind (K4 x):=rfl
theorem Hf {i:Nat} {d:D}:Zs i σ d μ=.ok (.nx (σ.set i (some d))) μ:=rfl
theorem Hg {is:List Nat} {d:D}:Zt is σ d μ=Yq (f6 (.many is) d σ) μ:=rfl
theorem Hh {d:D}:kNx σ d μ=.ok (.nx σ) μ:=rfl
theorem Hi {d:Unit}:kNx σ d μ=.ok (.nx σ) μ:=rfl
theorem Hj {d x y:D}:Yr σ d x y μ=(zy x y d μ).bind (kNx σ):=rfl
theorem Hk {i:Ex} {d x:D}:Ys φ i σ d x μ=(evE φ i σ μ).bind (Yr σ d x):=rfl
theorem Nu {o i:Ex} {d:D}:kSx φ o i σ d μ=(evE φ o σ μ).bind (Ys φ i σ d):=rfl
theorem Nv {b:Sms}:kLp φ b μ σ=jy φ b σ μ:=rfl
theorem Hl {d:D}:kRet d μ=.ok (.rt d) μ:=rfl
theorem B6 {n:Nat}:List.replicate (n+1) (none:Option D)=none::List.replicate n none:=rfl
theorem B7:List.replicate 0 (none:Option D)=[]:=rfl
end
section
variable {φ : Phi} {σ : Sl} {μ : Sto}
def Z0 (φ:Phi) (b:Ex) (σ:Sl) (x:D) (μ:Sto):Res D:=(evE φ b σ μ).bind (Fc x)
def Wp (σ:Sl) (x y z:D) (μ:Sto):Res Fl:=(zy x y z μ).bind (kNx σ)
def Wq (op:Operator) (σ:Sl) (x y old d:D) (μ:Sto):Res Fl:=(Xm op old d μ).bind (Wp σ x y)
def Yu (φ:Phi) (op:Operator) (e:Ex) (σ:Sl) (x y old:D) (μ:Sto):Res Fl:=(evE φ e σ μ).bind (Wq op σ x y old)
def Yv (φ:Phi) (op:Operator) (e:Ex) (σ:Sl) (x y:D) (μ:Sto):Res Fl:=(ixL x y μ).bind (Yu φ op e σ x y)
def Z1 (φ:Phi) (op:Operator) (i e:Ex) (σ:Sl) (x:D) (μ:Sto):Res Fl:=(evE φ i σ μ).bind (Yv φ op e σ x)
theorem Vy {a b:Ex}:evE φ (.dix a b) σ μ=(evE φ a σ μ).bind (Z0 φ b σ):=rfl
theorem Hm {b:Ex} {x:D}:Z0 φ b σ x μ=(evE φ b σ μ).bind (Fc x):=rfl
theorem Nw {op:Operator} {o i e:Ex}:evS φ (.augx op o i e) σ μ=(evE φ o σ μ).bind (Z1 φ op i e σ):=rfl
theorem Hn {op:Operator} {i e:Ex} {x:D}:Z1 φ op i e σ x μ=(evE φ i σ μ).bind (Yv φ op e σ x):=rfl
theorem Ho {op:Operator} {e:Ex} {x y:D}:Yv φ op e σ x y μ=(ixL x y μ).bind (Yu φ op e σ x y):=rfl
theorem Hq {op:Operator} {e:Ex} {x y old:D}:Yu φ op e σ x y old μ=(evE φ e σ μ).bind (Wq op σ x y old):=rfl
theorem B8 {x y:D} {i j:Int}:Wq .Add σ x y (.int i) (.int j) μ=Wp σ x y (.int (i+j)) μ:=rfl
theorem B9 {x y:D} {i j:Int}:Wq .Sub σ x y (.int i) (.int j) μ=Wp σ x y (.int (i-j)) μ:=rfl
theorem Hr {x y z:D}:Wp σ x y z μ=(zy x y z μ).bind (kNx σ):=rfl
def Z2 (φ:Phi) (b:Ex) (σ:Sl) (x:D) (μ:Sto):Res D:=(evE φ b σ μ).bind (Pb x)
def K6 (φ:Phi) (k1:Bool) (f:Nat) (x:D) (ds:List D) (μ:Sto):Res D:=Fd k1 μ.length (φ f (x::ds) μ)
def Vz (φ:Phi) (k1:Bool) (c m:Str) (f:Nat) (es:Exs) (σ:Sl) (x:D) (μ:Sto):Res D:=if isObj c m x μ=true then(eh φ es σ μ).bind (K6 φ k1 f x)else .stuck
def kMk (φ:Phi) (c:Str) (f:Nat) (ds:List D) (μ:Sto):Res D:=J9 μ.length (φ f (.loc μ.length::ds) (μ++[.o c []]))
def qy (φ:Phi) (f:Nat) (ds:List D) (μ:Sto):Res D:=Ac μ.length (φ f ds μ)
def Yw (f:Str) (σ:Sl) (d x:D) (μ:Sto):Res Fl:=(sj f x d μ).bind (kNx σ)
def Z3 (φ:Phi) (o:Ex) (f:Str) (σ:Sl) (d:D) (μ:Sto):Res Fl:=(evE φ o σ μ).bind (Yw f σ d)
def kWh (φ:Phi) (c:Ex) (b:Sms) (σ:Sl) (μ:Sto):Res Fl:=whR (λσ μ=>(evE φ c σ μ).bind zz) (λσ μ=>jy φ b σ μ) σ μ
def kKeys (x:D) (μ:Sto):Res (List D×Gd):=match x with
 | .loc n=>match μ[n]? with
  | some (.d kvs)=>.ok (kvs.map (·.1),none) (μ.set n (.fd kvs))
  | _=>.stuck
 | _=>.stuck
theorem abi {e:Ex} {f:Str}:evE φ (.att e f) σ μ=(evE φ e σ μ).bind (Ed f):=rfl
theorem Yx {k1:Bool} {c m:Str} {f:Nat} {o:Ex} {es:Exs}:evE φ (.mcall k1 c m f o es) σ μ=(evE φ o σ μ).bind (Vz φ k1 c m f es σ):=rfl
theorem Z4 {c:Str} {f:Nat} {es:Exs}:evE φ (.make c f es) σ μ=(eh φ es σ μ).bind (kMk φ c f):=rfl
theorem Yy {f:Nat} {es:Exs}:evE φ (.callK f es) σ μ=(eh φ es σ μ).bind (qy φ f):=rfl
theorem abj {e:Ex}:evE φ (.tru e) σ μ=(evE φ e σ μ).bind truD:=rfl
theorem abk {a b:Ex}:evE φ (.gix a b) σ μ=(evE φ a σ μ).bind (Z2 φ b σ):=rfl
theorem Yz {b:Ex} {x:D}:Z2 φ b σ x μ=(evE φ b σ μ).bind (Pb x):=rfl
theorem Z5:evE φ .dicr σ μ=.ok (.loc μ.length) (μ++[.dr []]):=rfl
theorem Z6 {o e:Ex} {f:Str}:evS φ (.seta o f e) σ μ=(evE φ e σ μ).bind (Z3 φ o f σ):=rfl
theorem Y0 {o:Ex} {f:Str} {d:D}:Z3 φ o f σ d μ=(evE φ o σ μ).bind (Yw f σ d):=rfl
theorem Y1 {f:Str} {d x:D}:Yw f σ d x μ=(sj f x d μ).bind (kNx σ):=rfl
theorem abl {c:Ex} {b:Sms}:evS φ (.whl c b) σ μ=kWh φ c b σ μ:=rfl
theorem Z7 {a:Ex}:evI φ (.keys a) σ μ=(evE φ a σ μ).bind kKeys:=rfl
end
section
variable {μ : Sto}
theorem Z8 {α β:Type} (a:α) (f:α->Sto->Res β):(Res.ok a μ).bind f=f a μ:=rfl
theorem Z9 {α β:Type} (a:α) (k:α->Res β):jx (some a) k=k a:=rfl
theorem ab0 (d:D):finD (.rt d) μ=.ok d μ:=rfl
theorem ab1 (σ:Sl):finD (.nx σ) μ=.ok .non μ:=rfl
theorem ab2 {α β:Type} (f:α->β) (a:α) (l:List α):(a::l).map f=f a::l.map f:=rfl
theorem ab3 {α β:Type} (f:α->β):([]:List α).map f=[]:=rfl
theorem ab4 {α:Type} (a:α) (l m:List α):a::l++m=a::(l++m):=rfl
theorem ab5 {α:Type} (m:List α):[]++m=m:=rfl
theorem ab6 {α:Type} (a:α) (l:List α):(a::l)[0]? = some a:=rfl
theorem ab7 {α:Type} (a:α) (l:List α) (i:Nat):(a::l)[i+1]? = l[i]?:=rfl
theorem ab8 {α:Type} (a b:α) (l:List α):(a::l).set 0 b=b::l:=rfl
theorem ab9 {α:Type} (a b:α) (l:List α) (i:Nat):(a::l).set (i+1) b=a::l.set i b:=rfl
theorem aca {α:Type} (a b:α):(some a).getD b=a:=rfl
theorem acb {op:Operator} {m:Mk} {i j:Int}:opD op m (.int i) (.int j) μ=opI op i j μ:=Av
theorem acd {i j:Int}:opI .Add i j μ=.ok (.int (i+j)) μ:=op_add
theorem ace {i j:Int}:opI .Sub i j μ=.ok (.int (i-j)) μ:=op_sub
theorem acf {d:D} {b:Nat}:lj true b (.ok d μ)=.ok d μ:=nu
end
theorem EV1:type_of% (@U0)/\type_of% (@U1)/\type_of% (@U2)/\type_of% (@U3)/\type_of% (@U4)/\type_of% (@U5)/\type_of% (@Zu)/\type_of% (@U6)/\type_of% (@U7)/\type_of% (@U8)/\type_of% (@Mq)/\type_of% (@Mr)/\type_of% (@U9)/\type_of% (@Va)/\type_of% (@Ms)/\type_of% (@Zv)/\type_of% (@Zw)/\type_of% (@Vb)/\type_of% (@Vc)/\type_of% (@Vd)/\type_of% (@Mu)/\type_of% (@Mv)/\type_of% (@Gz)/\type_of% (@Zx)/\type_of% (@Zy)/\type_of% (@Mw)/\type_of% (@G0)/\type_of% (@Ve)/\type_of% (@Vf)/\type_of% (@Mx)/\type_of% (@Vg)/\type_of% (@My):=⟨@U0,@U1,@U2,@U3,@U4,@U5,@Zu,@U6,@U7,@U8,@Mq,@Mr,@U9,@Va,@Ms,@Zv,@Zw,@Vb,@Vc,@Vd,@Mu,@Mv,@Gz,@Zx,@Zy,@Mw,@G0,@Ve,@Vf,@Mx,@Vg,@My⟩
theorem EV2:type_of% (@Mz)/\type_of% (@Vh)/\type_of% (@Vi)/\type_of% (@M1)/\type_of% (@Zz)/\type_of% (@Vj)/\type_of% (@M3)/\type_of% (@Vk)/\type_of% (@M4)/\type_of% (@Vl)/\type_of% (@M5)/\type_of% (@M6)/\type_of% (@G1)/\type_of% (@yw)/\type_of% (@Vx)/\type_of% (@Bz)/\type_of% (@G4)/\type_of% (@M7)/\type_of% (@M8)/\type_of% (@Vn)/\type_of% (@Vo)/\type_of% (@M9)/\type_of% (@Na)/\type_of% (@G8)/\type_of% (@Nc)/\type_of% (@Nd)/\type_of% (@Np)/\type_of% (@Nq)/\type_of% (@Nr)/\type_of% (@G9)/\type_of% (@Ha)/\type_of% (@Nt):=⟨@Mz,@Vh,@Vi,@M1,@Zz,@Vj,@M3,@Vk,@M4,@Vl,@M5,@M6,@G1,@yw,@Vx,@Bz,@G4,@M7,@M8,@Vn,@Vo,@M9,@Na,@G8,@Nc,@Nd,@Np,@Nq,@Nr,@G9,@Ha,@Nt⟩
theorem EV3:type_of% (@Hb)/\type_of% (@B1)/\type_of% (@Hc)/\type_of% (@Nf)/\type_of% (@Ng)/\type_of% (@Hd)/\type_of% (@Vp)/\type_of% (@Vq)/\type_of% (@B2)/\type_of% (@B3)/\type_of% (@B5)/\type_of% (@He)/\type_of% (@Hf)/\type_of% (@Hg)/\type_of% (@yx)/\type_of% (@Hh)/\type_of% (@Hi)/\type_of% (@Nu)/\type_of% (@Hk)/\type_of% (@Hj)/\type_of% (@Vr)/\type_of% (@Vs)/\type_of% (@Nv)/\type_of% (@Hl)/\type_of% (@Nh)/\type_of% (@Ni)/\type_of% (@Nj)/\type_of% (@Nk)/\type_of% (@Res.ar)/\type_of% (@lg)/\type_of% (@yy)/\type_of% (@gp):=⟨@Hb,@B1,@Hc,@Nf,@Ng,@Hd,@Vp,@Vq,@B2,@B3,@B5,@He,@Hf,@Hg,@yx,@Hh,@Hi,@Nu,@Hk,@Hj,@Vr,@Vs,@Nv,@Hl,@Nh,@Ni,@Nj,@Nk,@Res.ar,@lg,@yy,@gp⟩
theorem EV4:type_of% (@G5)/\type_of% (@G6)/\type_of% (@G7)/\type_of% (@Av)/\type_of% (@op_add)/\type_of% (@op_sub)/\type_of% (@Vt)/\type_of% (@Vu)/\type_of% (@Vv)/\type_of% (@Vw)/\type_of% (@Nl)/\type_of% (@Nm)/\type_of% (@Nn)/\type_of% (@bt_min)/\type_of% (@bt_max)/\type_of% (@mi)/\type_of% (@Gx)/\type_of% (@Gy)/\type_of% (@AO.{0,0})/\type_of% (@CZ.{0,0})/\type_of% (@B6)/\type_of% (@B7)/\type_of% (@CL.{0})/\type_of% (@EL.{0})/\type_of% (@HA.{0})/\type_of% (@CO.{0})/\type_of% (@GB.{0})/\type_of% (@GC.{0})/\type_of% (@ET.{0})/\type_of% (@nu):=⟨@G5,@G6,@G7,@Av,@op_add,@op_sub,@Vt,@Vu,@Vv,@Vw,@Nl,@Nm,@Nn,@bt_min,@bt_max,@mi,@Gx,@Gy,@AO.{0,0},@CZ.{0,0},@B6,@B7,@CL.{0},@EL.{0},@HA.{0},@CO.{0},@GB.{0},@GC.{0},@ET.{0},@nu⟩
theorem EV5:type_of% (@Vy)/\type_of% (@Hm)/\type_of% (@Nw)/\type_of% (@Hn)/\type_of% (@Ho)/\type_of% (@Hq)/\type_of% (@B8)/\type_of% (@B9)/\type_of% (@Hr):=⟨@Vy,@Hm,@Nw,@Hn,@Ho,@Hq,@B8,@B9,@Hr⟩
end Lr
namespace Lp
open PySem
abbrev dq:Nat:=82
abbrev cu:Nat:=83
abbrev kj:Nat:=132
abbrev o9:Nat:=133
abbrev gb:Nat:=134
abbrev gq:Nat:=135
abbrev ko:Nat:=136
abbrev bb:Nat:=187
abbrev cj:Nat:=188
abbrev i9:Nat:=189
abbrev d6:Nat:=190
abbrev da:Nat:=191
abbrev ic:Nat:=192
abbrev fc:Nat:=193
abbrev mj:Nat:=194
abbrev bw:Nat:=195
abbrev Ca:Nat:=196
abbrev gr:Nat:=197
abbrev de:Nat:=198
abbrev ff:Nat:=199
abbrev fk:Nat:=203
abbrev cv:Nat:=209
abbrev gc:Nat:=210
abbrev ig:Nat:=211
abbrev qz:Nat:=212
def D_law_cell:Df:=⟨2,2,(.cons (.ite (.cmp (.var 1) (.cons .lt (.blt .len .z (.cons (.var 0) .nil)) .nil)) (.cons (.ret (.ix (.var 0) (.var 1))) .nil) .nil) (.cons (.ret (.cst (.int 0))) .nil))⟩
def D_law_stir:Df:=⟨2,3,(.cons (.set 2 (.bin .Mod .z (.bin .Add .z (.bin .Add .z (.var 0) (.bin .Mult .z (.cst (.int 7919)) (.var 1))) (.cst (.int 101))) (.cst (.int 2147483647)))) (.cons (.set 2 (.bin .Mod .z (.bin .Mult .z (.var 2) (.var 2)) (.cst (.int 2147483647)))) (.cons (.ret (.bin .FloorDiv .z (.bin .Mod .z (.bin .Mult .z (.var 2) (.cst (.int 48271))) (.cst (.int 2147483629))) (.cst (.int 7)))) .nil)))⟩
def ji:Sms:=(.cons (.unp [7,8,9,10] (.var 5)) (.cons (.augx .Add (.var 4) (.var 7) (.var 6)) (.cons (.augx .Sub (.var 4) (.var 8) (.var 6)) .nil)))
def D_outflows:Df:=⟨2,11,(.cons (.unp [2,3] (.var 0)) (.cons (.set 4 (.bin .Mult .l (.lst .z (.cons (.cst (.int 0)) .nil)) (.var 2))) (.cons (.loop (.many [5,6]) (.zip (.var 3) (.var 1)) ji) (.cons (.ret (.frz 4)) .nil))))⟩
def gs:Ex:=(.not (.cmp (.cst (.int 0)) (.cons .le (.var 1) (.cons .le (.ix (.var 0) (.cst (.int 2))) .nil))))
def gu:Exs:=(.cons (.and (.cmp (.var 3) (.cons .ne (.var 0) .nil)) (.cmp (.var 3) (.cons .ne (.var 1) .nil))) .nil)
def gv:Ex:=(.cmp (.ix (.var 2) (.var 3)) (.cons .ne (.cst (.int 0)) .nil))
def D_amount:Df:=⟨4,7,(.cons (.unp [4,5] (.var 0)) (.cons (.ite (.blt .any .z (.cons (.comp .z [] 2 (.many [0,1]) (.zip (.var 5) (.var 3)) .nil gs) .nil)) (.cons (.ret (.cst .non)) .nil) .nil) (.cons (.set 6 (.call false kj (.cons (.var 0) (.cons (.var 3) .nil)))) (.cons (.ite (.blt .any .z (.cons (.comp .z [1,2,6] 1 (.one 3) (.rng (.var 4)) gu gv) .nil)) (.cons (.ret (.cst .non)) .nil) .nil) (.cons (.ret (.ix (.var 6) (.var 1))) .nil)))))⟩
def D_law_bound_2:Df:=⟨1,2,(.cons (.set 1 (.call false cu (.cons (.var 0) (.cons (.cst (.int 3)) .nil)))) (.cons (.ite (.cmp (.bin .Mod .z (.var 1) (.cst (.int 8))) (.cons .eq (.cst (.int 0)) .nil)) (.cons (.ret (.bin .Sub .z (.bin .Pow .z (.cst (.int 10)) (.cst (.int 40))) (.bin .Mod .z (.bin .FloorDiv .z (.var 1) (.cst (.int 8))) (.cst (.int 3))))) .nil) .nil) (.cons (.ite (.cmp (.bin .Mod .z (.var 1) (.cst (.int 8))) (.cons .eq (.cst (.int 1)) .nil)) (.cons (.ret (.bin .Mod .z (.var 0) (.bin .Pow .z (.cst (.int 10)) (.cst (.int 40))))) .nil) .nil) (.cons (.ret (.bin .Mod .z (.bin .FloorDiv .z (.var 1) (.cst (.int 8))) (.cst (.int 13)))) .nil))))⟩
def dg:Sms:=(.cons (.set 4 (.call false cu (.cons (.var 3) (.cons (.cst (.int 1)) .nil)))) (.cons (.set 5 (.bin .Mod .z (.var 4) (.var 1))) (.cons (.set 6 (.bin .Mod .z (.bin .Add .z (.bin .Add .z (.var 5) (.cst (.int 1))) (.bin .Mod .z (.bin .FloorDiv .z (.var 4) (.var 1)) (.bin .Sub .z (.var 1) (.cst (.int 1))))) (.var 1))) (.cons (.ex (.meth .append (.var 2) (.cons (.tup (.cons (.var 5) (.cons (.var 6) (.cons (.call false gb (.cons (.var 3) .nil)) (.cons (.bin .Mod .z (.call false cu (.cons (.var 3) (.cons (.cst (.int 2)) .nil))) (.cst (.int 13))) .nil))))) .nil))) .nil))))
def D_law_web_2:Df:=⟨2,7,(.cons (.set 2 (.lst .l .nil)) (.cons (.loop (.one 3) (.seq (.var 0)) dg) (.cons (.ret (.tup (.cons (.var 1) (.cons (.blt .tuple .z (.cons (.var 2) .nil)) .nil)))) .nil)))⟩
def D_law_ends:Df:=⟨2,3,(.cons (.set 2 (.bin .Mod .z (.bin .FloorDiv .z (.var 0) (.cst (.int 7))) (.var 1))) (.cons (.ret (.tup (.cons (.var 2) (.cons (.bin .Mod .z (.bin .Add .z (.bin .Add .z (.var 2) (.cst (.int 1))) (.bin .Mod .z (.bin .FloorDiv .z (.var 0) (.cst (.int 77))) (.bin .Sub .z (.var 1) (.cst (.int 1))))) (.var 1)) .nil)))) .nil))⟩
def bp:Exs:=(.cons (.cmp (.ix (.att (.var 0) "rooms") (.var 1)) (.cons .gt (.cst (.int 0)) .nil)) .nil)
def bq:Ex:=(.var 1)
def D_Residue_open_arcs:Df:=⟨2,2,(.cons (.ret (.comp .z [0] 1 (.one 1) (.seq (.ix (.att (.var 0) "leaving") (.var 1))) bp bq)) .nil)⟩
def cn:Sms:=(.cons (.set 7 (.ix (.att (.var 0) "heads") (.var 6))) (.cons (.ite (.cmp (.var 7) (.cons .notin (.var 2) .nil)) (.cons (.setx (.var 2) (.var 7) (.bin .Add .z (.dix (.var 2) (.var 5)) (.cst (.int 1)))) (.cons (.ex (.meth .append (.var 4) (.cons (.var 7) .nil))) .nil)) .nil) .nil))
def fv:Sms:=(.cons (.loop (.one 6) (.seq (.mcall false "Residue" "open_arcs" bb (.var 0) (.cons (.var 5) .nil))) cn) .nil)
def dj:Sms:=(.cons (.set 4 (.lst .l .nil)) (.cons (.loop (.one 5) (.seq (.var 3)) fv) (.cons (.set 3 (.var 4)) .nil)))
def D_levels_from:Df:=⟨2,8,(.cons (.set 2 (.dic false (.cons (.var 1) (.cons (.cst (.int 0)) .nil)))) (.cons (.set 3 (.lst .z (.cons (.var 1) .nil))) (.cons (.whl (.tru (.var 3)) dj) (.cons (.ret (.var 2)) .nil))))⟩
def gf:Exs:=(.cons (.cmp (.dix (.var 0) (.ix (.att (.var 1) "heads") (.var 3))) (.cons .eq (.var 2) .nil)) .nil)
def gg:Ex:=(.var 3)
def jk:Sms:=(.cons (.set 4 (.bin .Add .z (.dix (.var 1) (.var 3)) (.cst (.int 1)))) (.cons (.setx (.var 2) (.var 3) (.comp .l [1,0,4] 1 (.one 3) (.seq (.mcall false "Residue" "open_arcs" bb (.var 0) (.cons (.var 3) .nil))) gf gg)) .nil))
def D_steps_up:Df:=⟨2,5,(.cons (.set 2 .dicr) (.cons (.loop (.one 3) (.keys (.var 1)) jk) (.cons (.ret (.var 2)) .nil)))⟩
def br:Sms:=(.cons (.ite (.not (.tru (.gix (.var 1) (.var 4)))) (.cons (.ite (.not (.tru (.var 2))) (.cons (.ret (.cst .non)) .nil) .nil) (.cons (.set 4 (.ix (.att (.var 0) "heads") (.bin .BitXor .z (.meth .pop (.var 2) .nil) (.cst (.int 1))))) (.cons (.ex (.meth .pop (.gix (.var 1) (.var 4)) .nil)) .nil))) (.cons (.ite (.cmp (.ix (.att (.var 0) "rooms") (.ix (.gix (.var 1) (.var 4)) (.neg (.cst (.int 1))))) (.cons .eq (.cst (.int 0)) .nil)) (.cons (.ex (.meth .pop (.gix (.var 1) (.var 4)) .nil)) .nil) (.cons (.ex (.meth .append (.var 2) (.cons (.ix (.gix (.var 1) (.var 4)) (.neg (.cst (.int 1)))) .nil))) (.cons (.set 4 (.ix (.att (.var 0) "heads") (.ix (.var 2) (.neg (.cst (.int 1)))))) .nil))) .nil)) .nil)
def D_way_to_lack:Df:=⟨4,5,(.cons (.set 4 (.ite (.tru (.var 2)) (.ix (.att (.var 0) "heads") (.ix (.var 2) (.neg (.cst (.int 1))))) (.var 3))) (.cons (.whl (.cmp (.ix (.att (.var 0) "surplus") (.var 4)) (.cons .ge (.cst (.int 0)) .nil)) br) (.cons (.ret (.var 2)) .nil)))⟩
def D_Residue_push:Df:=⟨3,3,(.cons (.augx .Sub (.att (.var 0) "rooms") (.var 1) (.var 2)) (.cons (.augx .Add (.att (.var 0) "rooms") (.bin .BitXor .z (.var 1) (.cst (.int 1))) (.var 2)) .nil))⟩
def gw:Ex:=(.ix (.att (.var 0) "rooms") (.var 1))
def gy:Sms:=(.cons (.ex (.mcall false "Residue" "push" da (.var 0) (.cons (.var 5) (.cons (.var 4) .nil)))) .nil)
def D_send_along:Df:=⟨3,6,(.cons (.set 3 (.ix (.att (.var 0) "heads") (.ix (.var 1) (.neg (.cst (.int 1)))))) (.cons (.set 4 (.blt .min3 .z (.cons (.ix (.att (.var 0) "surplus") (.var 2)) (.cons (.neg (.ix (.att (.var 0) "surplus") (.var 3))) (.cons (.blt .min1 .z (.cons (.comp .z [0] 1 (.one 1) (.seq (.var 1)) .nil gw) .nil)) .nil))))) (.cons (.loop (.one 5) (.seq (.var 1)) gy) (.cons (.augx .Sub (.att (.var 0) "surplus") (.var 2) (.var 4)) (.cons (.augx .Add (.att (.var 0) "surplus") (.var 3) (.var 4)) .nil)))))⟩
def dh:Sms:=(.cons (.ite (.cmp (.ix (.att (.var 0) "rooms") (.var 3)) (.cons .eq (.cst (.int 0)) .nil)) (.cons (.ret (.sl .l (.var 1) .no (.so (.var 2)))) .nil) .nil) .nil)
def D_open_part:Df:=⟨2,4,(.cons (.loop (.many [2,3]) (.enum (.var 1)) dh) (.cons (.ret (.var 1)) .nil))⟩
def ij:Sms:=(.cons (.set 3 (.call false d6 (.cons (.var 0) (.cons (.var 1) (.cons (.var 3) (.cons (.var 2) .nil)))))) (.cons (.ite (.cmp (.var 3) (.cons .isnot (.cst .non) .nil)) (.cons (.ex (.call false ic (.cons (.var 0) (.cons (.var 3) (.cons (.var 2) .nil))))) (.cons (.set 3 (.callK fc (.cons (.var 0) (.cons (.var 3) .nil)))) .nil)) .nil) .nil))
def D_send_on:Df:=⟨3,4,(.cons (.set 3 (.lst .l .nil)) (.cons (.whl (.and (.cmp (.var 3) (.cons .isnot (.cst .non) .nil)) (.cmp (.ix (.att (.var 0) "surplus") (.var 2)) (.cons .gt (.cst (.int 0)) .nil))) ij) .nil))⟩
def cz:Ex:=(.lst .l .nil)
def c0:Sms:=(.cons (.unp [6,7,8,9] (.var 5)) (.cons (.ex (.meth .extend (.att (.var 0) "heads") (.cons (.lst .z (.cons (.var 7) (.cons (.var 6) .nil))) .nil))) (.cons (.ex (.meth .extend (.att (.var 0) "rooms") (.cons (.lst .z (.cons (.var 8) (.cons (.cst (.int 0)) .nil))) .nil))) (.cons (.ex (.meth .append (.ix (.att (.var 0) "leaving") (.var 6)) (.cons (.bin .Mult .z (.cst (.int 2)) (.var 4)) .nil))) (.cons (.ex (.meth .append (.ix (.att (.var 0) "leaving") (.var 7)) (.cons (.bin .Add .z (.bin .Mult .z (.cst (.int 2)) (.var 4)) (.cst (.int 1))) .nil))) .nil)))))
def D_Residue___init__:Df:=⟨2,10,(.cons (.unp [2,3] (.var 1)) (.cons (.seta (.var 0) "heads" (.lst .l .nil)) (.cons (.seta (.var 0) "rooms" (.lst .l .nil)) (.cons (.seta (.var 0) "leaving" (.comp .r [] 1 (.one 0) (.rng (.var 2)) .nil cz)) (.cons (.seta (.var 0) "surplus" (.bin .Mult .l (.lst .z (.cons (.cst (.int 0)) .nil)) (.var 2))) (.cons (.loop (.many [4,5]) (.enum (.var 3)) c0) .nil))))))⟩
def q0:Sms:=(.cons (.ex (.call false mj (.cons (.var 4) (.cons (.call true i9 (.cons (.var 4) (.cons (.var 5) .nil))) (.cons (.var 1) .nil))))) (.cons (.set 5 (.callK cj (.cons (.var 4) (.cons (.var 1) .nil)))) .nil))
def D_sent:Df:=⟨4,6,(.cons (.set 4 (.make "Residue" bw (.cons (.var 0) .nil))) (.cons (.setx (.att (.var 4) "surplus") (.var 1) (.var 3)) (.cons (.setx (.att (.var 4) "surplus") (.var 2) (.neg (.var 3))) (.cons (.set 5 (.callK cj (.cons (.var 4) (.cons (.var 1) .nil)))) (.cons (.whl (.and (.cmp (.ix (.att (.var 4) "surplus") (.var 1)) (.cons .gt (.cst (.int 0)) .nil)) (.cmp (.var 2) (.cons .in_ (.var 5) .nil))) q0) (.cons (.ret (.var 4)) .nil))))))⟩
def iz:Ex:=(.var 2)
def D_most_sent:Df:=⟨3,3,(.cons (.ret (.call true Ca (.cons (.var 0) (.cons (.var 1) (.cons (.var 2) (.cons (.blt .sum .z (.cons (.comp .z [] 4 (.many [0,1,2,3]) (.seq (.ix (.var 0) (.cst (.int 1)))) .nil iz) .nil)) .nil)))))) .nil)⟩
def D_Residue_flow:Df:=⟨1,1,(.cons (.ret (.blt .tuple .z (.cons (.blt .odds .z (.cons (.att (.var 0) "rooms") .nil)) .nil))) .nil)⟩
def D_most_flow:Df:=⟨3,4,(.cons (.set 3 (.mcall false "Residue" "flow" de (.call true gr (.cons (.var 0) (.cons (.var 1) (.cons (.var 2) .nil)))) .nil)) (.cons (.ret (.tup (.cons (.call false o9 (.cons (.var 0) (.cons (.var 1) (.cons (.var 2) (.cons (.var 3) .nil))))) (.cons (.var 3) .nil)))) .nil))⟩
def D_least_side:Df:=⟨3,3,(.cons (.ret (.blt .tuple .z (.cons (.blt .sortedD .z (.cons (.callK cj (.cons (.call true gr (.cons (.var 0) (.cons (.var 1) (.cons (.var 2) .nil)))) (.cons (.var 1) .nil))) .nil)) .nil))) .nil)⟩
def D_law_told:Df:=⟨3,3,(.cons (.ret (.tup (.cons (.ix (.call false ff (.cons (.var 0) (.cons (.var 1) (.cons (.var 2) .nil)))) (.cst (.int 0))) (.cons (.call false fk (.cons (.var 0) (.cons (.var 1) (.cons (.var 2) .nil)))) .nil)))) .nil)⟩
def fw:Sms:=(.cons (.ex (.meth .insert (.var 2) (.cons (.bin .Mod .z (.call false cu (.cons (.var 1) (.cons (.var 3) .nil))) (.bin .Add .z (.var 3) (.cst (.int 1)))) (.cons (.ix (.var 0) (.var 3)) .nil)))) .nil)
def D_law_mixed_2:Df:=⟨2,4,(.cons (.set 2 (.lst .l .nil)) (.cons (.loop (.one 3) (.rng (.blt .len .z (.cons (.var 0) .nil))) fw) (.cons (.ret (.frz 2)) .nil)))⟩
def D_law_parted:Df:=⟨2,8,(.cons (.ite (.cmp (.blt .len .z (.cons (.var 0) .nil)) (.cons .eq (.cst (.int 0)) .nil)) (.cons (.ret (.var 0)) .nil) .nil) (.cons (.set 2 (.bin .Mod .z (.var 1) (.blt .len .z (.cons (.var 0) .nil)))) (.cons (.unp [3,4,5,6] (.ix (.var 0) (.var 2))) (.cons (.set 7 (.bin .Mod .z (.bin .FloorDiv .z (.var 1) (.cst (.int 24))) (.bin .Add .z (.var 5) (.cst (.int 1))))) (.cons (.ret (.bin .Add .z (.bin .Add .z (.sl .z (.var 0) .no (.so (.var 2))) (.lst .z (.cons (.tup (.cons (.var 3) (.cons (.var 4) (.cons (.var 7) (.cons (.var 6) .nil))))) (.cons (.tup (.cons (.var 3) (.cons (.var 4) (.cons (.bin .Sub .z (.var 5) (.var 7)) (.cons (.bin .Add .z (.var 6) (.cst (.int 1))) .nil))))) .nil)))) (.sl .z (.var 0) (.so (.bin .Add .z (.var 2) (.cst (.int 1)))) .no))) .nil)))))⟩
def j4:Sms:=(.cons (.ite (.cmp (.call false cv (.cons (.tup (.cons (.var 2) (.cons (.blt .tuple .z (.cons (.var 8) .nil)) .nil))) (.cons (.var 5) (.cons (.var 6) .nil)))) (.cons .ne (.var 7) .nil)) (.cons (.ret (.cst (.bl false))) .nil) .nil) .nil)
def j5:Ex:=(.ix (.var 0) (.cst (.int 2)))
def j6:Ex:=(.tup (.cons (.ix (.var 1) (.cst (.int 0))) (.cons (.ix (.var 1) (.cst (.int 1))) (.cons (.bin .Mult .z (.ix (.var 1) (.cst (.int 2))) (.var 0)) (.cons (.ix (.var 1) (.cst (.int 3))) .nil)))))
def j7:Ex:=(.tup (.cons (.ix (.var 0) (.cst (.int 1))) (.cons (.ix (.var 0) (.cst (.int 0))) (.cons (.ix (.var 0) (.cst (.int 2))) (.cons (.ix (.var 0) (.cst (.int 3))) .nil)))))
def D_law_k23:Df:=⟨1,13,(.cons (.set 1 (.call false cu (.cons (.call false dq (.cons (.var 0) (.cons (.cst (.int 0)) .nil))) (.cons (.cst (.int 0)) .nil)))) (.cons (.set 2 (.bin .Add .z (.cst (.int 2)) (.bin .Mod .z (.var 1) (.cst (.int 6))))) (.cons (.set 3 (.call false cu (.cons (.call false dq (.cons (.var 0) (.cons (.cst (.int 1)) .nil))) (.cons (.cst (.int 0)) .nil)))) (.cons (.set 4 (.blt .list .z (.cons (.ix (.call false gq (.cons (.sl .z (.var 0) (.so (.cst (.int 2))) (.so (.cst (.int 26)))) (.cons (.var 2) .nil))) (.cst (.int 1))) .nil))) (.cons (.unp [5,6] (.call false ko (.cons (.var 1) (.cons (.var 2) .nil)))) (.cons (.set 7 (.call false cv (.cons (.tup (.cons (.var 2) (.cons (.blt .tuple .z (.cons (.var 4) .nil)) .nil))) (.cons (.var 5) (.cons (.var 6) .nil))))) (.cons (.ite (.cmp (.blt .len .z (.cons (.ix (.var 7) (.cst (.int 1))) .nil)) (.cons .eq (.cst (.int 0)) .nil)) (.cons (.ret (.cst (.bl false))) .nil) .nil) (.cons (.loop (.one 8) (.seq (.lst .z (.cons (.call false gc (.cons (.var 4) (.cons (.var 3) .nil))) (.cons (.call false ig (.cons (.var 4) (.cons (.var 3) .nil))) (.cons (.bin .Add .z (.var 4) (.lst .z (.cons (.tup (.cons (.var 5) (.cons (.var 6) (.cons (.cst (.int 0)) (.cons (.cst (.int 3)) .nil))))) .nil))) .nil))))) j4) (.cons (.set 9 (.bin .Add .z (.cst (.int 1)) (.bin .Mod .z (.var 3) (.cst (.int 9))))) (.cons (.set 10 (.blt .max1 .z (.cons (.bin .Add .z (.lst .z (.cons (.cst (.int 1)) .nil)) (.comp .z [] 1 (.one 0) (.seq (.var 4)) .nil j5)) .nil))) (.cons (.ite (.cmp (.bin .Mult .z (.var 10) (.var 9)) (.cons .le (.bin .Pow .z (.cst (.int 10)) (.cst (.int 40))) .nil)) (.cons (.set 11 (.comp .z [9] 1 (.one 1) (.seq (.var 4)) .nil j6)) (.cons (.ite (.cmp (.call false cv (.cons (.tup (.cons (.var 2) (.cons (.blt .tuple .z (.cons (.var 11) .nil)) .nil))) (.cons (.var 5) (.cons (.var 6) .nil)))) (.cons .ne (.tup (.cons (.bin .Mult .z (.ix (.var 7) (.cst (.int 0))) (.var 9)) (.cons (.ix (.var 7) (.cst (.int 1))) .nil))) .nil)) (.cons (.ret (.cst (.bl false))) .nil) .nil) .nil)) .nil) (.cons (.set 12 (.blt .tuple .z (.cons (.comp .z [] 1 (.one 0) (.seq (.var 4)) .nil j7) .nil))) (.cons (.ite (.cmp (.ix (.call false ff (.cons (.tup (.cons (.var 2) (.cons (.var 12) .nil))) (.cons (.var 6) (.cons (.var 5) .nil)))) (.cst (.int 0))) (.cons .ne (.ix (.var 7) (.cst (.int 0))) .nil)) (.cons (.ret (.cst (.bl false))) .nil) .nil) (.cons (.ret (.cmp (.call false cv (.cons (.tup (.cons (.bin .Add .z (.var 2) (.cst (.int 1))) (.cons (.blt .tuple .z (.cons (.var 4) .nil)) .nil))) (.cons (.var 5) (.cons (.var 6) .nil)))) (.cons .eq (.var 7) .nil))) .nil))))))))))))))⟩
def Dz:Df:=⟨0,0,.nil⟩
def GL:List Df:=[Dz,Dz,Dz,Dz,Dz,Dz,Dz,Dz,Dz,Dz,Dz,Dz,Dz,Dz,Dz,Dz,Dz,Dz,Dz,Dz,Dz,Dz,Dz,Dz,Dz,Dz,Dz,Dz,Dz,Dz,Dz,Dz,Dz,Dz,Dz,Dz,Dz,Dz,Dz,Dz,Dz,Dz,Dz,Dz,Dz,Dz,Dz,Dz,Dz,Dz,Dz,Dz,Dz,Dz,Dz,Dz,Dz,Dz,Dz,Dz,Dz,Dz,Dz,Dz,Dz,Dz,Dz,Dz,Dz,Dz,Dz,Dz,Dz,Dz,Dz,Dz,Dz,Dz,Dz,Dz,Dz,Dz,D_law_cell,D_law_stir,Dz,Dz,Dz,Dz,Dz,Dz,Dz,Dz,Dz,Dz,Dz,Dz,Dz,Dz,Dz,Dz,Dz,Dz,Dz,Dz,Dz,Dz,Dz,Dz,Dz,Dz,Dz,Dz,Dz,Dz,Dz,Dz,Dz,Dz,Dz,Dz,Dz,Dz,Dz,Dz,Dz,Dz,Dz,Dz,Dz,Dz,Dz,Dz,D_outflows,D_amount,D_law_bound_2,D_law_web_2,D_law_ends,Dz,Dz,Dz,Dz,Dz,Dz,Dz,Dz,Dz,Dz,Dz,Dz,Dz,Dz,Dz,Dz,Dz,Dz,Dz,Dz,Dz,Dz,Dz,Dz,Dz,Dz,Dz,Dz,Dz,Dz,Dz,Dz,Dz,Dz,Dz,Dz,Dz,Dz,Dz,Dz,Dz,Dz,Dz,Dz,Dz,Dz,Dz,Dz,Dz,Dz,D_Residue_open_arcs,D_levels_from,D_steps_up,D_way_to_lack,D_Residue_push,D_send_along,D_open_part,D_send_on,D_Residue___init__,D_sent,D_most_sent,D_Residue_flow,D_most_flow,Dz,Dz,Dz,D_least_side,Dz,Dz,Dz,Dz,Dz,D_law_told,D_law_mixed_2,D_law_parted,D_law_k23,Dz,Dz,Dz,Dz,Dz,Dz,Dz,Dz,Dz,Dz,Dz,Dz,Dz,Dz,Dz,Dz,Dz,Dz,Dz,Dz,Dz,Dz,Dz,Dz,Dz,Dz,Dz]
theorem Dt:GL[dq]? = some D_law_cell:=rfl
theorem Du:GL[cu]? = some D_law_stir:=rfl
theorem Dw:GL[kj]? = some D_outflows:=rfl
theorem K7:GL[o9]? = some D_amount:=rfl
theorem vx:GL[gb]? = some D_law_bound_2:=rfl
theorem rd:GL[gq]? = some D_law_web_2:=rfl
theorem Dx:GL[ko]? = some D_law_ends:=rfl
theorem lq:GL[bb]? = some D_Residue_open_arcs:=rfl
theorem vy:GL[cj]? = some D_levels_from:=rfl
theorem Dy:GL[i9]? = some D_steps_up:=rfl
theorem wa:GL[d6]? = some D_way_to_lack:=rfl
theorem sm:GL[da]? = some D_Residue_push:=rfl
theorem y6:GL[ic]? = some D_send_along:=rfl
theorem Aw:GL[fc]? = some D_open_part:=rfl
theorem Ht:GL[mj]? = some D_send_on:=rfl
theorem mn:GL[bw]? = some D_Residue___init__:=rfl
theorem V0:GL[Ca]? = some D_sent:=rfl
theorem Ax:GL[gr]? = some D_most_sent:=rfl
theorem sr:GL[de]? = some D_Residue_flow:=rfl
theorem Ay:GL[ff]? = some D_most_flow:=rfl
theorem y8:GL[fk]? = some D_least_side:=rfl
theorem D0:GL[cv]? = some D_law_told:=rfl
theorem wb:GL[gc]? = some D_law_mixed_2:=rfl
theorem y9:GL[ig]? = some D_law_parted:=rfl
theorem Hu:GL[qz]? = some D_law_k23:=rfl
end Lp
local macro_rules | `(tactic| simp! only [$ls,*]) => do
  let mut a := ls.getElems
  for s in "U0 U1 U2 U3 U4 U5 Zu U6 U7 U8 Mq Mr U9 Va Ms Zv Zw Vb Vc Vd Mu Mv Gz Zx Zy Mw G0 Ve Vf Mx Vg My Mz Vh Vi M1 Zz Vj M3 Vk M4 Vl M5 M6 G1 yw Bz G4 M7 M8 Vn Vo M9 Na Nc Nd Vp Vq Nf Ng B1 Vr Vs Nh Ni Nj Nk yx B2 B3 yy Vt Vu Vv Vw Nl Nm Nn bt_min bt_max mi gp G5 G6 G7 Vx G8 Np Nq G9 Nr Ha Hb Nt Hc Hd B5 He Hf Hg Hh Hi Hj Hk Nu Nv Hl B6 B7 Vy Hm Nw Hn Ho Hq B8 B9 Hr abi Yx Z4 Yy abj abk Yz Z5 Z6 Y0 Y1 abl Z7 Z8 Z9 ab0 ab1 ab2 ab3 ab4 ab5 ab6 ab7 ab8 ab9 aca acb acd ace acf Nat.reduceSub decide_true decide_false Bool.not_true Bool.not_false".splitOn " " do
    a := a.push ⟨(<- `(Lean.Parser.Tactic.simpLemma| $(Lean.mkIdent ((s.splitOn ".").foldl Lean.Name.mkStr .anonymous)):ident)).raw⟩
  `(tactic| simp only [$a,*])
namespace Lr
open Lp
open PySem
def Lf (cs:List Int):O:=.l (cs.reverse.map D.int)
@[simp] theorem aaa (cs:List Int):noR (Lf cs)=true:=rfl
open PySem
theorem deqs_self {k:Nat} (ih:∀d:D,D.pureN k d=true->deq d d=true):∀ds:List D,ds.all (D.pureN k)=true->Bk ds ds=true
 | [],_=>by rw[Bk]
 | d::r,h=>by
  simp![BM,AY]at h
  rw[Bk,ih d h.1,deqs_self ih r h.2];rfl
theorem pe:∀(k:Nat) (d:D),D.pureN k d=true->deq d d=true
 | 0,d,h=>by cases d<;>simp_all[D.pureN,deq]
 | k+1,d,h=>by
  cases d with
  | tup ds=>rw[deq];exact deqs_self (pe k) ds h
  | lst ds=>rw[deq];exact deqs_self (pe k) ds h
  | loc n=>simp[D.pureN]at h
  | _=>simp[deq]
theorem K8 (xs:List D) (k:Nat):cut xs none (some (k:Int))=xs.take k:=by
 simp![cut,sIx]
 rw[if_neg (by lia)]
 simp[List.take_eq_take_iff]
theorem K9 (xs:List D) (k:Nat):cut xs (some (k:Int)) none=xs.drop k:=by
 simp![cut,sIx]
 rw[if_neg (by lia)]
 by_cases h:k<=xs.length
 ·rw[DN,Nat.min_eq_left h,DG (by simp)]
 ·rw[DN,Nat.min_eq_right (by lia),List.drop_eq_nil_of_le (show xs.length<=k by lia)];simp
section
variable {n : Nat} {μ ρ : Sto} {m : Mk} {φ : Phi} {σ : Sl} {es : Exs}
theorem nv {f:Nat} {ds:List D} {d:D} (h:φ f ds μ=.ok d (μ++ρ)) (hd:d.pure=true) (hr:c6 μ):iy φ false f ds μ=.ok d μ:=by
 rw[iy,h]
 have e:(μ++ρ).take μ.length=μ:=by simp
 have hr':μ.all (ba μ.length)=true:=hr
 simp![lj,BF,if_false,e,i8 _ 8 d hd,hr',and_self,if_true]
theorem ny {o:O}:(μ++[o])[μ.length]? = some o:=by simp
theorem wc {o o':O}:(μ++[o]).set μ.length o'=μ++[o']:=by simp
theorem Hv {ds:List D} (h:ds.all (D.pureN 8)=true):mkL .l ds μ=.ok (.loc μ.length) (μ++[.l ds]):=by simp![mkL,h,if_true]
theorem wd {ds:List D}:bj (μ++[.l ds]) (.loc μ.length)=some ds:=by simp![bj,ny]
theorem Hw {mt:Mt} {ds:List D} (h:∀d μ,md mt d μ=(Lp.listOf μ d).isSome):kM φ mt es σ (.loc μ.length) (μ++[.l ds])=(eh φ es σ (μ++[.l ds])).bind (mtD mt (.loc μ.length)):=by
 refine Vm ?_
 rw[h]
 simp![Lp.listOf,ny];rfl
theorem Nx {ds:List D}:kM φ .append es σ (.loc μ.length) (μ++[.l ds])=(eh φ es σ (μ++[.l ds])).bind (mtD .append (.loc μ.length)):=Hw λ_ _=>rfl
theorem Ny {ds:List D} {d:D} (hd:d.pure=true) (hl:ds.length<1000000):mtD .append (.loc μ.length) [d] (μ++[.l ds])=.ok .non (μ++[.l (ds++[d])]):=by
 have:=lb
 simp![mtD,yf,ny,d9,mtL,g8,fits,hd,putL,wc]
 rw[if_pos ⟨trivial,by lia⟩]
theorem ly {α:Type} {tg:Tg} {b:Sms} {xs:List α} {en:α->D} (I:Nat->Sl->Sto->Prop) (h0:I 0 σ μ) (st:∀(k:Nat) a σ μ,xs[k]? = some a->I k σ μ->∃σ' μ',fLp φ tg b (en a) σ μ=.ok (.nx σ') μ'/\I (k+1) σ' μ') :
  ∃σ' μ',Ds φ tg b σ (xs.map en,none) μ=.ok (.nx σ') μ'/\I xs.length σ' μ':=by
 obtain⟨σ',μ',e,i⟩:=vt (f:=fLp φ tg b) I (ds:=xs.map en) (σ:=σ) (μ:=μ) 0 h0 λj d σ μ' e i=>by
  rw[AX]at e
  cases ex:xs[j]? with
  | none=>rw[ex]at e;cases e
  | some a =>
   rw[ex]at e
   cases e
   obtain⟨σ',μ'',e',i'⟩:=st j a σ μ' ex (by simpa using i)
   exact⟨σ',μ'',e',by simpa using i'⟩
 exact⟨σ',μ',e,by simpa using i⟩
end
open PySem
def az (c k:Int):Int :=
 let near:=((c+7919*k+101) % 2147483647)*((c+7919*k+101) % 2147483647) % 2147483647
 near*48271 % 2147483629 / 7
section
variable {n : Nat} {μ ρ : Sto}
theorem Ql (ns:List Int) (k:Nat):ag GL (n+1) dq [.lst (ns.map D.int),.int k] μ=.ok (.int (ns.getD k 0)) μ:=by
 rw[ak Dt,run_eq rfl]
 by_cases h:k<ns.length
 ·have h':(k:Int)<(ns.length:Nat):=by lia
  have e:ns[k]? = some ns[k]:=AA h
  have e2:ns.getD k 0=ns[k]:=by rw[AF,e];rfl
  simp! only[D_law_cell,bt_len bo,AM,h',Qj e,e2]
 ·have h':¬(k:Int)<(ns.length:Nat):=by lia
  have e2:ns.getD k 0=0:=by rw[AF,CT (by lia)];rfl
  simp! only[D_law_cell,bt_len bo,AM,h',e2]
theorem Qm (c k:Int):ag GL (n+1) cu [.int c,.int k] μ=.ok (.int (az c k)) μ:=by
 rw[ak Du,run_eq rfl]
 have a1:(0:Int)<=(c+7919*k+101) % 2147483647:=BR _ (by decide)
 have a2:(c+7919*k+101) % 2147483647<2147483647:=BQ _ (by decide)
 have hm:CMul ((c+7919*k+101) % 2147483647) ((c+7919*k+101) % 2147483647):=.left (by lia) (by lia)
 have hm0:∀x,CMul 7919 x:=λx=>.left (by decide) (by decide)
 have hm1:∀x,CMul x 48271:=λx=>.right (by decide) (by decide)
 simp! only[D_law_stir,op_mul (hm0 k),op_mod (show(0:Int)<2147483647 by decide),op_mul hm,op_mul (hm1 _),op_mod (show(0:Int)<2147483629 by decide),qw (show(0:Int)<7 by decide) (by decide),az]
end
open PySem
theorem mq {b c:Nat} (h:b<=c):∀(k:Nat) (d:D),D.belowN b k d=true->D.belowN c k d=true
 | 0,d,e=>by cases d<;>simp_all[D.belowN];lia
 | k+1,d,e=>by
  cases d with
  | tup ds =>
   simp![D.belowN,AR]at e ⊢
   exact λx hx=>mq h k x (e x hx)
  | lst ds =>
   simp![D.belowN,AR]at e ⊢
   exact λx hx=>mq h k x (e x hx)
  | loc n=>simp_all[D.belowN];lia
  | _=>rfl
section
variable {n : Nat} {μ ρ : Sto} {φ : Phi} {es : Exs} {σ : Sl}
theorem Hx (hr:c6 μ) (ds:List D):c6 (μ++[.l ds]):=by
 unfold c6 at hr ⊢
 rw[AR]at hr ⊢
 intro o ho
 rcases BN.mp ho with h | h
 ·have:=hr o h
  cases o with
  | r xs =>
   simp![ba,AR]at this ⊢
   exact λx hx=>mq (by simp) 8 x (this x hx)
  | o _ _ =>
   simp![ba,AR]at this ⊢
   exact λx hx=>mq (by simp) 8 _ (this x hx)
  | dr _ =>
   simp![ba,AR]at this ⊢
   exact λx hx=>mq (by simp) 8 _ (this x hx)
  | _=>rfl
 ·simp![DK]at h
  subst h;rfl
end
open PySem
structure Tie where
 one:Nat
 other:Nat
 bound:Int
 price:Int
def eTie (t:Tie):D:=.tup [.int t.one,.int t.other,.int t.bound,.int t.price]
def l6 (m:Nat) (ts:List Tie):D:=.tup [.int m,.tup (ts.map eTie)]
structure TieOk (m:Nat) (t:Tie):Prop where
 one:t.one<m
 other:t.other<m
 p0:0<=t.price
 p1:t.price<2 ^ 64
theorem rf (t:Tie):(eTie t).pure=true:=rfl
theorem La (m:Nat) (ts:List Tie):(l6 m ts).pure=true:=by
 show D.pureN 8 (.tup [.int m,.tup (ts.map eTie)])=true
 rw[g9]
 simp![BM,qu,Bool.true_and,g9,HG,FN]
 rw[AR]
 intro x hx
 obtain⟨t,_,rfl⟩:=BK.mp hx
 rfl
section
variable {n : Nat} {μ ρ : Sto}
theorem Lb {x:D} {ns:List Int} {k:Nat} (h:bj μ x=some (ns.map D.int)) (hk:k<ns.length):ixD x (.int k) μ=.ok (.int (ns.getD k 0)) μ:=by
 refine B4 h ?_
 rw[AX,AA hk]
 simp[hk]
theorem Qn {m:Nat} {ts:List Tie}:ixD (l6 m ts) (.int 1) μ=.ok (.tup (ts.map eTie)) μ:=rfl
theorem D1 {t:Tie}:ixD (eTie t) (.int 2) μ=.ok (.int t.bound) μ:=rfl
theorem V1 {t:Tie}:ixD (eTie t) (.int 3) μ=.ok (.int t.price) μ:=rfl
theorem we {i j k l:Nat} {t:Tie} {σ:Sl}:f6 (.many [i,j,k,l]) (eTie t) σ=some ((((σ.set i (some (.int t.one))).set j (some (.int t.other))).set k (some (.int t.bound))).set l (some (.int t.price))):=rfl
theorem Hy {α β:Type} {f:α->D} {g:β->D}:∀(xs:List α) (ys:List β),((xs.map f).zip (ys.map g)).map (λp=>D.tup [p.1,p.2])=(xs.zip ys).map λp=>D.tup [f p.1,g p.2]
 | [],_=>by simp
 | _::_,[]=>by simp
 | x::xs,y::ys=>by simp[Hy xs ys]
theorem pf {α β:Type} {f:α->D} {g:β->D} {xs:List α} {ys:List β}:K4 (.tup (xs.map f)) (.tup (ys.map g)) μ=.ok ((xs.zip ys).map (λp=>D.tup [f p.1,g p.2]),none) μ:=by
 simp![K4,bc,bj,Hy]
end
open PySem
theorem Lc (c k:Int):0<=az c k:=by
 unfold az
 exact Int.ediv_nonneg (BR _ (by decide)) (by decide)
section
variable {n : Nat} {μ ρ : Sto}
theorem j8 (hr:c6 μ) (c k:Int):iy (ag GL (n+1)) false cu [.int c,.int k] μ=.ok (.int (az c k)) μ:=dz (Qm c k) rfl rfl hr
theorem Hz (hr:c6 μ) (ns:List Int) (k:Nat):iy (ag GL (n+1)) false dq [.lst (ns.map D.int),.int k] μ=.ok (.int (ns.getD k 0)) μ:=dz (Ql ns k) rfl rfl hr
theorem V3 {t:Tie}:ixD (eTie t) (.int 0) μ=.ok (.int t.one) μ:=rfl
theorem V5 {t:Tie}:ixD (eTie t) (.int 1) μ=.ok (.int t.other) μ:=rfl
theorem rg {i j:Nat} {m:Nat} {ts:List Tie} {σ:Sl}:f6 (.many [i,j]) (l6 m ts) σ=some ((σ.set i (some (.int m))).set j (some (.tup (ts.map eTie)))):=rfl
def upO (o:List Int) (k:Nat) (d:Int):List Int:=o.set k (o.getD k 0+d)
def rh (o:List Int) (p:Tie×Int):List Int:=upO (upO o p.1.one p.2) p.1.other (-p.2)
theorem gz (o:List Int) (k:Nat) (d:Int):(upO o k d).length=o.length:=by simp[upO]
theorem za (o:List Int) (p:Tie×Int):(rh o p).length=o.length:=by simp[rh,gz]
def outs (m:Nat) (ps:List (Tie×Int)):List Int:=ps.foldl rh (List.replicate m 0)
theorem Cb (m:Nat) (ps:List (Tie×Int)):(outs m ps).length=m:=by
 unfold outs
 have:∀(ps:List (Tie×Int)) (o:List Int),(ps.foldl rh o).length=o.length:=by
  intro ps
  induction ps with
  | nil=>intro o;rfl
  | cons p r ih=>intro o;rw[HK,ih,za]
 rw[this];simp
theorem Ia (m:Nat) (ps:List (Tie×Int)) (p:Tie×Int):outs m (ps++[p])=rh (outs m ps) p:=by simp[outs,List.foldl_append]
theorem uc {m:Nat} (hm:m<=1000):opD .Mult .l (.lst [.int 0]) (.int m) μ=.ok (.loc μ.length) (μ++[.l ((List.replicate m (0:Int)).map D.int)]):=by
 have:=lb
 have e:(List.replicate m [D.int 0]).flatten=(List.replicate m (0:Int)).map D.int:=by
  induction m with
  | zero=>rfl
  | succ m ih=>rw[CM,EE,ih (by omega),CM,AO];rfl
 simp![opD,Lp.listOf,DN]
 rw[if_pos ⟨by simp;omega,by omega,by omega⟩,e,Hv (by rw[AR];intro x hx;obtain⟨i,_,rfl⟩:=BK.mp hx;rfl)]
theorem Nz {o:List Int} {k:Nat} {v:Int} (hk:k<o.length):zy (.loc μ.length) (.int k) (.int v) (μ++[.l (o.map D.int)])=.ok () (μ++[.l ((o.set k v).map D.int)]):=by
 have e1:ixN (o.map D.int).length (k:Int)=some k:=by simp[ixN];omega
 simp![zy,ny,d9,e1,fits,vw,if_true,putL,Res.ar,wc,List.map_set]
theorem N0 {o:List Int} {k:Nat} (hk:k<o.length):ixL (.loc μ.length) (.int k) (μ++[.l (o.map D.int)])=.ok (.int (o.getD k 0)) (μ++[.l (o.map D.int)]):=Lb wd hk
theorem Az {m:Nat} {ts:List Tie} (hm:m<=100) (ok:∀t∈ts,TieOk m t) (fs:List Int):ag GL (n+1) kj [l6 m ts,.tup (fs.map D.int)] μ=.ok (.lst ((outs m (ts.zip fs)).map D.int)) (μ++[.dead]):=by
 rw[ak Dw,run_eq rfl]
 obtain⟨σ',μ',e,v5,v6,v7,v8,v9,v10,rfl,rfl⟩:=ly (φ:=ag GL n) (μ:=μ++[.l ((List.replicate m (0:Int)).map D.int)]) (tg:=.many [5,6]) (b:=ji) (xs:=ts.zip fs) (en:=λp=>D.tup [eTie p.1,.int p.2])
  (σ:=[some (l6 m ts),some (.tup (fs.map D.int)),some (.int m),some (.tup (ts.map eTie)),some (.loc μ.length),none,none,none,none,none,none])
  (λk σ μ'=>∃v5 v6 v7 v8 v9 v10,σ=[some (l6 m ts),some (.tup (fs.map D.int)),some (.int m),some (.tup (ts.map eTie)),some (.loc μ.length),v5,v6,v7,v8,v9,v10]/\μ'=μ++[.l ((outs m ((ts.zip fs).take k)).map D.int)])
  ⟨none,none,none,none,none,none,rfl,by simp[outs]⟩ (by
   rintro k ⟨t,f⟩ σ μ' ha ⟨v5,v6,v7,v8,v9,v10,rfl,rfl⟩
   have o:=ok t (EX (BC ha)).1
   have es:outs m ((ts.zip fs).take (k+1))=rh (outs m ((ts.zip fs).take k)) (t,f):=by
    rw[DO,ha]
    exact Ia _ _ _
   have hl:=Cb m ((ts.zip fs).take k)
   generalize outs m ((ts.zip fs).take k)=O at es hl
   have h1:t.one<O.length:=by rw[hl];exact o.one
   have h2:t.other<(upO O t.one f).length:=by rw[gz,hl];exact o.other
   refine⟨_,_,?_,some (eTie t),some (.int f),some (.int t.one),some (.int t.other),some (.int t.bound),some (.int t.price),rfl,rfl⟩
   rw[es]
   have u1:O.set t.one (O.getD t.one 0+f)=upO O t.one f:=rfl
   have u2:(upO O t.one f).set t.other ((upO O t.one f).getD t.other 0-f)=rh O (t,f):=by
    show _=(upO O t.one f).set t.other ((upO O t.one f).getD t.other 0 + -f)
    congr 1
   simp! only[fLp,ji,gp,we,N0 h1,Nz h1,u1,N0 h2,Nz h2,u2])
 rw[DG (AN _)]at e
 have fz:evE (ag GL n) (.frz 4) [some (l6 m ts),some (.tup (fs.map D.int)),some (.int m),some (.tup (ts.map eTie)),some (.loc μ.length),v5,v6,v7,v8,v9,v10] (μ++[.l ((outs m (ts.zip fs)).map D.int)])=.ok (.lst ((outs m (ts.zip fs)).map D.int)) (μ++[.dead]):=by
  simp[evE]
 simp! only[D_outflows,rg,uc (show m<=1000 by omega),pf,e,fz]
def D2 (p:Tie×Int):Bool:=!(decide (0<=p.2)&&decide (p.2<=p.1.bound))
def amI (m:Nat) (ts:List Tie) (a b:Nat) (fs:List Int):D :=
 if(ts.zip fs).any D2=true then .non else if((List.range m).filter fun(k:Nat)=>decide (k≠a)&&decide (k≠b)).any (λk=>decide ((outs m (ts.zip fs)).getD k 0≠0))=true then .non else .int ((outs m (ts.zip fs)).getD a 0)
theorem Ib {m:Nat} {ts:List Tie} (hr:c6 μ) (hm:m<=100) (ok:∀t∈ts,TieOk m t) {a b:Nat} (ha:a<m) (hb:b<m) (fs:List Int):ag GL (n+2) o9 [l6 m ts,.int a,.int b,.tup (fs.map D.int)] μ=.ok (amI m ts a b fs) μ:=by
 rw[ak K7,run_eq rfl]
 have c1:=comp_map (m:=.z) (μ:=μ) (φ:=ag GL (n+1)) (tg:=.many [0,1]) (cs:=.nil) (elt:=gs) (σ0:=[none,none]) (xs:=ts.zip fs) (en:=λp=>D.tup [eTie p.1,.int p.2]) (g:=λp=>D.bl (D2 p)) (by
  rintro⟨t,f⟩ hp
  by_cases h1:0<=f
  ·by_cases h2:f<=t.bound
   ·simp! only[ox,gs,gp,D1,h1,h2,D2,FM]
   ·simp! only[ox,gs,gp,D1,h1,h2,D2,IB]
  ·simp! only[ox,gs,gp,D1,h1,D2,HZ])
 have e1:(ts.zip fs).map (λp=>D.bl (D2 p))=((ts.zip fs).map D2).map D.bl:=by rw[Da];rfl
 rw[e1]at c1
 have q1:btD .any .z [.lst (((ts.zip fs).map D2).map D.bl)] μ=.ok (.bl ((ts.zip fs).any D2)) μ:=by
  rw[bt_any bo (ub _),IM];rfl
 by_cases hbad:(ts.zip fs).any D2=true
 ·simp! only[D_amount,rg,pf,c1,q1,hbad,amI,if_true]
 ·have hl:=Cb m (ts.zip fs)
  have k1:=nv (Az (n:=n) (μ:=μ) hm ok fs) (by
   rw[D.pure,vv,AR];intro x hx;obtain⟨i,_,rfl⟩:=BK.mp hx;rfl) hr
  have fE:(ts.zip fs).any D2=false:=by simpa using hbad
  have c2:=qx (m:=.z) (μ:=μ) (φ:=ag GL (n+1)) (tg:=.one 3) (cs:=gu) (elt:=gv) (σ0:=[some (.int a),some (.int b),some (.lst ((outs m (ts.zip fs)).map D.int)),none]) (xs:=List.range m) (en:=fun(k:Nat)=>D.int k)
   (g:=λk=>D.bl (decide ((outs m (ts.zip fs)).getD k 0≠0))) (p:=λk=>decide (k≠a)&&decide (k≠b)) (by
    intro k hk
    have hk:k<m:=by simpa using hk
    have i1:ixD (.lst ((outs m (ts.zip fs)).map D.int)) (.int k) μ=.ok (.int ((outs m (ts.zip fs)).getD k 0)) μ:=Lb bo (by rw[hl];exact hk)
    have e3:(!decide ((outs m (ts.zip fs)).getD k 0=0))=decide ((outs m (ts.zip fs)).getD k 0≠0):=by simp
    have ea:decide ((k:Int)=(a:Int))=decide (k=a):=by rw[decide_eq_decide];omega
    have eb:decide ((k:Int)=(b:Int))=decide (k=b):=by rw[decide_eq_decide];omega
    rw[show(decide (k≠a)&&decide (k≠b))=(!decide (k=a)&&!decide (k=b))by simp]
    cases h1:decide (k=a)with
    | true=>simp! only[ox,gu,gv,ea,h1,HZ,BF,if_false]
    | false =>
     cases h2:decide (k=b)with
     | true=>simp! only[ox,gu,gv,ea,eb,h1,h2,Bool.true_and,BF,if_false]
     | false=>simp! only[ox,gu,gv,ea,eb,h1,h2,i1,e3,FM,if_true])
  have e2:∀l:List Nat,l.map (λk=>D.bl (decide ((outs m (ts.zip fs)).getD k 0≠0)))=(l.map λk=>decide ((outs m (ts.zip fs)).getD k 0≠0)).map D.bl:=λl=>by rw[Da];rfl
  rw[e2]at c2
  have q2:∀l:List Nat,btD .any .z [.lst ((l.map λk=>decide ((outs m (ts.zip fs)).getD k 0≠0)).map D.bl)] μ=.ok (.bl (l.any λk=>decide ((outs m (ts.zip fs)).getD k 0≠0))) μ:=λl=>by
   rw[bt_any bo (ub _),IM];rfl
  have i1:ixD (.lst ((outs m (ts.zip fs)).map D.int)) (.int a) μ=.ok (.int ((outs m (ts.zip fs)).getD a 0)) μ:=Lb bo (by rw[hl];exact ha)
  unfold amI
  rw[if_neg hbad]
  cases eo:((List.range m).filter fun(k:Nat)=>decide (k≠a)&&decide (k≠b)).any (λk=>decide ((outs m (ts.zip fs)).getD k 0≠0))with
  | true=>simp! only[D_amount,rg,pf,c1,q1,fE,k1,o8 (show m<=1000000 by omega),c2,q2,eo,if_true]
  | false=>simp! only[D_amount,rg,pf,c1,q1,fE,k1,o8 (show m<=1000000 by omega),c2,q2,eo,i1,BF,if_false]
theorem Cc {k v:D}:∀{kvs:List (D×D)},(uz k kvs).isSome=false->dput k v kvs=kvs++[(k,v)]:=by
 intro kvs h
 have:(kvs.any λp=>deq p.1 k)=false:=by
  induction kvs with
  | nil=>rfl
  | cons p r ih =>
   obtain⟨x,y⟩:=p
   rw[uz]at h
   split at h
   ·cases h
   ·rename_i hd
    rw[CV,ih h]
    simp[hd]
 unfold dput
 rw[this,if_neg (by decide)]
theorem Qo {m:Nat} {ts:List Tie} {a b:Nat} {fs:List Int}:(amI m ts a b fs).pure=true:=by
 unfold amI
 split
 ·rfl
 ·split<;>rfl
theorem V6 (ns:List Int) {i j:Int} {w:Nat} (hi:0<=i) (hj:j=i+w):∃cs:List Int,cs.length<=w/\∀μ,slD .z (.lst (ns.map D.int)) (some i) (some j) μ=.ok (.lst (cs.map D.int)) μ:=by
 subst hj
 refine⟨(ns.drop (sIx ns.length 0 (some i))).take (sIx ns.length ns.length (some (i+w))-sIx ns.length 0 (some i)),?_,λμ=>?_⟩
 ·rw[CG]
  unfold sIx
  simp![show ¬i<0 by omega,show ¬i+(w:Int)<0 by omega,if_false]
  omega
 ·simp![slD,Lp.listOf,mi,cut,AM,GV,IG]
end
open PySem
theorem A0 (x y:Int):∀l:List Int,y∈insI x l↔y=x\/y∈l
 | []=>by simp[insI]
 | z::r=>by
  rw[insI]
  split
  ·simp
  ·simp![AG,A0 x y r]
   exact or_left_comm
theorem ph (y:Int):∀l:List Int,y∈sortI l↔y∈l
 | []=>by simp[sortI]
 | x::r=>by rw[sortI,A0,ph y r,AG]
open PySem
theorem N1 (x:Int):∀l:List Int,l.Pairwise (· < ·)->x∉l->(insI x l).Pairwise (· < ·)
 | [],_,_=>by simp[insI]
 | y::r,h,hx=>by
  obtain⟨h1,h2⟩:=CI.mp h
  have ne:x≠y:=λe=>hx (e ▸ AT)
  rw[insI]
  split
  ·rename_i hc
   refine CI.mpr ⟨λz hz=>?_,h⟩
   rcases AG.mp hz with rfl | hz
   ·omega
   ·have:=h1 z hz;omega
  ·rename_i hc
   refine CI.mpr ⟨λz hz=>?_,N1 x r h2 λz=>hx (AJ _ z)⟩
   rcases(A0 x z r).mp hz with rfl | hz
   ·omega
   ·exact h1 z hz
theorem Ic:∀l:List Int,l.Nodup->(sortI l).Pairwise (· < ·)
 | [],_=>.nil
 | x::r,h=>by
  obtain⟨h1,h2⟩:=BU.mp h
  exact N1 x _ (Ic r h2) λz=>h1 ((ph x r).mp z)
def jr (ts:List Tie) (xs:List Int):Int:=((ts.filter λt=>decide ((t.one:Int)∈xs/\¬(t.other:Int)∈xs)).map (·.bound)).sum
section
variable {n : Nat} {μ ρ : Sto} {φ : Phi} {σ : Sl}
theorem V7 {es:Exs} {ds:List D}:kM φ .insert es σ (.loc μ.length) (μ++[.l ds])=(eh φ es σ (μ++[.l ds])).bind (mtD .insert (.loc μ.length)):=Hw λ_ _=>rfl
theorem Wr {xs ys:List D} (h:xs.length+ys.length<=1000000):opD .Add .z (.lst xs) (.lst ys) μ=.ok (.lst (xs++ys)) μ:=by
 simp![opD,Lp.listOf,lim,mi]
 rw[if_pos (by omega)]
end
open PySem
def dn:Nat->(Nat->Int)->Int
 | 0,_=>0
 | n+1,f=>dn n f+f n
theorem ax {f g:Nat->Int}:∀{n:Nat},(∀k,k<n->f k=g k)->dn n f=dn n g
 | 0,_=>rfl
 | n+1,h=>by
  simp![dn]
  rw[ax λk hk=>h k (DF hk),h n (Do n)]
theorem mr (f g:Nat->Int):∀n:Nat,dn n (λk=>f k+g k)=dn n f+dn n g
 | 0=>rfl
 | n+1=>by simp![dn];rw[mr f g n];lia
theorem mv (f g:Nat->Int):∀n:Nat,dn n (λk=>f k-g k)=dn n f-dn n g
 | 0=>rfl
 | n+1=>by simp![dn];rw[mv f g n];lia
theorem wj (c:Int) (f:Nat->Int):∀n:Nat,dn n (λk=>c*f k)=c*dn n f
 | 0=>by simp[dn]
 | n+1=>by simp![dn];rw[wj c f n,Int.mul_add]
theorem j9 {f:Nat->Int} {n:Nat} (h:∀k,k<n->f k=0):dn n f=0:=by
 rw[ax h]
 clear h
 induction n with
 | zero=>rfl
 | succ n ih=>simp[dn,ih]
theorem A1 {f g:Nat->Int}:∀{n:Nat},(∀k,k<n->f k<=g k)->dn n f<=dn n g
 | 0,_=>FE _
 | n+1,h=>by
  simp![dn]
  have a:=A1 λk hk=>h k (DF hk)
  have b:=h n (Do n)
  lia
theorem A2 {f:Nat->Int} {n:Nat} (h:∀k,k<n->0<=f k):0<=dn n f:=by
 have:=A1 (f:=λ_=>0) (g:=f) h
 rw[j9 λ_ _=>rfl]at this
 exact this
theorem Ie {f:Nat->Int}:∀{n:Nat},(∀k,k<n->0<=f k)->∀k,k<n->f k<=dn n f
 | 0,_,k,hk=>absurd hk (by lia)
 | n+1,h,k,hk=>by
  simp![dn]
  have a:=A2 λk hk=>h k (DF hk)
  have b:=h n (Do n)
  by_cases e:k=n
  ·subst e;lia
  ·have:=Ie (λk hk=>h k (DF hk)) k (by lia)
   lia
theorem Ig {f g:Nat->Int} {n:Nat} (h:∀k,k<n->f k<=g k) (e:dn n f=dn n g) (k:Nat) (hk:k<n):f k=g k:=by
 have:=Ie (f:=λk=>g k-f k) (n:=n) (λk hk=>by have:=h k hk;lia) k hk
 rw[mv,e]at this
 have:=h k hk
 lia
theorem zc (f:Nat->Nat->Int) (m:Nat):∀n:Nat,dn n (λk=>dn m λv=>f k v)=dn m λv=>dn n λk=>f k v
 | 0=>by simp![dn];rw[j9 λ_ _=>rfl]
 | n+1=>by
  simp![dn]
  rw[zc f m n,<-mr]
theorem fh {c:Nat} {f:Nat->Int}:∀{n:Nat},c<n->dn n (λv=>if c=v then f v else 0)=f c
 | 0,h=>absurd h (by lia)
 | n+1,h=>by
  simp![dn]
  by_cases e:c=n
  ·subst e
   rw[if_pos rfl,j9 λk hk=>if_neg (by lia)]
   lia
  ·rw[if_neg e,fh (by lia)]
   lia
theorem Ld {f:Nat->Int} {c:Nat} {d:Int} {n:Nat} (h:c<n):dn n (λk=>if c=k then f k+d else f k)=dn n f+d:=by
 rw[ax (g:=λk=>f k+if c=k then d else 0) λk hk=>by split<;>lia,mr,fh (f:=λ_=>d) h]
theorem mw {α:Type} (f:α->Int) (d:α):∀(xs:List α),(xs.map f).sum=dn xs.length λk=>f (xs.getD k d):=by
 have gen:∀(xs ys:List α),(xs.map f).sum+dn ys.length (λk=>f (ys.getD k d))=dn (ys++xs).length λk=>f ((ys++xs).getD k d):=by
  intro xs
  induction xs with
  | nil=>intro ys;simp
  | cons x r ih =>
   intro ys
   have:=ih (ys++[x])
   rw[BY]at this
   simp![CL,EL]at this
   rw[<-this]
   have e:dn (ys++[x]).length (λk=>f ((ys++[x]).getD k d))=dn ys.length (λk=>f (ys.getD k d))+f x:=by
    rw[BD,CS]
    simp![dn]
    congr 1
    ·exact ax λk hk=>by
      rw[AF,AF,AK hk]
    ·rw[AF,AZ (AN _)]
     simp
   rw[e,AO,CP]
   lia
 intro xs
 have:=gen xs []
 simpa[dn]using this
def T0:Tie:=⟨0,0,0,0⟩
def au (ts:List Tie) (k:Nat):Tie:=ts.getD k T0
theorem ja {ts:List Tie} {k:Nat} (h:k<ts.length):au ts k∈ts:=by
 unfold au
 rw[AF,AA h]
 exact EG h
def ind (b:Prop) [Decidable b]:Int:=if b then 1 else 0
def sg (t:Tie) (v:Nat):Int:=ind (t.one=v)-ind (t.other=v)
def outF (ts:List Tie) (fl:Nat->Int) (v:Nat):Int:=dn ts.length λk=>sg (au ts k) v*fl k
theorem A3 {m:Nat} {t:Tie} (h1:t.one<m) (h2:t.other<m) (p:Nat->Int):dn m (λv=>p v*sg t v)=p t.one-p t.other:=by
 have e:∀v,p v*sg t v=(if t.one=v then p v else 0)-(if t.other=v then p v else 0):=λv=>by
  unfold sg ind
  split<;>split<;>simp
 rw[ax λv _=>e v,mv,fh h1,fh h2]
theorem ud {m:Nat} {ts:List Tie} (ok:∀t∈ts,TieOk m t) (fl:Nat->Int) (p:Nat->Int):dn m (λv=>p v*outF ts fl v)=dn ts.length λk=>(p (au ts k).one-p (au ts k).other)*fl k:=by
 have e:∀v,p v*outF ts fl v=dn ts.length λk=>p v*sg (au ts k) v*fl k:=λv=>by
  unfold outF
  rw[<-wj]
  exact ax λk _=>by rw[Int.mul_assoc]
 rw[ax λv _=>e v,zc]
 refine ax λk hk=>?_
 have o:=ok _ (ja hk)
 have:∀v,p v*sg (au ts k) v*fl k=fl k*(p v*sg (au ts k) v):=λv=>by rw[HH]
 rw[ax λv _=>this v,wj,A3 o.one o.other,HH]
structure FlowOk (m:Nat) (ts:List Tie) (a b:Nat) (fl:Nat->Int):Prop where
 lo:∀k,k<ts.length->0<=fl k
 hi:∀k,k<ts.length->fl k<=(au ts k).bound
 mid:∀v,v<m->v≠a->v≠b->outF ts fl v=0
open Classical in
def di (ts:List Tie) (S:Nat->Prop):Int:=dn ts.length λk=>if S (au ts k).one/\¬S (au ts k).other then(au ts k).bound else 0
open Classical in
theorem nz {m:Nat} {ts:List Tie} (ok:∀t∈ts,TieOk m t) {a b:Nat} (ha:a<m) {fl:Nat->Int} (F:FlowOk m ts a b fl) {S:Nat->Prop} (sa:S a) (sb:¬S b) :
  outF ts fl a=dn ts.length λk=>(ind (S (au ts k).one)-ind (S (au ts k).other))*fl k:=by
 rw[<-ud ok fl (λv=>ind (S v))]
 have e:∀v,v<m->ind (S v)*outF ts fl v=if a=v then outF ts fl v else 0:=λv hv=>by
  by_cases h:a=v
  ·subst h
   rw[if_pos rfl]
   unfold ind
   rw[if_pos sa,GP]
  ·rw[if_neg h]
   by_cases hs:S v
   ·rw[F.mid v hv (Ne.symm h) (λz=>sb (z ▸ hs)),Int.mul_zero]
   ·unfold ind;rw[if_neg hs,Int.zero_mul]
 rw[ax e,fh ha]
open Classical in
theorem Cd {t:Tie} {S:Nat->Prop} {f:Int} (h0:0<=f) (h1:f<=t.bound):(ind (S t.one)-ind (S t.other))*f<=if S t.one/\¬S t.other then t.bound else 0:=by
 unfold ind
 by_cases p:S t.one<;>by_cases q:S t.other<;>simp[p,q]<;>lia
theorem Ce {m:Nat} {ts:List Tie} (ok:∀t∈ts,TieOk m t) {a b:Nat} (ha:a<m) {fl:Nat->Int} (F:FlowOk m ts a b fl) {S:Nat->Prop} (sa:S a) (sb:¬S b):outF ts fl a<=di ts S:=by
 rw[nz ok ha F sa sb]
 exact A1 λk hk=>Cd (F.lo k hk) (F.hi k hk)
structure Closed (ts:List Tie) (fl:Nat->Int) (S:Nat->Prop):Prop where
 fwd:∀k,k<ts.length->S (au ts k).one->fl k<(au ts k).bound->S (au ts k).other
 bwd:∀k,k<ts.length->S (au ts k).other->0<fl k->S (au ts k).one
theorem ue {m:Nat} {ts:List Tie} (ok:∀t∈ts,TieOk m t) {a b:Nat} (ha:a<m) {fl:Nat->Int} (F:FlowOk m ts a b fl) {S:Nat->Prop} (sa:S a) (sb:¬S b) (c:Closed ts fl S):outF ts fl a=di ts S:=by
 rw[nz ok ha F sa sb]
 refine ax λk hk=>?_
 have f:=c.fwd k hk
 have g:=c.bwd k hk
 have h0:=F.lo k hk
 have h1:=F.hi k hk
 unfold ind
 by_cases p:S (au ts k).one<;>by_cases q:S (au ts k).other<;>simp[p,q]at f g ⊢<;>lia
theorem D3 {m:Nat} {ts:List Tie} (ok:∀t∈ts,TieOk m t) {a b:Nat} (ha:a<m) {fl:Nat->Int} (F:FlowOk m ts a b fl) {S:Nat->Prop} (sa:S a) (sb:¬S b) (e:outF ts fl a=di ts S):Closed ts fl S:=by
 rw[nz ok ha F sa sb]at e
 have t:=Ig (λk hk=>Cd (S:=S) (F.lo k hk) (F.hi k hk)) e
 refine⟨λk hk p h=>?_,λk hk q h=>?_⟩
 ·have z:=t k hk
  by_cases q:S (au ts k).other
  ·exact q
  ·unfold ind at z;simp[p,q]at z;lia
 ·have z:=t k hk
  by_cases p:S (au ts k).one
  ·exact p
  ·unfold ind at z;simp[p,q]at z;lia
open PySem
def hdA (ts:List Tie) (a:Nat):Nat:=if a % 2=0 then(au ts (a / 2)).other else(au ts (a / 2)).one
def tlA (ts:List Tie) (a:Nat):Nat:=if a % 2=0 then(au ts (a / 2)).one else(au ts (a / 2)).other
def xA (a:Nat):Nat:=if a % 2=0 then a+1 else a-1
theorem A4 {k:Nat}:xA (2*k)=2*k+1:=by unfold xA;rw[if_pos (by lia)]
theorem Ih {k:Nat}:xA (2*k+1)=2*k:=by unfold xA;rw[if_neg (by lia)];lia
theorem my (a:Nat):(∃k,a=2*k)\/∃k,a=2*k+1:=by
 rcases Nat.mod_two_eq_zero_or_one a with h | h
 ·exact .inl ⟨a / 2,by lia⟩
 ·exact .inr ⟨a / 2,by lia⟩
theorem rj {ts:List Tie} {k:Nat}:hdA ts (2*k)=(au ts k).other:=by unfold hdA;rw[if_pos (by lia),show 2*k / 2=k by lia]
theorem zd {ts:List Tie} {k:Nat}:hdA ts (2*k+1)=(au ts k).one:=by unfold hdA;rw[if_neg (by lia),show(2*k+1) / 2=k by lia]
theorem rl {ts:List Tie} {k:Nat}:tlA ts (2*k)=(au ts k).one:=by unfold tlA;rw[if_pos (by lia),show 2*k / 2=k by lia]
theorem ze {ts:List Tie} {k:Nat}:tlA ts (2*k+1)=(au ts k).other:=by unfold tlA;rw[if_neg (by lia),show(2*k+1) / 2=k by lia]
theorem abm {ts:List Tie} (a:Nat):hdA ts (xA a)=tlA ts a:=by
 rcases my a with⟨k,rfl⟩ | ⟨k,rfl⟩
 ·rw[A4,zd,rl]
 ·rw[Ih,rj,ze]
theorem Ii {a N:Nat} (h:a<2*N):xA a<2*N:=by
 unfold xA;split<;>lia
theorem Y2 (a:Nat):xA a≠a:=by unfold xA;split<;>lia
theorem Y3 {m:Nat} {ts:List Tie} (ok:∀t∈ts,TieOk m t) {a:Nat} (h:a<2*ts.length):hdA ts a<m:=by
 have o:=ok _ (ja (show a / 2<ts.length by lia))
 unfold hdA;split
 ·exact o.other
 ·exact o.one
structure RmOk (ts:List Tie) (rm:List Int):Prop where
 len:rm.length=2*ts.length
 nn:∀a,a<2*ts.length->0<=rm.getD a 0
 sum:∀k,k<ts.length->rm.getD (2*k) 0+rm.getD (2*k+1) 0=(au ts k).bound
def flR (rm:List Int) (k:Nat):Int:=rm.getD (2*k+1) 0
def jv (rm:List Int) (a:Nat) (d:Int):List Int:=upO (upO rm a (-d)) (xA a) d
theorem kq {o:List Int} {k j:Nat} {d:Int} (hk:k<o.length):(upO o k d).getD j 0=if k=j then o.getD j 0+d else o.getD j 0:=by
 unfold upO
 rw[AF]
 by_cases e:k=j
 ·subst e
  rw[AW hk,if_pos rfl];rfl
 ·rw[AD e,if_neg e,AF]
theorem zf (rm:List Int) (a:Nat) (d:Int):(jv rm a d).length=rm.length:=by simp[jv,gz]
theorem jb {rm:List Int} {a j:Nat} {d:Int} (h:a<rm.length) (hx:xA a<rm.length):(jv rm a d).getD j 0=if xA a=j then rm.getD j 0+d else if a=j then rm.getD j 0-d else rm.getD j 0:=by
 unfold jv
 rw[kq (by rw[gz];exact hx),kq h]
 have:=Y2 a
 by_cases e:xA a=j
 ·rw[if_pos e,if_pos e,if_neg (by lia)]
 ·rw[if_neg e,if_neg e]
  split<;>lia
theorem Ij {ts:List Tie} {rm:List Int} (R:RmOk ts rm) {a:Nat} {d:Int} (ha:a<2*ts.length) (d0:0<=d) (d1:d<=rm.getD a 0):RmOk ts (jv rm a d):=by
 have hx:=Ii ha
 have h1:a<rm.length:=by rw[R.len];exact ha
 have h2:xA a<rm.length:=by rw[R.len];exact hx
 refine⟨by rw[zf,R.len],λj hj=>?_,λk hk=>?_⟩
 ·rw[jb h1 h2]
  have:=R.nn j hj
  split
  ·lia
  ·split
   ·rename_i e;subst e;lia
   ·exact this
 ·rw[jb h1 h2,jb h1 h2]
  have:=R.sum k hk
  rcases my a with⟨i,rfl⟩ | ⟨i,rfl⟩
  ·rw[A4]
   by_cases e:i=k
   ·subst e
    rw[if_neg (by lia),if_pos rfl,if_pos rfl];lia
   ·rw[if_neg (by lia),if_neg (by lia),if_neg (by lia),if_neg (by lia)];exact this
  ·rw[Ih]
   by_cases e:i=k
   ·subst e
    rw[if_pos rfl,if_neg (by lia),if_pos rfl];lia
   ·rw[if_neg (by lia),if_neg (by lia),if_neg (by lia),if_neg (by lia)];exact this
theorem Le {ts:List Tie} {rm:List Int} (R:RmOk ts rm) {a:Nat} {d:Int} (ha:a<2*ts.length) (v:Nat):outF ts (flR (jv rm a d)) v=outF ts (flR rm) v+(ind (tlA ts a=v)-ind (hdA ts a=v))*d:=by
 have hx:=Ii ha
 have h1:a<rm.length:=by rw[R.len];exact ha
 have h2:xA a<rm.length:=by rw[R.len];exact hx
 unfold outF
 have key:∀(i:Nat) (e:Int),i<ts.length->(∀k,k<ts.length->flR (jv rm a d) k=flR rm k+if i=k then e else 0) ->
   dn ts.length (λk=>sg (au ts k) v*flR (jv rm a d) k)=dn ts.length (λk=>sg (au ts k) v*flR rm k)+sg (au ts i) v*e:=by
  intro i e hi h
  rw[ax (g:=λk=>sg (au ts k) v*flR rm k+if i=k then sg (au ts k) v*e else 0) λk hk=>by
   rw[h k hk,Int.mul_add]
   congr 1
   split<;>simp,mr,fh hi]
 rcases my a with⟨i,rfl⟩ | ⟨i,rfl⟩
 ·rw[key i d (by lia) λk hk=>?_,rl,rj]
  ·rfl
  ·unfold flR
   rw[jb h1 h2,A4]
   by_cases e:i=k
   ·subst e;rw[if_pos rfl,if_pos rfl]
   ·rw[if_neg (by lia),if_neg (by lia),if_neg e];lia
 ·rw[key i (-d) (by lia) λk hk=>?_,ze,zd]
  ·unfold sg
   rw[Int.mul_neg,<-Int.neg_mul,Int.neg_sub]
  ·unfold flR
   rw[jb h1 h2,Ih]
   by_cases e:i=k
   ·subst e;rw[if_neg (by lia),if_pos rfl,if_pos rfl];lia
   ·rw[if_neg (by lia),if_neg (by lia),if_neg e];lia
theorem Ik {ts:List Tie} {rm:List Int} (R:RmOk ts rm) {a j:Nat} {d:Int} (ha:a<2*ts.length) (d0:0<=d) (hj:a≠j):rm.getD j 0<=(jv rm a d).getD j 0:=by
 have hx:=Ii ha
 rw[jb (by rw[R.len];exact ha) (by rw[R.len];exact hx),if_neg hj]
 split<;>lia
def Path (ts:List Tie):Nat->List Nat->Nat->Prop
 | s,[],e=>s=e
 | s,a::r,e=>a<2*ts.length/\tlA ts a=s/\Path ts (hdA ts a) r e
theorem Path.snoc {ts:List Tie} {a:Nat}:∀{w:List Nat} {s e:Nat},Path ts s w e->a<2*ts.length->tlA ts a=e->Path ts s (w++[a]) (hdA ts a)
 | [],s,e,h,ha,ht=>⟨ha,ht.trans (Eq.symm h),rfl⟩
 | b::r,s,e,h,ha,ht=>⟨h.1,h.2.1,h.2.2.snoc ha ht⟩
theorem Path.unsnoc {ts:List Tie} {a:Nat}:∀{w:List Nat} {s e:Nat},Path ts s (w++[a]) e->Path ts s w (tlA ts a)/\hdA ts a=e/\a<2*ts.length
 | [],s,e,h=>⟨h.2.1.symm,h.2.2,h.1⟩
 | b::r,s,e,h=>let ⟨p,q,t⟩:=h.2.2.unsnoc;⟨⟨h.1,h.2.1,p⟩,q,t⟩
theorem Path.take {ts:List Tie}:∀{w:List Nat} {s e:Nat} (n:Nat),Path ts s w e->∃f,Path ts s (w.take n) f
 | w,s,e,0,_=>⟨s,by cases w<;>rfl⟩
 | [],s,e,n+1,h=>⟨s,rfl⟩
 | b::r,s,e,n+1,h=>let ⟨f,p⟩:=h.2.2.take n;⟨f,h.1,h.2.1,p⟩
theorem Path.lt {ts:List Tie}:∀{w:List Nat} {s e:Nat},Path ts s w e->∀a∈w,a<2*ts.length
 | [],_,_,_,a,ha=>by simp at ha
 | b::r,s,e,h,a,ha=>by
  rcases AG.mp ha with rfl | ha
  ·exact h.1
  ·exact h.2.2.lt a ha
def a7 (rm:List Int) (w:List Nat) (d:Int):List Int:=w.foldl (λr a=>jv r a d) rm
theorem uf {ts:List Tie} {d:Int} (d0:0<=d):∀{w:List Nat} {rm:List Int},RmOk ts rm->w.Nodup->(∀a∈w,a<2*ts.length/\d<=rm.getD a 0)->RmOk ts (a7 rm w d)
 | [],rm,R,_,_=>R
 | a::r,rm,R,nd,h=>by
  obtain⟨h1,h2⟩:=BU.mp nd
  have ha:=h a AT
  have R1:=Ij R ha.1 d0 ha.2
  show RmOk ts (a7 (jv rm a d) r d)
  exact uf (w:=r) (rm:=jv rm a d) d0 R1 h2 λb hb=>by
   have:=h b (AJ _ hb)
   have g:=Ik R (j:=b) ha.1 d0 (λz=>h1 (z ▸ hb))
   exact⟨this.1,by lia⟩
theorem rn {ts:List Tie} {d:Int} (d0:0<=d) (v:Nat):∀{w:List Nat} {rm:List Int} {s e:Nat},RmOk ts rm->w.Nodup->(∀a∈w,a<2*ts.length/\d<=rm.getD a 0)->Path ts s w e ->
  outF ts (flR (a7 rm w d)) v=outF ts (flR rm) v+(ind (s=v)-ind (e=v))*d
 | [],rm,s,e,R,_,_,p=>by
  cases(show s=e from p)
  simp[a7]
 | a::r,rm,s,e,R,nd,h,p=>by
  obtain⟨h1,h2⟩:=BU.mp nd
  have ha:=h a AT
  have R1:=Ij R ha.1 d0 ha.2
  have ih:=rn d0 v (w:=r) (rm:=jv rm a d) (s:=hdA ts a) (e:=e) R1 h2 (λb hb=>by
   have:=h b (AJ _ hb)
   have g:=Ik R (j:=b) ha.1 d0 (λz=>h1 (z ▸ hb))
   exact⟨this.1,by lia⟩) p.2.2
  show outF ts (flR (a7 (jv rm a d) r d)) v=_
  rw[ih,Le R ha.1,p.2.1,Int.add_assoc,<-Int.add_mul]
  congr 2
  lia
open PySem
theorem mz {c:Sl->Sto->Res Bool} {b:Sl->Sto->Res Fl}:∀{n m:Nat} {σ:Sl} {μ:Sto},n<=m->whN c b n σ μ≠.stuck->whN c b m σ μ=whN c b n σ μ
 | 0,m,σ,μ,_,h=>absurd rfl h
 | n+1,0,σ,μ,hm,_=>absurd hm (by lia)
 | n+1,m+1,σ,μ,hm,h=>by
  simp![whN]at h ⊢
  cases e1:c σ μ with
  | exc a b d=>simp![Res.bind]
  | stuck=>simp![Res.bind]
  | ok k μ1 =>
   simp![e1,Res.ar]at h ⊢
   split at h
   ·rename_i hk
    rw[if_pos hk,if_pos hk]
    cases e2:b σ μ1 with
    | exc a b d=>simp![Res.bind]
    | stuck=>simp![Res.bind]
    | ok fl μ2 =>
     simp![e2,Res.ar]at h ⊢
     cases fl with
     | nx σ1=>exact mz (by lia) h
     | ct σ1=>exact mz (by lia) h
     | bk σ1=>rfl
     | rt v=>rfl
   ·rename_i hk
    rw[if_neg hk,if_neg hk]
theorem Qp {c:Sl->Sto->Res Bool} {b:Sl->Sto->Res Fl} {n:Nat} {σ:Sl} {μ:Sto} {r:Fl} {μ':Sto} (h:whN c b n σ μ=.ok r μ'):whR c b σ μ=.ok r μ':=by
 have ex:∃n,whN c b n σ μ≠.stuck:=⟨n,by rw[h];exact λz=>by cases z⟩
 unfold whR
 rw[dif_pos ex,<-h]
 have hc:=ex.choose_spec
 rcases Nat.le_total ex.choose n with z | z
 ·exact(mz z hc).symm
 ·exact mz z (by rw[h];exact λz=>by cases z)
theorem Cf {φ:Phi} {c:Ex} {b:Sms} (I:Nat->Sl->Sto->Prop) (R:Fl->Sto->Prop)
  (st:∀m σ μ,I m σ μ->∃k μ1,(evE φ c σ μ).bind zz=.ok k μ1/\(k=false->R (.nx σ) μ1)/\(k=true->∃fl μ2,jy φ b σ μ1=.ok fl μ2/\match fl with
   | .nx σ'=>∃m',m'<m/\I m' σ' μ2
   | .ct σ'=>∃m',m'<m/\I m' σ' μ2
   | .bk σ'=>R (.nx σ') μ2
   | .rt v=>R (.rt v) μ2)) {m:Nat} {σ:Sl} {μ:Sto} (h:I m σ μ):∃fl μ',kWh φ c b σ μ=.ok fl μ'/\R fl μ':=by
 have key:∀(m:Nat) σ μ,I m σ μ->∃n fl μ',whN (λσ μ=>(evE φ c σ μ).bind zz) (λσ μ=>jy φ b σ μ) n σ μ=.ok fl μ'/\R fl μ':=by
  intro m
  induction m using Nat.strongRecOn with
  | ind m ih =>
   intro σ μ h
   obtain⟨k,μ1,e1,hf,ht⟩:=st m σ μ h
   cases k with
   | false=>exact⟨1,.nx σ,μ1,by simp![whN,e1,Res.ar];rfl,hf rfl⟩
   | true =>
    obtain⟨fl,μ2,e2,q⟩:=ht rfl
    cases fl with
    | nx σ' =>
     obtain⟨m',hm,q⟩:=q
     obtain⟨n,fl,μ',e3,r⟩:=ih m' hm σ' μ2 q
     exact⟨n+1,fl,μ',by simp![whN,e1,Res.ar,if_true,e2];exact e3,r⟩
    | ct σ' =>
     obtain⟨m',hm,q⟩:=q
     obtain⟨n,fl,μ',e3,r⟩:=ih m' hm σ' μ2 q
     exact⟨n+1,fl,μ',by simp![whN,e1,Res.ar,if_true,e2];exact e3,r⟩
    | bk σ'=>exact⟨1,.nx σ',μ2,by simp![whN,e1,Res.ar,if_true,e2],q⟩
    | rt v=>exact⟨1,.rt v,μ2,by simp![whN,e1,Res.ar,if_true,e2],q⟩
 obtain⟨n,fl,μ',e,r⟩:=key m σ μ h
 exact⟨fl,μ',Qp e,r⟩
theorem zg {b c:Nat} (h:b<=c) (o:O) (e:ba b o=true):ba c o=true:=by
 have bm:∀(k:Nat) (d:D),D.belowN b k d=true->D.belowN c k d=true:=by
  intro k
  induction k with
  | zero=>intro d hd;cases d<;>simp_all[D.belowN];lia
  | succ k ih =>
   intro d hd
   cases d with
   | tup ds=>simp![D.belowN,AR]at hd ⊢;exact λx hx=>ih x (hd x hx)
   | lst ds=>simp![D.belowN,AR]at hd ⊢;exact λx hx=>ih x (hd x hx)
   | loc n=>simp_all[D.belowN];lia
   | _=>rfl
 cases o with
 | r ds=>simp![ba,AR]at e ⊢;exact λx hx=>bm 8 x (e x hx)
 | o c fs=>simp![ba,AR]at e ⊢;exact λx hx=>bm 8 _ (e x hx)
 | dr kvs=>simp![ba,AR]at e ⊢;exact λx hx=>bm 8 _ (e x hx)
 | _=>rfl
theorem gh {μ:Sto} {ρ:Sto} (h:c6 μ) (hr:ρ.all (ba (μ.length+ρ.length))=true):c6 (μ++ρ):=by
 unfold c6 at h ⊢
 rw[BD,List.all_append,hr,FN]
 rw[AR]at h ⊢
 exact λo ho=>zg (by lia) o (h o ho)
theorem wm {μ:Sto} {k:Nat} {o:O} (h:c6 μ) (ho:ba μ.length o=true):c6 (μ.set k o):=by
 unfold c6 at h ⊢
 rw[EI]
 rw[AR]at h ⊢
 intro x hx
 rcases List.mem_or_eq_of_mem_set hx with q | q
 ·exact h x q
 ·rw[q];exact ho
theorem cq {μ:Sto} {k:Nat} {ds:List D} (h:c6 μ):c6 (μ.set k (.l ds)):=wm h rfl
structure RL where
 r:Nat
 h:Nat
 ro:Nat
 lv:Nat
 su:Nat
 ll:List Nat
def RL.all (L:RL):List Nat:=L.r::L.h::L.ro::L.lv::L.su::L.ll
def jt (ts:List Tie):List Int:=(List.range (2*ts.length)).map λa=>(hdA ts a:Int)
def lea (ts:List Tie) (v:Nat):List Nat:=(List.range (2*ts.length)).filter λa=>decide (tlA ts a=v)
def nD (a:Nat):D:=.int (a:Int)
structure RAt (m:Nat) (ts:List Tie) (L:RL) (rm sv:List Int) (μ:Sto):Prop where
 o:μ[L.r]? = some (.o "Residue" [("heads",.loc L.h),("rooms",.loc L.ro),("leaving",.loc L.lv),("surplus",.loc L.su)])
 h:μ[L.h]? = some (.l ((jt ts).map D.int))
 ro:μ[L.ro]? = some (.l (rm.map D.int))
 lv:μ[L.lv]? = some (.r (L.ll.map D.loc))
 su:μ[L.su]? = some (.l (sv.map D.int))
 ll:∀v,v<m->∃k,L.ll[v]? = some k/\μ[k]? = some (.l ((lea ts v).map nD))
 nd:L.all.Nodup
 llen:L.ll.length=m
 slen:sv.length=m
 rlen:rm.length=2*ts.length
section
variable {m : Nat} {ts : List Tie} {L : RL} {rm su : List Int} {μ ρ : Sto} {φ : Phi}
theorem RAt.other {k:Nat} {o:O} (R:RAt m ts L rm su μ) (hk:k∉L.all):RAt m ts L rm su (μ.set k o):=by
 simp![RL.all,AG,not_or]at hk
 obtain⟨k1,k2,k3,k4,k5,k6⟩:=hk
 refine⟨by rw[AD k1];exact R.o,by rw[AD k2];exact R.h,by rw[AD k3];exact R.ro,by rw[AD k4];exact R.lv,by rw[AD k5];exact R.su,λv hv=>?_,R.nd,R.llen,R.slen,R.rlen⟩
 obtain⟨j,e1,e2⟩:=R.ll v hv
 exact⟨j,e1,by rw[AD (by rintro rfl;exact k6 (BC e1))];exact e2⟩
theorem RAt.at_ (R:RAt m ts L rm su μ) {k:Nat} (hk:k∈L.all):k<μ.length:=by
 simp![RL.all,AG]at hk
 rcases hk with rfl | rfl | rfl | rfl | rfl | hk
 ·exact(AC.mp R.o).1
 ·exact(AC.mp R.h).1
 ·exact(AC.mp R.ro).1
 ·exact(AC.mp R.lv).1
 ·exact(AC.mp R.su).1
 ·obtain⟨v,hv,e⟩:=BZ.mp hk
  obtain⟨j,e1,e2⟩:=R.ll v (by rw[<-R.llen];exact hv)
  rw[AA hv,e]at e1
  cases e1
  exact(AC.mp e2).1
theorem RAt.app (R:RAt m ts L rm su μ):RAt m ts L rm su (μ++ρ):=by
 have g:∀{k:Nat} {o:O},μ[k]? = some o->(μ++ρ)[k]? = some o:=λ{k o} e=>by rw[AK (AC.mp e).1];exact e
 exact⟨g R.o,g R.h,g R.ro,g R.lv,g R.su,λv hv=>let ⟨j,e1,e2⟩:=R.ll v hv;⟨j,e1,g e2⟩,R.nd,R.llen,R.slen,R.rlen⟩
theorem RAt.rooms {rm':List Int} (R:RAt m ts L rm su μ) (hl:rm'.length=rm.length):RAt m ts L rm' su (μ.set L.ro (.l (rm'.map D.int))):=by
 have hro:L.ro<μ.length:=(AC.mp R.ro).1
 have nd:=R.nd
 simp![RL.all,BU,AG,not_or]at nd
 obtain⟨⟨_,a1,_⟩,⟨a2,_⟩,⟨a3,a4,a5⟩,_⟩:=nd
 refine⟨by rw[AD (Ne.symm a1)];exact R.o,by rw[AD (Ne.symm a2)];exact R.h,by rw[AW hro],by rw[AD a3];exact R.lv,by rw[AD a4];exact R.su,λv hv=>?_,R.nd,R.llen,R.slen,hl.trans R.rlen⟩
 obtain⟨j,e1,e2⟩:=R.ll v hv
 exact⟨j,e1,by rw[AD (by rintro rfl;exact a5 (BC e1))];exact e2⟩
theorem RAt.surp {su':List Int} (R:RAt m ts L rm su μ) (hl:su'.length=su.length):RAt m ts L rm su' (μ.set L.su (.l (su'.map D.int))):=by
 have hsu:L.su<μ.length:=(AC.mp R.su).1
 have nd:=R.nd
 simp![RL.all,BU,AG,not_or]at nd
 obtain⟨⟨_,_,_,a1,_⟩,⟨_,_,a2,_⟩,⟨_,a3,_⟩,⟨a4,_⟩,a5,_⟩:=nd
 refine⟨by rw[AD (Ne.symm a1)];exact R.o,by rw[AD (Ne.symm a2)];exact R.h,by rw[AD (Ne.symm a3)];exact R.ro,by rw[AD (Ne.symm a4)];exact R.lv,by rw[AW hsu],λv hv=>?_,R.nd,R.llen,hl.trans R.slen,R.rlen⟩
 obtain⟨j,e1,e2⟩:=R.ll v hv
 exact⟨j,e1,by rw[AD (by rintro rfl;exact a5 (BC e1))];exact e2⟩
theorem rp {k:Nat} {fs:List (Str×D)} {f:Str} {d:D} (e:μ[k]? = some (.o "Residue" fs)) (h1:yg "Residue" f=true) (h2:fs.lookup f=some d):Ed f (.loc k) μ=.ok d μ:=by
 simp![Ed,objOf,e,h1,h2,if_true]
theorem RAt.aHeads (R:RAt m ts L rm su μ):Ed "heads" (.loc L.r) μ=.ok (.loc L.h) μ:=rp R.o (by decide) rfl
theorem RAt.aRooms (R:RAt m ts L rm su μ):Ed "rooms" (.loc L.r) μ=.ok (.loc L.ro) μ:=rp R.o (by decide) rfl
theorem RAt.aLeav (R:RAt m ts L rm su μ):Ed "leaving" (.loc L.r) μ=.ok (.loc L.lv) μ:=rp R.o (by decide) rfl
theorem RAt.aSurp (R:RAt m ts L rm su μ):Ed "surplus" (.loc L.r) μ=.ok (.loc L.su) μ:=rp R.o (by decide) rfl
theorem Cg {k:Nat} {ns:List Int} {i:Nat} (e:μ[k]? = some (.l (ns.map D.int))) (h:i<ns.length):ixD (.loc k) (.int i) μ=.ok (.int (ns.getD i 0)) μ:=Lb (by simp![bj,e]) h
theorem RAt.iRoom (R:RAt m ts L rm su μ) {a:Nat} (h:a<2*ts.length):ixD (.loc L.ro) (.int a) μ=.ok (.int (rm.getD a 0)) μ:=Cg R.ro (by rw[R.rlen];exact h)
theorem RAt.iSurp (R:RAt m ts L rm su μ) {v:Nat} (h:v<m):ixD (.loc L.su) (.int v) μ=.ok (.int (su.getD v 0)) μ:=Cg R.su (by rw[R.slen];exact h)
theorem RAt.iHead (R:RAt m ts L rm su μ) {a:Nat} (h:a<2*ts.length):ixD (.loc L.h) (.int a) μ=.ok (.int (hdA ts a)) μ:=by
 rw[Cg R.h (by simp[jt,h])]
 simp[jt,h]
theorem RAt.iLeav (R:RAt m ts L rm su μ) {v:Nat} (h:v<m):∃k,L.ll[v]? = some k/\μ[k]? = some (.l ((lea ts v).map nD))/\ixD (.loc L.lv) (.int v) μ=.ok (.loc k) μ:=by
 obtain⟨k,e1,e2⟩:=R.ll v h
 refine⟨k,e1,e2,?_⟩
 have hl:v<L.ll.length:=by rw[R.llen];exact h
 have e3:(L.ll.map D.loc)[v]? = some (.loc k):=by rw[AX,e1];rfl
 simp![ixD,bj,R.lv]
 have hx:ixN (L.ll.map D.loc).length (v:Int)=some v:=by
  unfold ixN
  rw[if_pos (by lia),AM,if_pos (by lia)]
  simp
 rw[hx]
 simp![e3]
theorem aab {a:Nat}:opI .BitXor (a:Int) 1 μ=.ok (.int (xA a)) μ:=by
 have h:(0:Int)<=a/\(1:Int)=1:=⟨by lia,rfl⟩
 simp![opI,h,and_self,if_true]
 congr 2
 unfold xA
 split<;>split<;>lia
theorem Ci {k:Nat} {ns:List Int} {i:Nat} (e:μ[k]? = some (.l (ns.map D.int))) (h:i<ns.length):ixL (.loc k) (.int i) μ=.ok (.int (ns.getD i 0)) μ:=Cg e h
theorem oa {k:Nat} {ns:List Int} {i:Nat} {x:Int} (e:μ[k]? = some (.l (ns.map D.int))) (h:i<ns.length):zy (.loc k) (.int i) (.int x) μ=.ok () (μ.set k (.l ((ns.set i x).map D.int))):=by
 have hx:ixN (ns.map D.int).length (i:Int)=some i:=by
  unfold ixN
  rw[if_pos (by lia),AM,if_pos (by lia)]
  simp
 simp![zy,e,d9,hx,fits,vw,if_true,putL,Res.ar,List.map_set]
theorem Qq {n:Nat} (R:RAt m ts L rm su μ) {a:Nat} {d:Int} (h:a<2*ts.length):ag GL (n+1) da [.loc L.r,.int a,.int d] μ=.ok .non (μ.set L.ro (.l ((jv rm a d).map D.int))):=by
 rw[ak sm,run_eq rfl]
 have h1:a<rm.length:=by rw[R.rlen];exact h
 have R1:RAt m ts L (upO rm a (-d)) su (μ.set L.ro (.l ((upO rm a (-d)).map D.int))):=R.rooms (gz _ _ _)
 have h2:xA a<(upO rm a (-d)).length:=by rw[gz,R.rlen];exact Ii h
 have e1:rm.set a (rm.getD a 0-d)=upO rm a (-d):=by unfold upO;rw[Int.sub_eq_add_neg]
 have e2:(upO rm a (-d)).set (xA a) ((upO rm a (-d)).getD (xA a) 0+d)=jv rm a d:=rfl
 simp! only[D_Residue_push,R.aRooms,Ci R.ro h1,oa R.ro h1,e1,R1.aRooms,aab,Ci R1.ro h2,oa R1.ro h2,e2,HI]
theorem zh {α:Type} {mk:Mk} {tg:Tg} {cs:Exs} {elt:Ex} {σ0:Sl} {xs:List α} {en:α->D} {g:α->D} {p:α->Bool} {g0:Gd} (hg:gd g0 μ) (h:∀a∈xs,ox φ tg cs elt σ0 (en a) μ=.ok (if p a=true then [g a]else []) μ):j0 φ mk tg cs elt σ0 (xs.map en,g0) μ=mkL mk ((xs.filter p).map g) μ:=by
 have e:mapR g0 (ox φ tg cs elt σ0) (xs.map en) μ=.ok ((xs.filter p).map g) μ:=by
  induction xs with
  | nil=>simp[mapR,hg]
  | cons a r ih =>
   simp![AO,mapR,hg,if_true,h a AT,Res.ar,ih λx hx=>h x (AJ _ hx),HB]
   split<;>simp
 rw[j0,e];rfl
def i5 (ts:List Tie) (rm:List Int) (v:Nat):List Nat:=(lea ts v).filter λa=>decide (0<rm.getD a 0)
theorem Il {v a:Nat}:a∈lea ts v↔a<2*ts.length/\tlA ts a=v:=by simp[lea]
theorem fm {v a:Nat}:a∈i5 ts rm v↔(a<2*ts.length/\tlA ts a=v)/\0<rm.getD a 0:=by simp[i5,Il]
theorem A5 {k:Nat} {ds:List D} (e:μ[k]? = some (.l ds)):kSeq (.loc k) μ=.ok (ds,some (k,.l ds)) μ:=by simp![kSeq,bc,e]
theorem Qr {n:Nat} (R:RAt m ts L rm su μ) {v:Nat} (h:v<m):ag GL (n+1) bb [.loc L.r,.int v] μ=.ok (.lst ((i5 ts rm v).map nD)) μ:=by
 rw[ak lq,run_eq rfl]
 obtain⟨k,e1,e2,e3⟩:=R.iLeav h
 have hc:j0 (ag GL n) .z (.one 1) bp bq [some (.loc L.r),none] ((lea ts v).map nD,some (k,.l ((lea ts v).map nD))) μ=.ok (.lst ((i5 ts rm v).map nD)) μ:=by
  rw[zh (g:=nD) (p:=λa=>decide (0<rm.getD a 0)) (show gd (some (k,.l ((lea ts v).map nD))) μ from e2) λa ha=>by
   have hl:=(Il.mp ha).1
   by_cases hp:0<rm.getD a 0
   ·simp! only[ox,bp,bq,nD,R.aRooms,R.iRoom hl,hp,if_true]
   ·simp! only[ox,bp,bq,nD,R.aRooms,R.iRoom hl,hp,if_false,BF],mi]
  rfl
 simp! only[D_Residue_open_arcs,R.aLeav,e3,A5 e2,hc]
end
open PySem
section
variable {μ ρ : Sto} {φ : Phi} {σ : Sl}
theorem wo {q:Nat} {ds:List D} {d:D} (e:μ[q]? = some (.l ds)) (hd:d.pure=true) (hl:ds.length<1000000):mtD .append (.loc q) [d] μ=.ok .non (μ.set q (.l (ds++[d]))):=by
 have:=lb
 simp![mtD,yf,e,d9,mtL,g8,fits,hd,putL]
 rw[if_pos ⟨trivial,by lia⟩]
theorem Qs {mt:Mt} {es:Exs} {q:Nat} {ds:List D} (e:μ[q]? = some (.l ds)) (h:∀d μ,md mt d μ=(Lp.listOf μ d).isSome):kM φ mt es σ (.loc q) μ=(eh φ es σ μ).bind (mtD mt (.loc q)):=by
 refine Vm ?_
 rw[h]
 simp![Lp.listOf,e];rfl
theorem wq {es:Exs} {q:Nat} {ds:List D} (e:μ[q]? = some (.l ds)):kM φ .append es σ (.loc q) μ=(eh φ es σ μ).bind (mtD .append (.loc q)):=Qs e λ_ _=>rfl
theorem A6 {es:Exs} {q:Nat} {ds:List D} (e:μ[q]? = some (.l ds)):kM φ .pop es σ (.loc q) μ=(eh φ es σ μ).bind (mtD .pop (.loc q)):=Qs e λ_ _=>rfl
theorem A7 {q:Nat} {ds:List D} {d:D} (e:μ[q]? = some (.l (ds++[d]))):mtD .pop (.loc q) [] μ=.ok d (μ.set q (.l ds)):=by
 simp![mtD,yf,e,d9,mtL,FP,List.dropLast_concat,putL]
def encL (kvs:List (Nat×Nat)):List (D×D):=kvs.map λp=>(nD p.1,nD p.2)
theorem jc (v:Nat):∀kvs:List (Nat×Nat),uz (nD v) (encL kvs)=(kvs.lookup v).map nD
 | []=>rfl
 | (k,l)::r=>by
  have ih:=jc v r
  simp![encL,AO,uz,nD,deq,BL]
  by_cases h:v=k
  ·subst h;simp[nD]
  ·have h2:(v==k)=false:=by simp[h]
   have h3:¬((k:Int)=(v:Int)):=by lia
   simp![h2,h3,decide_false,BF,if_false]
   exact ih
theorem Im {v l:Nat} {kvs:List (Nat×Nat)} (h:kvs.lookup v=none):dput (nD v) (nD l) (encL kvs)=encL (kvs++[(v,l)]):=by
 rw[Cc (by rw[jc,h];rfl)]
 simp[encL]
theorem Qt {n v:Nat} {kvs:List (Nat×Nat)} (e:μ[n]? = some (.d (encL kvs))):cpD .notin (nD v) (.loc n) μ=.ok (.bl (!(kvs.lookup v).isSome)) μ:=by
 simp![cpD,bj,e,dictAt,nD,ye,if_true]
 rw[show D.int (v:Int)=nD v from rfl,jc]
 simp
theorem abn {n v:Nat} {kvs:List (Nat×Nat)} (e:μ[n]? = some (.d (encL kvs))):cpD .in_ (nD v) (.loc n) μ=.ok (.bl (kvs.lookup v).isSome) μ:=by
 simp![cpD,bj,e,dictAt,nD,ye,if_true]
 rw[show D.int (v:Int)=nD v from rfl,jc]
 simp
theorem Qu {n v l:Nat} {kvs:List (Nat×Nat)} (e:μ[n]? = some (.d (encL kvs))\/μ[n]? = some (.fd (encL kvs))) (h:kvs.lookup v=some l):Fc (.loc n) (nD v) μ=.ok (nD l) μ:=by
 rcases e with e | e
 ·simp![Fc,dictAt,e,nD,ye,if_true]
  rw[show D.int (v:Int)=nD v from rfl,jc,h];rfl
 ·simp![Fc,dictAt,e,nD,ye,if_true]
  rw[show D.int (v:Int)=nD v from rfl,jc,h];rfl
theorem Y4 {n v l:Nat} {kvs:List (Nat×Nat)} (e:μ[n]? = some (.d (encL kvs))) (h:kvs.lookup v=none) (hl:kvs.length<1000000):zy (.loc n) (nD v) (nD l) μ=.ok () (μ.set n (.d (encL (kvs++[(v,l)])))):=by
 have:=lb
 have hp:(nD l).pure=true:=rfl
 simp![zy,e]
 rw[if_pos ⟨rfl,hp,by simp[encL];lia⟩,Im h]
theorem Cj {α:Type} {g:Gd} {tg:Tg} {b:Sms} {xs:List α} {en:α->D} (I:Nat->Sl->Sto->Prop) (hg:∀k σ μ,I k σ μ->gd g μ) (h0:I 0 σ μ) (st:∀(k:Nat) a σ μ,xs[k]? = some a->I k σ μ->∃σ' μ',fLp φ tg b (en a) σ μ=.ok (.nx σ') μ'/\I (k+1) σ' μ') :
  ∃σ' μ',Ds φ tg b σ (xs.map en,g) μ=.ok (.nx σ') μ'/\I xs.length σ' μ':=by
 obtain⟨fl,μ',e,r⟩:=qt (g:=g) (f:=fLp φ tg b) (ds:=xs.map en) (σ:=σ) (μ:=μ) I (λfl μ'=>∃σ',fl=.nx σ'/\I xs.length σ' μ') 0 hg h0 (λj d σ μ ej i=>by
  rw[AX]at ej
  cases ex:xs[j]? with
  | none=>rw[ex]at ej;cases ej
  | some a =>
   rw[ex]at ej
   simp![EK,BP]at ej
   subst ej
   rw[Nat.zero_add]at i
   obtain⟨σ',μ',e1,i1⟩:=st j a σ μ ex i
   exact⟨.nx σ',μ',e1,by rw[Nat.zero_add];exact i1⟩) λσ μ i=>⟨σ,rfl,by simpa using i⟩
 obtain⟨σ',rfl,i⟩:=r
 exact⟨σ',μ',e,i⟩
theorem kb {c:O} {T:Sto}:(μ++c::T)[μ.length]? = some c:=by simp
theorem A8 {c c':O} {T:Sto}:(μ++c::T).set μ.length c'=μ++c'::T:=by simp[List.set_append]
theorem A9 {c o:O} {G:Sto}:(μ++c::(G++[o]))[μ.length+1+G.length]? = some o:=by
 rw[AZ (by lia),show μ.length+1+G.length-μ.length=G.length+1 by lia]
 simp
theorem Qv {c o o':O} {G:Sto}:(μ++c::(G++[o])).set (μ.length+1+G.length) o'=μ++c::(G++[o']):=by
 rw[List.set_append_right _ _ (by lia),show μ.length+1+G.length-μ.length=G.length+1 by lia]
 simp
end
structure Lev (m:Nat) (ts:List Tie) (rm:List Int) (s:Nat) (kvs:List (Nat×Nat)) (row:List Nat):Prop where
 nd:(kvs.map (·.1)).Nodup
 lt:∀v l,kvs.lookup v=some l->v<m
 st:kvs.lookup s=some 0
 par:∀v l,kvs.lookup v=some l->v≠s->∃u a j,kvs.lookup u=some j/\l=j+1/\a∈i5 ts rm u/\hdA ts a=v
 cl:∀v l,kvs.lookup v=some l->v∉row->∀a∈i5 ts rm v,(kvs.lookup (hdA ts a)).isSome=true
theorem og {kvs:List (Nat×Nat)} {v l u:Nat} (h:kvs.lookup v=none):(kvs++[(v,l)]).lookup u=if u=v then some l else kvs.lookup u:=by
 induction kvs with
 | nil =>
  simp![EL,BL,HP]
  by_cases e:u=v
  ·subst e;simp
  ·have:(u==v)=false:=by simp[e]
   simp[this,e]
 | cons p r ih =>
  obtain⟨k,x⟩:=p
  simp![CL,BL]at h ⊢
  cases hv:v==k with
  | true=>rw[hv]at h;cases h
  | false =>
   rw[hv]at h
   rw[ih h]
   cases hu:u==k with
   | true =>
    have e1:u=k:=by simpa using hu
    have e2:u≠v:=λz=>by subst z;rw[hu]at hv;cases hv
    simp[e2]
   | false=>rfl
theorem lookup_mem {kvs:List (Nat×Nat)} {v:Nat}:(kvs.lookup v).isSome=true↔v∈kvs.map (·.1):=by
 induction kvs with
 | nil=>simp
 | cons p r ih =>
  obtain⟨k,x⟩:=p
  simp![BL,AO,AG]
  cases h:v==k with
  | true =>
       have:v=k:=by simpa using h
       simp[this]
  | false =>
       have:v≠k:=by simpa using h
       simp[this,ih]
theorem nc:∀{m:Nat} {xs:List Nat},xs.Nodup->(∀x∈xs,x<m)->xs.length<=m
 | 0,[],_,_=>AN _
 | 0,x::_,_,h=>absurd (h x AT) (by lia)
 | m+1,xs,nd,h=>by
  by_cases hm:m∈xs
  ·have:=nc (m:=m) (xs:=xs.erase m) (nd.erase m) λx hx=>by
    obtain⟨h1,h2⟩:=(List.Nodup.mem_erase_iff nd).mp hx
    have:=h x h2
    lia
   rw[List.length_erase_of_mem hm]at this
   lia
  ·have:=nc (m:=m) nd λx hx=>by
    have:=h x hx
    have:x≠m:=λz=>hm (z ▸ hx)
    lia
   lia
theorem Lev.len {m:Nat} {ts:List Tie} {rm:List Int} {s:Nat} {kvs:List (Nat×Nat)} {row:List Nat} (V:Lev m ts rm s kvs row):kvs.length<=m:=by
 have:=nc V.nd (m:=m) λx hx=>by
  obtain⟨l,e⟩:=BJ.mp (lookup_mem.mpr hx)
  exact V.lt x l e
 simpa using this
structure BI (m:Nat) (ts:List Tie) (rm:List Int) (s d:Nat) (row:List Nat) (kvs:List (Nat×Nat)) (rch:List Nat) (i:Nat) (n0:Nat):Prop where
 nd:(kvs.map (·.1)).Nodup
 lt:∀v l,kvs.lookup v=some l->v<m
 st:kvs.lookup s=some 0
 par:∀v l,kvs.lookup v=some l->v≠s->∃u a j,kvs.lookup u=some j/\l=j+1/\a∈i5 ts rm u/\hdA ts a=v
 cl:∀v l,kvs.lookup v=some l->v∉row.drop i->v∉rch->∀a∈i5 ts rm v,(kvs.lookup (hdA ts a)).isSome=true
 rows:∀v∈row,kvs.lookup v=some d
 rchs:∀v∈rch,kvs.lookup v=some (d+1)
 len:kvs.length=n0+rch.length
section
variable {m : Nat} {ts : List Tie} {L : RL} {rm su : List Int} {μ : Sto} {s d i n0 : Nat} {row rch : List Nat} {kvs : List (Nat × Nat)}
theorem BI.add (ok:∀t∈ts,TieOk m t) (B:BI m ts rm s d row kvs rch i n0) {u a:Nat} (hu:kvs.lookup u=some d) (ha:a∈i5 ts rm u) (hv:kvs.lookup (hdA ts a)=none):BI m ts rm s d row (kvs++[(hdA ts a,d+1)]) (rch++[hdA ts a]) i n0:=by
 have lk:=λw=>og (l:=d+1) (u:=w) hv
 have old:∀{w l:Nat},kvs.lookup w=some l->(kvs++[(hdA ts a,d+1)]).lookup w=some l:=λ{w l} e=>by
  rw[lk,if_neg (λz=>by rw[z,hv]at e;cases e)];exact e
 have some_old:∀{w:Nat},(kvs.lookup w).isSome=true->((kvs++[(hdA ts a,d+1)]).lookup w).isSome=true:=λ{w} e=>by
  obtain⟨l,e⟩:=BJ.mp e
  rw[old e];rfl
 have hl:=(fm.mp ha).1.1
 refine⟨?_,λv l e=>?_,old B.st,λv l e hs=>?_,λv l e h1 h2=>?_,λv hv=>old (B.rows v hv),λv hv'=>?_,by simp[B.len];lia⟩
 ·rw[BO]
  refine GM.mpr ⟨B.nd,by simp,λx hx y hy=>?_⟩
  have:y=hdA ts a:=by simpa using hy
  subst this
  rintro rfl
  have:=lookup_mem.mpr hx
  rw[hv]at this;cases this
 ·rw[lk]at e
  split at e
  ·rename_i z;subst z;exact Y3 ok hl
  ·exact B.lt v l e
 ·rw[lk]at e
  split at e
  ·rename_i z
   subst z
   cases e
   exact⟨u,a,d,old hu,rfl,ha,rfl⟩
  ·obtain⟨w,b,j,e1,e2,e3,e4⟩:=B.par v l e hs
   exact⟨w,b,j,old e1,e2,e3,e4⟩
 ·rw[lk]at e
  split at e
  ·rename_i z;exact absurd (by rw[z];simp) h2
  ·intro b hb
   exact some_old (B.cl v l e h1 (λz=>h2 (Db _ z)) b hb)
 ·rcases BN.mp hv' with h | h
  ·exact old (B.rchs v h)
  ·have:v=hdA ts a:=by simpa using h
   subst this
   rw[lk,if_pos rfl]
theorem wt {n:Nat} (ok:∀t∈ts,TieOk m t) (hm:m<=1000) (R:RAt m ts L rm su μ) {G:Sto} {rowD:D} {u:Nat} (B:BI m ts rm s d row kvs rch i n0) (hu:kvs.lookup u=some d) {v6 v7:Option D} :
  ∃kvs' rch' v6' v7',Ds (ag GL n) (.one 6) cn [some (.loc L.r),some (nD s),some (.loc μ.length),some rowD,some (.loc (μ.length+1+G.length)),some (nD u),v6,v7] ((i5 ts rm u).map nD,none) (μ++.d (encL kvs)::(G++[.l (rch.map nD)])) =
   .ok (.nx [some (.loc L.r),some (nD s),some (.loc μ.length),some rowD,some (.loc (μ.length+1+G.length)),some (nD u),v6',v7']) (μ++.d (encL kvs')::(G++[.l (rch'.map nD)])) /\
   BI m ts rm s d row kvs' rch' i n0/\(∀a∈i5 ts rm u,(kvs'.lookup (hdA ts a)).isSome=true)/\kvs'.lookup u=some d:=by
 obtain⟨σ',μ',e,kvs',rch',v6',v7',rfl,rfl,b1,b2,b3⟩:=ly (φ:=ag GL n) (tg:=.one 6) (b:=cn) (xs:=i5 ts rm u) (en:=nD) (μ:=μ++.d (encL kvs)::(G++[.l (rch.map nD)]))
  (σ:=[some (.loc L.r),some (nD s),some (.loc μ.length),some rowD,some (.loc (μ.length+1+G.length)),some (nD u),v6,v7])
  (λj σ μ'=>∃kvs' rch' v6' v7',σ=[some (.loc L.r),some (nD s),some (.loc μ.length),some rowD,some (.loc (μ.length+1+G.length)),some (nD u),v6',v7']/\μ'=μ++.d (encL kvs')::(G++[.l (rch'.map nD)]) /\
   BI m ts rm s d row kvs' rch' i n0/\(∀a∈(i5 ts rm u).take j,(kvs'.lookup (hdA ts a)).isSome=true)/\kvs'.lookup u=some d)
  ⟨kvs,rch,v6,v7,rfl,rfl,B,by simp,hu⟩ (by
   rintro j a σ μ' ha ⟨kvs',rch',v6',v7',rfl,rfl,b1,b2,b3⟩
   have hj:j<(i5 ts rm u).length:=(AC.mp ha).1
   have hmem:a∈i5 ts rm u:=BC ha
   have hl:=(fm.mp hmem).1.1
   have R':RAt m ts L rm su (μ++.d (encL kvs')::(G++[.l (rch'.map nD)])):=R.app
   have tk:(i5 ts rm u).take (j+1)=(i5 ts rm u).take j++[a]:=by rw[DO,ha];rfl
   have lenk:kvs'.length<=m:=Lev.len (s:=s) (ts:=ts) (rm:=rm) (row:=kvs'.map (·.1)) ⟨b1.nd,b1.lt,b1.st,b1.par,λv l e h=>absurd (lookup_mem.mp (by rw[e];rfl)) h⟩
   have lenr:rch'.length<=m:=by have:=b1.len;lia
   have hh:(D.int (hdA ts a:Int))=nD (hdA ts a):=rfl
   have n1:=Qt (μ:=μ++.d (encL kvs')::(G++[.l (rch'.map nD)])) (n:=μ.length) (v:=hdA ts a) (kvs:=kvs') kb
   cases hk:kvs'.lookup (hdA ts a)with
   | some l =>
    rw[hk]at n1
    refine⟨_,_,?_,kvs',rch',some (nD a),some (nD (hdA ts a)),rfl,rfl,b1,λb hb=>?_,b3⟩
    ·simp! only[fLp,cn,R'.aHeads,nD,R'.iHead hl]
     simp! only[hh,n1,GA]
    ·rw[tk]at hb
     rcases BN.mp hb with h | h
     ·exact b2 b h
     ·have:b=a:=by simpa using h
      subst this;rw[hk];rfl
   | none =>
    rw[hk]at n1
    have b':=b1.add ok b3 hmem hk
    have dx:=Qu (μ:=μ++.d (encL kvs')::(G++[.l (rch'.map nD)])) (n:=μ.length) (.inl kb) b3
    have pd:=Y4 (μ:=μ++.d (encL kvs')::(G++[.l (rch'.map nD)])) (n:=μ.length) (v:=hdA ts a) (l:=d+1) kb hk (by lia)
    rw[A8]at pd
    have ap:=wo (μ:=μ++.d (encL (kvs'++[(hdA ts a,d+1)]))::(G++[.l (rch'.map nD)])) (d:=nD (hdA ts a)) A9 rfl (by rw[AM];lia)
    rw[Qv]at ap
    have ka:=wq (φ:=ag GL n) (μ:=μ++.d (encL (kvs'++[(hdA ts a,d+1)]))::(G++[.l (rch'.map nD)])) (σ:=[some (.loc L.r),some (nD s),some (.loc μ.length),some rowD,some (.loc (μ.length+1+G.length)),some (nD u),some (nD a),some (nD (hdA ts a))]) (es:=.cons (.var 7) .nil) A9
    have pl:(D.int ((d:Int)+1))=nD (d+1):=by simp[nD]
    refine⟨_,_,?_,kvs'++[(hdA ts a,d+1)],rch'++[hdA ts a],some (nD a),some (nD (hdA ts a)),rfl,rfl,b',λb hb=>?_,?_⟩
    ·simp! only[fLp,cn,R'.aHeads,nD,R'.iHead hl]
     simp![nD]at n1 dx pd ap ka
     simp! only[n1,Option.isSome_none,dx,pl,nD,pd,ka,ap,BO]
    ·rw[tk]at hb
     have lk:=og (l:=d+1) (u:=hdA ts b) hk
     rcases BN.mp hb with h | h
     ·rw[lk]
      split
      ·rfl
      ·exact b2 b h
     ·have:b=a:=by simpa using h
      subst this
      rw[lk,if_pos rfl];rfl
    ·rw[og hk,if_neg (λz=>by rw[z,hk]at b3;cases b3)];exact b3)
 exact⟨kvs',rch',v6',v7',e,b1,by simpa using b2,b3⟩
theorem Lg {k:Nat} {c f:Str} {fs:List (Str×D)} (e:μ[k]? = some (.o c fs)) (h:(fs.lookup f).isNone=true):isObj c f (.loc k) μ=true:=by
 simp![isObj,objOf,e,h,decide_true,FM]
theorem Ba {φ:Phi} {σ:Sl} {k1:Bool} {c f:Str} {g:Nat} {es:Exs} {x:D} (h:isObj c f x μ=true):Vz φ k1 c f g es σ x μ=(eh φ es σ μ).bind (K6 φ k1 g x):=by rw[Vz,if_pos h]
theorem wu {φ:Phi} {g:Nat} {x d:D} {ds:List D} {μ':Sto} (h:φ g (x::ds) μ=.ok d μ') (hd:d.pure=true) (hl:μ'.length=μ.length) (hr:c6 μ'):K6 φ false g x ds μ=.ok d μ':=by
 rw[K6,h,Fd,if_neg BB,ua hd hl hr]
theorem RAt.isO (R:RAt m ts L rm su μ) {f:Str} (h:yg "Residue" f=false):isObj "Residue" f (.loc L.r) μ=true:=by
 refine Lg R.o ?_
 simp![yg,if_true]at h
 simp![Bool.or_eq_false_iff,decide_eq_false_iff_not]at h
 obtain⟨⟨⟨h1,h2⟩,h3⟩,h4⟩:=h
 have e1:(f==("heads":Str))=false:=beq_eq_false_iff_ne.mpr h1
 have e2:(f==("rooms":Str))=false:=beq_eq_false_iff_ne.mpr h2
 have e3:(f==("leaving":Str))=false:=beq_eq_false_iff_ne.mpr h3
 have e4:(f==("surplus":Str))=false:=beq_eq_false_iff_ne.mpr h4
 simp![BL,e1,e2,e3,e4,HP,Option.isNone_none]
theorem Lh (xs:List Nat):(D.lst (xs.map nD)).pure=true:=by
 show D.pureN 8 _=true
 rw[vv,AR]
 intro x hx
 obtain⟨a,_,rfl⟩:=BK.mp hx
 exact qu
theorem Io {n:Nat} (hr:c6 μ) (R:RAt m ts L rm su μ) {v:Nat} (h:v<m) {σ:Sl} {es:Exs} (he:eh (ag GL (n+1)) es σ μ=.ok [nD v] μ):Vz (ag GL (n+1)) false "Residue" "open_arcs" bb es σ (.loc L.r) μ=.ok (.lst ((i5 ts rm v).map nD)) μ:=by
 rw[Ba (R.isO (by decide)),he]
 exact wu (Qr R h) (Lh _) rfl hr
def Qw (b:Nat) (d:D) (row:List Nat) (ν:Sto):Prop:=d=.lst (row.map nD)\/∃k,b<k/\d=.loc k/\ν[k]? = some (.l (row.map nD))
theorem kc {G:Sto} (hG:∀o∈G,∃ds,o=.l ds) (b:Nat):G.all (ba b)=true:=by
 rw[AR]
 intro o ho
 obtain⟨ds,rfl⟩:=hG o ho
 rfl
theorem Li (hr:c6 μ) {x:List (D×D)} {G:Sto} (hG:∀o∈G,∃ds,o=.l ds):c6 (μ++.d x::G):=gh hr (by rw[BM,kc hG];rfl)
theorem V8 {c c':O} {G T:Sto} {k:Nat} (h1:μ.length<k) (h2:k<μ.length+1+G.length):(μ++c::(G++T))[k]? = (μ++c'::G)[k]?:=by
 rw[AZ (by lia),AZ (by lia),show k-μ.length=(k-μ.length-1)+1 by lia,CO,CO,AK (by lia)]
theorem zi {n:Nat} (ok:∀t∈ts,TieOk m t) (hm:m<=1000) (hr:c6 μ) (R:RAt m ts L rm su μ) {G:Sto} (hG:∀o∈G,∃ds,o=.l ds) {rowD:D} {v4 v5 v6 v7:Option D} (hrow:Qw μ.length rowD row (μ++.d (encL kvs)::G)) (B:BI m ts rm s d row kvs [] 0 n0) :
  ∃kvs' rch' v5' v6' v7',jy (ag GL (n+1)) dj [some (.loc L.r),some (nD s),some (.loc μ.length),some rowD,v4,v5,v6,v7] (μ++.d (encL kvs)::G) =
   .ok (.nx [some (.loc L.r),some (nD s),some (.loc μ.length),some (.loc (μ.length+1+G.length)),some (.loc (μ.length+1+G.length)),v5',v6',v7']) (μ++.d (encL kvs')::(G++[.l (rch'.map nD)])) /\
   BI m ts rm s d row kvs' rch' row.length n0:=by
 have e0:mkL .l [] (μ++.d (encL kvs)::G)=.ok (.loc (μ.length+1+G.length)) (μ++.d (encL kvs)::(G++[.l []])):=by
  rw[Hv rfl]
  simp![BD,AU,BY,CL]
  congr 2
  lia
 obtain⟨g,ks,hg⟩:∃g:Gd,kSeq rowD (μ++.d (encL kvs)::(G++[.l []]))=.ok (row.map nD,g) (μ++.d (encL kvs)::(G++[.l []]))/\∀(x:List (D×D)) (y:O),gd g (μ++.d x::(G++[y])):=by
  rcases hrow with rfl | ⟨k,hk,rfl,ek⟩
  ·exact⟨none,rfl,λ_ _=>trivial⟩
  ·have hk2:k<μ.length+1+G.length:=by
    have:=(AC.mp ek).1
    simp at this;lia
   have e1:∀(x:List (D×D)) (y:O),(μ++.d x::(G++[y]))[k]? = some (.l (row.map nD)):=λx y=>by rw[V8 (c':=.d (encL kvs)) hk hk2];exact ek
   exact⟨some (k,.l (row.map nD)),A5 (e1 _ _),λx y=>e1 x y⟩
 obtain⟨σ',μ',e,kvs',rch',v5',v6',v7',rfl,rfl,b1⟩:=Cj (g:=g) (φ:=ag GL (n+1)) (tg:=.one 5) (b:=fv) (xs:=row) (en:=nD) (μ:=μ++.d (encL kvs)::(G++[.l []]))
  (σ:=[some (.loc L.r),some (nD s),some (.loc μ.length),some rowD,some (.loc (μ.length+1+G.length)),v5,v6,v7])
  (λj σ μ'=>∃kvs' rch' v5' v6' v7',σ=[some (.loc L.r),some (nD s),some (.loc μ.length),some rowD,some (.loc (μ.length+1+G.length)),v5',v6',v7']/\μ'=μ++.d (encL kvs')::(G++[.l (rch'.map nD)])/\BI m ts rm s d row kvs' rch' j n0)
  (by rintro k σ μ' ⟨kvs',rch',_,_,_,_,rfl,_⟩;exact hg _ _) ⟨kvs,[],v5,v6,v7,rfl,rfl,B⟩ (by
   rintro j u σ μ' hu ⟨kvs',rch',v5',v6',v7',rfl,rfl,b1⟩
   have hmem:u∈row:=BC hu
   have hl:=b1.rows u hmem
   have hum:=b1.lt u _ hl
   have H:c6 (μ++.d (encL kvs')::(G++[.l (rch'.map nD)])):=Li hr λo ho=>by
    rcases BN.mp ho with h | h
    ·exact hG o h
    ·exact⟨_,DK.mp h⟩
   have co:=Io (n:=n) H (R.app (ρ:=.d (encL kvs')::(G++[.l (rch'.map nD)]))) hum (σ:=[some (.loc L.r),some (nD s),some (.loc μ.length),some rowD,some (.loc (μ.length+1+G.length)),some (nD u),v6',v7']) (es:=.cons (.var 5) .nil) rfl
   obtain⟨kvs2,rch2,v62,v72,el,b2,b3,b4⟩:=wt (n:=n+1) (G:=G) (rowD:=rowD) (v6:=v6') (v7:=v7') ok hm R b1 hl
   refine⟨_,_,?_,kvs2,rch2,some (nD u),v62,v72,rfl,rfl,b2.nd,b2.lt,b2.st,b2.par,λv l ev h1 h2=>?_,b2.rows,b2.rchs,b2.len⟩
   ·simp! only[fLp,fv,co,el]
   ·by_cases hv:v=u
    ·subst hv;exact b3
    ·refine b2.cl v l ev (λz=>?_) h2
     have hj:j<row.length:=(AC.mp hu).1
     rw[EA hj]at z
     rcases AG.mp z with z | z
     ·rw[AA hj]at hu
      exact hv (z.trans (BH hu))
     ·exact h1 z)
 refine⟨kvs',rch',v5',v6',v7',?_,b1⟩
 simp! only[dj,e0,ks,e]
end
open PySem
section
variable {m : Nat} {ts : List Tie} {L : RL} {rm su : List Int} {μ : Sto} {s : Nat}
theorem Qx {b:Nat} {d:D} {row:List Nat} (h:Qw b d row μ):truD d μ=.ok (.bl (!row.isEmpty)) μ:=by
 rcases h with rfl | ⟨k,_,rfl,e⟩
 ·simp[truD,bj]
 ·simp[truD,bj,e]
theorem Ip {n:Nat} (ok:∀t∈ts,TieOk m t) (hm:m<=1000) (hr:c6 μ) (R:RAt m ts L rm su μ) (hs:s<m) :
  ∃kvs G,ag GL (n+2) cj [.loc L.r,nD s] μ=.ok (.loc μ.length) (μ++.d (encL kvs)::G)/\Lev m ts rm s kvs []:=by
 rw[ak vy,run_eq rfl]
 have e0:Tn false [nD s,.int 0] μ=.ok (.loc μ.length) (μ++.d (encL [(s,0)])::[]):=by
  simp![Tn,nD,vw,and_self,if_true,encL,AO,CZ];rfl
 have B0:BI m ts rm s 0 [s] [(s,0)] [] 0 1:=by
  have lk:∀{v l:Nat},[(s,0)].lookup v=some l->v=s:=λ{v l} ev=>by
   simp![BL,HP]at ev
   cases hv:v==s with
   | true=>simpa using hv
   | false=>rw[hv]at ev;cases ev
  exact⟨by simp,λv l ev=>by rw[lk ev];exact hs,by simp,λv l ev h=>absurd (lk ev) h,λv l ev h=>absurd (by rw[lk ev];simp) h,by simp,by simp,rfl⟩
 obtain⟨fl,μ',e,kvs,G,v3,v4,v5,v6,v7,rfl,rfl,V⟩:=Cf (φ:=ag GL (n+1)) (c:=.tru (.var 3)) (b:=dj)
  (λk σ ν=>∃kvs row d G rowD v4 v5 v6 v7,σ=[some (.loc L.r),some (nD s),some (.loc μ.length),some rowD,v4,v5,v6,v7]/\ν=μ++.d (encL kvs)::G/\(∀o∈G,∃ds,o=.l ds)/\Qw μ.length rowD row ν/\BI m ts rm s d row kvs [] 0 kvs.length/\k=2*(m-kvs.length)+(if row.isEmpty=true then 0 else 1))
  (λfl ν=>∃kvs G v3 v4 v5 v6 v7,fl=.nx [some (.loc L.r),some (nD s),some (.loc μ.length),v3,v4,v5,v6,v7]/\ν=μ++.d (encL kvs)::G/\Lev m ts rm s kvs [])
  (by
   rintro k σ ν ⟨kvs,row,d,G,rowD,v4,v5,v6,v7,rfl,rfl,hG,hrow,B,rfl⟩
   refine⟨!row.isEmpty,μ++.d (encL kvs)::G,?_,λhk=>?_,λhk=>?_⟩
   ·simp! only[Qx hrow,zz]
   ·have:row=[]:=by simpa using hk
    subst this
    exact⟨kvs,G,_,_,_,_,_,rfl,rfl,B.nd,B.lt,B.st,B.par,λv l ev h=>B.cl v l ev (by simp) (by simp)⟩
   ·obtain⟨kvs',rch',v5',v6',v7',el,b1⟩:=zi (n:=n) (v4:=v4) (v5:=v5) (v6:=v6) (v7:=v7) ok hm hr R hG hrow B
    have hne:row.isEmpty=false:=by simpa using hk
    have lenk:kvs'.length<=m:=Lev.len (s:=s) (ts:=ts) (rm:=rm) (row:=kvs'.map (·.1)) ⟨b1.nd,b1.lt,b1.st,b1.par,λv l e h=>absurd (lookup_mem.mp (by rw[e];rfl)) h⟩
    have hlen:=b1.len
    refine⟨_,_,el,2*(m-kvs'.length)+(if rch'.isEmpty=true then 0 else 1),?_,kvs',rch',d+1,G++[.l (rch'.map nD)],.loc (μ.length+1+G.length),_,_,_,_,rfl,rfl,λo ho=>?_,.inr ⟨_,by lia,rfl,A9⟩,?_,rfl⟩
    ·rw[hne]
     cases rch' with
     | nil=>simp at hlen ⊢;lia
     | cons x r=>simp at hlen ⊢;lia
    ·rcases BN.mp ho with h | h
     ·exact hG o h
     ·exact⟨_,DK.mp h⟩
    ·exact⟨b1.nd,b1.lt,b1.st,b1.par,λv l ev h1 h2=>b1.cl v l ev (by simp) (by simpa using h1),b1.rchs,by simp,by simp⟩)
  (m:=2*(m-1)+1) (σ:=[some (.loc L.r),some (nD s),some (.loc μ.length),some (.lst [nD s]),none,none,none,none]) (μ:=μ++.d (encL [(s,0)])::[])
  ⟨[(s,0)],[s],0,[],.lst [nD s],none,none,none,none,rfl,rfl,by simp,.inl rfl,B0,by simp⟩
 refine⟨kvs,G,?_,V⟩
 simp! only[D_levels_from,e0,e]
theorem ug {φ:Phi} {f:Nat} {ds:List D} {o:O} {G:Sto} (h:φ f ds μ=.ok (.loc μ.length) (μ++o::G)) (hr:c6 μ) (ho:Zi o=true):qy φ f ds μ=.ok (.loc μ.length) (μ++[o]):=by
 rw[qy,h]
 have t:(μ++o::G).take μ.length=μ:=by simp
 have hr':μ.all (ba μ.length)=true:=hr
 have nb:D.belowN μ.length 8 (.loc μ.length)=false:=by simp[D.belowN]
 simp![Ac,t,hr',if_true,nb,BF,if_false,kb,ho]
theorem rq {n:Nat} (ok:∀t∈ts,TieOk m t) (hm:m<=1000) (hr:c6 μ) (R:RAt m ts L rm su μ) (hs:s<m) :
  ∃kvs,qy (ag GL (n+2)) cj [.loc L.r,nD s] μ=.ok (.loc μ.length) (μ++[.d (encL kvs)])/\Lev m ts rm s kvs []:=by
 obtain⟨kvs,G,e,V⟩:=Ip (n:=n) ok hm hr R hs
 exact⟨kvs,ug e hr rfl,V⟩
end
open PySem
structure StAt (S:Nat) (dom:Nat->Prop) (kl:Nat->Nat) (st:Nat->List Nat) (μ:Sto):Prop where
 gix:∃ob,μ[S]? = some ob/\∀μ':Sto,μ'[S]? = some ob->∀v,dom v->Pb (.loc S) (nD v) μ'=.ok (.loc (kl v)) μ'
 lst:∀v,dom v->μ[kl v]? = some (.l ((st v).map nD))
 inj:∀u v,dom u->dom v->kl u=kl v->u=v
 ne:∀v,dom v->kl v≠S
section
variable {S : Nat} {dom : Nat -> Prop} {kl : Nat -> Nat} {st : Nat -> List Nat} {μ : Sto}
theorem StAt.at_ (T:StAt S dom kl st μ) {v:Nat} (hv:dom v):Pb (.loc S) (nD v) μ=.ok (.loc (kl v)) μ:=by
 obtain⟨ob,e,h⟩:=T.gix
 exact h μ e v hv
theorem StAt.other (T:StAt S dom kl st μ) {k:Nat} {o:O} (h1:k≠S) (h2:∀v,dom v->k≠kl v):StAt S dom kl st (μ.set k o):=by
 obtain⟨ob,e,h⟩:=T.gix
 exact⟨⟨ob,by rw[AD h1];exact e,h⟩,λv hv=>by rw[AD (h2 v hv)];exact T.lst v hv,T.inj,T.ne⟩
theorem StAt.app {ρ:Sto} (T:StAt S dom kl st μ):StAt S dom kl st (μ++ρ):=by
 have g:∀{k:Nat} {o:O},μ[k]? = some o->(μ++ρ)[k]? = some o:=λ{k o} e=>by rw[AK (AC.mp e).1];exact e
 obtain⟨ob,e,h⟩:=T.gix
 exact⟨⟨ob,g e,h⟩,λv hv=>g (T.lst v hv),T.inj,T.ne⟩
def kz (st:Nat->List Nat) (v:Nat) (ys:List Nat) (u:Nat):List Nat:=if u=v then ys else st u
theorem StAt.put (T:StAt S dom kl st μ) {v:Nat} {ys:List Nat} (hv:dom v):StAt S dom kl (kz st v ys) (μ.set (kl v) (.l (ys.map nD))):=by
 obtain⟨ob,e,h⟩:=T.gix
 refine⟨⟨ob,by rw[AD (T.ne v hv)];exact e,h⟩,λu hu=>?_,T.inj,T.ne⟩
 unfold kz
 by_cases q:u=v
 ·subst q
  rw[if_pos rfl,AW (AC.mp (T.lst u hu)).1]
 ·rw[if_neg q,AD (λz=>q (T.inj v u hv hu z).symm)]
  exact T.lst u hu
end
def k7:Nat->List (Nat×Nat)->List (D×D)
 | _,[]=>[]
 | b,(v,_)::r=>(nD v,.loc b)::k7 (b+1) r
def klF:Nat->List (Nat×Nat)->Nat->Nat
 | _,[],_=>0
 | b,(k,_)::r,v=>if v=k then b else klF (b+1) r v
theorem zj:∀{b:Nat} {kvs:List (Nat×Nat)} {v:Nat},(kvs.lookup v).isSome=true->b<=klF b kvs v/\klF b kvs v<b+kvs.length
 | _,[],_,h=>by simp at h
 | b,(k,l)::r,v,h=>by
  simp![klF,AU]
  split
  ·lia
  ·rename_i q
   have:(v==k)=false:=by simp[q]
   simp![BL,this]at h
   have:=zj (b:=b+1) h
   lia
theorem Ck:∀{b:Nat} {kvs:List (Nat×Nat)} {v:Nat},(kvs.lookup v).isSome=true->∃l,kvs[klF b kvs v-b]? = some (v,l)
 | _,[],_,h=>by simp at h
 | b,(k,l)::r,v,h=>by
  simp![klF]
  split
  ·rename_i q;subst q
   exact⟨l,by simp⟩
  ·rename_i q
   have:(v==k)=false:=by simp[q]
   simp![BL,this]at h
   obtain⟨l',e⟩:=Ck (b:=b+1) h
   have:=zj (b:=b+1) h
   exact⟨l',by rw[show klF (b+1) r v-b=(klF (b+1) r v-(b+1))+1 by lia];simpa using e⟩
theorem zk:∀{b:Nat} {kvs:List (Nat×Nat)} {v:Nat},(kvs.lookup v).isSome=true->uz (nD v) (k7 b kvs)=some (.loc (klF b kvs v))
 | _,[],_,h=>by simp at h
 | b,(k,l)::r,v,h=>by
  simp![klF,k7,uz,nD,deq]
  by_cases q:v=k
  ·subst q;simp
  ·have h1:(v==k)=false:=by simp[q]
   have h2:¬((k:Int)=(v:Int)):=by lia
   simp![BL,h1]at h
   simp![h2,decide_false,BF,if_false,q]
   exact zk h
theorem zl:∀{b:Nat} {kvs:List (Nat×Nat)} {v:Nat},kvs.lookup v=none->uz (nD v) (k7 b kvs)=none
 | _,[],_,_=>rfl
 | b,(k,l)::r,v,h=>by
  simp![k7,uz,nD,deq]
  simp![BL]at h
  cases q:v==k with
  | true=>rw[q]at h;cases h
  | false =>
   rw[q]at h
   have h2:¬((k:Int)=(v:Int)):=by
                        have:v≠k:=by simpa using q
                        lia
   simp![h2,decide_false,BF,if_false]
   exact zl h
theorem Cm (v l:Nat):∀(b:Nat) (kvs:List (Nat×Nat)),k7 b (kvs++[(v,l)])=k7 b kvs++[(nD v,.loc (b+kvs.length))]
 | b,[]=>by simp[k7]
 | b,(k,x)::r=>by
  simp![CL,k7,Cm v l (b+1) r,AU]
  rw[show b+1+r.length=b+(r.length+1)by lia]
def cg (ts:List Tie) (rm:List Int) (kvs:List (Nat×Nat)) (v:Nat):List Nat:=match kvs.lookup v with
 | some l=>(i5 ts rm v).filter λa=>decide (kvs.lookup (hdA ts a)=some (l+1))
 | none=>[]
theorem lookup_at {kvs:List (Nat×Nat)} (nd:(kvs.map (·.1)).Nodup) {i v l:Nat} (h:kvs[i]? = some (v,l)):kvs.lookup v=some l:=by
 induction kvs generalizing i with
 | nil=>simp at h
 | cons p r ih =>
  obtain⟨k,x⟩:=p
  simp![AO,BU]at nd
  cases i with
  | zero =>
   simp at h
   obtain⟨rfl,rfl⟩:=h
   simp
  | succ i =>
   simp at h
   have hm:v∈r.map (·.1):=BK.mpr ⟨(v,l),BC h,rfl⟩
   have:(v==k)=false:=by
    have:v≠k:=λz=>nd.1 (z ▸ hm)
    simp[this]
   simp![BL,this]
   exact ih nd.2 h
section
variable {m : Nat} {ts : List Tie} {L : RL} {rm su : List Int} {μ : Sto} {s : Nat} {kvs : List (Nat × Nat)}
theorem Co (R:RAt m ts L rm su μ) {lv:Nat} (el:μ[lv]? = some (.d (encL kvs))):lv∉L.all:=λz=>by
 simp![RL.all,AG]at z
 rcases z with rfl | rfl | rfl | rfl | rfl | z
 ·rw[R.o]at el;cases el
 ·rw[R.h]at el;cases el
 ·rw[R.ro]at el;cases el
 ·rw[R.lv]at el;cases el
 ·rw[R.su]at el;cases el
 ·obtain⟨v,hv,e⟩:=BZ.mp z
  obtain⟨j,e1,e2⟩:=R.ll v (by rw[<-R.llen];exact hv)
  rw[AA hv,e]at e1
  cases e1
  rw[el]at e2;cases e2
theorem oy (nd:(kvs.map (·.1)).Nodup) {j v l:Nat} (h:kvs[j]? = some (v,l)):(kvs.take j).lookup v=none:=by
 cases e:(kvs.take j).lookup v with
 | none=>rfl
 | some x =>
  have hm:=lookup_mem.mp (show((kvs.take j).lookup v).isSome=true by rw[e];rfl)
  exfalso
  obtain⟨⟨v',l'⟩,hp,rfl⟩:=BK.mp hm
  obtain⟨i,hi,ei⟩:=BZ.mp hp
  rw[CG]at hi
  rw[List.getElem_take]at ei
  have hj:=(AC.mp h).1
  have a1:(kvs.map (·.1))[i]? = some v':=by rw[AX,AA (by lia),ei];rfl
  have a2:(kvs.map (·.1))[j]? = some v':=by rw[AX,h];rfl
  obtain⟨b1,c1⟩:=AC.mp a1
  obtain⟨b2,c2⟩:=AC.mp a2
  have:=(ES nd).mp (c1.trans c2.symm)
  lia
theorem Lj {n:Nat} (hm:m<=1000) (hr:c6 μ) (R:RAt m ts L rm su μ) {lv:Nat} (el:μ[lv]? = some (.d (encL kvs))) (V:Lev m ts rm s kvs []) :
  ag GL (n+2) i9 [.loc L.r,.loc lv] μ=.ok (.loc μ.length) (μ.set lv (.fd (encL kvs))++.dr (k7 (μ.length+1) kvs)::kvs.map λp=>.l ((cg ts rm kvs p.1).map nD)):=by
 rw[ak Dy,run_eq rfl]
 have hlv:lv<μ.length:=(AC.mp el).1
 have kk:kKeys (.loc lv) (μ++[.dr []])=.ok (kvs.map (λp=>nD p.1),none) (μ.set lv (.fd (encL kvs))++[.dr []]):=by
  have e1:(μ++[O.dr []])[lv]? = some (.d (encL kvs)):=by rw[AK hlv];exact el
  simp![kKeys,e1]
  rw[List.set_append_left _ _ hlv]
  congr 2
  simp[encL]
 generalize hμ1:μ.set lv (.fd (encL kvs))=μ1 at kk
 have len1:μ1.length=μ.length:=by rw[<-hμ1];simp
 have lv1:μ1[lv]? = some (.fd (encL kvs)):=by rw[<-hμ1,AW hlv]
 have R1:RAt m ts L rm su μ1:=by rw[<-hμ1];exact R.other (Co R el)
 have sh1:c6 μ1:=by rw[<-hμ1];exact wm hr rfl
 have clS:∀(b c:Nat) (xs:List (Nat×Nat)),b+xs.length<=c->(k7 b xs).all (λp=>D.belowN c 8 p.2)=true:=by
  intro b c xs
  induction xs generalizing b with
  | nil=>intro _;rfl
  | cons p r ih =>
   intro h
   obtain⟨k,x⟩:=p
   simp![AU]at h
   simp![k7,BM,AY]
   exact⟨by simp[D.belowN];lia,ih (b+1) (by lia)⟩
 have shj:∀j,c6 (μ1++.dr (k7 (μ.length+1) (kvs.take j))::(kvs.take j).map λp=>.l ((cg ts rm kvs p.1).map nD)):=λj=>gh sh1 (by
  simp![BM,AY]
  refine⟨clS _ _ _ (by simp;lia),kc (λo ho=>?_) _⟩
  obtain⟨p,_,rfl⟩:=BK.mp ho
  exact⟨_,rfl⟩)
 obtain⟨σ',μ',e,v3,v4,rfl,rfl⟩:=ly (φ:=ag GL (n+1)) (tg:=.one 3) (b:=jk) (xs:=kvs) (en:=λp=>nD p.1) (μ:=μ1++[.dr []]) (σ:=[some (.loc L.r),some (.loc lv),some (.loc μ.length),none,none])
  (λj σ ν=>∃v3 v4,σ=[some (.loc L.r),some (.loc lv),some (.loc μ.length),v3,v4]/\ν=μ1++.dr (k7 (μ.length+1) (kvs.take j))::(kvs.take j).map λp=>.l ((cg ts rm kvs p.1).map nD))
  ⟨none,none,rfl,by simp[k7]⟩ (by
   rintro j ⟨v,l⟩ σ ν hj ⟨v3,v4,rfl,rfl⟩
   have hjl:j<kvs.length:=(AC.mp hj).1
   have lk:=lookup_at V.nd hj
   have hv:=V.lt v l lk
   have tk:kvs.take (j+1)=kvs.take j++[(v,l)]:=by rw[DO,hj];rfl
   have H:=shj j
   have R2:RAt m ts L rm su (μ1++.dr (k7 (μ.length+1) (kvs.take j))::(kvs.take j).map λp=>.l ((cg ts rm kvs p.1).map nD)):=R1.app
   have lv2:(μ1++.dr (k7 (μ.length+1) (kvs.take j))::(kvs.take j).map λp=>O.l ((cg ts rm kvs p.1).map nD))[lv]? = some (.fd (encL kvs)):=by rw[AK (by rw[len1];exact hlv)];exact lv1
   have st:cg ts rm kvs v=(i5 ts rm v).filter λa=>decide (kvs.lookup (hdA ts a)=some (l+1)):=by simp![cg,lk]
   have hlen:(μ1++.dr (k7 (μ.length+1) (kvs.take j))::(kvs.take j).map λp=>O.l ((cg ts rm kvs p.1).map nD)).length=μ.length+1+j:=by simp[len1];lia
   have sel:(μ1++(.dr (k7 (μ.length+1) (kvs.take j))::(kvs.take j).map λp=>O.l ((cg ts rm kvs p.1).map nD))++[.l ((cg ts rm kvs v).map nD)])[μ.length]? = some (.dr (k7 (μ.length+1) (kvs.take j))):=by
    rw[BY,<-len1,CL];exact kb
   generalize hν:(μ1++.dr (k7 (μ.length+1) (kvs.take j))::(kvs.take j).map λp=>O.l ((cg ts rm kvs p.1).map nD))=ν at H R2 lv2 hlen sel
   have dx:=Qu (μ:=ν) (n:=lv) (.inr lv2) lk
   have co:=Io (n:=n) H R2 hv (σ:=[some (.loc L.r),some (.loc lv),some (.loc μ.length),some (nD v),some (nD (l+1))]) (es:=.cons (.var 3) .nil) rfl
   have hc:j0 (ag GL (n+1)) .l (.one 3) gf gg [some (.loc lv),some (.loc L.r),some (nD (l+1)),none] ((i5 ts rm v).map nD,none) ν=.ok (.loc (μ.length+1+j)) (ν++[.l ((cg ts rm kvs v).map nD)]):=by
    rw[qx (g:=nD) (p:=λa=>decide (kvs.lookup (hdA ts a)=some (l+1))) λa ha=>by
     have hl:=(fm.mp ha).1.1
     obtain⟨x,ex⟩:=BJ.mp (V.cl v l lk (by simp) a ha)
     have dy:=Qu (μ:=ν) (n:=lv) (.inr lv2) ex
     simp![nD]at dy
     by_cases q:x=l+1
     ·have q':((x:Int)=((l+1:Nat):Int)):=by lia
      simp! only[ox,gf,gg,nD,R2.aHeads,R2.iHead hl,dy,q',ex,q,if_true]
     ·have q':¬((x:Int)=((l+1:Nat):Int)):=by lia
      have q2:¬(some x=some (l+1)):=λz=>q (BH z)
      simp! only[ox,gf,gg,nD,R2.aHeads,R2.iHead hl,dy,q',ex,q2,if_false,BF]]
    rw[<-st,Hv (by rw[AR];intro x hx;obtain⟨a,_,rfl⟩:=BK.mp hx;rfl),hlen]
   have kn:=oy V.nd hj
   have sd:zy (.loc μ.length) (nD v) (.loc (μ.length+1+j)) (ν++[.l ((cg ts rm kvs v).map nD)])=.ok () ((ν++[O.l ((cg ts rm kvs v).map nD)]).set μ.length (O.dr (k7 (μ.length+1) (kvs.take j)++[(nD v,D.loc (μ.length+1+j))]))):=by
    have:=lb
    simp![zy,sel]
    have lenS:∀(b:Nat) (xs:List (Nat×Nat)),(k7 b xs).length=xs.length:=by
     intro b xs
     induction xs generalizing b with
     | nil=>rfl
     | cons p r ih=>obtain⟨k,x⟩:=p;simp[k7,ih]
    have hl:(k7 (μ.length+1) (kvs.take j)).length<lim:=by
     rw[lenS,CG]
     have:=V.len
     lia
    rw[if_pos ⟨rfl,hl⟩,Cc (by rw[zl kn];rfl)]
   have ab:(D.int ((l:Int)+1))=nD (l+1):=by simp[nD]
   refine⟨_,(ν++[O.l ((cg ts rm kvs v).map nD)]).set μ.length (O.dr (k7 (μ.length+1) (kvs.take j)++[(nD v,D.loc (μ.length+1+j))])),?_,some (nD v),some (nD (l+1)),rfl,?_⟩
   ·simp![nD]at dx co hc sd ab
    simp! only[fLp,jk,nD,dx,ab,co,hc,sd]
   ·rw[<-hν,tk,Cm,CG,Nat.min_eq_left (EC hjl),BO,BY,CL,<-len1,A8]
    rfl)
 simp! only[D_steps_up,kk,e,DU]
end
open PySem
section
variable {μ : Sto}
theorem Cq {k:Nat} {ds:List D} {d:D} (e:μ[k]? = some (.l (ds++[d]))):ixD (.loc k) (.int (-1)) μ=.ok d μ:=by
 have hx:ixN (ds++[d]).length (-1)=some ds.length:=by
  unfold ixN
  rw[if_neg (by decide),if_pos (by simp;lia)]
  congr 1
  simp
  lia
 simp![ixD,bj,e,hx]
 simp
theorem Iq {k:Nat} {ds:List D} (e:μ[k]? = some (.l ds)):truD (.loc k) μ=.ok (.bl (!ds.isEmpty)) μ:=by simp![truD,bj,e]
end
structure StOk (m:Nat) (ts:List Tie) (dom:Nat->Prop) (pot:Nat->Nat) (M:Nat) (st:Nat->List Nat):Prop where
 lt:∀v,dom v->v<m
 pm:∀v,dom v->pot v<=M
 st:∀v,dom v->∀a∈st v,a<2*ts.length/\tlA ts a=v/\dom (hdA ts a)/\pot v<pot (hdA ts a)
structure WayOk (ts:List Tie) (rm:List Int) (st:Nat->List Nat) (start:Nat) (W:List Nat) (node:Nat):Prop where
 path:Path ts start W node
 top:∀a∈W,0<rm.getD a 0/\(st (tlA ts a)).getLast? = some a
def Good (ts:List Tie) (rm su:List Int) (st:Nat->List Nat) (start:Nat):Prop:=∃w e,Path ts start w e/\(∀b∈w,b∈st (tlA ts b)/\0<rm.getD b 0)/\su.getD e 0<0
theorem Path.next {ts:List Tie} {a:Nat}:∀{w:List Nat} {s e:Nat},Path ts s w e->a∈w->hdA ts a=e\/∃c∈w,tlA ts c=hdA ts a
 | [],_,_,_,h=>by simp at h
 | b::r,s,e,p,h=>by
  rcases AG.mp h with rfl | h
  ·cases r with
   | nil=>exact .inl p.2.2
   | cons c r=>exact .inr ⟨c,by simp,p.2.2.2.1⟩
  ·rcases Path.next p.2.2 h with q | ⟨c,hc,q⟩
   ·exact .inl q
   ·exact .inr ⟨c,AJ _ hc,q⟩
section
variable {m : Nat} {ts : List Tie} {rm su : List Int} {dom : Nat -> Prop} {pot : Nat -> Nat} {M : Nat} {st : Nat -> List Nat} {start : Nat}
theorem zm {xs:List Nat} {a:Nat} (h:xs.getLast? = some a):a∈xs:=List.mem_of_getLast? h
theorem Cr (O:StOk m ts dom pot M st):∀{W:List Nat} {s node:Nat},Path ts s W node->dom s->(∀a∈W,(st (tlA ts a)).getLast? = some a)->dom node/\pot s<=pot node/\(∀a∈W,dom (tlA ts a)/\pot (tlA ts a)<pot node)/\W.Nodup
 | [],s,node,p,hd,_=>by
  cases(show s=node from p)
  exact⟨hd,AN _,by simp,by simp⟩
 | b::r,s,node,p,hd,h=>by
  have hb:=h b AT
  rw[p.2.1]at hb
  obtain⟨o1,o2,o3,o4⟩:=O.st s hd b (zm hb)
  obtain⟨i1,i2,i3,i4⟩:=Cr O p.2.2 o3 λa ha=>h a (AJ _ ha)
  refine⟨i1,by lia,λa ha=>?_,BU.mpr ⟨λhb2=>?_,i4⟩⟩
  ·rcases AG.mp ha with rfl | ha
   ·exact⟨by rw[p.2.1];exact hd,by rw[p.2.1];lia⟩
   ·exact i3 a ha
  ·have up:∀{W:List Nat} {s node:Nat},Path ts s W node->dom s->(∀a∈W,(st (tlA ts a)).getLast? = some a)->∀a∈W,pot s<=pot (tlA ts a):=by
    intro W
    induction W with
    | nil=>intro s node _ _ _ a ha;simp at ha
    | cons c q ih =>
     intro s node p hd h a ha
     have hc:=h c AT
     rw[p.2.1]at hc
     obtain⟨_,_,o3,o4⟩:=O.st s hd c (zm hc)
     rcases AG.mp ha with rfl | ha
     ·rw[p.2.1];exact AN _
     ·have:=ih p.2.2 o3 (λa ha=>h a (AJ _ ha)) a ha
      lia
   have:=up p.2.2 o3 (λa ha=>h a (AJ _ ha)) b hb2
   rw[p.2.1]at this
   lia
theorem Ct (O:StOk m ts dom pot M st) {v:Nat} {ys:List Nat} (h:∀a∈ys,a∈st v):StOk m ts dom pot M (kz st v ys):=by
 refine⟨O.lt,O.pm,λu hu a ha=>?_⟩
 unfold kz at ha
 split at ha
 ·rename_i q;subst q
  exact O.st u hu a (h a ha)
 ·exact O.st u hu a ha
theorem Ir {W:List Nat} {v:Nat} {ys:List Nat} (h:∀a∈W,0<rm.getD a 0/\(st (tlA ts a)).getLast? = some a) (hv:∀a∈W,tlA ts a≠v):∀a∈W,0<rm.getD a 0/\(kz st v ys (tlA ts a)).getLast? = some a:=λa ha=>by
 unfold kz
 rw[if_neg (hv a ha)]
 exact h a ha
theorem Cu {v a:Nat} {ys:List Nat} (he:st v=ys++[a]) (G:Good ts rm su st start) (hn:∀w e,Path ts start w e->(∀b∈w,b∈st (tlA ts b)/\0<rm.getD b 0)->su.getD e 0<0->a∉w):Good ts rm su (kz st v ys) start:=by
 obtain⟨w,e,p,h,hs⟩:=G
 have na:=hn w e p h hs
 refine⟨w,e,p,λb hb=>⟨?_,(h b hb).2⟩,hs⟩
 have:=(h b hb).1
 unfold kz
 split
 ·rename_i q
  rw[q,he]at this
  rcases BN.mp this with z | z
  ·exact z
  ·exact absurd (by
           have:b=a:=by simpa using z
           rw[<-this];exact hb) na
 ·exact this
def zo (m:Nat) (st:Nat->List Nat):Nat:=(dn m λv=>((st v).length:Int)).toNat
theorem zp {v a:Nat} {ys:List Nat} (hv:v<m) (he:st v=ys++[a]):zo m (kz st v ys)+1=zo m st:=by
 have e:dn m (λu=>((kz st v ys u).length:Int))=dn m (λu=>((st u).length:Int))+(-1):=by
  rw[<-Ld (c:=v) (d := -1) hv]
  refine ax λu _=>?_
  unfold kz
  by_cases q:u=v
  ·subst q
   rw[if_pos rfl,if_pos rfl,he,BD]
   simp![CS]
   lia
  ·rw[if_neg q,if_neg (Ne.symm q)]
 have h1:0<=dn m λu=>((kz st v ys u).length:Int):=A2 λ_ _=>by lia
 unfold zo
 lia
end
structure Apart (L:RL) (S w:Nat) (dom:Nat->Prop) (kl:Nat->Nat):Prop where
 wL:w∉L.all
 wS:w≠S
 kL:∀v,dom v->kl v∉L.all
 kw:∀v,dom v->kl v≠w
structure Frame (w:Nat) (dom:Nat->Prop) (kl:Nat->Nat) (μ ν:Sto):Prop where
 len:ν.length=μ.length
 get:∀k,k≠w->(∀v,dom v->k≠kl v)->ν[k]? = μ[k]?
theorem rz {xs:List Nat} (h:xs≠[]):∃ys a,xs=ys++[a]:=by
 rcases List.eq_nil_or_concat xs with rfl | ⟨ys,a,rfl⟩
 ·exact absurd rfl h
 ·exact⟨ys,a,by simp⟩
section
variable {m : Nat} {ts : List Tie} {L : RL} {rm su : List Int} {μ : Sto} {dom : Nat -> Prop} {kl : Nat -> Nat} {pot : Nat -> Nat} {M : Nat} {st : Nat -> List Nat} {start S w : Nat}
theorem Qy {n:Nat} (ok:∀t∈ts,TieOk m t) (hm:m<=1000) (hr:c6 μ) (R:RAt m ts L rm su μ) (Rm:RmOk ts rm) (A:Apart L S w dom kl) (T:StAt S dom kl st μ) (O:StOk m ts dom pot M st) (hs:dom start) {W:List Nat} {node:Nat} (hW:WayOk ts rm st start W node) (ew:μ[w]? = some (.l (W.map nD))) :
  ∃st' ν,Frame w dom kl μ ν/\c6 ν/\RAt m ts L rm su ν/\StAt S dom kl st' ν/\StOk m ts dom pot M st'/\(Good ts rm su st start->Good ts rm su st' start) /\
   ((∃W' e,ag GL (n+1) d6 [.loc L.r,.loc S,.loc w,nD start] μ=.ok (.loc w) ν/\ν[w]? = some (.l (W'.map nD))/\WayOk ts rm st' start W' e/\su.getD e 0<0) \/
   (ag GL (n+1) d6 [.loc L.r,.loc S,.loc w,nD start] μ=.ok .non ν/\st' start=[]/\0<=su.getD start 0)):=by
 rw[ak wa,run_eq rfl]
 have e0:(evE (ag GL n) (.ite (.tru (.var 2)) (.ix (.att (.var 0) "heads") (.ix (.var 2) (.neg (.cst (.int 1))))) (.var 3)) [some (.loc L.r),some (.loc S),some (.loc w),some (nD start),none] μ)=.ok (nD node) μ:=by
  by_cases h:W=[]
  ·subst h
   have:start=node:=hW.path
   subst this
   simp! only[Iq ew,CZ,List.isEmpty_nil]
  ·obtain⟨W',a,rfl⟩:=rz h
   obtain⟨p1,p2,p3⟩:=hW.path.unsnoc
   rw[BO]at ew
   have t:truD (.loc w) μ=.ok (.bl true) μ:=by rw[Iq ew];simp
   have i:=Cq ew
   have ih:=R.iHead p3
   rw[p2]at ih
   simp![nD]at i ⊢
   simp! only[t,i,R.aHeads,ih]
 obtain⟨fl,ν,e,st',F,H,R',T',O',G',q⟩:=Cf (φ:=ag GL n) (c:=.cmp (.ix (.att (.var 0) "surplus") (.var 4)) (.cons .ge (.cst (.int 0)) .nil)) (b:=br)
  (λk σ ν=>∃W node st',σ=[some (.loc L.r),some (.loc S),some (.loc w),some (nD start),some (nD node)]/\Frame w dom kl μ ν/\c6 ν/\RAt m ts L rm su ν/\StAt S dom kl st' ν/\StOk m ts dom pot M st'/\(Good ts rm su st start->Good ts rm su st' start)/\WayOk ts rm st' start W node/\ν[w]? = some (.l (W.map nD))/\k=zo m st'*(M+2)+(M+1-pot node))
  (λfl ν=>∃st',Frame w dom kl μ ν/\c6 ν/\RAt m ts L rm su ν/\StAt S dom kl st' ν/\StOk m ts dom pot M st'/\(Good ts rm su st start->Good ts rm su st' start) /\
   ((∃W' e,fl=.nx [some (.loc L.r),some (.loc S),some (.loc w),some (nD start),some (nD e)]/\ν[w]? = some (.l (W'.map nD))/\WayOk ts rm st' start W' e/\su.getD e 0<0)\/(fl=.rt .non/\st' start=[]/\0<=su.getD start 0)))
  (by
   rintro k σ ν ⟨W,node,st',rfl,F,H,R',T',O',G',hW,ew,rfl⟩
   obtain⟨hd,up1,up2,up3⟩:=Cr O' hW.path hs λa ha=>(hW.top a ha).2
   have hn:=O'.lt node hd
   have hp:=O'.pm node hd
   refine⟨decide (0<=su.getD node 0),ν,?_,λhk=>?_,λhk=>?_⟩
   ·have i:=R'.iSurp hn
    simp![nD]
    simp! only[R'.aSurp,i,zz]
   ·exact⟨st',F,H,R',T',O',G',.inl ⟨W,node,rfl,ew,hW,by have:=of_decide_eq_false hk;lia⟩⟩
   ·have hge:0<=su.getD node 0:=of_decide_eq_true hk
    have gx:=T'.at_ hd
    have tl:=Iq (T'.lst node hd)
    by_cases hst:st' node=[]
    ·rw[hst]at tl
     have tl':truD (.loc (kl node)) ν=.ok (.bl false) ν:=tl
     by_cases hw:W=[]
     ·subst hw
      have:start=node:=hW.path
      subst this
      have tw:truD (.loc w) ν=.ok (.bl false) ν:=Iq ew
      refine⟨.rt .non,ν,?_,st',F,H,R',T',O',G',.inr ⟨rfl,hst,hge⟩⟩
      simp![nD]at gx
      simp! only[br,nD,gx,tl',tw]
     ·obtain⟨W',a,rfl⟩:=rz hw
      obtain⟨p1,p2,p3⟩:=hW.path.unsnoc
      have ta:=hW.top a (by simp)
      obtain⟨ys,b,hys⟩:=rz (λz:st' (tlA ts a)=[]=>by rw[z]at ta;simp at ta)
      have hb:b=a:=by
       have:=ta.2
       rw[hys,FP]at this
       exact BH this
      subst hb
      have hdt:=(up2 b (by simp)).1
      have htm:=O'.lt _ hdt
      rw[BO]at ew
      have tw:truD (.loc w) ν=.ok (.bl true) ν:=by rw[Iq ew];simp
      have pop1:=A7 ew
      have km1:=A6 (φ:=ag GL n) (σ:=[some (.loc L.r),some (.loc S),some (.loc w),some (nD start),some (nD node)]) (es:=.nil) ew
      have R1:RAt m ts L rm su (ν.set w (.l (W'.map nD))):=R'.other A.wL
      have T1:StAt S dom kl st' (ν.set w (.l (W'.map nD))):=T'.other A.wS λv hv=>Ne.symm (A.kw v hv)
      have ih:=R1.iHead (Ii p3)
      rw[abm]at ih
      have g1:=T1.at_ hdt
      have l1:=T1.lst _ hdt
      rw[hys,BO]at l1
      have pop2:=A7 l1
      have km2:=A6 (φ:=ag GL n) (σ:=[some (.loc L.r),some (.loc S),some (.loc w),some (nD start),some (nD (tlA ts b))]) (es:=.nil) l1
      have hww:w<ν.length:=(AC.mp ew).1
      refine⟨.nx [some (.loc L.r),some (.loc S),some (.loc w),some (nD start),some (nD (tlA ts b))],(ν.set w (.l (W'.map nD))).set (kl (tlA ts b)) (.l (ys.map nD)),?_,zo m (kz st' (tlA ts b) ys)*(M+2)+(M+1-pot (tlA ts b)),?_,W',tlA ts b,kz st' (tlA ts b) ys,rfl,⟨by rw[EI,EI];exact F.len,λk h1 h2=>?_⟩,cq (cq H),R1.other (A.kL _ hdt),T1.put hdt,Ct O' (λa ha=>by rw[hys];exact Db _ ha),λg=>?_,⟨p1,?_⟩,?_,rfl⟩
      ·simp![nD]at gx pop1 km1 ih g1 pop2 km2
       simp! only[br,nD,gx,tl',tw,R'.aHeads,km1,pop1,aab,ih,g1,km2,pop2]
      ·have:=zp htm hys
       rw[<-this,Nat.add_mul,Nat.one_mul]
       lia
      ·rw[AD (Ne.symm (h2 _ hdt)),AD (Ne.symm h1)]
       exact F.get k h1 h2
      ·refine Cu hys (G' g) λw' e' pp hh ss hmem=>?_
       rcases pp.next hmem with z | ⟨c,hc,z⟩
       ·rw[p2]at z;rw[<-z]at ss;lia
       ·have:=(hh c hc).1
        rw[z,p2,hst]at this
        simp at this
      ·refine Ir (λa ha=>hW.top a (Db _ ha)) λa ha z=>?_
       obtain⟨_,_,u2,_⟩:=Cr O' p1 hs λa ha=>(hW.top a (Db _ ha)).2
       have:=(u2 a ha).2
       rw[z]at this
       lia
      ·rw[AD (A.kw _ hdt),AW hww]
    ·obtain⟨ys,a,hys⟩:=rz hst
     have l0:=T'.lst node hd
     rw[hys,BO]at l0
     have tl':truD (.loc (kl node)) ν=.ok (.bl true) ν:=by rw[tl,hys];simp
     have ia:=Cq l0
     obtain⟨o1,o2,o3,o4⟩:=O'.st node hd a (by rw[hys];simp)
     have ir:=R'.iRoom o1
     have nt:∀b∈W,tlA ts b≠node:=λb hb z=>by have:=(up2 b hb).2;rw[z]at this;lia
     have hww:w<ν.length:=(AC.mp ew).1
     by_cases hz:rm.getD a 0=0
     ·have pop2:=A7 l0
      have km2:=A6 (φ:=ag GL n) (σ:=[some (.loc L.r),some (.loc S),some (.loc w),some (nD start),some (nD node)]) (es:=.nil) l0
      refine⟨.nx [some (.loc L.r),some (.loc S),some (.loc w),some (nD start),some (nD node)],ν.set (kl node) (.l (ys.map nD)),?_,zo m (kz st' node ys)*(M+2)+(M+1-pot node),?_,W,node,kz st' node ys,rfl,⟨by rw[EI];exact F.len,λk h1 h2=>?_⟩,cq H,R'.other (A.kL _ hd),T'.put hd,Ct O' (λa ha=>by rw[hys];exact Db _ ha),λg=>?_,⟨hW.path,Ir hW.top nt⟩,?_,rfl⟩
      ·simp![nD]at gx ia pop2 km2
       simp! only[br,nD,gx,tl',R'.aRooms,ia,ir,hz,km2,pop2]
      ·have:=zp hn hys
       rw[<-this,Nat.add_mul,Nat.one_mul]
       lia
      ·rw[AD (Ne.symm (h2 _ hd))]
       exact F.get k h1 h2
      ·exact Cu hys (G' g) λw' e' pp hh ss hmem=>by have:=(hh a hmem).2;lia
      ·rw[AD (A.kw _ hd)];exact ew
     ·have hpos:0<rm.getD a 0:=by have:=Rm.nn a o1;lia
      have hlen:W.length<1000000:=by
       have:(W.map (tlA ts)).Nodup/\∀x∈W.map (tlA ts),x<m:=by
        refine⟨?_,λx hx=>?_⟩
        ·rw[DZ,List.pairwise_map]
         have:∀x∈W,∀y∈W,tlA ts x=tlA ts y->x=y:=λx hx y hy e=>by
          have a1:=(hW.top x hx).2
          rw[e,(hW.top y hy).2]at a1
          exact(BH a1).symm
         exact(DZ.mp up3).imp_of_mem λha hb ne e=>ne (this _ ha _ hb e)
        ·obtain⟨b,hb,rfl⟩:=BK.mp hx
         exact O'.lt _ (up2 b hb).1
       have:=nc this.1 this.2
       rw[AM]at this
       lia
      have ap:=wo ew (d:=nD a) rfl (by rw[AM];exact hlen)
      have km:=wq (φ:=ag GL n) (σ:=[some (.loc L.r),some (.loc S),some (.loc w),some (nD start),some (nD node)]) (es:=.cons (.ix (.gix (.var 1) (.var 4)) (.neg (.cst (.int 1)))) .nil) ew
      have R1:RAt m ts L rm su (ν.set w (.l (W.map nD++[nD a]))):=R'.other A.wL
      have T1:StAt S dom kl st' (ν.set w (.l (W.map nD++[nD a]))):=T'.other A.wS λv hv=>Ne.symm (A.kw v hv)
      have ew1:(ν.set w (.l (W.map nD++[nD a])))[w]? = some (.l (W.map nD++[nD a])):=by rw[AW hww]
      have i1:=Cq ew1
      have ih:=R1.iHead o1
      refine⟨.nx [some (.loc L.r),some (.loc S),some (.loc w),some (nD start),some (nD (hdA ts a))],ν.set w (.l (W.map nD++[nD a])),?_,zo m st'*(M+2)+(M+1-pot (hdA ts a)),?_,W++[a],hdA ts a,st',rfl,⟨by rw[EI];exact F.len,λk h1 h2=>?_⟩,cq H,R1,T1,O',G',⟨hW.path.snoc o1 o2,λb hb=>?_⟩,?_,rfl⟩
      ·have ah:=R1.aHeads
       simp![nD]at gx ia ap km i1 ih ah
       simp! only[br,nD,gx,tl',R'.aRooms,ia,ir,hz,km,ap,ah,i1,ih]
      ·have:=O'.pm _ o3
       lia
      ·rw[AD (Ne.symm h1)]
       exact F.get k h1 h2
      ·rcases BN.mp hb with z | z
       ·exact hW.top b z
       ·have:b=a:=by simpa using z
        subst this
        rw[o2]
        exact⟨hpos,by rw[hys,FP]⟩
      ·rw[BO];exact ew1)
  (m:=zo m st*(M+2)+(M+1-pot node)) (σ:=[some (.loc L.r),some (.loc S),some (.loc w),some (nD start),some (nD node)]) (μ:=μ)
  ⟨W,node,st,rfl,⟨rfl,λ_ _ _=>rfl⟩,hr,R,T,O,id,hW,ew,rfl⟩
 refine⟨st',ν,F,H,R',T',O',G',?_⟩
 rcases q with⟨W',e',rfl,q1,q2,q3⟩ | ⟨rfl,q1,q2⟩
 ·refine .inl ⟨W',e',?_,q1,q2,q3⟩
  simp! only[D_way_to_lack,e0,e]
 ·refine .inr ⟨?_,q1,q2⟩
  simp! only[D_way_to_lack,e0,e]
end
open PySem
theorem Iu:∀(r:List Int) (x:Int),tm x r<=x/\(∀y∈r,tm x r<=y)/\(tm x r=x\/tm x r∈r)
 | [],x=>⟨FE _,by simp,.inl rfl⟩
 | y::r,x=>by
  have ih:=Iu r (if y<x then y else x)
  simp![tm]
  obtain⟨i1,i2,i3⟩:=ih
  by_cases h:y<x
  ·rw[if_pos h]at i1 i2 i3 ⊢
   refine⟨by lia,λz hz=>?_,.inr ?_⟩
   ·rcases AG.mp hz with rfl | hz
    ·exact i1
    ·exact i2 z hz
   ·rcases i3 with e | e
    ·rw[e];exact AT
    ·exact AJ _ e
  ·rw[if_neg h]at i1 i2 i3 ⊢
   refine⟨i1,λz hz=>?_,?_⟩
   ·rcases AG.mp hz with rfl | hz
    ·lia
    ·exact i2 z hz
   ·rcases i3 with e | e
    ·exact .inl e
    ·exact .inr (AJ _ e)
theorem jl (d:Int):∀(w:List Nat) (rm:List Int),(a7 rm w d).length=rm.length
 | [],rm=>rfl
 | a::r,rm=>by
  show(a7 (jv rm a d) r d).length=_
  rw[jl d r,zf]
section
variable {μ : Sto} {φ : Phi}
theorem Iv {f:Nat} {ds:List D} {w:Nat} {ν:Sto} (h:φ f ds μ=.ok (.loc w) ν) (hw:w<μ.length) (hl:ν.length=μ.length) (hr:c6 ν):iy φ false f ds μ=.ok (.loc w) ν:=by
 rw[iy,h]
 have t:ν.take μ.length=ν:=DG (by lia)
 have b:D.belowN μ.length 8 (.loc w)=true:=by simp[D.belowN,hw]
 have hr':ν.all (ba μ.length)=true:=by rw[<-hl];exact hr
 simp![lj,BF,if_false,t,b,hr',and_self,if_true]
theorem Iw {α:Type} {mk:Mk} {tg:Tg} {cs:Exs} {elt:Ex} {σ0:Sl} {xs:List α} {en:α->D} {g:α->D} {g0:Gd} (hg:gd g0 μ) (h:∀a∈xs,ox φ tg cs elt σ0 (en a) μ=.ok [g a] μ):j0 φ mk tg cs elt σ0 (xs.map en,g0) μ=mkL mk (xs.map g) μ:=by
 have e:mapR g0 (ox φ tg cs elt σ0) (xs.map en) μ=.ok (xs.map g) μ:=by
  induction xs with
  | nil=>simp[mapR,hg]
  | cons a r ih=>simp![AO,mapR,hg,if_true,h a AT,Res.ar,ih λx hx=>h x (AJ _ hx),HX]
 rw[j0,e];rfl
theorem Lk {k:Nat} {ds:List D} (e:μ[k]? = some (.l ds)):kEnum (.loc k) μ=.ok ((List.range ds.length |>.zip ds).map fun(p:Nat×D)=>.tup [.int p.1,p.2],some (k,.l ds)) μ:=by simp![kEnum,bc,e]
end
section
variable {m : Nat} {ts : List Tie} {L : RL} {rm su : List Int} {μ : Sto} {st : Nat -> List Nat} {start w e : Nat} {W : List Nat}
def moved (su:List Int) (s e:Nat) (d:Int):List Int:=upO (upO su s (-d)) e d
theorem Iy (s e:Nat) (d:Int):(moved su s e d).length=su.length:=by simp[moved,gz]
theorem Ll {n:Nat} (hr:c6 μ) (R:RAt m ts L rm su μ) (Rm:RmOk ts rm) (hs:start<m) (he:e<m) (hW:WayOk ts rm st start W e) (nd:W.Nodup) (ew:μ[w]? = some (.l (W.map nD))) (wL:w∉L.all) (s0:0<su.getD start 0) (se:su.getD e 0<0) :
  ∃d,0<d/\d<=su.getD start 0/\d <= - su.getD e 0/\(∀a∈W,a<2*ts.length/\d<=rm.getD a 0) /\
   ag GL (n+2) ic [.loc L.r,.loc w,nD start] μ=.ok .non ((μ.set L.ro (.l ((a7 rm W d).map D.int))).set L.su (.l ((moved su start e d).map D.int))):=by
 rw[ak y6,run_eq rfl]
 have hne:W≠[]:=λz=>by
  subst z
  have:start=e:=hW.path
  subst this
  lia
 obtain⟨W0,b,rfl⟩:=rz hne
 obtain⟨p1,p2,p3⟩:=hW.path.unsnoc
 have i1:=Cq (μ:=μ) (k:=w) (ds:=W0.map nD) (d:=nD b) (by rw[ew,BO];rfl)
 have ih:=R.iHead p3
 rw[p2]at ih
 have hlt:=hW.path.lt
 obtain⟨x0,xr,hx⟩:∃x0 xr,(W0++[b]).map (λa=>rm.getD a 0)=x0::xr:=by
  cases W0 with
  | nil=>exact⟨_,_,rfl⟩
  | cons c r=>exact⟨_,_,rfl⟩
 obtain⟨xs,hxs⟩:∃xs,xs=(W0++[b]).map λa=>rm.getD a 0:=⟨_,rfl⟩
 have hc:j0 (ag GL (n+1)) .z (.one 1) .nil gw [some (.loc L.r),none] ((W0++[b]).map nD,some (w,.l ((W0++[b]).map nD))) μ=.ok (.lst (xs.map D.int)) μ:=by
  rw[Iw (g:=λa=>D.int (rm.getD a 0)) (show gd (some (w,.l ((W0++[b]).map nD))) μ from ew) λa ha=>by
   have ir:=R.iRoom (hlt a ha)
   simp! only[ox,gw,nD,R.aRooms,ir],mi,hxs,Da]
  rfl
 obtain⟨m1,m2,m3⟩:=Iu xr x0
 have bm:btD .min1 .z [.lst (xs.map D.int)] μ=.ok (.int (tm x0 xr)) μ:=by
  rw[hxs,hx]
  simp![btD,g8,Te,J7,bj,DT,mh]
 have mem:∀y,y∈x0::xr↔∃a∈W0++[b],rm.getD a 0=y:=λy=>by rw[<-hx,BK]
 have mpos:0<tm x0 xr:=by
  have:tm x0 xr∈x0::xr:=by
   rcases m3 with z | z
   ·rw[z];exact AT
   ·exact AJ _ z
  obtain⟨a,ha,z⟩:=(mem _).mp this
  rw[<-z];exact(hW.top a ha).1
 have mle:∀a∈W0++[b],tm x0 xr<=rm.getD a 0:=λa ha=>by
  rcases AG.mp ((mem _).mpr ⟨a,ha,rfl⟩)with z | z
  ·rw[z];exact m1
  ·exact m2 _ z
 generalize tm x0 xr=M0 at bm mpos mle m1 m2 m3
 generalize hd:(if M0<(if-su.getD e 0<su.getD start 0 then-su.getD e 0 else su.getD start 0)then M0 else(if-su.getD e 0<su.getD start 0 then-su.getD e 0 else su.getD start 0))=d
 have b3:btD .min3 .z [.int (su.getD start 0),.int (- su.getD e 0),.int M0] μ=.ok (.int d) μ:=by rw[<-hd];rfl
 have d0:0<d:=by rw[<-hd];split<;>split<;>lia
 have d1:d<=su.getD start 0:=by rw[<-hd];split<;>split<;>lia
 have d2:d <= - su.getD e 0:=by rw[<-hd];split<;>split<;>lia
 have d3:d<=M0:=by rw[<-hd];split<;>split<;>lia
 have hall:∀a∈W0++[b],a<2*ts.length/\d<=rm.getD a 0:=λa ha=>⟨hlt a ha,by have:=mle a ha;lia⟩
 have wro:w≠L.ro:=λz=>wL (by rw[z];simp[RL.all])
 obtain⟨σ',ν,el,v5,rfl,rfl⟩:=Cj (g:=some (w,.l ((W0++[b]).map nD))) (φ:=ag GL (n+1)) (tg:=.one 5) (b:=gy) (xs:=W0++[b]) (en:=nD) (μ:=μ) (σ:=[some (.loc L.r),some (.loc w),some (nD start),some (nD e),some (.int d),none])
  (λj σ ν=>∃v5,σ=[some (.loc L.r),some (.loc w),some (nD start),some (nD e),some (.int d),v5]/\ν=μ.set L.ro (.l ((a7 rm ((W0++[b]).take j) d).map D.int)))
  (by rintro k σ ν ⟨v5,_,rfl⟩;show(μ.set L.ro _)[w]? = _;rw[AD (Ne.symm wro)];exact ew)
  ⟨none,rfl,by
   have hro:L.ro<μ.length:=(AC.mp R.ro).1
   have e1:μ[L.ro]=.l (rm.map D.int):=by have:=R.ro;rw[AA hro]at this;exact BH this
   simp![List.take_zero,a7,List.foldl_nil,<-e1,List.set_getElem_self]⟩ (by
   rintro j a σ ν ha ⟨v5,rfl,rfl⟩
   have hl:=hlt a (BC ha)
   have tk:(W0++[b]).take (j+1)=(W0++[b]).take j++[a]:=by rw[DO,ha];rfl
   have R1:RAt m ts L (a7 rm ((W0++[b]).take j) d) su (μ.set L.ro (.l ((a7 rm ((W0++[b]).take j) d).map D.int))):=R.rooms (jl _ _ _)
   have ep:=Qq (n:=n) R1 (d:=d) hl
   rw[HI]at ep
   have km:=Ba (φ:=ag GL (n+1)) (k1:=false) (g:=da) (es:=.cons (.var 5) (.cons (.var 4) .nil)) (σ:=[some (.loc L.r),some (.loc w),some (nD start),some (nD e),some (.int d),some (nD a)]) (R1.isO (f:="push") (by decide))
   have k2:=wu ep rfl (by simp) (cq hr)
   refine⟨_,_,?_,some (nD a),rfl,rfl⟩
   have pa:a7 rm ((W0++[b]).take (j+1)) d=jv (a7 rm ((W0++[b]).take j) d) a d:=by rw[tk];simp[a7,List.foldl_append]
   rw[pa]
   simp![nD]at km k2
   simp! only[fLp,gy,nD,km,k2])
 rw[DU]at el
 have R2:RAt m ts L (a7 rm (W0++[b]) d) su (μ.set L.ro (.l ((a7 rm (W0++[b]) d).map D.int))):=R.rooms (jl _ _ _)
 have hs':start<su.length:=by rw[R.slen];exact hs
 have R3:=R2.surp (su':=upO su start (-d)) (gz _ _ _)
 have he':e<(upO su start (-d)).length:=by rw[gz,R.slen];exact he
 have x1:=Ci R2.su hs'
 have y1:=oa R2.su hs' (x:=su.getD start 0-d)
 rw[show su.set start (su.getD start 0-d)=upO su start (-d)by unfold upO;rw[Int.sub_eq_add_neg]]at y1
 have x2:=Ci R3.su he'
 have y2:=oa R3.su he' (x:=(upO su start (-d)).getD e 0+d)
 rw[show(upO su start (-d)).set e ((upO su start (-d)).getD e 0+d)=moved su start e d from rfl,HI]at y2
 refine⟨d,d0,d1,d2,hall,?_⟩
 have is:=R.iSurp hs
 have ie:=R.iSurp he
 have a2:=R2.aSurp
 have a3:=R3.aSurp
 simp![nD]at i1 el
 simp! only[D_send_along,nD,R.aHeads,i1,ih,R.aSurp,is,ie,A5 ew,hc,bm,b3,el,a2,x1,y1,a3,x2,y2]
end
open PySem
section
variable {m : Nat} {ts : List Tie} {L : RL} {rm su : List Int} {μ : Sto} {w : Nat} {W : List Nat}
theorem Lm {k p:Nat} {ds:List D} (e:μ[k]? = some (.l ds)) (h:p<=ds.length) (hp:ds.all (D.pureN 8)=true):slD .l (.loc k) none (some (p:Int)) μ=.ok (.loc μ.length) (μ++[.l (ds.take p)]):=by
 simp![slD,Lp.listOf,e]
 have c:cut ds none (some (p:Int))=ds.take p:=by
  simp![cut,sIx]
  rw[if_neg (by lia)]
  simp[h]
 rw[c,Hv]
 rw[AR]at hp ⊢
 exact λx hx=>hp x (EF hx)
theorem Qz (xs:List Nat):(xs.map nD).all (D.pureN 8)=true:=by
 rw[AR]
 intro x hx
 obtain⟨a,_,rfl⟩:=BK.mp hx
 exact qu
theorem V9 (W:List Nat):((List.range (W.map nD).length).zip (W.map nD)).map (fun(p:Nat×D)=>D.tup [.int p.1,p.2])=((List.range W.length).zip W).map λp=>D.tup [nD p.1,nD p.2]:=by
 rw[AM]
 apply GQ
 intro i
 simp![AX,DJ]
 by_cases h:i<W.length
 ·simp[h,AA,nD]
 ·simp[h]
theorem Q0 {n:Nat} (R:RAt m ts L rm su μ) (ew:μ[w]? = some (.l (W.map nD))) (hl:∀a∈W,a<2*ts.length) :
  (ag GL (n+1) fc [.loc L.r,.loc w] μ=.ok (.loc w) μ/\∀a∈W,rm.getD a 0≠0) \/
  ∃p,ag GL (n+1) fc [.loc L.r,.loc w] μ=.ok (.loc μ.length) (μ++[.l ((W.take p).map nD)])/\∀a∈W.take p,rm.getD a 0≠0:=by
 rw[ak Aw,run_eq rfl]
 have ke:=Lk ew
 rw[V9]at ke
 obtain⟨fl,ν,e,q⟩:=qt (g:=some (w,.l (W.map nD))) (f:=fLp (ag GL n) (.many [2,3]) dh) (ds:=((List.range W.length).zip W).map λp=>D.tup [nD p.1,nD p.2]) (σ:=[some (.loc L.r),some (.loc w),none,none]) (μ:=μ)
  (λj σ ν=>ν=μ/\(∃v2 v3,σ=[some (.loc L.r),some (.loc w),v2,v3])/\∀a∈W.take j,rm.getD a 0≠0)
  (λfl ν=>(ν=μ/\(∃v2 v3,fl=.nx [some (.loc L.r),some (.loc w),v2,v3])/\∀a∈W,rm.getD a 0≠0)\/∃p,fl=.rt (.loc μ.length)/\ν=μ++[.l ((W.take p).map nD)]/\∀a∈W.take p,rm.getD a 0≠0)
  0 (by rintro j σ ν ⟨rfl,_⟩;exact ew) ⟨rfl,⟨none,none,rfl⟩,by simp⟩ (by
   rintro j d σ ν hj ⟨rfl,⟨v2,v3,rfl⟩,hz⟩
   rw[Nat.zero_add]at hz ⊢
   rw[AX]at hj
   have hjl:j<W.length:=by
    rcases Nat.lt_or_ge j W.length with h | h
    ·exact h
    ·rw[CT (by simp;lia)]at hj;cases hj
   have hz2:((List.range W.length).zip W)[j]? = some (j,W[j]):=by
    rw[DJ]
    simp[hjl]
   rw[hz2]at hj
   simp![EK,BP]at hj
   subst hj
   have ha:W[j]∈W:=EG hjl
   have ir:=R.iRoom (hl _ ha)
   have tk:W.take (j+1)=W.take j++[W[j]]:=by rw[DO,AA hjl];rfl
   by_cases h0:rm.getD W[j] 0=0
   ·refine⟨.rt (.loc ν.length),ν++[.l ((W.take j).map nD)],?_,.inr ⟨j,rfl,rfl,hz⟩⟩
    have sl:=Lm ew (p:=j) (by rw[AM];lia) (Qz W)
    rw[<-GV]at sl
    simp! only[fLp,dh,nD,gp,R.aRooms,ir,h0,sl]
   ·refine⟨.nx [some (.loc L.r),some (.loc w),some (nD j),some (nD W[j])],ν,?_,rfl,⟨_,_,rfl⟩,λa ha=>?_⟩
    ·simp! only[fLp,dh,nD,gp,R.aRooms,ir,h0]
    ·rw[tk]at ha
     rcases BN.mp ha with h | h
     ·exact hz a h
     ·have:a=W[j]:=by simpa using h
      rw[this];exact h0) (by
   rintro σ ν ⟨rfl,⟨v2,v3,rfl⟩,hz⟩
   refine .inl ⟨rfl,⟨v2,v3,rfl⟩,λa ha=>hz a ?_⟩
   simpa using ha)
 have e':Ds (ag GL n) (.many [2,3]) dh [some (.loc L.r),some (.loc w),none,none] (((List.range W.length).zip W).map λp=>D.tup [nD p.1,nD p.2],some (w,.l (W.map nD))) μ=.ok fl ν:=e
 rcases q with⟨rfl,⟨v2,v3,rfl⟩,hz⟩ | ⟨p,rfl,rfl,hz⟩
 ·exact .inl ⟨by simp! only[D_open_part,ke,e'],hz⟩
 ·exact .inr ⟨p,by simp! only[D_open_part,ke,e'],hz⟩
theorem D4 {φ:Phi} {f:Nat} {ds:List D} (h:φ f ds μ=.ok (.loc w) μ) (hr:c6 μ) (hw:w<μ.length):qy φ f ds μ=.ok (.loc w) μ:=by
 rw[qy,h]
 have t:μ.take μ.length=μ:=DU
 have hr':μ.all (ba μ.length)=true:=hr
 have nb:D.belowN μ.length 8 (.loc w)=true:=by simp[D.belowN,hw]
 simp![Ac,t,hr',if_true,nb]
end
def Shr (su su':List Int):Prop:=∀v,(0<=su.getD v 0->0<=su'.getD v 0/\su'.getD v 0<=su.getD v 0)/\(su.getD v 0<=0->su.getD v 0<=su'.getD v 0/\su'.getD v 0<=0)
theorem Shr.refl (su:List Int):Shr su su:=λv=>⟨λh=>⟨h,FE _⟩,λh=>⟨FE _,h⟩⟩
theorem Shr.trans {a b c:List Int} (h:Shr a b) (g:Shr b c):Shr a c:=λv=>by
 have h1:=h v
 have g1:=g v
 constructor
 ·intro q
  have x:=h1.1 q
  have y:=g1.1 x.1
  exact⟨y.1,by lia⟩
 ·intro q
  have x:=h1.2 q
  have y:=g1.2 x.2
  exact⟨by lia,y.2⟩
theorem r6 {su:List Int} {s e:Nat} {d:Int} (hs:s<su.length) (he:e<su.length) (v:Nat):(moved su s e d).getD v 0=su.getD v 0-(if s=v then d else 0)+(if e=v then d else 0):=by
 unfold moved
 rw[kq (by rw[gz];exact he),kq hs]
 split<;>split<;>lia
theorem Iz {su:List Int} {s e:Nat} {d:Int} (hs:s<su.length) (he:e<su.length) (d0:0<d) (d1:d<=su.getD s 0) (d2:d <= - su.getD e 0):Shr su (moved su s e d):=λv=>by
 rw[r6 hs he]
 have hne:s≠e:=λz=>by subst z;lia
 by_cases h1:s=v
 ·subst h1
  rw[if_pos rfl,if_neg (Ne.symm hne)]
  constructor<;>intro _<;>constructor<;>lia
 ·by_cases h2:e=v
  ·subst h2
   rw[if_neg h1,if_pos rfl]
   constructor<;>intro _<;>constructor<;>lia
  ·rw[if_neg h1,if_neg h2]
   constructor<;>intro _<;>constructor<;>lia
def I0 (m:Nat) (ts:List Tie) (ev:Nat->Int) (rm su:List Int):Prop:=∀v,v<m->su.getD v 0+outF ts (flR rm) v=ev v
theorem D5 {m:Nat} {ts:List Tie} {ev:Nat->Int} {rm su:List Int} {s e:Nat} {d:Int} {W:List Nat} (E:I0 m ts ev rm su) (Rm:RmOk ts rm) (hs:s<su.length) (he:e<su.length) (d0:0<=d) (nd:W.Nodup) (h:∀a∈W,a<2*ts.length/\d<=rm.getD a 0) (p:Path ts s W e):I0 m ts ev (a7 rm W d) (moved su s e d):=λv hv=>by
 rw[r6 hs he,rn d0 v Rm nd h p,<-E v hv,Int.sub_mul]
 unfold ind
 split<;>split<;>simp<;>lia
theorem RAt.cut {m:Nat} {ts:List Tie} {L:RL} {rm su:List Int} {μ:Sto} {b:Nat} (R:RAt m ts L rm su μ) (hb:∀k∈L.all,k<b):RAt m ts L rm su (μ.take b):=by
 have g:∀{k:Nat} {o:O},k∈L.all->μ[k]? = some o->(μ.take b)[k]? = some o:=λ{k o} hk e=>by rw[CU (hb k hk)];exact e
 refine⟨g (by simp[RL.all]) R.o,g (by simp[RL.all]) R.h,g (by simp[RL.all]) R.ro,g (by simp[RL.all]) R.lv,g (by simp[RL.all]) R.su,λv hv=>?_,R.nd,R.llen,R.slen,R.rlen⟩
 obtain⟨j,e1,e2⟩:=R.ll v hv
 exact⟨j,e1,g (by simp![RL.all,AG];exact .inr (.inr (.inr (.inr (.inr (BC e1)))))) e2⟩
def oq (μ ν:Sto):Prop:=∀k,k<μ.length->ν[k]? = μ[k]?\/∃ds,ν[k]? = some (.l ds)
theorem oq.cut {μ ν:Sto} (h:oq μ ν) (hr:c6 μ):(ν.take μ.length).all (ba μ.length)=true:=by
 unfold c6 at hr
 rw[AR]at hr ⊢
 intro o ho
 obtain⟨k,hk,e⟩:=BZ.mp ho
 rw[CG]at hk
 rw[List.getElem_take]at e
 have e':ν[k]? = some o:=by rw[AA (by lia),e]
 rcases h k (by lia)with z | ⟨ds,z⟩
 ·rw[e']at z
  exact hr o (BC z.symm)
 ·rw[e']at z;cases z;rfl
section
variable {m : Nat} {ts : List Tie} {L : RL} {rm su : List Int} {μ : Sto} {dom : Nat -> Prop} {kl : Nat -> Nat} {pot : Nat -> Nat} {M : Nat} {st : Nat -> List Nat} {start S : Nat} {ev : Nat -> Int}
theorem Ln {rm':List Int} {st':Nat->List Nat} {W:List Nat} {e:Nat} (hW:WayOk ts rm' st' start W e) {rm2:List Int} {q:Nat} (nn:∀a∈W.take q,0<=rm2.getD a 0) (h:∀a∈W.take q,rm2.getD a 0≠0):∃f,WayOk ts rm2 st' start (W.take q) f:=by
 obtain⟨f,p⟩:=hW.path.take q
 refine⟨f,p,λa ha=>⟨?_,(hW.top a (EF ha)).2⟩⟩
 have:=nn a ha
 have:=h a ha
 lia
theorem Ja {n:Nat} (ok:∀t∈ts,TieOk m t) (hm:m<=1000) (hr:c6 μ) (R:RAt m ts L rm su μ) (Rm:RmOk ts rm) (E:I0 m ts ev rm su) (kL:∀v,dom v->kl v∉L.all) (sL:S∉L.all) (T:StAt S dom kl st μ) (O:StOk m ts dom pot M st) (hs:dom start) :
  ∃rm' su' ν,ag GL (n+3) mj [.loc L.r,.loc S,nD start] μ=.ok .non ν/\oq μ ν/\μ.length<=ν.length/\(∀k,k<μ.length->k∉L.all->(∀v,dom v->k≠kl v)->ν[k]? = μ[k]?) /\
   RAt m ts L rm' su' ν/\RmOk ts rm'/\I0 m ts ev rm' su'/\Shr su su'/\(0<su.getD start 0->Good ts rm su st start->su'.getD start 0<su.getD start 0):=by
 rw[ak Ht,run_eq rfl]
 have hsm:=O.lt start hs
 have hkl:∀v,dom v->kl v<μ.length:=λv hv=>(AC.mp (T.lst v hv)).1
 have hS:S<μ.length:=by obtain⟨ob,e,_⟩:=T.gix;exact(AC.mp e).1
 obtain⟨fl,ν,e,rm',su',wD,⟨rfl⟩,X1,X2,X3,X4,X5,X6,X7,X8⟩:=Cf (φ:=ag GL (n+2)) (c:=.and (.cmp (.var 3) (.cons .isnot (.cst .non) .nil)) (.cmp (.ix (.att (.var 0) "surplus") (.var 2)) (.cons .gt (.cst (.int 0)) .nil))) (b:=ij)
  (λk σ ν=>∃rm' su' st' wD,σ=[some (.loc L.r),some (.loc S),some (nD start),some wD]/\oq μ ν/\μ.length<=ν.length/\c6 ν/\(∀k,k<μ.length->k∉L.all->(∀v,dom v->k≠kl v)->ν[k]? = μ[k]?)/\RAt m ts L rm' su' ν/\RmOk ts rm'/\I0 m ts ev rm' su'/\Shr su su'/\StAt S dom kl st' ν/\StOk m ts dom pot M st' /\
   (wD=.non\/∃w W e,wD=.loc w/\μ.length<=w/\ν[w]? = some (.l (W.map nD))/\WayOk ts rm' st' start W e) /\
   (Good ts rm su st start->(su'.getD start 0<su.getD start 0)\/(su'=su/\Good ts rm' su' st' start/\wD≠.non))/\k=2*(su'.getD start 0).toNat+(match wD with | .non=>0 | _=>1))
  (λfl ν=>∃rm' su' wD,fl=.nx [some (.loc L.r),some (.loc S),some (nD start),some wD]/\oq μ ν/\μ.length<=ν.length/\(∀k,k<μ.length->k∉L.all->(∀v,dom v->k≠kl v)->ν[k]? = μ[k]?)/\RAt m ts L rm' su' ν/\RmOk ts rm'/\I0 m ts ev rm' su'/\Shr su su'/\(0<su.getD start 0->Good ts rm su st start->su'.getD start 0<su.getD start 0))
  (by
   rintro k σ ν ⟨rm',su',st',wD,rfl,F1,F2,H,F3,R',Rm',E',Sh,T',O',hw,G',rfl⟩
   have is:=R'.iSurp hsm
   rcases hw with rfl | ⟨w,W,e,rfl,hwl,ew,hW⟩
   ·refine⟨false,ν,?_,λ_=>?_,λh=>by cases h⟩
    ·have c1:cpD .isnot .non .non ν=.ok (.bl false) ν:=rfl
     simp! only[c1,zz]
    ·refine⟨rm',su',.non,rfl,F1,F2,F3,R',Rm',E',Sh,λh0 g=>?_⟩
     rcases G' g with z | ⟨_,_,z⟩
     ·exact z
     ·exact absurd rfl z
   ·have c1:cpD .isnot (.loc w) .non ν=.ok (.bl true) ν:=rfl
    refine⟨decide (0<su'.getD start 0),ν,?_,λhk=>?_,λhk=>?_⟩
    ·simp![nD]
     simp! only[c1,R'.aSurp,is,zz]
    ·refine⟨rm',su',.loc w,rfl,F1,F2,F3,R',Rm',E',Sh,λh0 g=>?_⟩
     have:=of_decide_eq_false hk
     rcases G' g with z | ⟨z,_,_⟩
     ·exact z
     ·rw[z]at this;exact absurd h0 this
    ·have hpos:0<su'.getD start 0:=of_decide_eq_true hk
     have hww:w<ν.length:=(AC.mp ew).1
     have wL:w∉L.all:=λz=>by have:=R.at_ z;lia
     have A:Apart L S w dom kl:=⟨wL,by lia,kL,λv hv z=>by have:=hkl v hv;lia⟩
     obtain⟨st2,ν2,Fr,H2,R2,T2,O2,G2,q⟩:=Qy (n:=n+1) ok hm H R' Rm' A T' O' hs hW ew
     have F12:oq μ ν2:=λk hk=>by
      by_cases h2:∃v,dom v/\k=kl v
      ·obtain⟨v,hv,rfl⟩:=h2
       exact .inr ⟨_,T2.lst v hv⟩
      ·rw[Fr.get k (by lia) λv hv z=>h2 ⟨v,hv,z⟩]
       exact F1 k hk
     have F32:∀k,k<μ.length->k∉L.all->(∀v,dom v->k≠kl v)->ν2[k]? = μ[k]?:=λk h1 h2 h3=>by
      rw[Fr.get k (by lia) h3];exact F3 k h1 h2 h3
     have l2:=Fr.len
     rcases q with⟨W',e',ew1,ew2,hW2,hlack⟩ | ⟨ew1,hempty,hge⟩
     ·obtain⟨u1,u2,u3,u4⟩:=Cr O2 hW2.path hs λa ha=>(hW2.top a ha).2
      have hem:=O2.lt _ u1
      obtain⟨d,d0,d1,d2,d3,es⟩:=Ll (n:=n) H2 R2 Rm' hsm hem hW2 u4 ew2 wL hpos hlack
      have R3:=(R2.rooms (rm':=a7 rm' W' d) (jl _ _ _)).surp (su':=moved su' start e' d) (Iy _ _ _)
      have Rm3:=uf (Int.le_of_lt d0) Rm' u4 d3
      have H3:c6 ((ν2.set L.ro (.l ((a7 rm' W' d).map D.int))).set L.su (.l ((moved su' start e' d).map D.int))):=cq (cq H2)
      have hsl:start<su'.length:=by rw[R'.slen];exact hsm
      have hel:e'<su'.length:=by rw[R'.slen];exact hem
      have E3:=D5 E' Rm' hsl hel (Int.le_of_lt d0) u4 d3 hW2.path
      have Sh3:=Iz hsl hel d0 d1 d2
      have kro:∀v,dom v->L.ro≠kl v:=λv hv z=>kL v hv (by rw[<-z];simp[RL.all])
      have ksu:∀v,dom v->L.su≠kl v:=λv hv z=>kL v hv (by rw[<-z];simp[RL.all])
      have roS:L.ro≠S:=λz=>sL (by rw[<-z];simp[RL.all])
      have suS:L.su≠S:=λz=>sL (by rw[<-z];simp[RL.all])
      have T3:StAt S dom kl st2 ((ν2.set L.ro (.l ((a7 rm' W' d).map D.int))).set L.su (.l ((moved su' start e' d).map D.int))):=(T2.other roS kro).other suS ksu
      have wro:w≠L.ro:=λz=>wL (by rw[z];simp[RL.all])
      have wsu:w≠L.su:=λz=>wL (by rw[z];simp[RL.all])
      have ew3:((ν2.set L.ro (.l ((a7 rm' W' d).map D.int))).set L.su (.l ((moved su' start e' d).map D.int)))[w]? = some (.l (W'.map nD)):=by
       rw[AD (Ne.symm wsu),AD (Ne.symm wro)];exact ew2
      have l3:((ν2.set L.ro (.l ((a7 rm' W' d).map D.int))).set L.su (.l ((moved su' start e' d).map D.int))).length=ν2.length:=by simp
      have F13:oq μ ((ν2.set L.ro (.l ((a7 rm' W' d).map D.int))).set L.su (.l ((moved su' start e' d).map D.int))):=λk hk=>by
       by_cases h1:k=L.su
       ·exact .inr ⟨_,by rw[h1];exact R3.su⟩
       ·by_cases h2:k=L.ro
        ·exact .inr ⟨_,by rw[h2];exact R3.ro⟩
        ·rw[AD (Ne.symm h1),AD (Ne.symm h2)];exact F12 k hk
      have F33:∀k,k<μ.length->k∉L.all->(∀v,dom v->k≠kl v)->((ν2.set L.ro (.l ((a7 rm' W' d).map D.int))).set L.su (.l ((moved su' start e' d).map D.int)))[k]? = μ[k]?:=λk h1 h2 h3=>by
       rw[AD (λz=>h2 (by rw[<-z];simp[RL.all])),AD (λz=>h2 (by rw[<-z];simp[RL.all]))]
       exact F32 k h1 h2 h3
      generalize hν3:(ν2.set L.ro (.l ((a7 rm' W' d).map D.int))).set L.su (.l ((moved su' start e' d).map D.int))=ν3 at es R3 H3 T3 ew3 l3 F13 F33
      have k1:=Iv ew1 hww l2 H2
      have k2:=dz es rfl l3 H3
      have c2:cpD .isnot (.loc w) .non ν2=.ok (.bl true) ν2:=rfl
      have hne:start≠e':=λz=>by rw[<-z]at hlack;lia
      have mg:=r6 (d:=d) hsl hel start
      rw[if_pos rfl,if_neg (Ne.symm hne)]at mg
      have le:su'.getD start 0<=su.getD start 0:=by
       have:=Sh start
       rcases Int.le_total 0 (su.getD start 0)with z | z
       ·exact(this.1 z).2
       ·have:=(this.2 z).2;lia
      have hw3:w<ν3.length:=by rw[l3,l2];exact hww
      obtain⟨w2,q,ν4,ek,h1,h2,h3,h4,h5,h6,h7,h8,h9⟩:∃(w2 q:Nat) (ν4:Sto),qy (ag GL (n+2)) fc [.loc L.r,.loc w] ν3=.ok (.loc w2) ν4/\μ.length<=w2/\ν4[w2]? = some (.l ((W'.take q).map nD))/\(∀a∈W'.take q,(a7 rm' W' d).getD a 0≠0)/\oq μ ν4/\μ.length<=ν4.length/\c6 ν4/\(∀k,k<μ.length->k∉L.all->(∀v,dom v->k≠kl v)->ν4[k]? = μ[k]?)/\RAt m ts L (a7 rm' W' d) (moved su' start e' d) ν4/\StAt S dom kl st2 ν4:=by
       rcases Q0 (n:=n+1) R3 ew3 (λa ha=>(d3 a ha).1)with⟨ep,hz⟩ | ⟨p,ep,hz⟩
       ·exact⟨w,W'.length,ν3,D4 ep H3 hw3,hwl,by rw[DU];exact ew3,by rw[DU];exact hz,F13,by lia,H3,F33,R3,T3⟩
       ·exact⟨ν3.length,p,ν3++[.l ((W'.take p).map nD)],ug (G:=[]) ep H3 rfl,by lia,by simp,hz,λk hk=>by rw[AK (by lia)];exact F13 k hk,by simp;lia,gh H3 rfl,λk h1 h2 h3=>by rw[AK (by lia)];exact F33 k h1 h2 h3,R3.app,T3.app⟩
      obtain⟨f,hW4⟩:=Ln hW2 (rm2:=a7 rm' W' d) (q:=q) (λa ha=>Rm3.nn a (d3 a (EF ha)).1) h3
      refine⟨.nx [some (.loc L.r),some (.loc S),some (nD start),some (.loc w2)],ν4,?_,2*((moved su' start e' d).getD start 0).toNat+1,?_,a7 rm' W' d,moved su' start e' d,st2,.loc w2,rfl,h4,h5,h6,h7,h8,Rm3,E3,Sh.trans Sh3,h9,O2,.inr ⟨w2,W'.take q,f,rfl,h1,h2,hW4⟩,λg=>.inl ?_,rfl⟩
      ·simp![nD]at k1 k2
       simp! only[ij,nD,k1,c2,k2,ek]
      ·rw[mg]
       show _<2*_+1
       lia
      ·rw[mg];lia
     ·have k1:=dz ew1 rfl l2 H2
      have c2:cpD .isnot .non .non ν2=.ok (.bl false) ν2:=rfl
      refine⟨.nx [some (.loc L.r),some (.loc S),some (nD start),some .non],ν2,?_,2*(su'.getD start 0).toNat+0,?_,rm',su',st2,.non,rfl,F12,by lia,H2,F32,R2,Rm',E',Sh,T2,O2,.inl rfl,λg=>?_,rfl⟩
      ·simp![nD]at k1
       simp! only[ij,nD,k1,c2]
      ·show _<2*_+1
       lia
      ·rcases G' g with z | ⟨_,z,_⟩
       ·exact .inl z
       ·exfalso
        obtain⟨w',e',pp,hh,ss⟩:=G2 z
        cases w' with
        | nil =>
         cases(show start=e' from pp)
         lia
        | cons b r =>
         have:=(hh b AT).1
         rw[pp.2.1,hempty]at this
         simp at this)
  (m:=2*(su.getD start 0).toNat+1) (σ:=[some (.loc L.r),some (.loc S),some (nD start),some (.loc μ.length)]) (μ:=μ++[.l []])
  ⟨rm,su,st,.loc μ.length,rfl,λk hk=>.inl (by rw[AK hk]),by simp,gh hr rfl,λk h1 _ _=>by rw[AK h1],R.app,Rm,E,Shr.refl _,T.app,O,.inr ⟨μ.length,[],start,rfl,AN _,by simp,⟨rfl,by simp⟩⟩,λg=>.inr ⟨rfl,g,by simp⟩,rfl⟩
 refine⟨rm',su',ν,?_,X1,X2,X3,X4,X5,X6,X7,X8⟩
 have e0:mkL .l [] μ=.ok (.loc μ.length) (μ++[.l []]):=Hv rfl
 simp! only[D_send_on,e0,e]
end
open PySem
def rm0 (ts:List Tie):List Int:=ts.flatMap λt=>[t.bound,0]
theorem Q1 (ts:List Tie):(rm0 ts).length=2*ts.length:=by
 induction ts with
 | nil=>rfl
 | cons t r ih=>simp![rm0,List.flatMap_cons,BD,AU,CD]at ih ⊢;lia
theorem Lo (ts:List Tie) (t:Tie):rm0 (ts++[t])=rm0 ts++[t.bound,0]:=by simp[rm0]
theorem zq {ts:List Tie} {t:Tie} {k:Nat} (h:k<ts.length):au (ts++[t]) k=au ts k:=by
 unfold au
 rw[AF,AK h,AF]
theorem uh {ts:List Tie} {t:Tie}:au (ts++[t]) ts.length=t:=by
 unfold au
 rw[AF,AZ (AN _)]
 simp
theorem Q2 {ts:List Tie} {t:Tie} {a:Nat} (h:a<2*ts.length):hdA (ts++[t]) a=hdA ts a:=by
 unfold hdA;rw[zq (by lia)]
theorem Q3 {ts:List Tie} {t:Tie} {a:Nat} (h:a<2*ts.length):tlA (ts++[t]) a=tlA ts a:=by
 unfold tlA;rw[zq (by lia)]
theorem N2 (n:Nat):List.range (2*(n+1))=List.range (2*n)++[2*n,2*n+1]:=by
 rw[show 2*(n+1)=2*n+1+1 by lia,List.range_succ,List.range_succ,BY];rfl
theorem Bb (ts:List Tie) (t:Tie):jt (ts++[t])=jt ts++[(t.other:Int),(t.one:Int)]:=by
 unfold jt
 rw[BD,CS,N2,BO]
 congr 1
 ·exact List.map_congr_left λa ha=>by rw[Q2 (by simpa using ha)]
 ·simp[rj,zd,uh]
theorem Cv (ts:List Tie) (t:Tie) (v:Nat):lea (ts++[t]) v=lea ts v++(if t.one=v then [2*ts.length]else [])++(if t.other=v then [2*ts.length+1]else []):=by
 unfold lea
 rw[BD,CS,N2,List.filter_append,BY]
 congr 1
 ·exact List.filter_congr λa ha=>by rw[Q3 (by simpa using ha)]
 ·simp![HB,List.filter_nil,rl,ze,uh]
  by_cases h1:t.one=v<;>by_cases h2:t.other=v<;>simp[h1,h2]
theorem oh:∀(ts:List Tie) (k:Nat),k<ts.length->(rm0 ts).getD (2*k) 0=(au ts k).bound/\(rm0 ts).getD (2*k+1) 0=0
 | [],k,h=>by simp at h
 | t::r,0,_=>by simp[rm0,au]
 | t::r,k+1,h=>by
  have ih:=oh r k (by simpa using h)
  have e:rm0 (t::r)=t.bound::0::rm0 r:=by simp[rm0]
  have e2:au (t::r) (k+1)=au r k:=by simp[au]
  rw[e,e2,show 2*(k+1)=2*k+1+1 by lia]
  simpa using ih
theorem Wa {ts:List Tie} (hb:∀t∈ts,0<=t.bound):RmOk ts (rm0 ts):=by
 refine⟨Q1 ts,λa ha=>?_,λk hk=>?_⟩
 ·rcases my a with⟨k,rfl⟩ | ⟨k,rfl⟩
  ·rw[(oh ts k (by lia)).1];exact hb _ (ja (by lia))
  ·rw[(oh ts k (by lia)).2];exact FE _
 ·rw[(oh ts k hk).1,(oh ts k hk).2,Int.add_zero]
theorem Jb {μ:Sto} {q:Nat} {ds ys:List D} (e:μ[q]? = some (.l ds)) (hy:ys.all (D.pureN 8)=true) (hl:ds.length+ys.length<=1000000):mtD .extend (.loc q) [.lst ys] μ=.ok .non (μ.set q (.l (ds++ys))):=by
 have:=lb
 have hf:ys.all (fits (.l ds))=true:=hy
 simp![mtD,yf,e,d9,mtL,g8,Lp.listOf,putL]
 rw[if_pos ⟨hf,by lia⟩]
theorem Jc {φ:Phi} {σ:Sl} {μ:Sto} {es:Exs} {q:Nat} {ds:List D} (e:μ[q]? = some (.l ds)):kM φ .extend es σ (.loc q) μ=(eh φ es σ μ).bind (mtD .extend (.loc q)):=Qs e λ_ _=>rfl
section
variable {m : Nat} {ts : List Tie} {L : RL} {rm su : List Int} {μ : Sto}
theorem RAt.ld (R:RAt m ts L rm su μ) {v:Nat} (h:v<m):L.ll[v]? = some (L.ll.getD v 0)/\μ[L.ll.getD v 0]? = some (.l ((lea ts v).map nD))/\L.ll.getD v 0∈L.ll/\ixD (.loc L.lv) (.int v) μ=.ok (.loc (L.ll.getD v 0)) μ:=by
 obtain⟨k,e1,e2,e3⟩:=R.iLeav h
 have:L.ll.getD v 0=k:=by rw[AF,e1];rfl
 rw[this]
 exact⟨e1,e2,BC e1,e3⟩
theorem Jd (R:RAt m ts L rm su μ) {u v:Nat} (hu:u<m) (hv:v<m) (e:L.ll.getD u 0=L.ll.getD v 0):u=v:=by
 have nd:L.ll.Nodup:=by have:=R.nd;simp![RL.all,BU]at this;exact this.2.2.2.2.2
 obtain⟨a1,b1⟩:=AC.mp (R.ld hu).1
 obtain⟨a2,b2⟩:=AC.mp (R.ld hv).1
 exact(ES nd).mp (b1.trans (e.trans b2.symm))
theorem RAt.tie (R:RAt m ts L rm su μ) {t:Tie} (h1:t.one<m) (h2:t.other<m) {ν:Sto}
  (hν:ν=(((μ.set L.h (.l ((jt (ts++[t])).map D.int))).set L.ro (.l ((rm++[t.bound,0]).map D.int))).set (L.ll.getD t.one 0) (.l ((lea ts t.one++[2*ts.length]).map nD))).set (L.ll.getD t.other 0) (.l ((lea (ts++[t]) t.other).map nD))) :
  RAt m (ts++[t]) L (rm++[t.bound,0]) su ν:=by
 have nd:=R.nd
 simp![RL.all,BU,AG,not_or]at nd
 obtain⟨⟨n1,n2,n3,n4,n5⟩,⟨n6,n7,n8,n9⟩,⟨n10,n11,n12⟩,⟨n13,n14⟩,n15,n16⟩:=nd
 have m1:=(R.ld h1).2.2.1
 have m2:=(R.ld h2).2.2.1
 have ne:∀{k:Nat},k∉L.ll->∀v,v<m->L.ll.getD v 0≠k:=λhk v hv z=>hk (z ▸ (R.ld hv).2.2.1)
 have lh:L.h<μ.length:=(AC.mp R.h).1
 have lr:L.ro<μ.length:=(AC.mp R.ro).1
 have lo:∀v,v<m->L.ll.getD v 0<μ.length:=λv hv=>(AC.mp (R.ld hv).2.1).1
 subst hν
 refine⟨?_,?_,?_,?_,?_,λv hv=>?_,R.nd,R.llen,R.slen,by simp[R.rlen];lia⟩
 ·rw[AD (ne n5 _ h2),AD (ne n5 _ h1),AD (Ne.symm n2),AD (Ne.symm n1)];exact R.o
 ·rw[AD (ne n9 _ h2),AD (ne n9 _ h1),AD (Ne.symm n6),AW lh]
 ·rw[AD (ne n12 _ h2),AD (ne n12 _ h1),AW (by simpa using lr)]
 ·rw[AD (ne n14 _ h2),AD (ne n14 _ h1),AD n10,AD n7];exact R.lv
 ·rw[AD (ne n15 _ h2),AD (ne n15 _ h1),AD n11,AD n8];exact R.su
 ·refine⟨L.ll.getD v 0,(R.ld hv).1,?_⟩
  by_cases e2:t.other=v
  ·subst e2
   rw[AW (by simpa using lo _ h2)]
  ·rw[AD (λz=>e2 (Jd R h2 hv z)),Cv,if_neg e2,DP]
   by_cases e1:t.one=v
   ·subst e1
    rw[AW (by simpa using lo _ h1),if_pos rfl]
   ·rw[AD (λz=>e1 (Jd R h1 hv z)),if_neg e1,DP,AD (Ne.symm (ne n12 _ hv)),AD (Ne.symm (ne n9 _ hv))]
    exact(R.ld hv).2.1
theorem zr {φ:Phi} {σ0:Sl} {tg:Tg} {elt:Ex} {g:D->Sto->Res (List D)} (hg:∀d ν,g d ν=.ok [.loc ν.length] (ν++[.l []])):∀(ds:List D) (ν:Sto),mapR none g ds ν=.ok ((List.range ds.length).map λi=>.loc (ν.length+i)) (ν++List.replicate ds.length (.l []))
 | [],ν=>by simp[mapR]
 | d::r,ν=>by
  have ih:=zr (φ:=φ) (σ0:=σ0) (tg:=tg) (elt:=elt) hg r (ν++[.l []])
  have k1:mapR none g (d::r) ν=(g d ν).bind λxs μ1=>(mapR none g r μ1).bind λys μ2=>.ok (xs++ys) μ2:=by simp[mapR]
  rw[k1,hg,Res.ar,ih,Res.ar]
  congr 1
  ·rw[AU,FH,AO,Da,HX]
   congr 1
   refine List.map_congr_left λi _=>?_
   simp![BD,CS,Function.comp]
   congr 1
   lia
  ·rw[AU,CM,BY];rfl
end
open PySem
def Pre (μ ν:Sto):Prop:=ν.take μ.length=μ
theorem Pre.app {μ ρ:Sto}:Pre μ (μ++ρ):=by simp[Pre]
theorem Pre.set {μ ν:Sto} {k:Nat} {o:O} (h:Pre μ ν) (hk:μ.length<=k):Pre μ (ν.set k o):=by
 unfold Pre at h ⊢
 rw[List.take_set_of_le hk]
 exact h
theorem Pre.len {μ ν:Sto} (h:Pre μ ν):μ.length<=ν.length:=by
 have:=congrArg List.length h
 rw[CG]at this
 lia
theorem Pre.get {μ ν:Sto} (h:Pre μ ν) {k:Nat} (hk:k<μ.length):ν[k]? = μ[k]?:=by
 have e:(ν.take μ.length)[k]? = ν[k]?:=CU hk
 rw[<-e,h]
theorem Pre.of {μ ν:Sto} (hl:μ.length<=ν.length) (h:∀k,k<μ.length->ν[k]? = μ[k]?):Pre μ ν:=by
 unfold Pre
 apply GQ
 intro k
 by_cases hk:k<μ.length
 ·rw[CU hk];exact h k hk
 ·rw[CT (by rw[CG];lia),CT (by lia)]
theorem Pre.trans {μ ν ρ:Sto} (h:Pre μ ν) (g:Pre ν ρ):Pre μ ρ:=.of (BX h.len g.len) λk hk=>by
 rw[g.get (AV hk h.len),h.get hk]
theorem pj {μ T:Sto} {fs:List (Str×D)} {f:Str} {v:D} (h:yg "Residue" f=true) (hl:fs.length<100):sj f (.loc μ.length) v (μ++.o "Residue" fs::T)=.ok () (μ++.o "Residue" (Tj f v fs)::T):=by
 simp![sj,objOf,kb,h,hl,and_self,if_true,A8]
section
variable {m : Nat} {ts : List Tie} {μ : Sto}
theorem Je:kEnum (.tup (ts.map eTie)) μ=.ok (((List.range ts.length).zip ts).map (λp:Nat×Tie=>D.tup [nD p.1,eTie p.2]),none) μ:=by
 simp![kEnum,bc,AM]
 congr 2
 apply GQ
 intro i
 by_cases h:i<ts.length
 ·simp[h,AA,nD]
 ·simp[h]
def fH (b:Nat):List (Str×D):=[("heads",.loc (b+1))]
def fR (b:Nat):List (Str×D):=[("heads",.loc (b+1)),("rooms",.loc (b+2))]
def fV (b m:Nat):List (Str×D):=[("heads",.loc (b+1)),("rooms",.loc (b+2)),("leaving",.loc (b+3+m))]
def fS (b m:Nat):List (Str×D):=[("heads",.loc (b+1)),("rooms",.loc (b+2)),("leaving",.loc (b+3+m)),("surplus",.loc (b+4+m))]
def llL (b m:Nat):List Nat:=(List.range m).map λi=>b+3+i
def tV (b m:Nat):Sto:=.l []::.l []::(List.replicate m (.l [])++[.r ((llL b m).map D.loc)])
def tS (b m:Nat):Sto:=tV b m++[.l ((List.replicate m (0:Int)).map D.int)]
def rlL (b m:Nat):RL:=⟨b,b+1,b+2,b+3+m,b+4+m,llL b m⟩
theorem D6 {b m k:Nat}:(tS b m)[k]? = if k<2 then some (.l [])else if k<2+m then some (.l [])else if k=2+m then some (.r ((llL b m).map D.loc))else if k=3+m then some (.l ((List.replicate m (0:Int)).map D.int))else none:=by
 unfold tS tV
 by_cases h1:k<2
 ·rw[if_pos h1]
  rcases(by lia:k=0\/k=1)with rfl | rfl<;>rfl
 ·rw[if_neg h1]
  obtain⟨j,rfl⟩:∃j,k=j+2:=⟨k-2,by lia⟩
  simp![CL,CO,BY]
  by_cases h2:j<m
  ·rw[if_pos (by lia),AK (by simpa using h2)]
   simp[h2]
  ·rw[if_neg (by lia),AZ (by simp;lia),EN]
   by_cases h3:j=m
   ·subst h3;rw[if_pos (by lia)];simp
   ·rw[if_neg (by lia)]
    by_cases h4:j=m+1
    ·subst h4;rw[if_pos (by lia)];simp
    ·rw[if_neg (by lia),CT (by simp;lia)]
theorem r8 {k:Nat} {o:O}:(μ++o::tS μ.length m)[μ.length+1+k]? = (tS μ.length m)[k]?:=by
 rw[AZ (by lia),show μ.length+1+k-μ.length=k+1 by lia,CO]
theorem Wb:RAt m [] (rlL μ.length m) (rm0 []) (List.replicate m 0) (μ++.o "Residue" (fS μ.length m)::tS μ.length m):=by
 refine⟨kb,?_,?_,?_,?_,λv hv=>⟨μ.length+3+v,by simp[rlL,llL,hv],?_⟩,?_,by simp[rlL,llL],by simp,rfl⟩
 ·show(μ++_::tS μ.length m)[μ.length+1+0]? = _
  rw[r8,D6];rfl
 ·show(μ++_::tS μ.length m)[μ.length+1+1]? = _
  rw[r8,D6];rfl
 ·show(μ++_::tS μ.length m)[μ.length+3+m]? = _
  rw[show μ.length+3+m=μ.length+1+(2+m)by lia,r8,D6,if_neg (by lia),if_neg (by lia),if_pos rfl];rfl
 ·show(μ++_::tS μ.length m)[μ.length+4+m]? = _
  rw[show μ.length+4+m=μ.length+1+(3+m)by lia,r8,D6,if_neg (by lia),if_neg (by lia),if_neg (by lia),if_pos rfl]
 ·rw[show μ.length+3+v=μ.length+1+(2+v)by lia,r8,D6,if_neg (by lia),if_pos (by lia)];rfl
 ·have nl:(llL μ.length m).Nodup:=by
   unfold llL
   rw[DZ,List.pairwise_map]
   exact(DZ.mp List.nodup_range).imp λh=>by lia
  have ml:∀x,x∈llL μ.length m->μ.length+3<=x/\x<μ.length+3+m:=λx hx=>by
   unfold llL at hx
   obtain⟨i,hi,rfl⟩:=BK.mp hx
   have:i<m:=by simpa using hi
   lia
  simp![rlL,RL.all,BU,AG,not_or]
  refine⟨⟨by lia,by lia,by lia,by lia,λh=>?_⟩,⟨by lia,by lia,by lia,λh=>?_⟩,⟨by lia,by lia,λh=>?_⟩,⟨by lia,λh=>?_⟩,λh=>?_,nl⟩<;>(have:=ml _ h;lia)
theorem Jf (hr:c6 μ):c6 (μ++.o "Residue" (fS μ.length m)::tS μ.length m):=by
 have hl:(tS μ.length m).length=m+4:=by simp[tS,tV]
 refine gh hr ?_
 rw[AU,hl,BM,AY]
 refine⟨?_,?_⟩
 ·simp![ba,fS,BM,HG,D.belowN,FN,AY,decide_eq_true_eq]
  lia
 ·rw[AR]
  intro o ho
  obtain⟨k,hk,e⟩:=BZ.mp ho
  have e':(tS μ.length m)[k]? = some o:=by rw[AA hk,e]
  rw[D6]at e'
  split at e'
  ·cases e';rfl
  ·split at e'
   ·cases e';rfl
   ·split at e'
    ·cases e'
     simp![ba,AR]
     intro x hx
     obtain⟨y,hy,rfl⟩:=BK.mp hx
     unfold llL at hy
     obtain⟨i,hi,rfl⟩:=BK.mp hy
     have:i<m:=by simpa using hi
     simp[D.belowN];lia
    ·split at e'
     ·cases e';rfl
     ·cases e'
theorem Q4 {n:Nat} (hr:c6 μ) (ok:∀t∈ts,TieOk m t) (hm:m<=1000) (ht:ts.length<=10000) :
  ∃ν,ag GL (n+1) bw [.loc μ.length,l6 m ts] (μ++[.o "Residue" []])=.ok .non ν/\RAt m ts (rlL μ.length m) (rm0 ts) (List.replicate m 0) ν/\Pre μ ν/\c6 ν:=by
 rw[ak mn,run_eq rfl]
 have e1:mkL .l [] (μ++[.o "Residue" []])=.ok (.loc (μ.length+1)) (μ++.o "Residue" []::[.l []]):=by rw[Hv rfl];simp
 have s1:sj "heads" (.loc μ.length) (.loc (μ.length+1)) (μ++.o "Residue" []::[.l []])=.ok () (μ++.o "Residue" (fH μ.length)::[.l []]):=pj (by decide) (by decide)
 have e2:mkL .l [] (μ++.o "Residue" (fH μ.length)::[.l []])=.ok (.loc (μ.length+2)) (μ++.o "Residue" (fH μ.length)::[.l [],.l []]):=by rw[Hv rfl];simp
 have s2:sj "rooms" (.loc μ.length) (.loc (μ.length+2)) (μ++.o "Residue" (fH μ.length)::[.l [],.l []])=.ok () (μ++.o "Residue" (fR μ.length)::[.l [],.l []]):=pj (by decide) (by simp[fH])
 have kr:kRng (.int m) (μ++.o "Residue" (fR μ.length)::[.l [],.l []])=.ok ((List.range m).map (fun(i:Nat)=>D.int i),none) (μ++.o "Residue" (fR μ.length)::[.l [],.l []]):=o8 (by lia)
 have hc:j0 (ag GL n) .r (.one 0) .nil cz [none] ((List.range m).map (fun(i:Nat)=>D.int i),none) (μ++.o "Residue" (fR μ.length)::[.l [],.l []])=.ok (.loc (μ.length+3+m)) (μ++.o "Residue" (fR μ.length)::tV μ.length m):=by
  rw[j0,zr (φ:=ag GL n) (σ0:=[none]) (tg:=.one 0) (elt:=.var 0) (λd ν=>by
   have e0:mkL .l [] ν=.ok (.loc ν.length) (ν++[.l []]):=Hv rfl
   simp! only[ox,cz,e0])]
  have hl:((μ++O.o "Residue" (fR μ.length)::[.l [],.l []])++List.replicate ((List.range m).map fun(i:Nat)=>D.int i).length (O.l [])).length=μ.length+3+m:=by simp;lia
  rw[Res.ar]
  simp![mkL]
  rw[hl]
  congr 1
  simp![tV,llL,BY,CL,EL,Da,AM,GO,BD,AU,CD]
  rfl
 have s3:sj "leaving" (.loc μ.length) (.loc (μ.length+3+m)) (μ++.o "Residue" (fR μ.length)::tV μ.length m)=.ok () (μ++.o "Residue" (fV μ.length m)::tV μ.length m):=pj (by decide) (by simp[fR])
 have e4:opD .Mult .l (.lst [.int 0]) (.int m) (μ++.o "Residue" (fV μ.length m)::tV μ.length m)=.ok (.loc (μ.length+4+m)) (μ++.o "Residue" (fV μ.length m)::tS μ.length m):=by
  rw[uc hm]
  congr 1
  ·simp[tV];lia
  ·simp[tS]
 have s4:sj "surplus" (.loc μ.length) (.loc (μ.length+4+m)) (μ++.o "Residue" (fV μ.length m)::tS μ.length m)=.ok () (μ++.o "Residue" (fS μ.length m)::tS μ.length m):=pj (by decide) (by simp[fV])
 obtain⟨σ',ν,el,⟨v4,v5,v6,v7,v8,v9,rfl⟩,R,P,H⟩:=ly (φ:=ag GL n) (tg:=.many [4,5]) (b:=c0) (xs:=(List.range ts.length).zip ts) (en:=λp:Nat×Tie=>D.tup [nD p.1,eTie p.2]) (μ:=μ++.o "Residue" (fS μ.length m)::tS μ.length m)
  (σ:=[some (.loc μ.length),some (l6 m ts),some (.int m),some (.tup (ts.map eTie)),none,none,none,none,none,none])
  (λj σ ν=>(∃v4 v5 v6 v7 v8 v9,σ=[some (.loc μ.length),some (l6 m ts),some (.int m),some (.tup (ts.map eTie)),v4,v5,v6,v7,v8,v9])/\RAt m (ts.take j) (rlL μ.length m) (rm0 (ts.take j)) (List.replicate m 0) ν/\Pre μ ν/\c6 ν)
  ⟨⟨none,none,none,none,none,none,rfl⟩,by simpa using Wb,Pre.app,Jf hr⟩ (by
   rintro j ⟨k,t⟩ σ ν hj ⟨⟨v4,v5,v6,v7,v8,v9,rfl⟩,R,P,H⟩
   obtain⟨hk1,hk2⟩:=DJ.mp hj
   have hjl:j<ts.length:=(AC.mp hk2).1
   have hk:k=j:=by rw[FU hjl]at hk1;exact(BH hk1).symm
   subst hk
   have o:=ok t (BC hk2)
   have tk:ts.take (k+1)=ts.take k++[t]:=by rw[DO,hk2];rfl
   have tl:(ts.take k).length=k:=by simp;lia
   have ge:∀x∈(rlL μ.length m).all,μ.length<=x:=λx hx=>by
    simp![rlL,RL.all,AG,llL,BK]at hx
    rcases hx with rfl | rfl | rfl | rfl | rfl | ⟨i,_,rfl⟩<;>lia
   have Rl:=R.rlen
   rw[tl]at Rl
   have hh:(jt (ts.take k)).length=2*k:=by simp[jt];lia
   have lr:(rlL μ.length m).r=μ.length:=rfl
   have ah:=R.aHeads
   rw[lr]at ah
   -- heads
   have x1:=Jb R.h (ys:=[.int t.other,.int t.one]) rfl (by rw[AM,hh];simp;lia)
   rw[show(jt (ts.take k)).map D.int++[D.int t.other,D.int t.one]=(jt (ts.take k++[t])).map D.int by rw[Bb];simp]at x1
   have nd:=R.nd
   have nd':=nd
   simp![RL.all,BU,AG,not_or]at nd'
   obtain⟨⟨n1,n2,n3,n4,n5⟩,⟨n6,n7,n8,n9⟩,⟨n10,n11,n12⟩,⟨n13,n14⟩,n15,n16⟩:=nd'
   generalize hL:rlL μ.length m=L at *
   generalize hν1:ν.set L.h (.l ((jt (ts.take k++[t])).map D.int))=ν1 at x1
   have g1:∀q,q≠L.h->ν1[q]? = ν[q]?:=λq hq=>by rw[<-hν1,AD (Ne.symm hq)]
   have o1:ν1[L.r]? = some (.o "Residue" [("heads",.loc L.h),("rooms",.loc L.ro),("leaving",.loc L.lv),("surplus",.loc L.su)]):=by rw[g1 _ n1];exact R.o
   have a1:Ed "rooms" (.loc μ.length) ν1=.ok (.loc L.ro) ν1:=by rw[<-lr];exact rp o1 (by decide) rfl
   have r1:ν1[L.ro]? = some (.l ((rm0 (ts.take k)).map D.int)):=by rw[g1 _ (Ne.symm n6)];exact R.ro
   have x2:=Jb r1 (ys:=[.int t.bound,.int 0]) rfl (by rw[AM,Rl];simp;lia)
   rw[show(rm0 (ts.take k)).map D.int++[D.int t.bound,D.int 0]=(rm0 (ts.take k)++[t.bound,0]).map D.int by simp]at x2
   generalize hν2:ν1.set L.ro (.l ((rm0 (ts.take k)++[t.bound,0]).map D.int))=ν2 at x2
   have g2:∀q,q≠L.ro->ν2[q]? = ν1[q]?:=λq hq=>by rw[<-hν2,AD (Ne.symm hq)]
   have o2:ν2[L.r]? = some (.o "Residue" [("heads",.loc L.h),("rooms",.loc L.ro),("leaving",.loc L.lv),("surplus",.loc L.su)]):=by rw[g2 _ n2];exact o1
   have a2:Ed "leaving" (.loc μ.length) ν2=.ok (.loc L.lv) ν2:=by rw[<-lr];exact rp o2 (by decide) rfl
   have ixv:∀{ν':Sto} {v:Nat},ν'[L.lv]? = some (.r (L.ll.map D.loc))->v<m->ixD (.loc L.lv) (.int v) ν'=.ok (.loc (L.ll.getD v 0)) ν':=λ{ν' v} e hv=>by
    have e3:(L.ll.map D.loc)[v]? = some (.loc (L.ll.getD v 0)):=by rw[AX,(R.ld hv).1];rfl
    have hx:ixN (L.ll.map D.loc).length (v:Int)=some v:=by
     have:=R.llen
     unfold ixN
     rw[if_pos (by lia),AM,if_pos (by lia)]
     simp
    simp![ixD,bj,e,hx,e3]
   have v2:ν2[L.lv]? = some (.r (L.ll.map D.loc)):=by rw[g2 _ (Ne.symm n10),g1 _ (Ne.symm n7)];exact R.lv
   have ne:∀{q:Nat},q∉L.ll->∀v,v<m->L.ll.getD v 0≠q:=λhq v hv z=>hq (z ▸ (R.ld hv).2.2.1)
   have l2:∀v,v<m->ν2[L.ll.getD v 0]? = some (.l ((lea (ts.take k) v).map nD)):=λv hv=>by rw[g2 _ (ne n12 v hv),g1 _ (ne n9 v hv)];exact(R.ld hv).2.1
   have ll:∀v,(lea (ts.take k) v).length<=2*k:=λv=>by
    unfold lea
    refine BX (List.length_filter_le _ _) ?_
    simp;lia
   have x3:=wo (l2 t.one o.one) (d:=nD (2*k)) rfl (by rw[AM];have:=ll t.one;lia)
   rw[show(lea (ts.take k) t.one).map nD++[nD (2*k)]=(lea (ts.take k) t.one++[2*(ts.take k).length]).map nD by rw[tl];simp]at x3
   generalize hν3:ν2.set (L.ll.getD t.one 0) (.l ((lea (ts.take k) t.one++[2*(ts.take k).length]).map nD))=ν3 at x3
   have g3:∀q,q≠L.ll.getD t.one 0->ν3[q]? = ν2[q]?:=λq hq=>by rw[<-hν3,AD (Ne.symm hq)]
   have o3:ν3[L.r]? = some (.o "Residue" [("heads",.loc L.h),("rooms",.loc L.ro),("leaving",.loc L.lv),("surplus",.loc L.su)]):=by rw[g3 _ (Ne.symm (ne n5 _ o.one))];exact o2
   have a3:Ed "leaving" (.loc μ.length) ν3=.ok (.loc L.lv) ν3:=by rw[<-lr];exact rp o3 (by decide) rfl
   have v3:ν3[L.lv]? = some (.r (L.ll.map D.loc)):=by rw[g3 _ (Ne.symm (ne n14 _ o.one))];exact v2
   obtain⟨xs,l3,hxs,lxs⟩:∃xs:List Nat,ν3[L.ll.getD t.other 0]? = some (.l (xs.map nD))/\xs++[2*k+1]=lea (ts.take k++[t]) t.other/\xs.length<=2*k+1:=by
    rw[Cv,if_pos rfl,tl]
    by_cases e:t.one=t.other
    ·refine⟨lea (ts.take k) t.other++[2*k],?_,by rw[if_pos e],by have:=ll t.other;simp;lia⟩
     rw[<-e,<-hν3,tl,AW (AC.mp (l2 t.one o.one)).1]
    ·refine⟨lea (ts.take k) t.other,?_,by rw[if_neg e,DP],by have:=ll t.other;lia⟩
     rw[g3 _ (λz=>e (Jd R o.one o.other z.symm))]
     exact l2 _ o.other
   have x4:=wo l3 (d:=nD (2*k+1)) rfl (by rw[AM];lia)
   rw[show xs.map nD++[nD (2*k+1)]=(lea (ts.take k++[t]) t.other).map nD by rw[<-hxs];simp]at x4
   have R4:=R.tie (t:=t) o.one o.other (ν:=ν3.set (L.ll.getD t.other 0) (.l ((lea (ts.take k++[t]) t.other).map nD))) (by rw[<-hν3,<-hν2,<-hν1])
   have h1:=o.one
   have P4:Pre μ (ν3.set (L.ll.getD t.other 0) (.l ((lea (ts.take k++[t]) t.other).map nD))):=by
    rw[<-hν3,<-hν2,<-hν1]
    have mm:∀v,v<m->L.ll.getD v 0∈L.all:=λv hv=>by simp![RL.all,AG];exact .inr (.inr (.inr (.inr (.inr (R.ld hv).2.2.1))))
    exact(((P.set (ge _ (by simp[RL.all]))).set (ge _ (by simp[RL.all]))).set (ge _ (mm _ o.one))).set (ge _ (mm _ o.other))
   have H4:c6 (ν3.set (L.ll.getD t.other 0) (.l ((lea (ts.take k++[t]) t.other).map nD))):=by
    rw[<-hν3,<-hν2,<-hν1]
    exact cq (cq (cq (cq H)))
   have c1:∀ν':Sto,opI .Mult 2 (k:Int) ν'=.ok (.int (2*k)) ν':=λν'=>op_mul (.left (by decide) (by decide))
   have q1:(D.int (2*(k:Int)))=nD (2*k):=by simp[nD]
   have q2:(D.int (((2*k:Nat):Int)+1))=nD (2*k+1):=by simp[nD]
   rw[tk,Lo]
   refine⟨_,_,?_,⟨some (nD k),some (eTie t),some (.int t.one),some (.int t.other),some (.int t.bound),some (.int t.price),rfl⟩,R4,P4,H4⟩
   simp![nD]at x3 x4 q1 q2
   simp! only[fLp,c0,nD,gp,we,ah,Jc R.h,x1,a1,Jc r1,x2,a2,ixv v2 o.one,wq (l2 t.one o.one),c1,q1,x3,a3,ixv v3 o.other,wq l3,q2,x4])
 refine⟨ν,?_,?_,P,H⟩
 ·simp! only[D_Residue___init__,rg,e1,s1,e2,s2,kr,hc,s3,e4,s4,Je,el]
 ·have hl:((List.range ts.length).zip ts).length=ts.length:=by simp
  rw[hl,DU]at R
  exact R
end
open PySem
section
variable {m : Nat} {ts : List Tie} {rm su : List Int} {s : Nat} {kvs : List (Nat × Nat)} {μ : Sto} {L : RL}
def Wc (kvs:List (Nat×Nat)) (v:Nat):Nat:=(kvs.lookup v).getD 0
def Wd (kvs:List (Nat×Nat)) (v:Nat):Prop:=(kvs.lookup v).isSome=true
theorem N3:∀{xs:List Nat} {x:Nat},x∈xs->x<=xs.sum
 | [],_,h=>by simp at h
 | y::r,x,h=>by
  rw[CP]
  rcases AG.mp h with rfl | h
  ·lia
  ·have:=N3 h;lia
theorem ui {v l:Nat}:∀{kvs:List (Nat×Nat)},kvs.lookup v=some l->l∈kvs.map (·.2)
 | [],h=>by simp at h
 | (k,x)::r,h=>by
  simp![BL]at h
  cases q:v==k with
  | true=>rw[q]at h;cases h;simp
  | false=>rw[q]at h;simp![AO,AG];exact .inr (ui h)
theorem Lq (V:Lev m ts rm s kvs []):StOk m ts (Wd kvs) (Wc kvs) (kvs.map (·.2)).sum (cg ts rm kvs):=by
 refine⟨λv hv=>?_,λv hv=>?_,λv hv a ha=>?_⟩
 ·obtain⟨l,e⟩:=BJ.mp hv
  exact V.lt v l e
 ·obtain⟨l,e⟩:=BJ.mp hv
  rw[Wc,e]
  exact N3 (ui e)
 ·obtain⟨l,e⟩:=BJ.mp hv
  simp![cg,e,EW,decide_eq_true_eq]at ha
  obtain⟨h1,h2⟩:=ha
  obtain⟨⟨h3,h4⟩,_⟩:=fm.mp h1
  exact⟨h3,h4,by rw[Wd,h2];rfl,by rw[Wc,Wc,e,h2];simp⟩
theorem D7 (V:Lev m ts rm s kvs []):∀(l v:Nat),kvs.lookup v=some l->∃w,Path ts s w v/\∀b∈w,b∈cg ts rm kvs (tlA ts b)/\0<rm.getD b 0:=by
 intro l
 induction l with
 | zero =>
  intro v e
  by_cases h:v=s
  ·subst h;exact⟨[],rfl,by simp⟩
  ·obtain⟨u,a,j,_,e2,_⟩:=V.par v 0 e h
   lia
 | succ l ih =>
  intro v e
  have h:v≠s:=λz=>by rw[z,V.st]at e;cases e
  obtain⟨u,a,j,e1,e2,e3,rfl⟩:=V.par v _ e h
  have:j=l:=by lia
  subst this
  obtain⟨w,p,hw⟩:=ih u e1
  obtain⟨⟨h3,h4⟩,h5⟩:=fm.mp e3
  refine⟨w++[a],p.snoc h3 h4,λb hb=>?_⟩
  rcases BN.mp hb with z | z
  ·exact hw b z
  ·have:b=a:=by simpa using z
   subst this
   refine⟨?_,h5⟩
   rw[h4]
   simp![cg,e1,EW,decide_eq_true_eq]
   exact⟨e3,e⟩
theorem Ls (V:Lev m ts rm s kvs []) {β:Sto}:StAt β.length (Wd kvs) (klF (β.length+1) kvs) (cg ts rm kvs) (β++.dr (k7 (β.length+1) kvs)::kvs.map λp=>.l ((cg ts rm kvs p.1).map nD)):=by
 refine⟨⟨_,kb,λμ' e v hv=>?_⟩,λv hv=>?_,λu v hu hv e=>?_,λv hv=>?_⟩
 ·simp![Pb,keysOf,e,Fc,dictAt,nD,ye,if_true]
  rw[show D.int (v:Int)=nD v from rfl,zk hv]
 ·obtain⟨l,e⟩:=Ck (b:=β.length+1) hv
  have:=zj (b:=β.length+1) hv
  rw[AZ (by lia),show klF (β.length+1) kvs v-β.length=(klF (β.length+1) kvs v-(β.length+1))+1 by lia,CO,AX,e]
  rfl
 ·obtain⟨l1,e1⟩:=Ck (b:=β.length+1) hu
  obtain⟨l2,e2⟩:=Ck (b:=β.length+1) hv
  rw[e,e2]at e1
  cases e1;rfl
 ·have:=zj (b:=β.length+1) hv
  lia
theorem oi {φ:Phi} {f:Nat} {ds:List D} {d:D} {ν:Sto} (h:φ f ds μ=.ok d ν) (hd:d.pure=true) (hc:(ν.take μ.length).all (ba μ.length)=true):iy φ false f ds μ=.ok d (ν.take μ.length):=by
 rw[iy,h]
 simp![lj,BF,if_false,i8 _ 8 d hd,hc,and_self,if_true]
structure SuOk (m a b:Nat) (su:List Int):Prop where
 lo:0<=su.getD a 0
 hi:su.getD b 0<=0
 mid:∀v,v<m->v≠a->v≠b->su.getD v 0=0
theorem SuOk.shr {a b:Nat} {su':List Int} (h:SuOk m a b su) (g:Shr su su'):SuOk m a b su' :=
 ⟨((g a).1 h.lo).1,((g b).2 h.hi).2,λv h1 h2 h3=>by
  have e:=h.mid v h1 h2 h3
  have x:=(g v).1 (by lia)
  have y:=(g v).2 (by lia)
  lia⟩
def evS (a b:Nat) (M:Int) (v:Nat):Int:=(if a=v then M else 0)-(if b=v then M else 0)
theorem We (ok:∀t∈ts,TieOk m t) {a b:Nat} (ha:a<m) (hb:b<m) (hab:a≠b) {M:Int} (S:SuOk m a b su) (E:I0 m ts (evS a b M) rm su):su.getD a 0+su.getD b 0=0:=by
 have w:=ud ok (flR rm) (λ_=>1)
 rw[j9 (f:=λk=>((1:Int)-1)*flR rm k) λk _=>by simp]at w
 have e:dn m (λv=>su.getD v 0)=0:=by
  have:dn m (λv=>su.getD v 0)=dn m (evS a b M)-dn m (λv=>1*outF ts (flR rm) v):=by
   rw[<-mv]
   exact ax λv hv=>by have:=E v hv;lia
  rw[this,w]
  unfold evS
  rw[mv,fh (f:=λ_=>M) ha,fh (f:=λ_=>M) hb]
  lia
 have e2:dn m (λv=>su.getD v 0)=su.getD a 0+su.getD b 0:=by
  rw[ax (g:=λv=>(if a=v then su.getD v 0 else 0)+(if b=v then su.getD v 0 else 0)) λv hv=>by
   by_cases h1:a=v
   ·subst h1;rw[if_pos rfl,if_neg (Ne.symm hab),Int.add_zero]
   ·by_cases h2:b=v
    ·subst h2;rw[if_neg h1,if_pos rfl,Int.zero_add]
    ·rw[if_neg h1,if_neg h2,S.mid v hv (Ne.symm h1) (Ne.symm h2)];rfl,mr,fh ha,fh hb]
 lia
theorem Q5 {n:Nat} (hr:c6 μ) (ok:∀t∈ts,TieOk m t) (hbd:∀t∈ts,0<=t.bound) (hm:m<=1000) (ht:ts.length<=10000) {a b:Nat} (ha:a<m) (hb:b<m) (hab:a≠b) {M:Int} (hM:0<=M) :
  ∃ν rm su,ag GL (n+4) Ca [l6 m ts,nD a,nD b,.int M] μ=.ok (.loc μ.length) ν/\RAt m ts (rlL μ.length m) rm su ν/\RmOk ts rm/\I0 m ts (evS a b M) rm su/\SuOk m a b su/\Pre μ ν/\c6 ν/\(su.getD a 0=0\/∃kvs,Lev m ts rm a kvs []/\kvs.lookup b=none):=by
 rw[ak V0,run_eq rfl]
 obtain⟨ν0,ei,R0,P0,H0⟩:=Q4 (n:=n+2) hr ok hm ht
 have e1:kMk (ag GL (n+3)) "Residue" bw [l6 m ts] μ=.ok (.loc μ.length) ν0:=by simp![kMk,ei,J9]
 have lr:(rlL μ.length m).r=μ.length:=rfl
 have gL:∀x∈(rlL μ.length m).all,μ.length<=x:=λx hx=>by
  simp![rlL,RL.all,AG,llL,BK]at hx
  rcases hx with rfl | rfl | rfl | rfl | rfl | ⟨i,_,rfl⟩<;>lia
 generalize hL:rlL μ.length m=L at *
 have a0:=R0.aSurp
 rw[lr]at a0
 have y1:=oa R0.su (i:=a) (x:=M) (by simpa using ha)
 have R1:=R0.surp (su':=(List.replicate m 0).set a M) (by simp)
 have a1:=R1.aSurp
 rw[lr]at a1
 have y2:=oa R1.su (i:=b) (x := -M) (by simpa using hb)
 rw[HI]at y2
 have R2:=R0.surp (su':=((List.replicate m 0).set a M).set b (-M)) (by simp)
 have g2:∀v,v<m->(((List.replicate m (0:Int)).set a M).set b (-M)).getD v 0=evS a b M v:=λv hv=>by
  unfold evS
  rw[AF]
  by_cases h2:b=v
  ·subst h2
   rw[AW (by simpa using hb),if_neg hab,if_pos rfl];simp
  ·rw[AD h2,if_neg h2]
   by_cases h1:a=v
   ·subst h1
    rw[AW (by simpa using ha),if_pos rfl];simp
   ·rw[AD h1,if_neg h1,CN]
    split<;>rfl
 have E2:I0 m ts (evS a b M) (rm0 ts) (((List.replicate m 0).set a M).set b (-M)):=λv hv=>by
  rw[g2 v hv]
  have:outF ts (flR (rm0 ts)) v=0:=j9 λk hk=>by unfold flR;rw[(oh ts k hk).2,Int.mul_zero]
  lia
 have S2:SuOk m a b (((List.replicate m 0).set a M).set b (-M)):=by
  refine⟨by rw[g2 a ha];unfold evS;rw[if_pos rfl,if_neg (Ne.symm hab)];lia,by rw[g2 b hb];unfold evS;rw[if_pos rfl,if_neg hab];lia,λv h1 h2 h3=>?_⟩
  rw[g2 v h1];unfold evS;rw[if_neg (Ne.symm h2),if_neg (Ne.symm h3)];rfl
 have Rm2:=Wa hbd
 have H2:c6 (ν0.set L.su (.l ((((List.replicate m (0:Int)).set a M).set b (-M)).map D.int))):=cq H0
 have P2:Pre μ (ν0.set L.su (.l ((((List.replicate m (0:Int)).set a M).set b (-M)).map D.int))):=P0.set (gL _ (by simp[RL.all]))
 generalize hν2:ν0.set L.su (.l ((((List.replicate m (0:Int)).set a M).set b (-M)).map D.int))=ν2 at *
 generalize ((List.replicate m (0:Int)).set a M).set b (-M)=su2 at *
 obtain⟨kv2,el,V2⟩:=rq (n:=n+1) ok hm H2 R2 ha
 rw[lr]at el
 obtain⟨fl,ν,e,rm',su',lv,rfl,Q⟩:=Cf (φ:=ag GL (n+3)) (c:=.and (.cmp (.ix (.att (.var 4) "surplus") (.var 1)) (.cons .gt (.cst (.int 0)) .nil)) (.cmp (.var 2) (.cons .in_ (.var 5) .nil))) (b:=q0)
  (λk σ ν=>∃rm su kvs lv,σ=[some (l6 m ts),some (nD a),some (nD b),some (.int M),some (.loc μ.length),some (.loc lv)]/\RAt m ts L rm su ν/\RmOk ts rm/\I0 m ts (evS a b M) rm su/\SuOk m a b su/\Pre μ ν/\c6 ν/\μ.length<=lv/\ν[lv]? = some (.d (encL kvs))/\Lev m ts rm a kvs []/\k=(su.getD a 0).toNat)
  (λfl ν=>∃rm su lv,fl=.nx [some (l6 m ts),some (nD a),some (nD b),some (.int M),some (.loc μ.length),some (.loc lv)]/\RAt m ts L rm su ν/\RmOk ts rm/\I0 m ts (evS a b M) rm su/\SuOk m a b su/\Pre μ ν/\c6 ν/\(su.getD a 0=0\/∃kvs,Lev m ts rm a kvs []/\kvs.lookup b=none))
  (by
   rintro k σ ν ⟨rm,su,kvs,lv,rfl,R,Rm,E,S,P,H,hlv,ev,V,rfl⟩
   have as:=R.aSurp
   rw[lr]at as
   have is:=R.iSurp ha
   have ib:=abn (v:=b) ev
   by_cases h0:0<su.getD a 0
   ·cases hk:kvs.lookup b with
    | none =>
     rw[hk]at ib
     refine⟨false,ν,?_,λ_=>⟨rm,su,lv,rfl,R,Rm,E,S,P,H,.inr ⟨kvs,V,hk⟩⟩,λh=>by cases h⟩
     simp![nD]at ib ⊢
     simp! only[as,is,h0,ib,zz]
     rfl
    | some l =>
     rw[hk]at ib
     refine⟨true,ν,?_,(λh=>nomatch h),λ_=>?_⟩
     ·simp![nD]at ib ⊢
      simp! only[as,is,h0,ib,zz]
      rfl
     have es:=Lj (n:=n+1) hm H R ev V
     rw[lr]at es
     have hlvl:lv<ν.length:=(AC.mp ev).1
     have lset:(ν.set lv (.fd (encL kvs))).length=ν.length:=by simp
     have lvL:lv∉L.all:=Co R ev
     have Rs:RAt m ts L rm su (ν.set lv (.fd (encL kvs))++.dr (k7 (ν.length+1) kvs)::kvs.map λp=>.l ((cg ts rm kvs p.1).map nD)):=(R.other lvL).app
     have T:=Ls (V:=V) (β:=ν.set lv (.fd (encL kvs)))
     rw[lset]at T
     have Hs:c6 (ν.set lv (.fd (encL kvs))++.dr (k7 (ν.length+1) kvs)::kvs.map λp=>.l ((cg ts rm kvs p.1).map nD)):=by
      refine gh (wm H rfl) ?_
      rw[lset,BM,AY,AU,AM]
      refine⟨?_,kc (λo ho=>?_) _⟩
      ·have clS:∀(b c:Nat) (xs:List (Nat×Nat)),b+xs.length<=c->(k7 b xs).all (λp=>D.belowN c 8 p.2)=true:=by
        intro b c xs
        induction xs generalizing b with
        | nil=>intro _;rfl
        | cons p r ih =>
         intro h
         obtain⟨k,x⟩:=p
         simp![AU]at h
         simp![k7,BM,AY]
         exact⟨by simp[D.belowN];lia,ih (b+1) (by lia)⟩
       exact clS _ _ _ (by lia)
      ·obtain⟨p,_,rfl⟩:=BK.mp ho
       exact⟨_,rfl⟩
     have Ps:Pre μ (ν.set lv (.fd (encL kvs))++.dr (k7 (ν.length+1) kvs)::kvs.map λp=>.l ((cg ts rm kvs p.1).map nD)):=(P.set hlv).trans Pre.app
     generalize hνs:(ν.set lv (.fd (encL kvs))++.dr (k7 (ν.length+1) kvs)::kvs.map λp=>O.l ((cg ts rm kvs p.1).map nD))=νs at *
     have hLν:∀x∈L.all,x<ν.length:=λx hx=>R.at_ hx
     have hkl:∀v,Wd kvs v->ν.length+1<=klF (ν.length+1) kvs v:=λv hv=>(zj hv).1
     obtain⟨rm',su',ν3,e3,L1,L2,L3,R3,Rm3,E3,Sh3,G3⟩:=Ja (n:=n) (start:=a) (pot:=Wc kvs) (M:=(kvs.map (·.2)).sum) ok hm Hs Rs Rm E (λv hv z=>by have:=hLν _ z;have:=hkl v hv;lia) (λz=>by have:=hLν _ z;lia) T (Lq V) (by rw[Wd,V.st];rfl)
     rw[lr]at e3
     have hc:=L1.cut Hs
     have k3:=oi e3 rfl hc
     have hLs:∀x∈L.all,x<νs.length:=λx hx=>Rs.at_ hx
     have R4:=R3.cut hLs
     have l4:(ν3.take νs.length).length=νs.length:=by rw[CG];lia
     have H4:c6 (ν3.take νs.length):=by unfold c6;rw[l4];exact hc
     have Psl:=Ps.len
     have P4:Pre μ (ν3.take νs.length):=.of (by rw[l4];exact Psl) λk hk=>by
      rw[CU (by lia),L3 k (by lia) (λz=>by have:=gL _ z;lia) (λv hv z=>by have:=hkl v hv;have:=P.len;lia)]
      exact Ps.get hk
     generalize hν4:ν3.take νs.length=ν4 at *
     obtain⟨kv4,el4,V4⟩:=rq (n:=n+1) ok hm H4 R4 ha
     rw[lr]at el4
     have kt:iy (ag GL (n+3)) true i9 [.loc μ.length,.loc lv] ν=.ok (.loc ν.length) νs:=ki es
     have sb:=We ok ha hb hab S E
     have gd:Good ts rm su (cg ts rm kvs) a:=by
      obtain⟨w,p,hw⟩:=D7 V l b hk
      exact⟨w,b,p,hw,by lia⟩
     have less:=G3 h0 gd
     have S4:=S.shr Sh3
     refine⟨.nx [some (l6 m ts),some (nD a),some (nD b),some (.int M),some (.loc μ.length),some (.loc ν4.length)],ν4++[.d (encL kv4)],?_,(su'.getD a 0).toNat,?_,rm',su',kv4,ν4.length,rfl,R4.app,Rm3,E3,S4,P4.trans Pre.app,gh H4 rfl,P4.len,by simp,V4,rfl⟩
     ·simp![nD]at k3 el4
      simp! only[q0,nD,kt,k3,el4]
     ·have:=S4.lo
      lia
   ·refine⟨false,ν,?_,λ_=>⟨rm,su,lv,rfl,R,Rm,E,S,P,H,.inl (by have:=S.lo;lia)⟩,λh=>by cases h⟩
    simp![nD]
    simp! only[as,is,h0,zz])
  (m:=(su2.getD a 0).toNat) (σ:=[some (l6 m ts),some (nD a),some (nD b),some (.int M),some (.loc μ.length),some (.loc ν2.length)]) (μ:=ν2++[.d (encL kv2)])
  ⟨rm0 ts,su2,kv2,ν2.length,rfl,R2.app,Rm2,E2,S2,P2.trans Pre.app,gh H2 rfl,P2.len,by simp,V2,rfl⟩
 refine⟨ν,rm',su',?_,Q⟩
 simp![nD]at el e
 simp! only[D_sent,nD,e1,a0,y1,a1,y2,el,e]
end
open PySem
section
variable {m : Nat} {ts : List Tie} {rm su : List Int} {a b : Nat} {kvs : List (Nat × Nat)} {μ : Sto} {L : RL}
theorem Wf {S:Nat->Prop} (V:Lev m ts rm a kvs []) (Rm:RmOk ts rm) (sa:S a) (c:Closed ts (flR rm) S):∀(l v:Nat),kvs.lookup v=some l->S v:=by
 intro l
 induction l with
 | zero =>
  intro v h
  by_cases e:v=a
  ·rw[e];exact sa
  ·obtain⟨u,x,j,_,hl,_⟩:=V.par v 0 h e
   lia
 | succ l ih =>
  intro v h
  by_cases e:v=a
  ·rw[e];exact sa
  ·obtain⟨u,x,j,hu,hl,hx,hd⟩:=V.par v (l+1) h e
   have su:=ih u (by rw[hu];congr 1;lia)
   obtain⟨⟨hlt,htl⟩,hr⟩:=fm.mp hx
   rcases my x with⟨k,rfl⟩ | ⟨k,rfl⟩
   ·rw[rl]at htl
    rw[rj]at hd
    rw[<-hd]
    have:=Rm.sum k (by lia)
    exact c.fwd k (by lia) (by rw[htl];exact su) (by unfold flR;lia)
   ·rw[ze]at htl
    rw[zd]at hd
    rw[<-hd]
    exact c.bwd k (by lia) (by rw[htl];exact su) hr
theorem uj (V:Lev m ts rm a kvs []) (Rm:RmOk ts rm):Closed ts (flR rm) (λv=>(kvs.lookup v).isSome=true):=by
 refine⟨λk hk h f=>?_,λk hk h f=>?_⟩
 ·obtain⟨l,hl⟩:=BJ.mp h
  have:=V.cl _ l hl (by simp) (2*k) (fm.mpr ⟨⟨by lia,rl⟩,by have:=Rm.sum k hk;unfold flR at f;lia⟩)
  rw[rj]at this
  exact this
 ·obtain⟨l,hl⟩:=BJ.mp h
  have:=V.cl _ l hl (by simp) (2*k+1) (fm.mpr ⟨⟨by lia,ze⟩,f⟩)
  rw[zd]at this
  exact this
theorem Bc (F0:∀k,k<ts.length->0<=flR rm k) (F1:∀k,k<ts.length->flR rm k<=(au ts k).bound) (hs:outF ts (flR rm) a=dn ts.length λk=>(au ts k).bound):Closed ts (flR rm) (λv=>v=a):=by
 have t:=Ig (f:=λk=>sg (au ts k) a*flR rm k) (g:=λk=>(au ts k).bound) (n:=ts.length) (λk hk=>by
  have h0:=F0 k hk
  have h1:=F1 k hk
  show sg (au ts k) a*flR rm k<=(au ts k).bound
  unfold sg ind
  split<;>split<;>simp<;>lia) hs
 refine⟨λk hk h f=>?_,λk hk h f=>?_⟩
 ·have z:=t k hk
  have h0:=F0 k hk
  simp![sg,ind,h,if_true]at z
  by_cases e:(au ts k).other=a
  ·exact e
  ·rw[if_neg e]at z;simp at z;lia
 ·have z:=t k hk
  have h1:=F1 k hk
  simp![sg,ind,h,if_true]at z
  by_cases e:(au ts k).one=a
  ·exact e
  ·rw[if_neg e]at z;simp at z;lia
def fsL (ts:List Tie) (rm:List Int):List Int:=(List.range ts.length).map (flR rm)
theorem Jg:(fsL ts rm).length=ts.length:=by simp[fsL]
theorem r9 {k:Nat} (h:k<ts.length):(fsL ts rm).getD k 0=flR rm k:=by
 unfold fsL
 rw[AF,AX,FU h];rfl
theorem filterMap_some {α β:Type} {f:α->Option β} {g:α->β}:∀{l:List α},(∀x∈l,f x=some (g x))->l.filterMap f=l.map g
 | [],_=>rfl
 | x::r,h=>by
  rw[DH,h x AT,AO,filterMap_some λy hy=>h y (AJ _ hy)]
theorem Q6 (h:rm.length=2*ts.length):Fb (rm.map D.int)=(fsL ts rm).map D.int:=by
 unfold Fb fsL
 rw[AM,h,show 2*ts.length / 2=ts.length by lia,Da]
 refine filterMap_some λk hk=>?_
 have hk:k<ts.length:=by simpa using hk
 have:2*k+1<rm.length:=by lia
 rw[AX,AA this]
 simp![EK,Function.comp,flR,AF,AA this,ET]
theorem Q7 {n:Nat} (R:RAt m ts L rm su μ):ag GL (n+1) de [.loc L.r] μ=.ok (.tup ((fsL ts rm).map D.int)) μ:=by
 rw[ak sr,run_eq rfl]
 have a0:=R.aRooms
 have lo:listOf μ (.loc L.ro)=some (rm.map D.int):=by simp![Lp.listOf,R.ro]
 have o1:btD .odds .z [.loc L.ro] μ=.ok (.lst ((fsL ts rm).map D.int)) μ:=by
  simp![btD,g8,O9,lo,mi,Q6 R.rlen]
 simp! only[D_Residue_flow,a0,o1,bt_tuple bo]
theorem uk (ts:List Tie):(ts.map (·.bound)).sum=dn ts.length λk=>(au ts k).bound:=mw (λt:Tie=>t.bound) T0 ts
theorem ot {n:Nat} (hr:c6 μ) (ok:∀t∈ts,TieOk m t) (hbd:∀t∈ts,0<=t.bound) (hm:m<=1000) (ht:ts.length<=10000) (ha:a<m) (hb:b<m) (hab:a≠b) :
  ∃ν rm su,ag GL (n+5) gr [l6 m ts,nD a,nD b] μ=.ok (.loc μ.length) ν/\RAt m ts (rlL μ.length m) rm su ν/\RmOk ts rm/\FlowOk m ts a b (flR rm)/\Pre μ ν/\c6 ν/\∃S:Nat->Prop,S a/\¬S b/\Closed ts (flR rm) S:=by
 rw[ak Ax,run_eq rfl]
 have hM:0<=(ts.map (·.bound)).sum:=by
  rw[uk]
  exact A2 λk hk=>hbd _ (ja hk)
 obtain⟨ν,rm,su,e,R,Rm,E,S,P,H,fin⟩:=Q5 (n:=n) hr ok hbd hm ht ha hb hab hM
 have k1:=ki e
 have c1:=comp_map (m:=.z) (μ:=μ) (φ:=ag GL (n+4)) (tg:=.many [0,1,2,3]) (cs:=.nil) (elt:=iz) (σ0:=[none,none,none,none]) (xs:=ts) (en:=eTie) (g:=λt=>D.int t.bound) (λt _=>by
  simp! only[ox,iz,we])
 have e1:ts.map (λt=>D.int t.bound)=(ts.map (·.bound)).map D.int:=by rw[Da];rfl
 rw[e1]at c1
 have F0:∀k,k<ts.length->0<=flR rm k:=λk hk=>Rm.nn (2*k+1) (by lia)
 have F1:∀k,k<ts.length->flR rm k<=(au ts k).bound:=λk hk=>by
  have:=Rm.sum k hk
  have:=Rm.nn (2*k) (by lia)
  unfold flR;lia
 refine⟨ν,rm,su,?_,R,Rm,⟨F0,F1,λv h1 h2 h3=>?_⟩,P,H,?_⟩
 ·simp![nD]at k1
  simp! only[D_most_sent,nD,Qn,c1,bt_sum bo (mh _),k1]
 ·have e2:=E v h1
  rw[S.mid v h1 h2 h3]at e2
  unfold evS at e2
  rw[if_neg (Ne.symm h2),if_neg (Ne.symm h3)]at e2
  lia
 ·rcases fin with h0 | ⟨kvs,V,hk⟩
  ·refine⟨λv=>v=a,rfl,Ne.symm hab,Bc F0 F1 ?_⟩
   have e2:=E a ha
   unfold evS at e2
   rw[if_pos rfl,if_neg (Ne.symm hab)]at e2
   rw[<-uk]
   lia
  ·exact⟨_,by simp[V.st],by simp[hk],uj V Rm⟩
theorem Cw:∀(ps:List (Tie×Int)) (o:List Int) (v:Nat),(∀p∈ps,p.1.one<o.length/\p.1.other<o.length)->(ps.foldl rh o).getD v 0=o.getD v 0+(ps.map λp=>sg p.1 v*p.2).sum
 | [],o,v,_=>by simp
 | p::r,o,v,h=>by
  have hp:=h p AT
  rw[HK,Cw r (rh o p) v λq hq=>by rw[za];exact h q (AJ _ hq)]
  have:(rh o p).getD v 0=o.getD v 0+sg p.1 v*p.2:=by
   unfold rh
   rw[kq (by rw[gz];exact hp.2),kq hp.1]
   unfold sg ind
   split<;>split<;>simp<;>lia
  rw[this,AO,CP]
  lia
theorem zt (ok:∀t∈ts,TieOk m t) {fs:List Int} (hl:fs.length=ts.length) {v:Nat}:(outs m (ts.zip fs)).getD v 0=outF ts (λk=>fs.getD k 0) v:=by
 unfold outs
 rw[Cw _ _ v λp hp=>by
  have:=ok _ (EX hp).1
  simp![EN]
  exact⟨this.one,this.other⟩]
 have z:(List.replicate m (0:Int)).getD v 0=0:=by
  rw[AF,CN];split<;>rfl
 rw[z,mw (λp:Tie×Int=>sg p.1 v*p.2) (T0,0),Int.zero_add]
 unfold outF
 rw[show(ts.zip fs).length=ts.length by rw[HQ];lia]
 refine ax λk hk=>?_
 have e1:(ts.zip fs).getD k (T0,0)=(au ts k,fs.getD k 0):=by
  unfold au
  rw[AF,AF,AF,AA (by rw[HQ];lia),List.getElem_zip,AA hk,AA (by lia)]
  rfl
 rw[e1]
theorem Lu {v:Nat}:outF ts (λk=>(fsL ts rm).getD k 0) v=outF ts (flR rm) v:=ax λk hk=>by show _*(fsL ts rm).getD k 0=_;rw[r9 hk]
theorem Q8 (ok:∀t∈ts,TieOk m t) {fs:List Int} (hl:fs.length=ts.length) (F:FlowOk m ts a b λk=>fs.getD k 0):amI m ts a b fs=.int (outF ts (λk=>fs.getD k 0) a):=by
 unfold amI
 have h1:(ts.zip fs).any D2=false:=by
  rw[GG]
  intro p hp
  obtain⟨k,hk,e⟩:=BZ.mp hp
  have hk2:k<ts.length:=by rw[HQ]at hk;lia
  have l0:=F.lo k hk2
  have l1:=F.hi k hk2
  have e2:p=(au ts k,fs.getD k 0):=by
   rw[<-e,List.getElem_zip]
   unfold au
   rw[AF,AF,AA hk2,AA (by lia)]
   rfl
  rw[e2]
  simp![D2,decide_eq_true l0,decide_eq_true l1,FM,IH,BF,not_false_eq_true]
 have h2:((List.range m).filter fun(k:Nat)=>decide (k≠a)&&decide (k≠b)).any (λk=>decide ((outs m (ts.zip fs)).getD k 0≠0))=false:=by
  rw[GG]
  intro k hk
  obtain⟨g1,g2⟩:=EW.mp hk
  simp![AY,decide_eq_true_eq]at g2
  rw[zt ok hl,F.mid k (by simpa using g1) g2.1 g2.2]
  simp
 rw[h1,h2,zt ok hl]
 rfl
theorem FlowOk.row (F:FlowOk m ts a b (flR rm)):FlowOk m ts a b λk=>(fsL ts rm).getD k 0 :=
 ⟨λk hk=>by rw[r9 hk];exact F.lo k hk,λk hk=>by rw[r9 hk];exact F.hi k hk,λv h1 h2 h3=>by rw[Lu];exact F.mid v h1 h2 h3⟩
theorem Closed.row {S:Nat->Prop} (c:Closed ts (flR rm) S):Closed ts (λk=>(fsL ts rm).getD k 0) S :=
 ⟨λk hk p h=>c.fwd k hk p (by rw[r9 hk]at h;exact h),λk hk p h=>c.bwd k hk p (by rw[r9 hk]at h;exact h)⟩
theorem zu {n:Nat} (hr:c6 μ) (ok:∀t∈ts,TieOk m t) (hbd:∀t∈ts,0<=t.bound) (hm:m<=100) (ht:ts.length<=10000) (ha:a<m) (hb:b<m) (hab:a≠b) :
  ∃(fs:List Int) (ν:Sto),fs.length=ts.length/\FlowOk m ts a b (λk=>fs.getD k 0)/\(∃S:Nat->Prop,S a/\¬S b/\Closed ts (λk=>fs.getD k 0) S) /\
   ag GL (n+6) ff [l6 m ts,.int a,.int b] μ=.ok (.tup [.int (outF ts (λk=>fs.getD k 0) a),.tup (fs.map D.int)]) ν/\Pre μ ν/\c6 ν:=by
 rw[ak Ay,run_eq rfl]
 obtain⟨ν,rm,su,e,R,Rm,F,P,H,S,sa,sb,c⟩:=ot (n:=n) hr ok hbd (by lia) ht ha hb hab
 have k1:=ki e
 refine⟨fsL ts rm,ν,Jg,F.row,⟨S,sa,sb,c.row⟩,?_,P,H⟩
 have lr:(rlL μ.length m).r=μ.length:=rfl
 have io:=R.isO (f:="flow") (by decide)
 have ef:=Q7 (n:=n+4) R
 rw[lr]at io ef
 have k2:Vz (ag GL (n+5)) false "Residue" "flow" de .nil [some (l6 m ts),some (.int a),some (.int b),none] (.loc μ.length) ν=.ok (.tup ((fsL ts rm).map D.int)) ν:=by
  rw[Ba io]
  exact wu ef (by rw[D.pure,g9,AR];intro x hx;obtain⟨i,_,rfl⟩:=BK.mp hx;rfl) rfl H
 have k3:=dz (Ib (n:=n+3) H hm ok ha hb (fsL ts rm)) Qo rfl H
 rw[Q8 ok Jg F.row]at k3
 simp![nD]at k1
 simp! only[D_most_flow,k1,k2,k3]
end
open PySem
section
variable {n : Nat} {μ ρ : Sto}
theorem um (hr:c6 μ) (c:Int):∃b,0<=b/\ag GL (n+2) gb [.int c] μ=.ok (.int b) μ:=by
 rw[ak vx,run_eq rfl]
 have f8:∀x:Int,opI .Mod x 8 μ=.ok (.int (x % 8)) μ:=λx=>op_mod (by decide)
 have f3:∀x:Int,opI .Mod x 3 μ=.ok (.int (x % 3)) μ:=λx=>op_mod (by decide)
 have f13:∀x:Int,opI .Mod x 13 μ=.ok (.int (x % 13)) μ:=λx=>op_mod (by decide)
 have d8:∀x:Int,opI .FloorDiv x 8 μ=.ok (.int (x / 8)) μ:=λx=>qw (by decide) (by decide)
 have e1:opI .Pow 10 40 μ=.ok (.int (10 ^ 40)) μ:=op_pow (by decide)
 by_cases h0:az c 3 % 8=0
 ·refine⟨10 ^ 40-az c 3 / 8 % 3,by have:az c 3 / 8 % 3<3:=BQ _ (by decide);lia,?_⟩
  simp! only[D_law_bound_2,j8 (n:=n) hr,f8,f3,f13,d8,h0,e1]
 ·by_cases h1:az c 3 % 8=1
  ·refine⟨c % 10 ^ 40,BR _ (by decide),?_⟩
   simp! only[D_law_bound_2,j8 (n:=n) hr,f8,f3,f13,d8,h0,h1,e1,show ¬((1:Int)=0)by decide,op_mod (show(0:Int)<10 ^ 40 by decide)]
  ·refine⟨az c 3 / 8 % 13,BR _ (by decide),?_⟩
   simp! only[D_law_bound_2,j8 (n:=n) hr,f8,f3,f13,d8,h0,h1]
structure TieW (m:Nat) (t:Tie):Prop where
 ok:TieOk m t
 nn:0<=t.bound
theorem Ws (hr:c6 μ) (cs:List Int) (m:Nat) (hm:2<=m) (hm2:m<=100) (hc:cs.length<=24):∃ts ρ,ts.length=cs.length/\(∀t∈ts,TieW m t)/\ag GL (n+3) gq [.lst (cs.map D.int),.int m] μ=.ok (l6 m ts) (μ++ρ):=by
 rw[ak rd,run_eq rfl]
 obtain⟨σ',μ',e,ts,v3,v4,v5,v6,hl,hok,rfl,rfl⟩:=ly (φ:=ag GL (n+2)) (μ:=μ++[.l []]) (tg:=.one 3) (b:=dg) (xs:=cs) (en:=D.int)
  (σ:=[some (.lst (cs.map D.int)),some (.int m),some (.loc μ.length),none,none,none,none])
  (λk σ μ'=>∃(ts:List Tie) (v3 v4 v5 v6:Option D),ts.length=k/\(∀t∈ts,TieW m t)/\σ=[some (.lst (cs.map D.int)),some (.int m),some (.loc μ.length),v3,v4,v5,v6]/\μ'=μ++[.l (ts.map eTie)])
  ⟨[],none,none,none,none,rfl,by simp,rfl,rfl⟩ (by
   rintro k c σ μ' ha ⟨ts,v3,v4,v5,v6,hl,hok,rfl,rfl⟩
   have hk:k<cs.length:=(AC.mp ha).1
   have H:c6 (μ++[.l (ts.map eTie)]):=Hx hr _
   obtain⟨B,hB0,hB⟩:=um (n:=n) H c
   have x0:0<=az c 1 % m:=BR _ (by lia)
   have x1:az c 1 % m<m:=BQ _ (by lia)
   have y0:0<=(az c 1 % m+1+az c 1 / m % (m-1)) % m:=BR _ (by lia)
   have y1:(az c 1 % m+1+az c 1 / m % (m-1)) % m<m:=BQ _ (by lia)
   have et:(D.tup [.int (az c 1 % m),.int ((az c 1 % m+1+az c 1 / m % (m-1)) % m),.int B,.int (az c 2 % 13)])=eTie ⟨(az c 1 % m).toNat,((az c 1 % m+1+az c 1 / m % (m-1)) % m).toNat,B,az c 2 % 13⟩:=by
    simp![eTie,DR x0,DR y0]
   refine⟨[some (.lst (cs.map D.int)),some (.int m),some (.loc μ.length),some (.int c),some (.int (az c 1)),some (.int (az c 1 % m)),some (.int ((az c 1 % m+1+az c 1 / m % (m-1)) % m))],
    μ++[.l ((ts++[(⟨(az c 1 % m).toNat,((az c 1 % m+1+az c 1 / m % (m-1)) % m).toNat,B,az c 2 % 13⟩:Tie)]).map eTie)],?_,_,_,_,_,_,by simp[hl],?_,rfl,rfl⟩
   ·simp! only[fLp,dg,j8 (n:=n+1) H,op_mod (show(0:Int)<m by lia),op_mod (show(0:Int)<m-1 by lia),qw (show(0:Int)<m by lia) (show(m:Int)<1073741824 by lia),op_mod (show(0:Int)<13 by decide),dz hB rfl rfl H,
     Nx,et,Ny (rf _) (show(ts.map eTie).length<1000000 by rw[AM];lia),BO]
   ·intro t ht
    rcases BN.mp ht with h | h
    ·exact hok t h
    ·rw[DK.mp h]
     have z1:az c 2 % 13<13:=BQ _ (by decide)
     exact⟨⟨by show Int.toNat _<m;lia,by show Int.toNat _<m;lia,BR _ (by decide),by show az c 2 % 13<_;lia⟩,hB0⟩)
 refine⟨ts,[.l (ts.map eTie)],by simpa using hl,hok,?_⟩
 have e0:mkL .l [] μ=.ok (.loc μ.length) (μ++[.l []]):=Hv rfl
 simp! only[D_law_web_2,e0,e,bt_tuple wd,l6]
theorem Jh (h:Int) (m:Nat) (hm:2<=m):∃a b:Nat,(a<m/\b<m/\a≠b)/\ag GL (n+1) ko [.int h,.int m] μ=.ok (.tup [.int a,.int b]) μ:=by
 rw[ak Dx,run_eq rfl]
 have x0:0<=h / 7 % m:=BR _ (by lia)
 have x1:h / 7 % m<m:=BQ _ (by lia)
 have y0:0<=(h / 7 % m+1+h / 77 % (m-1)) % m:=BR _ (by lia)
 have y1:(h / 7 % m+1+h / 77 % (m-1)) % m<m:=BQ _ (by lia)
 have z0:0<=h / 77 % (m-1):=BR _ (by lia)
 have z1:h / 77 % (m-1)<m-1:=BQ _ (by lia)
 have ne:h / 7 % m≠(h / 7 % m+1+h / 77 % (m-1)) % m:=by
  generalize h / 7 % m=x at *
  generalize h / 77 % (m-1)=z at *
  intro q
  have d:=Int.emod_add_mul_ediv (x+1+z) m
  rw[<-q]at d
  have q2:(m:Int)*((x+1+z) / m)=1+z:=by lia
  rcases Int.lt_trichotomy ((x+1+z) / m) 0 with g | g | g
  ·have:(m:Int)*((x+1+z) / m)<=0:=Int.mul_nonpos_of_nonneg_of_nonpos (by lia) (by lia)
   lia
  ·rw[g]at q2;lia
  ·have:(m:Int)*1<=(m:Int)*((x+1+z) / m):=Int.mul_le_mul_of_nonneg_left (by lia) (by lia)
   lia
 refine⟨(h / 7 % m).toNat,((h / 7 % m+1+h / 77 % (m-1)) % m).toNat,⟨by lia,by lia,by lia⟩,?_⟩
 simp! only[D_law_ends,qw (show(0:Int)<7 by decide) (by decide),qw (show(0:Int)<77 by decide) (by decide),op_mod (show(0:Int)<m by lia),op_mod (show(0:Int)<m-1 by lia),DR x0,DR y0]
end
open PySem
section
variable {m : Nat} {ts : List Tie}
def zv (A:Int) (fs:List Int):D:=.tup [.int A,.tup (fs.map D.int)]
theorem D8 (A:Int) (fs:List Int):(zv A fs).pure=true:=by
 have h:D.pureN 7 (.tup (fs.map D.int))=true:=by
  rw[g9,AR];intro x hx;obtain⟨i,_,rfl⟩:=BK.mp hx;rfl
 unfold zv
 rw[D.pure,g9]
 simp![BM,HG,h,FN]
 rfl
theorem ou {n:Nat} (ok:∀t∈ts,TieW m t) (hm:m<=100) (ht:ts.length<=1000) {a b:Nat} (ha:a<m) (hb:b<m) (hab:a≠b) :
  ∃fs:List Int,fs.length=ts.length/\FlowOk m ts a b (λk=>fs.getD k 0)/\(∃S:Nat->Prop,S a/\¬S b/\Closed ts (λk=>fs.getD k 0) S) /\
   iy (ag GL (n+6)) false ff [l6 m ts,.int a,.int b] []=.ok (zv (outF ts (λk=>fs.getD k 0) a) fs) []:=by
 obtain⟨fs,ν,h1,h2,h3,e,P,H⟩:=zu (n:=n) (μ:=[]) rfl (λt h=>(ok t h).ok) (λt h=>(ok t h).nn) hm (by lia) ha hb hab
 exact⟨fs,h1,h2,h3,oi e (D8 _ _) (by simp)⟩
end
open PySem
section
variable {m : Nat} {ts : List Tie} {rm su : List Int} {a b : Nat} {kvs : List (Nat × Nat)} {μ : Sto} {L : RL}
structure LeastS (m:Nat) (ts:List Tie) (a b:Nat) (xs:List Int):Prop where
 pw:xs.Pairwise (· < ·)
 rng:∀x∈xs,∃v:Nat,x=v/\v<m
 ha:(a:Int)∈xs
 hb:¬(b:Int)∈xs
 lo:∀T:Nat->Prop,T a->¬T b->di ts (λv=>(v:Int)∈xs)<=di ts T
 min:∀T:Nat->Prop,T a->¬T b->di ts T=di ts (λv=>(v:Int)∈xs)->∀v:Nat,(v:Int)∈xs->T v
 most:∃fl:Nat->Int,FlowOk m ts a b fl/\outF ts fl a=di ts (λv=>(v:Int)∈xs)
theorem Lv (ok:∀t∈ts,TieOk m t) (ha:a<m) (Rm:RmOk ts rm) (F:FlowOk m ts a b (flR rm)) {S:Nat->Prop} (sa:S a) (sb:¬S b) (c:Closed ts (flR rm) S) (V:Lev m ts rm a kvs []):LeastS m ts a b (sortI (kvs.map λp=>(p.1:Int))):=by
 have mem:∀v:Nat,(v:Int)∈sortI (kvs.map λp=>(p.1:Int))↔(kvs.lookup v).isSome=true:=λv=>by
  rw[ph,lookup_mem,BK,BK]
  constructor
  ·rintro⟨p,h1,h2⟩;exact⟨p,h1,by lia⟩
  ·rintro⟨p,h1,h2⟩;exact⟨p,h1,by lia⟩
 have eS:(λv:Nat=>(v:Int)∈sortI (kvs.map λp=>(p.1:Int)))=λv=>(kvs.lookup v).isSome=true:=funext λv=>propext (mem v)
 have nd:(kvs.map λp=>(p.1:Int)).Nodup:=by
  have e:kvs.map (λp=>(p.1:Int))=(kvs.map (·.1)).map fun(v:Nat)=>(v:Int):=by rw[Da];rfl
  rw[e]
  exact List.Pairwise.map _ (λx y h z=>h (by lia)) V.nd
 have inS:∀T:Nat->Prop,T a->Closed ts (flR rm) T->∀v,(kvs.lookup v).isSome=true->T v:=λT ta ct v hv=>by
  obtain⟨l,hl⟩:=BJ.mp hv
  exact Wf V Rm ta ct l v hl
 have hb':¬(kvs.lookup b).isSome=true:=λz=>sb (inS S sa c b z)
 have ha':(kvs.lookup a).isSome=true:=by rw[V.st];rfl
 have am:=ue ok ha F ha' hb' (uj V Rm)
 refine⟨Ic _ nd,λx hx=>?_,(mem a).mpr ha',λz=>hb' ((mem b).mp z),λT ta tb=>?_,λT ta tb e v hv=>?_,?_⟩
 ·rw[ph]at hx
  obtain⟨p,hp,rfl⟩:=BK.mp hx
  refine⟨p.1,rfl,?_⟩
  obtain⟨l,hl⟩:=BJ.mp (lookup_mem.mpr (List.mem_map_of_mem (f:=(·.1)) hp))
  exact V.lt _ l hl
 ·rw[eS,<-am]
  exact Ce ok ha F ta tb
 ·rw[eS,<-am]at e
  exact inS T ta (D3 ok ha F ta tb e.symm) v ((mem v).mp hv)
 ·exact⟨flR rm,F,by rw[eS];exact am⟩
theorem wx {n:Nat} (hr:c6 μ) (ok:∀t∈ts,TieOk m t) (hbd:∀t∈ts,0<=t.bound) (hm:m<64) (ht:ts.length<=10000) (ha:a<m) (hb:b<m) (hab:a≠b) :
  ∃(xs:List Int) (ν:Sto),LeastS m ts a b xs/\ag GL (n+6) fk [l6 m ts,.int a,.int b] μ=.ok (.tup (xs.map D.int)) ν/\Pre μ ν/\c6 ν:=by
 rw[ak y8,run_eq rfl]
 obtain⟨ν,rm,su,e,R,Rm,F,P,H,S,sa,sb,c⟩:=ot (n:=n) hr ok hbd (by lia) ht ha hb hab
 have k1:=ki e
 obtain⟨kvs,e2,V⟩:=rq (n:=n+3) ok (by lia) H R ha
 have lr:(rlL μ.length m).r=μ.length:=rfl
 rw[lr]at e2
 refine⟨_,ν++[.d (encL kvs)],Lv ok ha Rm F sa sb c V,?_,P.trans Pre.app,gh H rfl⟩
 have kl:kvs.length<64:=by
  have:=nc (m:=m) V.nd (λx hx=>by
   obtain⟨l,hl⟩:=BJ.mp (lookup_mem.mpr hx)
   exact V.lt _ l hl)
  rw[AM]at this
  lia
 have ek:(encL kvs).map (·.1)=(kvs.map λp=>(p.1:Int)).map D.int:=by
  unfold encL
  rw[Da,Da];rfl
 have sd:btD .sortedD .z [.loc ν.length] (ν++[.d (encL kvs)])=.ok (.lst ((sortI (kvs.map λp=>(p.1:Int))).map D.int)) (ν++[.d (encL kvs)]):=by
  simp![btD,g8,E9,keysOf,ny,DT,ek,mh]
  rw[if_pos (by rw[AM];exact kl),mi]
 simp![nD]at k1 e2
 simp! only[D_least_side,k1,e2,sd,bt_tuple bo]
end
open PySem
theorem N4:∀{l1 l2:List Int},l1.Pairwise (· < ·)->l2.Pairwise (· < ·)->(∀x,x∈l1↔x∈l2)->l1=l2
 | [],[],_,_,_=>rfl
 | [],y::r,_,_,h=>by have:=(h y).mpr AT;simp at this
 | x::r,[],_,_,h=>by have:=(h x).mp AT;simp at this
 | x::r,y::q,h1,h2,h=>by
  obtain⟨a1,a2⟩:=CI.mp h1
  obtain⟨b1,b2⟩:=CI.mp h2
  have e:x=y:=by
   rcases AG.mp ((h x).mp AT)with g | g
   ·exact g
   ·rcases AG.mp ((h y).mpr AT)with k | k
    ·exact k.symm
    ·have:=b1 x g
     have:=a1 y k
     lia
  subst e
  rw[N4 a2 b2 λz=>⟨λhz=>by
   rcases AG.mp ((h z).mp (AJ _ hz))with g | g
   ·have:=a1 z hz;lia
   ·exact g,λhz=>by
   rcases AG.mp ((h z).mpr (AJ _ hz))with g | g
   ·have:=b1 z hz;lia
   ·exact g⟩]
open Classical in
theorem jd (ts:List Tie) (xs:List Int):jr ts xs=di ts (λv=>(v:Int)∈xs):=by
 have g:∀l:List Tie,((l.filter λt=>decide ((t.one:Int)∈xs/\¬(t.other:Int)∈xs)).map (·.bound)).sum=(l.map λt=>if(t.one:Int)∈xs/\¬(t.other:Int)∈xs then t.bound else 0).sum:=by
  intro l
  induction l with
  | nil=>rfl
  | cons t r ih =>
   rw[HB,AO,CP,<-ih]
   by_cases h:(t.one:Int)∈xs/\¬(t.other:Int)∈xs
   ·rw[if_pos (by simpa using h),if_pos h,AO,CP]
   ·rw[if_neg (by simpa using h),if_neg h,Int.zero_add]
 unfold jr di
 rw[show((ts.filter λt=>decide ((t.one:Int)∈xs/\¬(t.other:Int)∈xs)).map (·.bound)).sum=((ts.filter λt=>decide ((t.one:Int)∈xs/\¬(t.other:Int)∈xs)).map (·.bound)).sum from rfl,g,mw (λt:Tie=>if(t.one:Int)∈xs/\¬(t.other:Int)∈xs then t.bound else 0) T0]
 refine ax λk _=>?_
 unfold au
 by_cases h:((ts.getD k T0).one:Int)∈xs/\¬((ts.getD k T0).other:Int)∈xs
 ·rw[if_pos h,if_pos h]
 ·rw[if_neg h,if_neg h]
open PySem
section
variable {n : Nat} {μ : Sto} {m : Nat} {ts : List Tie}
theorem Q9 (xs:List Int):(D.tup (xs.map D.int)).pure=true:=by
 rw[D.pure,g9,AR];intro x hx;obtain⟨i,_,rfl⟩:=BK.mp hx;rfl
theorem kd (A:Int) (xs:List Int):(D.tup [.int A,.tup (xs.map D.int)]).pure=true:=by
 have h:D.pureN 7 (.tup (xs.map D.int))=true:=by
  rw[g9,AR];intro x hx;obtain⟨i,_,rfl⟩:=BK.mp hx;rfl
 rw[D.pure,g9]
 simp![BM,HG,h,FN]
 rfl
theorem ng {n:Nat} (ok:∀t∈ts,TieW m t) (hm:m<64) (ht:ts.length<=1000) {a b:Nat} (ha:a<m) (hb:b<m) (hab:a≠b) :
  ∃xs:List Int,LeastS m ts a b xs/\iy (ag GL (n+6)) false fk [l6 m ts,.int a,.int b] []=.ok (.tup (xs.map D.int)) []:=by
 obtain⟨xs,ν,V,e,P,H⟩:=wx (n:=n) (μ:=[]) rfl (λt h=>(ok t h).ok) (λt h=>(ok t h).nn) hm (by lia) ha hb hab
 exact⟨xs,V,oi e (Q9 _) (by simp)⟩
end
open PySem
section
variable {n : Nat} {μ : Sto} {m : Nat} {ts : List Tie}
theorem Cy (ok:∀t∈ts,TieOk m t) {a b:Nat} (ha:a<m) {fl:Nat->Int} (F:FlowOk m ts a b fl) {S:Nat->Prop} (sa:S a) (sb:¬S b) (c:Closed ts fl S) {xs:List Int} (V:LeastS m ts a b xs):outF ts fl a=jr ts xs:=by
 have h1:=ue ok ha F sa sb c
 have h2:=V.lo S sa sb
 have h3:=Ce ok ha F (S:=λv=>(v:Int)∈xs) V.ha V.hb
 rw[jd]
 lia
end
open PySem
section
variable {n : Nat} {μ : Sto} {m : Nat} {ts : List Tie}
theorem Lw {ts':List Tie} {m' a b:Nat} {xs xs':List Int} (V:LeastS m ts a b xs) (V':LeastS m' ts' a b xs') (h1:di ts (λv=>(v:Int)∈xs')=di ts (λv=>(v:Int)∈xs)) (h2:di ts' (λv=>(v:Int)∈xs)=di ts' (λv=>(v:Int)∈xs')):xs'=xs:=by
 refine N4 V'.pw V.pw λx=>⟨λh=>?_,λh=>?_⟩
 ·obtain⟨v,rfl,_⟩:=V'.rng x h
  exact V'.min (λv=>(v:Int)∈xs) V.ha V.hb h2 v h
 ·obtain⟨v,rfl,_⟩:=V.rng x h
  exact V.min (λv=>(v:Int)∈xs') V'.ha V'.hb h1 v h
end
open PySem
section
variable {n : Nat} {μ : Sto} {m : Nat} {ts : List Tie}
open Classical in
def wT (T:Nat->Prop) (t:Tie):Int:=if T t.one/\¬T t.other then t.bound else 0
theorem nh (ts:List Tie) (T:Nat->Prop):di ts T=(ts.map (wT T)).sum:=by
 rw[mw (wT T) T0]
 rfl
theorem D9 {ts':List Tie} {m' a b:Nat} {xs xs':List Int} {c:Int} (hc:0<c) (V:LeastS m ts a b xs) (V':LeastS m' ts' a b xs') (h:∀T,di ts' T=c*di ts T):xs'=xs/\jr ts' xs'=c*jr ts xs:=by
 have b1:=V.lo (λv=>(v:Int)∈xs') V'.ha V'.hb
 have b2:=V'.lo (λv=>(v:Int)∈xs) V.ha V.hb
 rw[h,h]at b2
 have b3:=Int.le_of_mul_le_mul_left b2 hc
 have e:di ts (λv=>(v:Int)∈xs')=di ts (λv=>(v:Int)∈xs):=by lia
 refine⟨Lw V V' e (by rw[h,h,e]),?_⟩
 rw[jd,jd,h,e]
theorem Ea {ts':List Tie} {a b:Nat} {xs xs':List Int} (V:LeastS m ts a b xs) (V':LeastS m ts' b a xs') (h:∀T,di ts' T=di ts (λv=>¬T v)):jr ts' xs'=jr ts xs:=by
 have b1:=V.lo (λv=>¬(v:Int)∈xs') V'.hb (λz=>z V'.ha)
 have b2:=V'.lo (λv=>¬(v:Int)∈xs) V.hb (λz=>z V.ha)
 rw[<-h]at b1
 rw[h (λv=>¬(v:Int)∈xs)]at b2
 have e:(λv:Nat=>¬¬(v:Int)∈xs)=λv:Nat=>(v:Int)∈xs:=funext λv=>propext IN
 rw[e]at b2
 rw[jd,jd]
 lia
theorem Ji (ok:∀t∈ts,TieW m t) (hm:m<64) (ht:ts.length<=1000) {a b:Nat} (ha:a<m) (hb:b<m) (hab:a≠b) :
  ∃xs:List Int,LeastS m ts a b xs/\ag GL (n+7) cv [l6 m ts,.int a,.int b] []=.ok (.tup [.int (jr ts xs),.tup (xs.map D.int)]) []:=by
 rw[ak D0,run_eq rfl]
 obtain⟨xs,V,k1⟩:=ng (n:=n) ok hm ht ha hb hab
 obtain⟨fs,hf,F,⟨S,sa,sb,c⟩,k0⟩:=ou (n:=n) ok (by lia) ht ha hb hab
 have eA:=Cy (λt h=>(ok t h).ok) ha F sa sb c V
 rw[eA]at k0
 have o0:∀A,ixD (zv A fs) (.int 0) []=.ok (.int A) []:=λ_=>rfl
 refine⟨xs,V,?_⟩
 simp! only[D_law_told,k0,o0,k1]
theorem Ra {ds:List D} {d:D} {i:Int} (h0:0<=i) (h1:i<=(ds.length:Int)) (hl:ds.length<1000) (hd:d.pure=true):mtD .insert (.loc μ.length) [.int i,d] (μ++[.l ds])=.ok .non (μ++[.l (ds.take i.toNat++d::ds.drop i.toNat)]):=by
 have h2:ds.length<lim:=by unfold lim;lia
 simp![mtD,yf,ny,d9,mtL,h0,h1,h2,fits,hd,and_self,if_true,putL,wc]
theorem Jj {xs:List D} {k:Nat}:slD .z (.lst xs) none (some (k:Int)) μ=.ok (.lst (xs.take k)) μ:=by
 simp![slD,Lp.listOf,mi,K8]
theorem Jk {xs:List D} {k:Nat}:slD .z (.lst xs) (some (k:Int)) none μ=.ok (.lst (xs.drop k)) μ:=by
 simp![slD,Lp.listOf,mi,K9]
theorem Eb (hr:c6 μ) (ht:ts.length<=100) (c:Int):∃(ts':List Tie) (ρ:Sto),ts'.length=ts.length/\(∀t∈ts',t∈ts)/\(∀f:Tie->Int,(ts'.map f).sum=(ts.map f).sum)/\ag GL (n+2) gc [.lst (ts.map eTie),.int c] μ=.ok (.lst (ts'.map eTie)) (μ++ρ):=by
 rw[ak wb,run_eq rfl]
 have hlen:∀ν:Sto,btD .len .z [.lst (ts.map eTie)] ν=.ok (.int ts.length) ν:=λν=>by rw[bt_len bo,AM]
 obtain⟨σ',μ',e,ts',v3,hl,hs,hf,rfl,rfl⟩:=ly (φ:=ag GL (n+1)) (μ:=μ++[.l []]) (tg:=.one 3) (b:=fw) (xs:=List.range ts.length) (en:=fun(k:Nat)=>D.int k)
  (σ:=[some (.lst (ts.map eTie)),some (.int c),some (.loc μ.length),none])
  (λk σ μ'=>∃(ts':List Tie) (v3:Option D),ts'.length=k/\(∀t∈ts',t∈ts)/\(∀f:Tie->Int,(ts'.map f).sum=((ts.take k).map f).sum)/\σ=[some (.lst (ts.map eTie)),some (.int c),some (.loc μ.length),v3]/\μ'=μ++[.l (ts'.map eTie)])
  ⟨[],none,rfl,by simp,by simp,rfl,rfl⟩ (by
   rintro k q σ μ' hq ⟨ts',v3,hl,hs,hf,rfl,rfl⟩
   have hk:k<ts.length:=by have:=(AC.mp hq).1;simpa using this
   have eq:q=k:=by
    rw[FU hk]at hq
    simpa using hq.symm
   subst eq
   have H:c6 (μ++[.l (ts'.map eTie)]):=Hx hr _
   have et:ts[q]? = some (au ts q):=by unfold au;simp[hk]
   have i0:ixD (.lst (ts.map eTie)) (.int q) (μ++[.l (ts'.map eTie)])=.ok (eTie (au ts q)) (μ++[.l (ts'.map eTie)]):=B4 bo (by rw[AX,et];rfl)
   have x0:0<=az c q % (q+1):=BR _ (by lia)
   have x1:az c q % (q+1)<q+1:=BQ _ (by lia)
   have tk:ts.take (q+1)=ts.take q++[au ts q]:=by rw[DO,et];rfl
   have hm:=ja hk
   generalize au ts q=t at *
   obtain⟨j,hj⟩:∃j:Nat,(j:Int)=az c q % (q+1):=⟨(az c q % (q+1)).toNat,by lia⟩
   have mm:opI .Mod (az c q) (q+1) (μ++[.l (ts'.map eTie)])=.ok (.int j) (μ++[.l (ts'.map eTie)]):=by rw[op_mod (by lia),hj]
   have is:=Ra (μ:=μ) (ds:=ts'.map eTie) (d:=eTie t) (i:=(j:Int)) (by lia) (by rw[AM];lia) (by rw[AM];lia) (rf t)
   rw[DN,<-GV,<-IG]at is
   have ed:(ts'.take j).map eTie++eTie t::(ts'.drop j).map eTie=(ts'.take j++t::ts'.drop j).map eTie:=by simp
   rw[ed]at is
   refine⟨[some (.lst (ts.map eTie)),some (.int c),some (.loc μ.length),some (.int q)],μ++[.l ((ts'.take j++t::ts'.drop j).map eTie)],?_,_,_,?_,?_,?_,rfl,rfl⟩
   ·generalize (ts'.take j++t::ts'.drop j).map eTie=X at *
    simp! only[fLp,fw,V7,j8 (n:=n) H,mm,i0,is]
   ·simp;lia
   ·intro z hz
    rcases BN.mp hz with g | g
    ·exact hs z (EF g)
    ·rcases AG.mp g with rfl | g
     ·exact hm
     ·exact hs z (List.mem_of_mem_drop g)
   ·intro f
    have h1:=hf f
    have h2:(ts'.map f).sum=((ts'.take j).map f).sum+((ts'.drop j).map f).sum:=by
     conv=>lhs;rw[<-HY j ts']
     rw[BO,DQ]
    rw[tk,BO,BO,DQ,DQ,AO,CP,<-h1,h2]
    simp
    lia)
 rw[GO]at hl hf
 rw[DG (AN _)]at hf
 have e0:mkL .l [] μ=.ok (.loc μ.length) (μ++[.l []]):=Hv rfl
 refine⟨ts',[.dead],hl,hs,hf,?_⟩
 generalize ts'.map eTie=X at *
 have fz:evE (ag GL (n+1)) (.frz 2) [some (.lst (ts.map eTie)),some (.int c),some (.loc μ.length),v3] (μ++[.l X])=.ok (.lst X) (μ++[.dead]):=by
  simp[evE]
 simp! only[D_law_mixed_2,e0,hlen,o8 (show ts.length<=1000000 by lia),e,fz]
theorem Jl (ok:∀t∈ts,TieW m t/\t.price<13) (ht:ts.length<=100) (c:Int):∃ts':List Tie,ts'.length<=ts.length+1/\(∀t∈ts',TieW m t)/\(∀T,(ts'.map (wT T)).sum=(ts.map (wT T)).sum)/\ag GL (n+1) ig [.lst (ts.map eTie),.int c] μ=.ok (.lst (ts'.map eTie)) μ:=by
 rw[ak y9,run_eq rfl]
 have hlen:btD .len .z [.lst (ts.map eTie)] μ=.ok (.int ts.length) μ:=by rw[bt_len bo,AM]
 by_cases h0:ts.length=0
 ·refine⟨ts,by lia,λt h=>(ok t h).1,λ_=>rfl,?_⟩
  have hz:(ts.length:Int)=0:=by lia
  simp! only[D_law_parted,hlen,hz]
 ·have hz:¬(ts.length:Int)=0:=by lia
  have x0:0<=c % (ts.length:Int):=BR _ (by lia)
  have x1:c % (ts.length:Int)<ts.length:=BQ _ (by lia)
  obtain⟨k,ek⟩:∃k:Nat,(k:Int)=c % (ts.length:Int):=⟨(c % (ts.length:Int)).toNat,by lia⟩
  have hk:k<ts.length:=by lia
  have et:ts[k]? = some (au ts k):=by unfold au;simp[hk]
  have i0:ixD (.lst (ts.map eTie)) (.int k) μ=.ok (eTie (au ts k)) μ:=B4 bo (by rw[AX,et];rfl)
  have mm:opI .Mod c ts.length μ=.ok (.int k) μ:=by rw[op_mod (by lia),ek]
  obtain⟨w1,w2⟩:=ok _ (ja hk)
  have split:ts=ts.take k++au ts k::ts.drop (k+1):=by
   conv=>lhs;rw[<-HY k ts]
   congr 1
   have hg:=EA hk
   rw[hg]
   congr 1
   unfold au
   simp[hk]
  generalize au ts k=t at *
  have y0:0<=c / 24 % (t.bound+1):=BR _ (by have:=w1.nn;lia)
  have y1:c / 24 % (t.bound+1)<t.bound+1:=BQ _ (by have:=w1.nn;lia)
  have m2:opI .Mod (c / 24) (t.bound+1) μ=.ok (.int (c / 24 % (t.bound+1))) μ:=op_mod (by have:=w1.nn;lia)
  generalize c / 24 % (t.bound+1)=z at *
  have s1:slD .z (.lst (ts.map eTie)) none (some (k:Int)) μ=.ok (.lst ((ts.take k).map eTie)) μ:=by rw[Jj,GV]
  have s2:slD .z (.lst (ts.map eTie)) (some ((k:Int)+1)) none μ=.ok (.lst ((ts.drop (k+1)).map eTie)) μ:=by
   rw[show(k:Int)+1=((k+1:Nat):Int)by lia,Jk,IG]
  refine⟨ts.take k++[⟨t.one,t.other,z,t.price⟩,⟨t.one,t.other,t.bound-z,t.price+1⟩]++ts.drop (k+1),?_,?_,?_,?_⟩
  ·simp;lia
  ·intro q hq
   rcases BN.mp hq with hq | hq
   ·rcases BN.mp hq with hq | hq
    ·exact(ok q (EF hq)).1
    ·simp![AG,BS,or_false]at hq
     have p0:=w1.ok.p0
     rcases hq with rfl | rfl
     ·exact⟨⟨w1.ok.one,w1.ok.other,w1.ok.p0,w1.ok.p1⟩,y0⟩
     ·exact⟨⟨w1.ok.one,w1.ok.other,by show 0<=t.price+1;lia,by show t.price+1<_;lia⟩,by show 0<=t.bound-z;lia⟩
   ·exact(ok q (List.mem_of_mem_drop hq)).1
  ·intro T
   conv=>rhs;rw[split]
   rw[BO,BO,BO,DQ,DQ,DQ,AO,AO,CZ,AO,CP,CP,List.sum_nil,CP]
   have:wT T ⟨t.one,t.other,z,t.price⟩+wT T ⟨t.one,t.other,t.bound-z,t.price+1⟩=wT T t:=by
    unfold wT
    by_cases h:T t.one/\¬T t.other
    ·rw[if_pos h,if_pos h,if_pos h];show z+(t.bound-z)=t.bound;lia
    ·rw[if_neg h,if_neg h,if_neg h];rfl
   lia
  ·have e1:(D.tup [.int t.one,.int t.other,.int z,.int t.price])=eTie ⟨t.one,t.other,z,t.price⟩:=rfl
   have e2:(D.tup [.int t.one,.int t.other,.int (t.bound-z),.int (t.price+1)])=eTie ⟨t.one,t.other,t.bound-z,t.price+1⟩:=rfl
   have c1:=Wr (μ:=μ) (xs:=(ts.take k).map eTie) (ys:=[eTie ⟨t.one,t.other,z,t.price⟩,eTie ⟨t.one,t.other,t.bound-z,t.price+1⟩]) (by simp;lia)
   have c2:=Wr (μ:=μ) (xs:=(ts.take k).map eTie++[eTie ⟨t.one,t.other,z,t.price⟩,eTie ⟨t.one,t.other,t.bound-z,t.price+1⟩]) (ys:=(ts.drop (k+1)).map eTie) (by simp;lia)
   have ew:(ts.take k++[(⟨t.one,t.other,z,t.price⟩:Tie),⟨t.one,t.other,t.bound-z,t.price+1⟩]++ts.drop (k+1)).map eTie=(ts.take k).map eTie++[eTie ⟨t.one,t.other,z,t.price⟩,eTie ⟨t.one,t.other,t.bound-z,t.price+1⟩]++(ts.drop (k+1)).map eTie:=by simp
   rw[<-ew]at c2
   generalize (ts.take k++[(⟨t.one,t.other,z,t.price⟩:Tie),⟨t.one,t.other,t.bound-z,t.price+1⟩]++ts.drop (k+1)).map eTie=X3 at c2 ⊢
   generalize (ts.take k).map eTie++[eTie ⟨t.one,t.other,z,t.price⟩,eTie ⟨t.one,t.other,t.bound-z,t.price+1⟩]=X at c1 c2
   generalize (ts.take k).map eTie=X1 at c1 s1
   generalize (ts.drop (k+1)).map eTie=X2 at c2 s2
   simp! only[D_law_parted,hlen,hz,mm,i0,we,qw (show(0:Int)<24 by decide) (by decide),m2,s1,e1,e2,c1,s2,c2]
end
open PySem
section
variable {n : Nat} {μ : Sto} {m : Nat} {ts : List Tie}
theorem Rb (hr:c6 μ) (cs:List Int) (m:Nat) (hm:2<=m) (hm2:m<=100) (hc:cs.length<=24):∃ts ρ,ts.length=cs.length/\(∀t∈ts,TieW m t/\t.price<13)/\ag GL (n+3) gq [.lst (cs.map D.int),.int m] μ=.ok (l6 m ts) (μ++ρ):=by
 rw[ak rd,run_eq rfl]
 obtain⟨σ',μ',e,ts,v3,v4,v5,v6,hl,hok,rfl,rfl⟩:=ly (φ:=ag GL (n+2)) (μ:=μ++[.l []]) (tg:=.one 3) (b:=dg) (xs:=cs) (en:=D.int)
  (σ:=[some (.lst (cs.map D.int)),some (.int m),some (.loc μ.length),none,none,none,none])
  (λk σ μ'=>∃(ts:List Tie) (v3 v4 v5 v6:Option D),ts.length=k/\(∀t∈ts,TieW m t/\t.price<13)/\σ=[some (.lst (cs.map D.int)),some (.int m),some (.loc μ.length),v3,v4,v5,v6]/\μ'=μ++[.l (ts.map eTie)])
  ⟨[],none,none,none,none,rfl,by simp,rfl,rfl⟩ (by
   rintro k c σ μ' ha ⟨ts,v3,v4,v5,v6,hl,hok,rfl,rfl⟩
   have hk:k<cs.length:=(AC.mp ha).1
   have H:c6 (μ++[.l (ts.map eTie)]):=Hx hr _
   obtain⟨B,hB0,hB⟩:=um (n:=n) H c
   have x0:0<=az c 1 % m:=BR _ (by lia)
   have x1:az c 1 % m<m:=BQ _ (by lia)
   have y0:0<=(az c 1 % m+1+az c 1 / m % (m-1)) % m:=BR _ (by lia)
   have y1:(az c 1 % m+1+az c 1 / m % (m-1)) % m<m:=BQ _ (by lia)
   have et:(D.tup [.int (az c 1 % m),.int ((az c 1 % m+1+az c 1 / m % (m-1)) % m),.int B,.int (az c 2 % 13)])=eTie ⟨(az c 1 % m).toNat,((az c 1 % m+1+az c 1 / m % (m-1)) % m).toNat,B,az c 2 % 13⟩:=by
    simp![eTie,DR x0,DR y0]
   refine⟨[some (.lst (cs.map D.int)),some (.int m),some (.loc μ.length),some (.int c),some (.int (az c 1)),some (.int (az c 1 % m)),some (.int ((az c 1 % m+1+az c 1 / m % (m-1)) % m))],
    μ++[.l ((ts++[(⟨(az c 1 % m).toNat,((az c 1 % m+1+az c 1 / m % (m-1)) % m).toNat,B,az c 2 % 13⟩:Tie)]).map eTie)],?_,_,_,_,_,_,by simp[hl],?_,rfl,rfl⟩
   ·simp! only[fLp,dg,j8 (n:=n+1) H,op_mod (show(0:Int)<m by lia),op_mod (show(0:Int)<m-1 by lia),qw (show(0:Int)<m by lia) (show(m:Int)<1073741824 by lia),op_mod (show(0:Int)<13 by decide),dz hB rfl rfl H,
     Nx,et,Ny (rf _) (show(ts.map eTie).length<1000000 by rw[AM];lia),BO]
   ·intro t ht
    rcases BN.mp ht with h | h
    ·exact hok t h
    ·rw[DK.mp h]
     have z1:az c 2 % 13<13:=BQ _ (by decide)
     exact⟨⟨⟨by show Int.toNat _<m;lia,by show Int.toNat _<m;lia,BR _ (by decide),by show az c 2 % 13<_;lia⟩,hB0⟩,z1⟩)
 refine⟨ts,[.l (ts.map eTie)],by simpa using hl,hok,?_⟩
 have e0:mkL .l [] μ=.ok (.loc μ.length) (μ++[.l []]):=Hv rfl
 simp! only[D_law_web_2,e0,e,bt_tuple wd,l6]
theorem sf {ts':List Tie} {m' a b:Nat} {xs:List Int} {c:Int} (hc:0<c) (V:LeastS m ts a b xs) (ok:∀t∈ts',TieW m' t) (hm:m'<64) (ht:ts'.length<=1000) (ha:a<m') (hb:b<m') (hab:a≠b) (h:∀T,(ts'.map (wT T)).sum=c*(ts.map (wT T)).sum) :
  iy (ag GL (n+7)) false cv [.tup [.int m',.tup (ts'.map eTie)],.int a,.int b] []=.ok (.tup [.int (c*jr ts xs),.tup (xs.map D.int)]) []:=by
 obtain⟨xs',V',e⟩:=Ji (n:=n) ok hm ht ha hb hab
 obtain⟨e1,e2⟩:=D9 hc V V' λT=>by rw[nh,nh];exact h T
 rw[e2,e1]at e
 exact dz e (kd _ _) rfl rfl
def Rj (c:Int) (t:Tie):Tie:=⟨t.one,t.other,t.bound*c,t.price⟩
def zw (t:Tie):Tie:=⟨t.other,t.one,t.bound,t.price⟩
theorem Jm (c:Int) (T:Nat->Prop):∀ts:List Tie,((ts.map (Rj c)).map (wT T)).sum=c*(ts.map (wT T)).sum
 | []=>by simp
 | t::r=>by
  rw[AO,AO,CP,AO,CP,Jm c T r,Int.mul_add]
  congr 1
  unfold wT Rj
  by_cases h:T t.one/\¬T t.other
  ·rw[if_pos h,if_pos h,HH]
  ·rw[if_neg h,if_neg h,Int.mul_zero]
theorem Cz (T:Nat->Prop):∀ts:List Tie,((ts.map zw).map (wT T)).sum=(ts.map (wT λv=>¬T v)).sum
 | []=>rfl
 | t::r=>by
  rw[AO,AO,CP,AO,CP,Cz T r]
  congr 1
  unfold wT zw
  by_cases h:T t.other/\¬T t.one
  ·rw[if_pos h,if_pos ⟨h.2,λz=>z h.1⟩]
  ·rw[if_neg h,if_neg λz=>h ⟨IN.mp z.2,z.1⟩]
theorem Rc (A:Int) (xs:List Int):cpD .ne (.tup [.int A,.tup (xs.map D.int)]) (.tup [.int A,.tup (xs.map D.int)]) μ=.ok (.bl false) μ:=by rw[Qi (kd A xs) (kd A xs),pe 8 _ (kd A xs)];rfl
theorem Wg (A:Int) (xs:List Int):cpD .eq (.tup [.int A,.tup (xs.map D.int)]) (.tup [.int A,.tup (xs.map D.int)]) μ=.ok (.bl true) μ:=by rw[Yt (kd A xs) (kd A xs),pe 8 _ (kd A xs)]
theorem Jn (ts:List Tie):(D.lst (ts.map eTie)).pure=true:=by
 rw[D.pure,vv,AR];intro x hx;obtain⟨i,_,rfl⟩:=BK.mp hx;rfl
theorem Y5 (ns:List Int):∃μ',ag GL 8 qz [.lst (ns.map D.int)] []=.ok (.bl true) μ':=by
 rw[ak Hu,run_eq rfl]
 have hr:c6 []:=rfl
 obtain⟨hd,ehd⟩:∃hd:Int,hd=az (ns.getD 0 0) 0:=⟨_,rfl⟩
 have hd0:0<=hd:=by rw[ehd];exact Lc _ _
 obtain⟨cl,ecl⟩:∃cl:Int,cl=az (ns.getD 1 0) 0:=⟨_,rfl⟩
 obtain⟨m,hm⟩:∃m:Nat,(m:Int)=2+hd % 6:=⟨(2+hd % 6).toNat,by lia⟩
 have hm1:2<=m/\m<=7:=by lia
 obtain⟨cs,hc,esl⟩:=V6 ns (i:=2) (j:=26) (w:=24) (by lia) (by lia)
 obtain⟨ts,ρ,htl,hok,ew⟩:=Rb (n:=4) hr cs m hm1.1 (by lia) hc
 have kw:=nv ew (La m ts) hr
 obtain⟨a,b,⟨ha,hb,hab⟩,ee⟩:=Jh (n:=6) (μ:=[]) hd m hm1.1
 have ke:=dz ee rfl rfl hr
 have z0:iy (ag GL 7) false dq [.lst (ns.map D.int),.int 0] []=.ok (.int (ns.getD 0 0)) []:=Hz (n:=6) hr ns 0
 have z1:iy (ag GL 7) false dq [.lst (ns.map D.int),.int 1] []=.ok (.int (ns.getD 1 0)) []:=Hz (n:=6) hr ns 1
 have okW:∀t∈ts,TieW m t:=λt h=>(hok t h).1
 obtain⟨xs,V,k0⟩:=Ji (n:=0) okW (by lia) (by lia) ha hb hab
 have k1:=dz k0 (kd _ _) rfl hr
 rw[show l6 m ts=.tup [.int m,.tup (ts.map eTie)]from rfl]at k1
 obtain⟨ts1,ρ1,hl1,hs1,hf1,e1⟩:=Eb (n:=5) hr (ts:=ts) (by lia) cl
 have m1:=nv e1 (Jn ts1) hr
 obtain⟨ts2,hl2,hs2,hf2,e2⟩:=Jl (n:=6) (μ:=[]) (m:=m) hok (by lia) cl
 have m2:=dz e2 (Jn ts2) rfl hr
 have hx0:¬(xs.length:Int)=0:=by
  intro z
  have h:=V.ha
  rw[List.eq_nil_of_length_eq_zero (show xs.length=0 by lia)]at h
  simp at h
 have lx:btD .len .z [.tup (xs.map D.int)] []=.ok (.int xs.length) []:=by rw[bt_len yz,AM]
 have o0:∀A:Int,ixD (.tup [.int A,.tup (xs.map D.int)]) (.int 0) []=.ok (.int A) []:=λ_=>rfl
 have o1:∀A:Int,ixD (.tup [.int A,.tup (xs.map D.int)]) (.int 1) []=.ok (.tup (xs.map D.int)) []:=λ_=>rfl
 have bl:btD .list .z [.tup (ts.map eTie)] []=.ok (.lst (ts.map eTie)) []:=by rw[bt_list yz,mi]
 have bt:∀l:List Tie,btD .tuple .z [.lst (l.map eTie)] []=.ok (.tup (l.map eTie)) []:=λl=>bt_tuple bo
 have ca:opD .Add .z (.lst (ts.map eTie)) (.lst [.tup [.int a,.int b,.int 0,.int 3]]) []=.ok (.lst ((ts++[(⟨a,b,0,3⟩:Tie)]).map eTie)) []:=by
  rw[Wr (by simp;lia),BO];rfl
 have ku:∀l:List Tie,(∀t∈l,TieW m t)->l.length<=1000->(∀T,(l.map (wT T)).sum=(ts.map (wT T)).sum)->iy (ag GL 7) false cv [.tup [.int m,.tup (l.map eTie)],.int a,.int b] []=.ok (.tup [.int (jr ts xs),.tup (xs.map D.int)]) []:=λl h1 h2 h3=>by
  have:=sf (n:=0) (c:=1) (by decide) V h1 (by lia) h2 ha hb hab (λT=>by rw[GP];exact h3 T)
  rw[GP]at this
  exact this
 have u1:=ku ts1 (λt h=>okW t (hs1 t h)) (by lia) λT=>hf1 (wT T)
 have u2:=ku ts2 hs2 (by lia) hf2
 have u3:=ku (ts++[(⟨a,b,0,3⟩:Tie)]) (λt h=>by
  rcases BN.mp h with h | h
  ·exact okW t h
  ·rw[DK.mp h]
   exact⟨⟨ha,hb,by show(0:Int)<=3;decide,by show(3:Int)<_;decide⟩,by show(0:Int)<=0;decide⟩) (by simp;lia) (λT=>by
  rw[BO,DQ]
  have:wT T (⟨a,b,0,3⟩:Tie)=0:=by unfold wT;split<;>rfl
  simp[this])
 have x0:0<=cl % 9:=BR _ (by decide)
 have x1:cl % 9<9:=BQ _ (by decide)
 have u4:=sf (n:=0) (c:=1+cl % 9) (ts':=ts.map (Rj (1+cl % 9))) (by lia) V (λt h=>by
  obtain⟨t0,h0,rfl⟩:=BK.mp h
  have w:=okW t0 h0
  exact⟨⟨w.ok.one,w.ok.other,w.ok.p0,w.ok.p1⟩,Int.mul_nonneg w.nn (by lia)⟩) (by lia) (by rw[AM];lia) ha hb hab (λT=>Jm _ T ts)
 rw[HH (1+cl % 9) (jr ts xs)]at u4
 have okB:∀t∈ts.map zw,TieW m t:=λt h=>by
  obtain⟨t0,h0,rfl⟩:=BK.mp h
  have w:=okW t0 h0
  exact⟨⟨w.ok.other,w.ok.one,w.ok.p0,w.ok.p1⟩,w.nn⟩
 obtain⟨xb,VB,_⟩:=ng (n:=1) okB (by lia) (by rw[AM];lia) hb ha (Ne.symm hab)
 obtain⟨fb,hfb,FB,⟨SB,sa,sb,cb⟩,u5⟩:=ou (n:=1) okB (by lia) (by rw[AM];lia) hb ha (Ne.symm hab)
 rw[Cy (λt h=>(okB t h).ok) hb FB sa sb cb VB,Ea V VB (λT=>by rw[nh,nh];exact Cz T ts),show l6 m (ts.map zw)=.tup [.int m,.tup ((ts.map zw).map eTie)]from rfl]at u5
 have o2:∀A:Int,ixD (zv A fb) (.int 0) []=.ok (.int A) []:=λ_=>rfl
 have u6:=sf (n:=0) (c:=1) (m':=m+1) (ts':=ts) (by decide) V (λt h=>by
  have w:=okW t h
  exact⟨⟨DF w.ok.one,DF w.ok.other,w.ok.p0,w.ok.p1⟩,w.nn⟩) (by lia) (by lia) (by lia) (by lia) hab (λT=>by rw[GP])
 rw[GP,show(((m+1:Nat):Int))=(m:Int)+1 by lia]at u6
 generalize jr ts xs=A at *
 obtain⟨σ1,el,v8,rfl⟩:=Qk (φ:=ag GL 7) (μ:=[]) (tg:=.one 8) (b:=j4) (xs:=[ts1,ts2,ts++[(⟨a,b,0,3⟩:Tie)]]) (en:=λl=>D.lst (l.map eTie))
  (σ:=[some (.lst (ns.map D.int)),some (.int hd),some (.int m),some (.int cl),some (.lst (ts.map eTie)),some (.int a),some (.int b),some (.tup [.int A,.tup (xs.map D.int)]),none,none,none,none,none])
  (λ_ σ=>∃v8,σ=[some (.lst (ns.map D.int)),some (.int hd),some (.int m),some (.int cl),some (.lst (ts.map eTie)),some (.int a),some (.int b),some (.tup [.int A,.tup (xs.map D.int)]),v8,none,none,none,none]) ⟨_,rfl⟩ (by
   rintro i l σ hl ⟨v8,rfl⟩
   have u:iy (ag GL 7) false cv [.tup [.int m,.tup (l.map eTie)],.int a,.int b] []=.ok (.tup [.int A,.tup (xs.map D.int)]) []:=by
    have:=BC hl
    simp![AG,BS,or_false]at this
    rcases this with rfl | rfl | rfl
    ·exact u1
    ·exact u2
    ·exact u3
   refine⟨_,?_,some (.lst (l.map eTie)),rfl⟩
   simp! only[fLp,j4,bt,u,Rc])
 simp![AO,CZ]at el
 have c1:j0 (ag GL 7) .z (.one 0) .nil j5 [none] (ts.map eTie,none) []=.ok (.lst ((ts.map λt:Tie=>t.bound).map D.int)) []:=by
  rw[comp_map (g:=λt:Tie=>D.int t.bound) λt _=>by simp! only[ox,j5,D1]]
  rw[mi,Da];rfl
 have cm:opD .Add .z (.lst [.int 1]) (.lst ((ts.map λt:Tie=>t.bound).map D.int)) []=.ok (.lst (.int 1::(ts.map λt:Tie=>t.bound).map D.int)) []:=by
  rw[Wr (by simp;lia)];rfl
 have mx:btD .max1 .z [.lst (.int 1::(ts.map λt:Tie=>t.bound).map D.int)] []=.ok (.int (Ec 1 (ts.map λt:Tie=>t.bound))) []:=by
  have ei:bz (.int 1::(ts.map λt:Tie=>t.bound).map D.int)=some ((1:Int)::ts.map λt:Tie=>t.bound):=mh ((1:Int)::ts.map λt:Tie=>t.bound)
  simp![btD,g8,Tf,J7,bj,DT,ei]
 generalize Ec 1 (ts.map λt:Tie=>t.bound)=B at *
 have e40:opI .Pow 10 40 []=.ok (.int (10 ^ 40)) []:=op_pow (by decide)
 have cmul:∀i:Int,CMul i (1+cl % 9):=λi=>.right (by lia) (by lia)
 have c2:j0 (ag GL 7) .z (.one 1) .nil j6 [some (.int (1+cl % 9)),none] (ts.map eTie,none) []=.ok (.lst ((ts.map (Rj (1+cl % 9))).map eTie)) []:=by
  rw[comp_map (g:=λt:Tie=>eTie (Rj (1+cl % 9) t)) λt _=>by
   have et:(D.tup [.int t.one,.int t.other,.int (t.bound*(1+cl % 9)),.int t.price])=eTie (Rj (1+cl % 9) t):=rfl
   simp! only[ox,j6,V3,V5,D1,V1,op_mul (cmul t.bound),et]]
  rw[mi,Da];rfl
 have c3:j0 (ag GL 7) .z (.one 0) .nil j7 [none] (ts.map eTie,none) []=.ok (.lst ((ts.map zw).map eTie)) []:=by
  rw[comp_map (g:=λt:Tie=>eTie (zw t)) λt _=>by
   have et:(D.tup [.int t.other,.int t.one,.int t.bound,.int t.price])=eTie (zw t):=rfl
   simp! only[ox,j7,V3,V5,D1,V1,et]]
  rw[mi,Da];rfl
 refine⟨[],?_⟩
 by_cases hB:B*(1+cl % 9)<=10 ^ 40
 ·simp![D_law_k23,EV1,EV2,EV3,EV4,EV5,Nat.reduceSub,decide_true,decide_false,IH,Bool.not_false,z0,z1,j8 (n:=6) hr,<-ehd,<-ecl,op_mod (show(0:Int)<6 by decide),<-hm,esl,kw,Qn,bl,ke,gp,bt,k1,o1,lx,hx0,m1,m2,ca,el,op_mod (show(0:Int)<9 by decide),c1,cm,mx,op_mul (cmul B),e40,hB,c2,u4,o0,op_mul (cmul A),Rc,c3,u5,o2,u6,Wg]
 ·simp![D_law_k23,EV1,EV2,EV3,EV4,EV5,Nat.reduceSub,decide_true,decide_false,IH,Bool.not_false,z0,z1,j8 (n:=6) hr,<-ehd,<-ecl,op_mod (show(0:Int)<6 by decide),<-hm,esl,kw,Qn,bl,ke,gp,bt,k1,o1,lx,hx0,m1,m2,ca,el,op_mod (show(0:Int)<9 by decide),c1,cm,mx,op_mul (cmul B),e40,hB,o0,Rc,c3,u5,o2,u6,Wg]
end
end Lr
namespace Lp.Law
open PySem PySem.Spec PyProof.Rows L2 Lp
def top (i:Nat):Stmt:=PySem.Challenge.pw_lamprota_k23_whole_webs_alike.main.body.getD i (.Pass ⟨0,0,0,0⟩)
def e0:Ent:=⟨kj,"outflows",top 2,["web","flow","many","ties","out","tie","much","tail","head","bound","price"],["web","flow"],D_outflows⟩
def e1:Ent:=⟨o9,"amount",top 3,["web","first","last","flow","many","ties","out"],["web","first","last","flow"],D_amount⟩
def e2:Ent:=⟨cj,"levels_from",top 4,["residue","start","levels","row","reached","node","arc","head"],["residue","start"],D_levels_from⟩
def e3:Ent:=⟨i9,"steps_up",top 5,["residue","levels","steps","node","above"],["residue","levels"],D_steps_up⟩
def e4:Ent:=⟨d6,"way_to_lack",top 6,["residue","steps","way","start","node"],["residue","steps","way","start"],D_way_to_lack⟩
def e5:Ent:=⟨ic,"send_along",top 7,["residue","way","start","end","much","arc"],["residue","way","start"],D_send_along⟩
def e6:Ent:=⟨fc,"open_part",top 8,["residue","way","place","arc"],["residue","way"],D_open_part⟩
def e7:Ent:=⟨mj,"send_on",top 9,["residue","steps","start","way"],["residue","steps","start"],D_send_on⟩
def e8:Ent:=⟨Ca,"sent",top 10,["web","first","last","much","residue","levels"],["web","first","last","much"],D_sent⟩
def e9:Ent:=⟨gr,"most_sent",top 11,["web","first","last"],["web","first","last"],D_most_sent⟩
def e10:Ent:=⟨ff,"most_flow",top 12,["web","first","last","flow"],["web","first","last"],D_most_flow⟩
def e11:Ent:=⟨fk,"least_side",top 13,["web","first","last"],["web","first","last"],D_least_side⟩
def e12:Ent:=⟨dq,"_law_cell",top 15,["script","k"],["script","k"],D_law_cell⟩
def e13:Ent:=⟨cu,"_law_stir",top 16,["cell","k","near"],["cell","k"],D_law_stir⟩
def e14:Ent:=⟨gb,"_law_bound",top 17,["cell","size"],["cell"],D_law_bound_2⟩
def e15:Ent:=⟨gq,"_law_web",top 18,["cells","many","ties","cell","turn","start","end"],["cells","many"],D_law_web_2⟩
def e16:Ent:=⟨ko,"_law_ends",top 19,["head","many","first"],["head","many"],D_law_ends⟩
def e17:Ent:=⟨cv,"_law_told",top 20,["web","first","last"],["web","first","last"],D_law_told⟩
def e18:Ent:=⟨gc,"_law_mixed",top 21,["ties","cell","made","k"],["ties","cell"],D_law_mixed_2⟩
def e19:Ent:=⟨ig,"_law_parted",top 22,["ties","cell","at","start","end","bound","price","much"],["ties","cell"],D_law_parted⟩
def e20:Ent:=⟨qz,"law",top 23,["script","head","many","cell","ties","first","last","due","changed","times","much","more","back"],["script"],D_law_k23⟩
def o0:MEnt:=⟨"Residue","__init__",⟨bw,"Residue.__init__",K2 (top 1) 0,["self","web","many","ties","place","tie","tail","head","bound","price"],["self","web"],D_Residue___init__⟩⟩
def o1:MEnt:=⟨"Residue","push",⟨da,"Residue.push",K2 (top 1) 1,["self","arc","much"],["self","arc","much"],D_Residue_push⟩⟩
def o2:MEnt:=⟨"Residue","open_arcs",⟨bb,"Residue.open_arcs",K2 (top 1) 2,["self","node"],["self","node"],D_Residue_open_arcs⟩⟩
def o3:MEnt:=⟨"Residue","flow",⟨de,"Residue.flow",K2 (top 1) 3,["self"],["self"],D_Residue_flow⟩⟩
def d7:List MEnt:=[o0,o1,o2,o3]
def ents:List Ent:=[e0,e1,e2,e3,e4,e5,e6,e7,e8,e9,e10,e11,e12,e13,e14,e15,e16,e17,e18,e19,e20]
def oj:List Str:=["zip","any","range","min","enumerate","sum","sorted","tuple","len","list","max"]
theorem arS {k:Nat} {Q:List Value->Prop} (h:∀a us,us.length=k->Q (a::us)):∀us:List Value,us.length=k+1->Q us
 | [],e=>nomatch e
 | a::us,e=>h a us (Nat.succ.inj e)
theorem ar0 {Q:List Value->Prop} (h:∀(_:Unit),Q []):∀us:List Value,us.length=0->Q us
 | [],_=>h ()
theorem ar1 {Q:List Value->Prop} (h:∀(a0:Value),Q [a0]):∀us:List Value,us.length=1->Q us:=arS λa0=>ar0 (Q:=λus=>Q (a0::us)) (λ_=>h a0)
theorem ar2 {Q:List Value->Prop} (h:∀(a0 a1:Value),Q [a0,a1]):∀us:List Value,us.length=2->Q us:=arS λa0=>ar1 (Q:=λus=>Q (a0::us)) (h a0)
theorem ar3 {Q:List Value->Prop} (h:∀(a0 a1 a2:Value),Q [a0,a1,a2]):∀us:List Value,us.length=3->Q us:=arS λa0=>ar2 (Q:=λus=>Q (a0::us)) (h a0)
theorem ar4 {Q:List Value->Prop} (h:∀(a0 a1 a2 a3:Value),Q [a0,a1,a2,a3]):∀us:List Value,us.length=4->Q us:=arS λa0=>ar3 (Q:=λus=>Q (a0::us)) (h a0)
section
variable {P : Program} {w : World} {K : PySem.W.Frag} {mg : Str -> Option Value} {base : Heap}
theorem dv0 (B:∀(j:Nat) x,oj[j]? = some x->mg x=none) (cf:CF K) (mkResidue:MkC K "Residue"):DerO GL P w K mg base ents d7 e0:=ow λn fa cdv A outer s H E hu C M =>
 (av (Ap (jq (ay 2 (ay 3 jo))) (aa 0)) (av (cc 4 (aw (ky (ae aj ai)) (aa 2))) (av (sk (Mj (B 0 _ rfl) (aa 3) (aa 1)) (jq (ay 5 (ay 6 jo))) (av (Ap (jq (ay 7 (ay 8 (ay 9 (ay 10 jo))))) (aa 5)) (av (t6 hu (aa 4) (aa 7) (aa 6)) (av (t6 hu (aa 4) (aa 8) (aa 6)) cw)))) (av (c8 (Uh 4)) cw))))
theorem dv1 (B:∀(j:Nat) x,oj[j]? = some x->mg x=none) (cf:CF K) (mkResidue:MkC K "Residue"):DerO GL P w K mg base ents d7 e1:=ow λn fa cdv A outer s H E hu C M =>
 (av (Ap (jq (ay 4 (ay 5 jo))) (aa 0)) (av (yp (F4 (F6 (B 1 _ rfl) (ae (mf ["tie","much"] (Mj (B 0 _ rfl) (aa 5) (aa 3)) (λ_ _ _ _=>⟨(jq (ay 0 (ay 1 jo))),iw,(Yg (Pr aj (abf hu .le (aa 1) (Pq hu .le (g6 (aa 0) aj)))))⟩)) ai))) (av (c8 Fz) cw) cw) (av (cc 6 (bu (C 0 _ rfl) (ae (aa 0) (ae (aa 3) ai)))) (av (yp (F4 (F6 (B 1 _ rfl) (ae (mf ["first","last","out","node"] (F7 (B 2 _ rfl) (aa 4)) (λ_ _ _ _=>⟨(dm 3),(vi (Yj (F5 (c7 (aa 3) (g7 hu .ne (aa 0))) (Ao (c7 (aa 3) (g7 hu .ne (aa 1)))))) iw),(Pr (g6 (aa 2) (aa 3)) (Pq hu .ne aj))⟩)) ai))) (av (c8 Fz) cw) cw) (av (c8 (g6 (aa 6) (aa 1))) cw)))))
theorem dv2 (B:∀(j:Nat) x,oj[j]? = some x->mg x=none) (cf:CF K) (mkResidue:MkC K "Residue"):DerO GL P w K mg base ents d7 e2:=ow λn fa cdv A outer s H E hu C M =>
 (av (cc 2 (Uv 1)) (av (cc 3 (ky (ae (aa 1) ai))) (av (Ky (K0 (aa 3)) (av (cc 4 (ky ai)) (av (sk (jn (aa 3)) (dm 5) (av (sk (jn (Gk (M 2 _ rfl) (aa 0) (ae (aa 5) ai))) (dm 6) (av (cc 7 (g6 (eu cf (aa 0)) (aa 6))) (av (yp (c7 (aa 7) (g7 hu .notin (aa 2))) (av (Bu hu (aa 2) (aa 7) (aw (P8 hu (aa 2) (aa 5)) aj)) (av (Dp (gn (aa 4) (ae (aa 7) ai))) cw)) cw) cw))) cw)) (av (cc 3 (aa 4)) cw)))) (av (c8 (aa 2)) cw))))
theorem dv3 (B:∀(j:Nat) x,oj[j]? = some x->mg x=none) (cf:CF K) (mkResidue:MkC K "Residue"):DerO GL P w K mg base ents d7 e3:=ow λn fa cdv A outer s H E hu C M =>
 (av (cc 2 Uu) (av (sk (Qd (aa 1)) (dm 3) (av (cc 4 (aw (P8 hu (aa 1) (aa 3)) aj)) (av (Bu hu (aa 2) (aa 3) (mf ["levels","residue","above","arc"] (jn (Gk (M 2 _ rfl) (aa 0) (ae (aa 3) ai))) (λ_ _ _ _=>⟨(dm 3),(vi (c7 (P8 hu (aa 0) (g6 (eu cf (aa 1)) (aa 3))) (g7 hu .eq (aa 2))) iw),(aa 3)⟩))) cw))) (av (c8 (aa 2)) cw)))
theorem dv4 (B:∀(j:Nat) x,oj[j]? = some x->mg x=none) (cf:CF K) (mkResidue:MkC K "Residue"):DerO GL P w K mg base ents d7 e4:=ow λn fa cdv A outer s H E hu C M =>
 (av (cc 4 (Yh (K0 (aa 2)) (g6 (eu cf (aa 0)) (g6 (aa 2) (An aj))) (aa 3))) (av (Ky (c7 (g6 (eu cf (aa 0)) (aa 4)) (g7 hu .ge aj)) (av (yp (Mh (K0 (Gp hu (aa 1) (aa 4)))) (av (yp (Mh (K0 (aa 2))) (av (c8 Fz) cw) cw) (av (cc 4 (g6 (eu cf (aa 0)) (aw (vj (aa 2)) aj))) (av (Dp (vj (Gp hu (aa 1) (aa 4)))) cw))) (av (yp (c7 (g6 (eu cf (aa 0)) (g6 (Gp hu (aa 1) (aa 4)) (An aj))) (g7 hu .eq aj)) (av (Dp (vj (Gp hu (aa 1) (aa 4)))) cw) (av (Dp (gn (aa 2) (ae (g6 (Gp hu (aa 1) (aa 4)) (An aj)) ai))) (av (cc 4 (g6 (eu cf (aa 0)) (g6 (aa 2) (An aj)))) cw))) cw)) cw)) (av (c8 (aa 2)) cw)))
theorem dv5 (B:∀(j:Nat) x,oj[j]? = some x->mg x=none) (cf:CF K) (mkResidue:MkC K "Residue"):DerO GL P w K mg base ents d7 e5:=ow λn fa cdv A outer s H E hu C M =>
 (av (cc 3 (g6 (eu cf (aa 0)) (g6 (aa 1) (An aj)))) (av (cc 4 (K1 (B 3 _ rfl) (ae (g6 (eu cf (aa 0)) (aa 2)) (ae (An (g6 (eu cf (aa 0)) (aa 3))) (ae (Kt (B 3 _ rfl) (ae (mf ["residue","arc"] (jn (aa 1)) (λ_ _ _ _=>⟨(dm 1),iw,(g6 (eu cf (aa 0)) (aa 1))⟩)) ai)) ai))))) (av (sk (jn (aa 1)) (dm 5) (av (Dp (Gk (M 1 _ rfl) (aa 0) (ae (aa 5) (ae (aa 4) ai)))) cw)) (av (t6 hu (eu cf (aa 0)) (aa 2) (aa 4)) (av (t6 hu (eu cf (aa 0)) (aa 3) (aa 4)) cw)))))
theorem dv6 (B:∀(j:Nat) x,oj[j]? = some x->mg x=none) (cf:CF K) (mkResidue:MkC K "Residue"):DerO GL P w K mg base ents d7 e6:=ow λn fa cdv A outer s H E hu C M =>
 (av (sk (Ge (B 4 _ rfl) (aa 1)) (jq (ay 2 (ay 3 jo))) (av (yp (c7 (g6 (eu cf (aa 0)) (aa 3)) (g7 hu .eq aj)) (av (c8 (Wm (aa 1) Yi (Ui (aa 2)))) cw) cw) cw)) (av (c8 (aa 1)) cw))
theorem dv7 (B:∀(j:Nat) x,oj[j]? = some x->mg x=none) (cf:CF K) (mkResidue:MkC K "Residue"):DerO GL P w K mg base ents d7 e7:=ow λn fa cdv A outer s H E hu C M =>
 (av (cc 3 (ky ai)) (av (Ky (Yj (F5 (c7 (aa 3) (g7 hu .isnot Fz)) (Ao (c7 (g6 (eu cf (aa 0)) (aa 2)) (g7 hu .gt aj))))) (av (cc 3 (bu (C 4 _ rfl) (ae (aa 0) (ae (aa 1) (ae (aa 3) (ae (aa 2) ai)))))) (av (yp (c7 (aa 3) (g7 hu .isnot Fz)) (av (Dp (bu (C 5 _ rfl) (ae (aa 0) (ae (aa 3) (ae (aa 2) ai))))) (av (cc 3 (vo (C 6 _ rfl) (ae (aa 0) (ae (aa 3) ai)))) cw)) cw) cw))) cw))
theorem dv8 (B:∀(j:Nat) x,oj[j]? = some x->mg x=none) (cf:CF K) (mkResidue:MkC K "Residue"):DerO GL P w K mg base ents d7 e8:=ow λn fa cdv A outer s H E hu C M =>
 (av (cc 4 (Us (M 0 _ rfl) mkResidue (ae (aa 0) ai))) (av (Bu hu (eu cf (aa 4)) (aa 1) (aa 3)) (av (Bu hu (eu cf (aa 4)) (aa 2) (An (aa 3))) (av (cc 5 (vo (C 2 _ rfl) (ae (aa 4) (ae (aa 1) ai)))) (av (Ky (Yj (F5 (c7 (g6 (eu cf (aa 4)) (aa 1)) (g7 hu .gt aj)) (Ao (c7 (aa 2) (g7 hu .in_ (aa 5)))))) (av (Dp (bu (C 7 _ rfl) (ae (aa 4) (ae (bu (C 3 _ rfl) (ae (aa 4) (ae (aa 5) ai))) (ae (aa 1) ai))))) (av (cc 5 (vo (C 2 _ rfl) (ae (aa 4) (ae (aa 1) ai)))) cw))) (av (c8 (aa 4)) cw))))))
theorem dv9 (B:∀(j:Nat) x,oj[j]? = some x->mg x=none) (cf:CF K) (mkResidue:MkC K "Residue"):DerO GL P w K mg base ents d7 e9:=ow λn fa cdv A outer s H E hu C M =>
 (av (c8 (bu (C 8 _ rfl) (ae (aa 0) (ae (aa 1) (ae (aa 2) (ae (Pt (B 5 _ rfl) (ae (mf ["tail","head","bound","price"] (jn (g6 (aa 0) aj)) (λ_ _ _ _=>⟨(jq (ay 0 (ay 1 (ay 2 (ay 3 jo))))),iw,(aa 2)⟩)) ai)) ai)))))) cw)
theorem abo (B:∀(j:Nat) x,oj[j]? = some x->mg x=none) (cf:CF K) (mkResidue:MkC K "Residue"):DerO GL P w K mg base ents d7 e10:=ow λn fa cdv A outer s H E hu C M =>
 (av (cc 3 (Qb (M 3 _ rfl) (bu (C 9 _ rfl) (ae (aa 0) (ae (aa 1) (ae (aa 2) ai)))))) (av (c8 (kx (ae (bu (C 1 _ rfl) (ae (aa 0) (ae (aa 1) (ae (aa 2) (ae (aa 3) ai))))) (ae (aa 3) ai)))) cw))
theorem abp (B:∀(j:Nat) x,oj[j]? = some x->mg x=none) (cf:CF K) (mkResidue:MkC K "Residue"):DerO GL P w K mg base ents d7 e11:=ow λn fa cdv A outer s H E hu C M =>
 (av (c8 (fj (B 7 _ rfl) (ae (Au (B 6 _ rfl) (ae (vo (C 2 _ rfl) (ae (bu (C 9 _ rfl) (ae (aa 0) (ae (aa 1) (ae (aa 2) ai)))) (ae (aa 1) ai))) ai)) ai))) cw)
theorem abq (B:∀(j:Nat) x,oj[j]? = some x->mg x=none) (cf:CF K) (mkResidue:MkC K "Residue"):DerO GL P w K mg base ents d7 e12:=ow λn fa cdv A outer s H E hu C M =>
 (av (yp (c7 (aa 1) (g7 hu .lt (qo (B 8 _ rfl) (ae (aa 0) ai)))) (av (c8 (g6 (aa 0) (aa 1))) cw) cw) (av (c8 aj) cw))
theorem abr (B:∀(j:Nat) x,oj[j]? = some x->mg x=none) (cf:CF K) (mkResidue:MkC K "Residue"):DerO GL P w K mg base ents d7 e13:=ow λn fa cdv A outer s H E hu C M =>
 (av (cc 2 (aw (aw (aw (aa 0) (aw aj (aa 1))) aj) aj)) (av (cc 2 (aw (aw (aa 2) (aa 2)) aj)) (av (c8 (aw (aw (aw (aa 2) aj) aj) aj)) cw)))
theorem abt (B:∀(j:Nat) x,oj[j]? = some x->mg x=none) (cf:CF K) (mkResidue:MkC K "Residue"):DerO GL P w K mg base ents d7 e14:=ow λn fa cdv A outer s H E hu C M =>
 (av (cc 1 (bu (C 13 _ rfl) (ae (aa 0) (ae aj ai)))) (av (yp (c7 (aw (aa 1) aj) (g7 hu .eq aj)) (av (c8 (aw (aw aj aj) (aw (aw (aa 1) aj) aj))) cw) cw) (av (yp (c7 (aw (aa 1) aj) (g7 hu .eq aj)) (av (c8 (aw (aa 0) (aw aj aj))) cw) cw) (av (c8 (aw (aw (aa 1) aj) aj)) cw))))
theorem abu (B:∀(j:Nat) x,oj[j]? = some x->mg x=none) (cf:CF K) (mkResidue:MkC K "Residue"):DerO GL P w K mg base ents d7 e15:=ow λn fa cdv A outer s H E hu C M =>
 (av (cc 2 (ky ai)) (av (sk (jn (aa 0)) (dm 3) (av (cc 4 (bu (C 13 _ rfl) (ae (aa 3) (ae aj ai)))) (av (cc 5 (aw (aa 4) (aa 1))) (av (cc 6 (aw (aw (aw (aa 5) aj) (aw (aw (aa 4) (aa 1)) (aw (aa 1) aj))) (aa 1))) (av (Dp (gn (aa 2) (ae (kx (ae (aa 5) (ae (aa 6) (ae (bu (C 14 _ rfl) (ae (aa 3) ai)) (ae (aw (bu (C 13 _ rfl) (ae (aa 3) (ae aj ai))) aj) ai))))) ai))) cw))))) (av (c8 (kx (ae (aa 1) (ae (fj (B 7 _ rfl) (ae (aa 2) ai)) ai)))) cw)))
theorem abv (B:∀(j:Nat) x,oj[j]? = some x->mg x=none) (cf:CF K) (mkResidue:MkC K "Residue"):DerO GL P w K mg base ents d7 e16:=ow λn fa cdv A outer s H E hu C M =>
 (av (cc 2 (aw (aw (aa 0) aj) (aa 1))) (av (c8 (kx (ae (aa 2) (ae (aw (aw (aw (aa 2) aj) (aw (aw (aa 0) aj) (aw (aa 1) aj))) (aa 1)) ai)))) cw))
theorem abw (B:∀(j:Nat) x,oj[j]? = some x->mg x=none) (cf:CF K) (mkResidue:MkC K "Residue"):DerO GL P w K mg base ents d7 e17:=ow λn fa cdv A outer s H E hu C M =>
 (av (c8 (kx (ae (g6 (bu (C 10 _ rfl) (ae (aa 0) (ae (aa 1) (ae (aa 2) ai)))) aj) (ae (bu (C 11 _ rfl) (ae (aa 0) (ae (aa 1) (ae (aa 2) ai)))) ai)))) cw)
theorem abx (B:∀(j:Nat) x,oj[j]? = some x->mg x=none) (cf:CF K) (mkResidue:MkC K "Residue"):DerO GL P w K mg base ents d7 e18:=ow λn fa cdv A outer s H E hu C M =>
 (av (cc 2 (ky ai)) (av (sk (F7 (B 2 _ rfl) (qo (B 8 _ rfl) (ae (aa 0) ai))) (dm 3) (av (Dp (As (aa 2) (ae (aw (bu (C 13 _ rfl) (ae (aa 1) (ae (aa 3) ai))) (aw (aa 3) aj)) (ae (g6 (aa 0) (aa 3)) ai)))) cw)) (av (c8 (Uh 2)) cw)))
theorem aby (B:∀(j:Nat) x,oj[j]? = some x->mg x=none) (cf:CF K) (mkResidue:MkC K "Residue"):DerO GL P w K mg base ents d7 e19:=ow λn fa cdv A outer s H E hu C M =>
 (av (yp (c7 (qo (B 8 _ rfl) (ae (aa 0) ai)) (g7 hu .eq aj)) (av (c8 (aa 0)) cw) cw) (av (cc 2 (aw (aa 1) (qo (B 8 _ rfl) (ae (aa 0) ai)))) (av (Ap (jq (ay 3 (ay 4 (ay 5 (ay 6 jo))))) (g6 (aa 0) (aa 2))) (av (cc 7 (aw (aw (aa 1) aj) (aw (aa 5) aj))) (av (c8 (aw (aw (Wm (aa 0) Yi (Ui (aa 2))) (ky (ae (kx (ae (aa 3) (ae (aa 4) (ae (aa 7) (ae (aa 6) ai))))) (ae (kx (ae (aa 3) (ae (aa 4) (ae (aw (aa 5) (aa 7)) (ae (aw (aa 6) aj) ai))))) ai)))) (Wm (aa 0) (Ui (aw (aa 2) aj)) Yi))) cw)))))
theorem abz (B:∀(j:Nat) x,oj[j]? = some x->mg x=none) (cf:CF K) (mkResidue:MkC K "Residue"):DerO GL P w K mg base ents d7 e20:=ow λn fa cdv A outer s H E hu C M =>
 (av (cc 1 (bu (C 13 _ rfl) (ae (bu (C 12 _ rfl) (ae (aa 0) (ae aj ai))) (ae aj ai)))) (av (cc 2 (aw aj (aw (aa 1) aj))) (av (cc 3 (bu (C 13 _ rfl) (ae (bu (C 12 _ rfl) (ae (aa 0) (ae aj ai))) (ae aj ai)))) (av (cc 4 (Kp (B 9 _ rfl) (ae (g6 (bu (C 15 _ rfl) (ae (Wm (aa 0) (Ui aj) (Ui aj)) (ae (aa 2) ai))) aj) ai))) (av (Ap (jq (ay 5 (ay 6 jo))) (bu (C 16 _ rfl) (ae (aa 1) (ae (aa 2) ai)))) (av (cc 7 (bu (C 17 _ rfl) (ae (kx (ae (aa 2) (ae (fj (B 7 _ rfl) (ae (aa 4) ai)) ai))) (ae (aa 5) (ae (aa 6) ai))))) (av (yp (c7 (qo (B 8 _ rfl) (ae (g6 (aa 7) aj) ai)) (g7 hu .eq aj)) (av (c8 Wl) cw) cw) (av (sk (jn (ky (ae (bu (C 18 _ rfl) (ae (aa 4) (ae (aa 3) ai))) (ae (bu (C 19 _ rfl) (ae (aa 4) (ae (aa 3) ai))) (ae (aw (aa 4) (ky (ae (kx (ae (aa 5) (ae (aa 6) (ae aj (ae aj ai))))) ai))) ai))))) (dm 8) (av (yp (c7 (bu (C 17 _ rfl) (ae (kx (ae (aa 2) (ae (fj (B 7 _ rfl) (ae (aa 8) ai)) ai))) (ae (aa 5) (ae (aa 6) ai)))) (g7 hu .ne (aa 7))) (av (c8 Wl) cw) cw) cw)) (av (cc 9 (aw aj (aw (aa 3) aj))) (av (cc 10 (Ku (B 10 _ rfl) (ae (aw (ky (ae aj ai)) (mf ["tie"] (jn (aa 4)) (λ_ _ _ _=>⟨(dm 0),iw,(g6 (aa 0) aj)⟩))) ai))) (av (yp (c7 (aw (aa 10) (aa 9)) (g7 hu .le (aw aj aj))) (av (F8 11 ["times","tie"] (jn (aa 4)) (λ_ _ _ _=>⟨(dm 1),iw,(kx (ae (g6 (aa 1) aj) (ae (g6 (aa 1) aj) (ae (aw (g6 (aa 1) aj) (aa 0)) (ae (g6 (aa 1) aj) ai)))))⟩)) (av (yp (c7 (bu (C 17 _ rfl) (ae (kx (ae (aa 2) (ae (fj (B 7 _ rfl) (ae (aa 11) ai)) ai))) (ae (aa 5) (ae (aa 6) ai)))) (g7 hu .ne (kx (ae (aw (g6 (aa 7) aj) (aa 9)) (ae (g6 (aa 7) aj) ai))))) (av (c8 Wl) cw) cw) cw)) cw) (av (cc 12 (fj (B 7 _ rfl) (ae (mf ["tie"] (jn (aa 4)) (λ_ _ _ _=>⟨(dm 0),iw,(kx (ae (g6 (aa 0) aj) (ae (g6 (aa 0) aj) (ae (g6 (aa 0) aj) (ae (g6 (aa 0) aj) ai)))))⟩)) ai))) (av (yp (c7 (g6 (bu (C 10 _ rfl) (ae (kx (ae (aa 2) (ae (aa 12) ai))) (ae (aa 6) (ae (aa 5) ai)))) aj) (g7 hu .ne (g6 (aa 7) aj))) (av (c8 Wl) cw) cw) (av (c8 (Pr (bu (C 17 _ rfl) (ae (kx (ae (aw (aa 2) aj) (ae (fj (B 7 _ rfl) (ae (aa 4) ai)) ai))) (ae (aa 5) (ae (aa 6) ai)))) (Pq hu .eq (aa 7)))) cw))))))))))))))
theorem do0 (B:∀(j:Nat) x,oj[j]? = some x->mg x=none) (cf:CF K) (mkResidue:MkC K "Residue"):DerO GL P w K mg base ents d7 o0.e:=ow λn fa cdv A outer s H E hu C M =>
 (av (Ap (jq (ay 2 (ay 3 jo))) (aa 1)) (av (Bx cf (aa 0) (ky ai)) (av (Bx cf (aa 0) (ky ai)) (av (Bx cf (aa 0) (mf ["node"] (F7 (B 2 _ rfl) (aa 2)) (λ_ _ _ _=>⟨(dm 0),iw,(ky ai)⟩))) (av (Bx cf (aa 0) (aw (ky (ae aj ai)) (aa 2))) (av (sk (Ge (B 4 _ rfl) (aa 3)) (jq (ay 4 (ay 5 jo))) (av (Ap (jq (ay 6 (ay 7 (ay 8 (ay 9 jo))))) (aa 5)) (av (Dp (qp (eu cf (aa 0)) (ae (ky (ae (aa 7) (ae (aa 6) ai))) ai))) (av (Dp (qp (eu cf (aa 0)) (ae (ky (ae (aa 8) (ae aj ai))) ai))) (av (Dp (gn (g6 (eu cf (aa 0)) (aa 6)) (ae (aw aj (aa 4)) ai))) (av (Dp (gn (g6 (eu cf (aa 0)) (aa 7)) (ae (aw (aw aj (aa 4)) aj) ai))) cw)))))) cw))))))
theorem do1 (B:∀(j:Nat) x,oj[j]? = some x->mg x=none) (cf:CF K) (mkResidue:MkC K "Residue"):DerO GL P w K mg base ents d7 o1.e:=ow λn fa cdv A outer s H E hu C M =>
 (av (t6 hu (eu cf (aa 0)) (aa 1) (aa 2)) (av (t6 hu (eu cf (aa 0)) (aw (aa 1) aj) (aa 2)) cw))
theorem do2 (B:∀(j:Nat) x,oj[j]? = some x->mg x=none) (cf:CF K) (mkResidue:MkC K "Residue"):DerO GL P w K mg base ents d7 o2.e:=ow λn fa cdv A outer s H E hu C M =>
 (av (c8 (mf ["self","arc"] (jn (g6 (eu cf (aa 0)) (aa 1))) (λ_ _ _ _=>⟨(dm 1),(vi (c7 (g6 (eu cf (aa 0)) (aa 1)) (g7 hu .gt aj)) iw),(aa 1)⟩))) cw)
theorem do3 (B:∀(j:Nat) x,oj[j]? = some x->mg x=none) (cf:CF K) (mkResidue:MkC K "Residue"):DerO GL P w K mg base ents d7 o3.e:=ow λn fa cdv A outer s H E hu C M =>
 (av (c8 (fj (B 7 _ rfl) (ae (Uw (eu cf (aa 0))) ai))) cw)
theorem dvs (B:∀(j:Nat) x,oj[j]? = some x->mg x=none) (cf:CF K) (mkResidue:MkC K "Residue"):∀(j:Nat) e,ents[j]? = some e->DerO GL P w K mg base ents d7 e:=(Lp.cx (dv0 B cf mkResidue) (Lp.cx (dv1 B cf mkResidue) (Lp.cx (dv2 B cf mkResidue) (Lp.cx (dv3 B cf mkResidue) (Lp.cx (dv4 B cf mkResidue) (Lp.cx (dv5 B cf mkResidue) (Lp.cx (dv6 B cf mkResidue) (Lp.cx (dv7 B cf mkResidue) (Lp.cx (dv8 B cf mkResidue) (Lp.cx (dv9 B cf mkResidue) (Lp.cx (abo B cf mkResidue) (Lp.cx (abp B cf mkResidue) (Lp.cx (abq B cf mkResidue) (Lp.cx (abr B cf mkResidue) (Lp.cx (abt B cf mkResidue) (Lp.cx (abu B cf mkResidue) (Lp.cx (abv B cf mkResidue) (Lp.cx (abw B cf mkResidue) (Lp.cx (abx B cf mkResidue) (Lp.cx (aby B cf mkResidue) (Lp.cx (abz B cf mkResidue) Lp.Rh)))))))))))))))))))))
theorem dos (B:∀(j:Nat) x,oj[j]? = some x->mg x=none) (cf:CF K) (mkResidue:MkC K "Residue"):∀(j:Nat) x,d7[j]? = some x->DerO GL P w K mg base ents d7 x.e:=(Lp.cx (do0 B cf mkResidue) (Lp.cx (do1 B cf mkResidue) (Lp.cx (do2 B cf mkResidue) (Lp.cx (do3 B cf mkResidue) Lp.Rh))))
end
end Lp.Law
namespace PySem.W.Fast
def tw620034176444253647:=0
def tw7629987284746348141:=0
def tw14565825159464042545:=0
def tw13673102232982367956:=0
def tw4698316654970615988:=0
def tw10334344497051584093:=0
def tw6780603608781259573:=0
def tw2680290543689239905:=0
def tw2642404598951942880:=0
def tw13793702117187391313:=0
def tw11787689443222410746:=0
def tw1374348760121618996:=0
def tw11454085173757864899:=0
def tw17708754919968349839:=0
def tw17062596886377449969:=0
def tw11109749595536795474:=0
def tw1726236380191976655:=0
def tw6088390406380617692:=0
def tw6266071674815395986:=0
def tw4181546202413768627:=0
def tw5181794092247590532:=0
def tw7384111319562340745:=0
def tw13352741363683953068:=0
def tw1758507047556142200:=0
def tw13351141304477630660:=0
def tw9020766750581539053:=0
def tw8512503637636688826:=0
def tw4918618107573842493:=0
def tw6777870992715957788:=0
def tw4748339914160534886:=0
def tw15214411240363276676:=0
def tw17393413606228027714:=0
def tw7661082009430973715:=0
def tw8107754506668634170:=0
def tw6217151053556505086:=0
def tw7870520351960435323:=0
def tw1121251864522872813:=0
def tw11011564801638023276:=0
def tw1128427748263717673:=0
def tw18319655436449099009:=0
def tw6024319801675077818:=0
def tw4813007686779020248:=0
def tw8697556878100916084:=0
def tw16047724272953769935:=0
def tw3974586654280031970:=0
end PySem.W.Fast
open PySem PySem.W PyProof.Rows Lp.Law
open Lp (ModOf)
set_option maxHeartbeats 0 in
theorem PySem.Challenge.cw_lamprota_k23_whole_webs_alike_holds : PySem.Challenge.rw_lamprota_k23_whole_webs_alike.Holds := by
 w_on;o_law;k_head;(case hw=>w_witness2)
 k_fill
 refine Lp.Ko (l:=PySem.Challenge.rw_lamprota_k23_whole_webs_alike) (n:=8) ⟨rfl,by decide,by decide⟩ rfl rfl (λw h Y=>PySem.W.kIn_of Y) ?F
 case F =>
  intro w mg fa h KX G hmg
  have m0:ModOf (L2.KOf KX) mg e0:=by
   dsimp only[L2.KOf]
   refine' Lp.c9 (e:=e0) KX G ?a ?l ?c ?k λ_ _ _ _ _ _=>ar2 λ_ _=>rfl
   all_goals try dsimp only[e0]
   (case a=>k_is);(case l=>k_is);(case c=>k_is);(case k=>k_is)
  have m1:ModOf (L2.KOf KX) mg e1:=by
   dsimp only[L2.KOf]
   refine' Lp.c9 (e:=e1) KX G ?a ?l ?c ?k λ_ _ _ _ _ _=>ar4 λ_ _ _ _=>rfl
   all_goals try dsimp only[e1]
   (case a=>k_is);(case l=>k_is);(case c=>k_is);(case k=>k_is)
  have m2:ModOf (L2.KOf KX) mg e2:=by
   dsimp only[L2.KOf]
   refine' Lp.c9 (e:=e2) KX G ?a ?l ?c ?k λ_ _ _ _ _ _=>ar2 λ_ _=>rfl
   all_goals try dsimp only[e2]
   (case a=>k_is);(case l=>k_is);(case c=>k_is);(case k=>k_is)
  have m3:ModOf (L2.KOf KX) mg e3:=by
   dsimp only[L2.KOf]
   refine' Lp.c9 (e:=e3) KX G ?a ?l ?c ?k λ_ _ _ _ _ _=>ar2 λ_ _=>rfl
   all_goals try dsimp only[e3]
   (case a=>k_is);(case l=>k_is);(case c=>k_is);(case k=>k_is)
  have m4:ModOf (L2.KOf KX) mg e4:=by
   dsimp only[L2.KOf]
   refine' Lp.c9 (e:=e4) KX G ?a ?l ?c ?k λ_ _ _ _ _ _=>ar4 λ_ _ _ _=>rfl
   all_goals try dsimp only[e4]
   (case a=>k_is);(case l=>k_is);(case c=>k_is);(case k=>k_is)
  have m5:ModOf (L2.KOf KX) mg e5:=by
   dsimp only[L2.KOf]
   refine' Lp.c9 (e:=e5) KX G ?a ?l ?c ?k λ_ _ _ _ _ _=>ar3 λ_ _ _=>rfl
   all_goals try dsimp only[e5]
   (case a=>k_is);(case l=>k_is);(case c=>k_is);(case k=>k_is)
  have m6:ModOf (L2.KOf KX) mg e6:=by
   dsimp only[L2.KOf]
   refine' Lp.c9 (e:=e6) KX G ?a ?l ?c ?k λ_ _ _ _ _ _=>ar2 λ_ _=>rfl
   all_goals try dsimp only[e6]
   (case a=>k_is);(case l=>k_is);(case c=>k_is);(case k=>k_is)
  have m7:ModOf (L2.KOf KX) mg e7:=by
   dsimp only[L2.KOf]
   refine' Lp.c9 (e:=e7) KX G ?a ?l ?c ?k λ_ _ _ _ _ _=>ar3 λ_ _ _=>rfl
   all_goals try dsimp only[e7]
   (case a=>k_is);(case l=>k_is);(case c=>k_is);(case k=>k_is)
  have m8:ModOf (L2.KOf KX) mg e8:=by
   dsimp only[L2.KOf]
   refine' Lp.c9 (e:=e8) KX G ?a ?l ?c ?k λ_ _ _ _ _ _=>ar4 λ_ _ _ _=>rfl
   all_goals try dsimp only[e8]
   (case a=>k_is);(case l=>k_is);(case c=>k_is);(case k=>k_is)
  have m9:ModOf (L2.KOf KX) mg e9:=by
   dsimp only[L2.KOf]
   refine' Lp.c9 (e:=e9) KX G ?a ?l ?c ?k λ_ _ _ _ _ _=>ar3 λ_ _ _=>rfl
   all_goals try dsimp only[e9]
   (case a=>k_is);(case l=>k_is);(case c=>k_is);(case k=>k_is)
  have m10:ModOf (L2.KOf KX) mg e10:=by
   dsimp only[L2.KOf]
   refine' Lp.c9 (e:=e10) KX G ?a ?l ?c ?k λ_ _ _ _ _ _=>ar3 λ_ _ _=>rfl
   all_goals try dsimp only[e10]
   (case a=>k_is);(case l=>k_is);(case c=>k_is);(case k=>k_is)
  have m11:ModOf (L2.KOf KX) mg e11:=by
   dsimp only[L2.KOf]
   refine' Lp.c9 (e:=e11) KX G ?a ?l ?c ?k λ_ _ _ _ _ _=>ar3 λ_ _ _=>rfl
   all_goals try dsimp only[e11]
   (case a=>k_is);(case l=>k_is);(case c=>k_is);(case k=>k_is)
  have m12:ModOf (L2.KOf KX) mg e12:=by
   dsimp only[L2.KOf]
   refine' Lp.c9 (e:=e12) KX G ?a ?l ?c ?k λ_ _ _ _ _ _=>ar2 λ_ _=>rfl
   all_goals try dsimp only[e12]
   (case a=>k_is);(case l=>k_is);(case c=>k_is);(case k=>k_is)
  have m13:ModOf (L2.KOf KX) mg e13:=by
   dsimp only[L2.KOf]
   refine' Lp.c9 (e:=e13) KX G ?a ?l ?c ?k λ_ _ _ _ _ _=>ar2 λ_ _=>rfl
   all_goals try dsimp only[e13]
   (case a=>k_is);(case l=>k_is);(case c=>k_is);(case k=>k_is)
  have m14:ModOf (L2.KOf KX) mg e14:=by
   dsimp only[L2.KOf]
   refine' Lp.c9 (e:=e14) KX G ?a ?l ?c ?k λ_ _ _ _ _ _=>ar1 λ_=>rfl
   all_goals try dsimp only[e14]
   (case a=>k_is);(case l=>k_is);(case c=>k_is);(case k=>k_is)
  have m15:ModOf (L2.KOf KX) mg e15:=by
   dsimp only[L2.KOf]
   refine' Lp.c9 (e:=e15) KX G ?a ?l ?c ?k λ_ _ _ _ _ _=>ar2 λ_ _=>rfl
   all_goals try dsimp only[e15]
   (case a=>k_is);(case l=>k_is);(case c=>k_is);(case k=>k_is)
  have m16:ModOf (L2.KOf KX) mg e16:=by
   dsimp only[L2.KOf]
   refine' Lp.c9 (e:=e16) KX G ?a ?l ?c ?k λ_ _ _ _ _ _=>ar2 λ_ _=>rfl
   all_goals try dsimp only[e16]
   (case a=>k_is);(case l=>k_is);(case c=>k_is);(case k=>k_is)
  have m17:ModOf (L2.KOf KX) mg e17:=by
   dsimp only[L2.KOf]
   refine' Lp.c9 (e:=e17) KX G ?a ?l ?c ?k λ_ _ _ _ _ _=>ar3 λ_ _ _=>rfl
   all_goals try dsimp only[e17]
   (case a=>k_is);(case l=>k_is);(case c=>k_is);(case k=>k_is)
  have m18:ModOf (L2.KOf KX) mg e18:=by
   dsimp only[L2.KOf]
   refine' Lp.c9 (e:=e18) KX G ?a ?l ?c ?k λ_ _ _ _ _ _=>ar2 λ_ _=>rfl
   all_goals try dsimp only[e18]
   (case a=>k_is);(case l=>k_is);(case c=>k_is);(case k=>k_is)
  have m19:ModOf (L2.KOf KX) mg e19:=by
   dsimp only[L2.KOf]
   refine' Lp.c9 (e:=e19) KX G ?a ?l ?c ?k λ_ _ _ _ _ _=>ar2 λ_ _=>rfl
   all_goals try dsimp only[e19]
   (case a=>k_is);(case l=>k_is);(case c=>k_is);(case k=>k_is)
  have m20:ModOf (L2.KOf KX) mg e20:=by
   dsimp only[L2.KOf]
   refine' Lp.c9 (e:=e20) KX G ?a ?l ?c ?k λ_ _ _ _ _ _=>ar1 λ_=>rfl
   all_goals try dsimp only[e20]
   (case a=>k_is);(case l=>k_is);(case c=>k_is);(case k=>k_is)
  have o0:Lp.MModOf (L2.KOf KX) mg o0:=by
   dsimp only[L2.KOf]
   refine' Lp.vq (x:=o0) KX G ?a ⟨?c1,?c2,?c3,?c4⟩ ?ft ?l ?fn ?c ?k λ_ _ _ _ _ _=>ar2 λ_ _=>rfl
   all_goals try dsimp only[o0]
   (case a=>k_is);(case c1=>k_is);(case c2=>k_is);(case c3=>k_is);(case c4=>k_is);(case ft=>k_is);(case l=>k_is);(case fn=>k_is);(case c=>k_is);(case k=>k_is)
  have o1:Lp.MModOf (L2.KOf KX) mg o1:=by
   dsimp only[L2.KOf]
   refine' Lp.vq (x:=o1) KX G ?a ⟨?c1,?c2,?c3,?c4⟩ ?ft ?l ?fn ?c ?k λ_ _ _ _ _ _=>ar3 λ_ _ _=>rfl
   all_goals try dsimp only[o1]
   (case a=>k_is);(case c1=>k_is);(case c2=>k_is);(case c3=>k_is);(case c4=>k_is);(case ft=>k_is);(case l=>k_is);(case fn=>k_is);(case c=>k_is);(case k=>k_is)
  have o2:Lp.MModOf (L2.KOf KX) mg o2:=by
   dsimp only[L2.KOf]
   refine' Lp.vq (x:=o2) KX G ?a ⟨?c1,?c2,?c3,?c4⟩ ?ft ?l ?fn ?c ?k λ_ _ _ _ _ _=>ar2 λ_ _=>rfl
   all_goals try dsimp only[o2]
   (case a=>k_is);(case c1=>k_is);(case c2=>k_is);(case c3=>k_is);(case c4=>k_is);(case ft=>k_is);(case l=>k_is);(case fn=>k_is);(case c=>k_is);(case k=>k_is)
  have o3:Lp.MModOf (L2.KOf KX) mg o3:=by
   dsimp only[L2.KOf]
   refine' Lp.vq (x:=o3) KX G ?a ⟨?c1,?c2,?c3,?c4⟩ ?ft ?l ?fn ?c ?k λ_ _ _ _ _ _=>ar1 λ_=>rfl
   all_goals try dsimp only[o3]
   (case a=>k_is);(case c1=>k_is);(case c2=>k_is);(case c3=>k_is);(case c4=>k_is);(case ft=>k_is);(case l=>k_is);(case fn=>k_is);(case c=>k_is);(case k=>k_is)
  have qResidue:Lp.Mo (L2.KOf KX) "Residue" ["heads","rooms","leaving","surplus"]:=by
   dsimp only[L2.KOf]
   refine' .inl (Lp.Uy ?n ?pg ?hd ?po ?sa ?mk ?kp ?na)
   (case n=>k_is);(case pg=>k_is);(case hd=>k_is);(case po=>k_is);(case sa=>k_is);(case mk=>k_is);(case kp=>k_is);(case na=>kernel_rfl)
  have qSlope:Lp.Mo (L2.KOf KX) "Slope" ["residue","scale","costs","worths"]:=.inr (by dsimp only[L2.KOf];k_is)
  have qWatch:Lp.Mo (L2.KOf KX) "Watch" ["rests"]:=.inr (by dsimp only[L2.KOf];k_is)
  have cf:Lp.CF (L2.KOf KX):=Lp.Yl qResidue qSlope qWatch
  have b0:mg "zip"=none:=CB KX G (by k_is)
  have b1:mg "any"=none:=CB KX G (by k_is)
  have b2:mg "range"=none:=CB KX G (by k_is)
  have b3:mg "min"=none:=CB KX G (by k_is)
  have b4:mg "enumerate"=none:=CB KX G (by k_is)
  have b5:mg "sum"=none:=CB KX G (by k_is)
  have b6:mg "sorted"=none:=CB KX G (by k_is)
  have b7:mg "tuple"=none:=CB KX G (by k_is)
  have b8:mg "len"=none:=CB KX G (by k_is)
  have b9:mg "list"=none:=CB KX G (by k_is)
  have b10:mg "max"=none:=CB KX G (by k_is)
  exact Lp.K3 (T:=Lp.GL) (es:=ents) (ms:=d7) (n:=8) (j:=20) (e:=e20) (Lp.cx m0 (Lp.cx m1 (Lp.cx m2 (Lp.cx m3 (Lp.cx m4 (Lp.cx m5 (Lp.cx m6 (Lp.cx m7 (Lp.cx m8 (Lp.cx m9 (Lp.cx m10 (Lp.cx m11 (Lp.cx m12 (Lp.cx m13 (Lp.cx m14 (Lp.cx m15 (Lp.cx m16 (Lp.cx m17 (Lp.cx m18 (Lp.cx m19 (Lp.cx m20 Lp.Rh))))))))))))))))))))) (Lp.cx o0 (Lp.cx o1 (Lp.cx o2 (Lp.cx o3 Lp.Rh)))) (λbase=>dvs (Lp.cx b0 (Lp.cx b1 (Lp.cx b2 (Lp.cx b3 (Lp.cx b4 (Lp.cx b5 (Lp.cx b6 (Lp.cx b7 (Lp.cx b8 (Lp.cx b9 (Lp.cx b10 Lp.Rh))))))))))) cf (Lp.Gw qResidue)) (λbase=>dos (Lp.cx b0 (Lp.cx b1 (Lp.cx b2 (Lp.cx b3 (Lp.cx b4 (Lp.cx b5 (Lp.cx b6 (Lp.cx b7 (Lp.cx b8 (Lp.cx b9 (Lp.cx b10 Lp.Rh))))))))))) cf (Lp.Gw qResidue)) rfl hmg rfl (λns hn=>Lr.Y5 ns)
