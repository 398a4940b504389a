import PyProof.Rows.All
import Wide.All
import OpenK.AllK
import Wide.FinOn
import Lean
import PyProof.EqAt
import PyProof.EqKinds
import PyProof.TupleCall
import PySem.Syntax
import KE.BitLaws
import PyProof.Rows.ZipGen
import PyProof.EnumMake
import PyProof.EnumFor
import PyProof.Rows.EnumRows
import PyProof.DictValues
import KE.KSortTup
import PyProof.Rows.SetFrom
import PyProof.WalksMore
import PyProof.FactsAll.set
import PyProof.ForAny
import PyProof.CollectWalk
import PyProof.ListRange
import PyProof.Rows.SortShell
import PyProof.AttrMissHeap
import PyProof.ExcClass3
import PyProof.ExcInit
import PyProof.InstStoreFacts
import PyProof.InstLoad
import PyProof.ExcArgsOwn
import PyProof.ExcAttrAll.ValueError
import PyProof.StationsW
import KE.KDictList
import PyProof.MaxThree
import PyProof.Rows.SortRuns
import PyProof.Rows.SeqRoads
import PyProof.FactsAll.range_1
import PySem.Challenge.RW_lamprota_k49_even_webs
noncomputable section
local macro_rules | `(tactic| simp! [$ls,*] $[$l:location]?) => `(tactic| simp only [$ls,*] $[$l]?)
open List renaming getElem?_eq_getElem -> AA, append_assoc -> AC, length_map -> AD, prefix_refl -> AE, size_toArray -> AH, getElem?_eq_some_iff -> AI, map_cons -> AL, getElem?_append_left -> AN, length_append -> AO, all_eq_true -> AS, mem_cons_of_mem -> AT, mem_cons -> AV, length_cons -> BC, mem_cons_self -> BF, getElem?_append_right -> BH, length_take -> BJ, getElem?_map -> BM, take_length -> BN, all_cons -> BO, take_of_length_le -> BP, take_append_drop -> BQ, map_append -> BR, length_nil -> BU, mem_append_right -> BW, mem_append -> BX, getElem?_take_of_lt -> BY, perm_append_comm -> CB, getD_eq_getElem?_getD -> CF, getElem?_set_ne -> CG, mem_iff_getElem -> CH, map_map -> CJ, mem_of_getElem? -> CK, zip_cons_cons -> CL, not_mem_nil -> CP, replicate_succ -> CS, flatMap_append -> CT, length_range -> CU, getElem?_eq_none -> CV, map_nil -> CW, nil_prefix -> CY, mem_map -> CZ, getElem?_set_self -> DA, flatten_cons -> DB, ext_getElem? -> DC, drop_of_length_le -> DD, any_cons -> DH, all_map -> DI, getElem?_replicate -> DK, flatMap_cons -> DM, append_nil -> DN, extract_eq_take_drop -> DQ, nil_append -> DS, mem_of_mem_drop -> DV, mem_of_mem_take -> DW, length_drop -> Ev, lookup_cons -> EA, getElem_mem -> EC, drop_zero -> ED, take_append_of_le_length -> EG, zip_nil_right -> EH, find?_cons -> EN, map_fst_zip -> EV, drop_eq_getElem_cons -> EW, getElem?_zip_eq_some -> EX, pairwise_iff_getElem -> EY, set_cons_zero -> FD, mem_singleton -> FE, lookup_append -> FF, getElem?_cons_succ -> FH, zip_nil_left -> FI, cons_append -> FM, drop_length -> FN, mem_flatMap -> FO, mem_append_left -> FR, drop_append_of_le_length -> FU, eq_nil_of_length_eq_zero -> FV, nodup_cons -> FW, range_succ -> FY, filterMap_cons -> FZ, toList_toArray -> Go, getElem?_range -> Gt, map_congr_left -> GA, set_cons_succ -> GI, getElem?_drop -> GJ, pairwise_cons -> GM, pairwise_map -> GQ, drop_append -> HC, getElem?_cons_zero -> HE, mem_filter -> HK, of_mem_zip -> HL, forIn_cons -> HM, length_replicate -> HQ, getElem?_toArray -> HU, countP_mono_left -> HV, mem_range -> HW, map_drop -> IC, all_nil -> IH
open PySem renaming wpAny_bind -> AB, wpAny_pure -> AM, wpAny_loadPart' -> CI, mem_of_lookup -> CQ, wpAny_callSpecial?_slot -> Da, wpAny_field -> DE, wpAny_call_entry -> DG, wpAny_truthy_bool -> DJ, wpAny_newObj_type -> DL, wpAny_mono -> DO, wpAny_holding -> DX, richCompare_meets_room -> EI, wpAny_rule -> EJ, wpAny_pyIter_tuple -> EK, wpAny_setField_rec -> EL, wpAny_passesOwn -> FC, wpAny_forIn_list -> FL, sizeLine_eq -> FS, wpAny_Call_Name_kw -> GG, tupleKind_room_in1 -> GH, noFill_tuple_add -> GW, wpAny_typeOf -> HI
open PySem.Heap renaming get?_push_of_some -> AF, lt_size -> AQ, get?_push_size -> AX, size_push -> EB, get?_update_other -> HJ, get?_update_self -> HS
open PyProof.Rows renaming wpS_bind -> AG, wpS_pure -> AJ, slot_tuple_getitem -> CA, wpS_forRange -> CC, callWith_type1 -> Db, wpS_modify -> DZ, wpS_mono -> EE, wpS_get -> FP, boot_sorted -> GU, wpS_lift -> HB, lt_int -> HZ
open Nat renaming le_refl -> AK, lt_of_lt_of_le -> AR, le_trans -> BA, ne_of_lt -> BD, le_of_lt -> CN, lt_irrefl -> Do, ne_of_gt -> DT, zero_le -> EF, zero_add -> FK, lt_succ_of_lt -> GO, add_assoc -> GS, le_of_not_lt -> GX, lt_succ_self -> GZ, not_lt -> IG
open Bool renaming and_eq_true -> AU, not_false -> AW, not_true -> AY, false_eq_true -> BB, false_ne_true -> BI, beq_eq_decide_eq -> ER, not_eq_true' -> GP, and_true -> IA, true_and -> IB
open List.Perm renaming append_left -> AZ, append_right -> EM
open Array renaming toList_append -> BK, getElem?_toList -> BL, length_toList -> BS, toList_push -> ET, toList_extract -> EU, toList_reverse -> FT, perm_iff_toList_perm -> GK, toList_inj -> HD
open Option.some renaming injEq -> BV, inj -> CD
open PySem.W renaming mg_none_of -> BZ, kia_one -> EO, kat_cons -> HA, cellsFrom_some -> HG, kat_yes -> HN, kat_one -> HP, kat_go -> HX, kat_no -> HY, mg_of -> Ix
open Int renaming emod_lt_of_pos -> CM, emod_nonneg -> DF, toNat_natCast -> DU, fdiv_eq_ediv_of_nonneg -> GF
open Option renaming bind_some -> CO, map_some -> DR, isSome_map -> GN, isSome_iff_exists -> GR, getD_some -> GY
open PySem.F renaming slot_tuple_iterator_next -> DP, slot_enumerate_next -> ES, args_tuple_add_2 -> FA, entry_tuple_add -> FG, slot_tuple_add -> FJ, args_tuple_iterator_next_1 -> FX, entry_tuple_iterator_next -> GB, slot_range_contains -> GC, args_tuple_lt_2 -> GV, entry_tuple_lt -> HH, slot_tuple_lt -> HR
open PySem.AutoSeq1 renaming sub_tuple_tuple -> DY
open PySem.Paired renaming length -> EZ
open Prod.mk renaming injEq -> FB
open PySem.Calls renaming Name_function_global -> GD
open PyProof renaming noPylong_small -> HF
open PySem.Heap.SameBut renaming update -> If
open PySem.SeqAt.EqAt renaming int_str -> ID, str_int -> IE, int_int -> IF
set_option Elab.async false
set_option linter.all false
set_option maxRecDepth 100000
namespace L2
open PySem PySem.Spec PyProof.Rows
abbrev Key:=Sum Int Str
def z6:Key->Value->Bool
 | .inl k,v=>Value.isInt k v
 | .inr x,v=>Value.isStrOf x v
def Vt (w:World):Key->Int
 | .inl k=>hashInt k
 | .inr x=>hashStr w x
theorem bx:∀{k:Key} {v:Value},z6 k v=true->(∃i t,k=Sum.inl i/\v=Value.int i t)\/(∃x t,k=Sum.inr x/\v=Value.str x t)
 | .inl i,v,h=>by
  obtain⟨t,e⟩:=Value.isInt_shape (k:=i) (v:=v) h
  exact .inl ⟨i,t,rfl,e⟩
 | .inr x,v,h=>by
  obtain⟨t,e⟩:=Value.isStrOf_shape (x:=x) (v:=v) h
  exact .inr ⟨x,t,rfl,e⟩
theorem A9 (i:Int) (t:Tok):z6 (.inl i) (.int i t)=true:=by simp[z6,Value.isInt]
theorem Ba (x:Str) (t:Tok):z6 (.inr x) (.str x t)=true:=by simp[z6,Value.isStrOf]
theorem Ms (a b:Int):decide ((Sum.inl a:Key)=Sum.inl b)=(a==b):=by
 by_cases e:a=b
 ·subst e;simp
 ·have h:¬(Sum.inl a:Key)=Sum.inl b:=λq=>e (Sum.inl.inj q)
  rw[decide_eq_false h]
  exact(beq_eq_false_iff_ne.mpr e).symm
theorem Mu (a b:Str):decide ((Sum.inr a:Key)=Sum.inr b)=decide (a=b):=by
 by_cases e:a=b
 ·subst e;simp
 ·have h:¬(Sum.inr a:Key)=Sum.inr b:=λq=>e (Sum.inr.inj q)
  rw[decide_eq_false h,decide_eq_false e]
theorem Mv (a:Int) (b:Str):decide ((Sum.inl a:Key)=Sum.inr b)=false:=decide_eq_false (λq=>nomatch q)
theorem Mw (a:Str) (b:Int):decide ((Sum.inr a:Key)=Sum.inl b)=false:=decide_eq_false (λq=>nomatch q)
def d6 (prog:Program) (w:World):PySem.KeyKind prog w Key where
 is:=z6
 hash:=Vt w
 inj:=λv a b ha hb=>by
  rcases bx ha with⟨i,t,rfl,rfl⟩ | ⟨x,t,rfl,rfl⟩
  ·rcases bx hb with⟨j,u,rfl,e⟩ | ⟨y,u,rfl,e⟩
   ·injection e with e1 _;rw[e1]
   ·exact nomatch e
  ·rcases bx hb with⟨j,u,rfl,e⟩ | ⟨y,u,rfl,e⟩
   ·exact nomatch e
   ·injection e with e1 _;rw[e1]
 byValue:=λk v h=>by
  rcases bx h with⟨i,t,rfl,rfl⟩ | ⟨x,t,rfl,rfl⟩<;>rfl
 pyHash:=λhv h=>by
  rcases bx hv with⟨i,t,rfl,rfl⟩ | ⟨x,t,rfl,rfl⟩
  ·exact wpAny_pyHash_int h
  ·exact wpAny_pyHash_str h
 eqBool:=λhu hv h=>by
  rcases bx hu with⟨i,t,rfl,rfl⟩ | ⟨x,t,rfl,rfl⟩
  ·rcases bx hv with⟨j,u,rfl,rfl⟩ | ⟨y,u,rfl,rfl⟩
   ·rw[Ms]at h;exact wpAny_eqBool_int h
   ·rw[Mv]at h;exact ID i t y u _ _ _ _ h
  ·rcases bx hv with⟨j,u,rfl,rfl⟩ | ⟨y,u,rfl,rfl⟩
   ·rw[Mw]at h;exact IE x t j u _ _ _ _ h
   ·rw[Mu]at h;exact wpAny_eqBool_str h
 «strs»:=λk x t v h=>by
  rcases bx h with⟨i,u,rfl,e⟩ | ⟨y,u,rfl,e⟩
  ·exact nomatch e
  ·injection e with e1 _
   subst e1
   cases v<;>rfl
theorem vj (prog:Program) (w:World) (i:Int) (t:Tok):(d6 prog w).is (.inl i) (.int i t)=true:=A9 i t
theorem vk (prog:Program) (w:World) (x:Str) (t:Tok):(d6 prog w).is (.inr x) (.str x t)=true:=Ba x t
inductive V where
 | non | bl (b:Bool) | int (i:Int) | str (x:Str) | byt (b:Array UInt8) | flt (b:UInt64) | ref (a:Addr) | ty (n:String)
 deriving DecidableEq
def RelV:V->Value->Prop
 | .non,u=>u=Value.none
 | .bl b,u=>u=Value.bool b
 | .int i,u=>∃t,u=Value.int i t
 | .str x,u=>∃t,u=Value.str x t
 | .byt b,u=>∃t,u=Value.bytes b t
 | .flt b,u=>∃t,u=Value.float b t
 | .ref a,u=>u=Value.ref a
 | .ty n,u=>u=Value.type n
abbrev bu:List V->List Value->Prop:=Paired RelV
theorem bu.length {xs:List V} {us:List Value} (r:bu xs us):xs.length=us.length:=EZ r
theorem bu.get:∀{xs:List V} {us:List Value} {i:Nat} {x:V},bu xs us->xs[i]? = some x->∃u,us[i]? = some u/\RelV x u
 | _,_,_,_,.nil,e=>by simp at e
 | _,_,0,_,.cons r _,e=>by simp at e;subst e;exact⟨_,rfl,r⟩
 | _,_,i+1,x,.cons _ t,e=>by
  obtain⟨u,h1,h2⟩:=bu.get (i:=i) (x:=x) t (by simpa using e)
  exact⟨u,by simpa using h1,h2⟩
theorem bu.set {x:V} {u:Value} (r:RelV x u):∀{xs:List V} {us:List Value} (i:Nat),bu xs us->bu (xs.set i x) (us.set i u)
 | _,_,_,.nil=>.nil
 | _,_,0,.cons _ t=>.cons r t
 | _,_,i+1,.cons q t=>.cons q (bu.set r i t)
theorem bu.append:∀{xs ys:List V} {us ws:List Value},bu xs us->bu ys ws->bu (xs++ys) (us++ws)
 | _,_,_,_,.nil,s=>s
 | _,_,_,_,.cons r t,s=>.cons r (bu.append t s)
theorem bu.take:∀{xs:List V} {us:List Value} (n:Nat),bu xs us->bu (xs.take n) (us.take n)
 | _,_,0,_=>.nil
 | _,_,_+1,.nil=>.nil
 | _,_,n+1,.cons r t=>.cons r (bu.take n t)
theorem bu.drop:∀{xs:List V} {us:List Value} (n:Nat),bu xs us->bu (xs.drop n) (us.drop n)
 | _,_,0,r=>r
 | _,_,_+1,.nil=>.nil
 | _,_,n+1,.cons _ t=>bu.drop n t
def Mo:Option V->Option Value->Prop
 | some v,some u=>RelV v u
 | none,none=>True
 | _,_=>False
def KV {κ:Type}:List (κ×V)->List (κ×Value)->Prop:=Paired fun(p:κ×V) (q:κ×Value)=>p.1=q.1/\RelV p.2 q.2
def kV:Key->V
 | .inl i=>.int i
 | .inr x=>.str x
inductive HO where
 /-- a list -/
 | lst (xs:List V)
 /-- a tuple (never changes) -/
 | tup (xs:List V)
 /-- a dict whose keys are ints and texts;one whose keys are tuples of ints and texts (the empty one is both) -/
 | dK (kvs:List (Key×V)) | dT (kvs:List (List Key×V))
 /-- a set of ints: its members,its size -/
 | set (S:Int->Bool) (n:Nat)
 /-- an instance of the class at C,its dict at dx,its attributes -/
 | ins (C dx:Addr) (fs:List (Str×V))
 /-- the dict of the instance at x -/
 | own (x:Addr)
 /-- the dict of an exception -/
 | xd (fs:List (Str×V))
 /-- a bound method,f of x -/
 | met (f x:Addr)
 /-- a range object lo,lo+1,.. below hi -/
 | rng (lo hi:Int)
 /-- a thing that is known to the object (the script;a dict while a loop walks it): read,never written while it is so -/
 | frz (o:Obj) (u:HO)
 /-- a code object's table -/
 | tbl (ps:Array Value)
 /-- any other thing,by what is true of its one object (a def of one's own: SetO a S n:=HO.ext λh=>..) -/
 | ext (φ:Heap->Prop)
abbrev Hp:=Addr->Option HO
def upd (H:Hp) (a:Addr) (o:HO):Hp:=λb=>if b=a then some o else H b
theorem bf {H:Hp} {a:Addr} {o:HO}:upd H a o a=some o:=by unfold upd;rw[if_pos rfl]
theorem av {H:Hp} {a b:Addr} {o:HO} (h:b≠a):upd H a o b=H b:=by unfold upd;rw[if_neg h]
theorem Jv {H:Hp} {a:Addr} {o u:HO}:upd (upd H a o) a u=upd H a u:=by
 funext b;unfold upd;split<;>rfl
theorem pq {H:Hp} {a b:Addr} {o u:HO} (h:H a=some o) (h':H b=some u) (d:o≠u):a≠b:=by
 intro e;subst e;rw[h]at h';exact d (CD h')
theorem bh {H:Hp} {a b:Addr} {o:HO} (h:H a=some o) (h':H b=none):a≠b:=by
 intro e;subst e;rw[h]at h';cases h'
def mm (h:Heap) (a:Addr) (items:Array Value):Prop:=∃o,h.get? a=some o/\o.cls=.type "tuple"/\o.dict=none/\∃n,o.data=.seq items n
theorem mm.tup {h:Heap} {a:Addr} {items:Array Value} (x:mm h a items):IsTup h a items:=let ⟨o,e,c,_,d⟩:=x;⟨o,e,c,d⟩
theorem mm.new (h:Heap) (items:Array Value):mm (h.push {cls:=.type "tuple",data:=.seq items}) h.objs.size items:=⟨_,AX _ rfl,rfl,rfl,_,rfl⟩
section
variable (P : Program) (w : World)
def g0 (H:Hp) (h:Heap) (a:Addr):HO->Prop
 | .lst xs=>xs.length<=sizeLine/\∃(its:List Value) (n:Nat),bu xs its/\h.get? a=some {cls:=.type "list",data:=.seq its.toArray n}
 | .tup xs=>xs.length<=sizeLine/\∃its:List Value,bu xs its/\mm h a its.toArray
 | .dK kvs=>kvs.length<=sizeLine/\(a==sysModules)=false/\∃vs,KV kvs vs/\h.DictOf (d6 P w) a vs
 | .dT kvs=>kvs.length<=sizeLine/\(a==sysModules)=false/\∃xs:List (List Key×Addr×Value),
   Paired (fun(p:List Key×V) (q:List Key×Addr×Value)=>p.1=q.1/\H q.2.1=some (.tup (p.1.map kV))/\RelV p.2 q.2.2) kvs xs /\
   ∃o es ep,h.get? a=some o/\o.ExactDict/\o.data=.dict es ep/\es.toList=xs.map (entryOfKey (tupleKind (d6 P w)))/\(xs.map (·.1)).Nodup
 | .set S n=>h.SetOf (intKind P w) a S n
 | .ins C dx fs=>H dx=some (.own a)/\fs.length<=1000/\dx≠a/\h.get? a=some (PySem.W.instObj C dx) /\
   ∃mA,h.Ns1 dx mA/\(∀f,Mo (fs.lookup f) (mA f))/\PySem.Within mA (fs.map (·.1))
 | .own _=>∃o,h.get? a=some o
 | .xd fs=>∃mA,h.Ns1 a mA/\∀f,Mo (fs.lookup f) (mA f)
 | .rng lo hi=>∃t u v,h.get? a=some {cls:=.type "range",data:=.fields #[.int lo t,.int hi u,.int 1 v]}
 | .frz o u=>h.get? a=some o/\g0 H h a u
 | .tbl ps=>h.get? a=some {cls:=.none,data:=.fields ps}
 | .met f x=>h.get? a=some (PySem.W.methodObj (.ref f) (.ref x))
 | .ext φ=>φ h/\(∃o,h.get? a=some o)/\∀h1 h2:Heap,φ h1->(∀o,h1.get? a=some o->h2.get? a=some o)->φ h2
def HOk (H:Hp) (h:Heap):Prop:=∀a o,H a=some o->g0 P w H h a o
end
section
variable {P : Program} {w : World} {H H' : Hp} {h h' : Heap} {a : Addr} {o : HO}
theorem g0.lt (x:g0 P w H h a o):a<h.objs.size:=by
 cases o with
 | lst xs=>obtain⟨_,_,_,_,e⟩:=x;exact AQ e
 | tup xs=>obtain⟨_,_,_,p⟩:=x;exact p.tup.lt
 | dK kvs=>obtain⟨_,_,_,_,o,_,_,e,_⟩:=x;exact AQ e
 | dT kvs=>obtain⟨_,_,_,_,o,_,_,e,_⟩:=x;exact AQ e
 | set S n=>obtain⟨o,_,_,_,e,_⟩:=x;exact AQ e
 | ins C dx fs=>obtain⟨_,_,_,e,_⟩:=x;exact AQ e
 | own y=>obtain⟨_,e⟩:=x;exact AQ e
 | xd fs=>obtain⟨_,⟨_,_,_,e,_⟩,_⟩:=x;exact AQ e
 | rng lo hi=>obtain⟨_,_,_,e⟩:=x;exact AQ e
 | frz ob u=>obtain⟨e,_⟩:=x;exact AQ e
 | tbl ps=>exact AQ (show h.get? a=some _ from x)
 | met f y=>exact AQ (show h.get? a=some _ from x)
 | ext φ=>obtain⟨_,⟨_,e⟩,_⟩:=x;exact AQ e
theorem Paired.mapP {α β:Type} {F G:α->β->Prop}:∀{l₁:List α} {l₂:List β},Paired F l₁ l₂->(∀a b,F a b->G a b)->Paired G l₁ l₂
 | _,_,.nil,_=>.nil
 | _,_,.cons r t,f=>.cons (f _ _ r) (Paired.mapP t f)
theorem g0.stay (x:g0 P w H h a o) (k:∀b u,(b=a\/H b=some (.own a))->h.get? b=some u->h'.get? b=some u)
  (ho:∀b,H b=some (.own a)->H' b=some (.own a)) (ht:∀b xs,H b=some (.tup xs)->H' b=some (.tup xs)):g0 P w H' h' a o:=by
 induction o with
 | lst xs=>obtain⟨z,its,n,r,e⟩:=x;exact⟨z,its,n,r,k _ _ (.inl rfl) e⟩
 | tup xs=>obtain⟨z,its,r,ob,e,c⟩:=x;exact⟨z,its,r,ob,k _ _ (.inl rfl) e,c⟩
 | dK kvs=>obtain⟨z,y,vs,r,ob,es,ep,e,c⟩:=x;exact⟨z,y,vs,r,ob,es,ep,k _ _ (.inl rfl) e,c⟩
 | dT kvs =>
  obtain⟨z,y,xs,r,ob,es,ep,e,c⟩:=x
  exact⟨z,y,xs,Paired.mapP r λp q z=>⟨z.1,ht _ _ z.2.1,z.2.2⟩,ob,es,ep,k _ _ (.inl rfl) e,c⟩
 | set S n=>obtain⟨ob,es,ep,t,e,c⟩:=x;exact⟨ob,es,ep,t,k _ _ (.inl rfl) e,c⟩
 | ins C dx fs =>
  obtain⟨d,z,ne,e,mA,⟨od,es,ep,e2,c⟩,r⟩:=x
  exact⟨ho _ d,z,ne,k _ _ (.inl rfl) e,mA,⟨od,es,ep,k _ _ (.inr d) e2,c⟩,r⟩
 | own y=>obtain⟨ob,e⟩:=x;exact⟨ob,k _ _ (.inl rfl) e⟩
 | xd fs=>obtain⟨mA,⟨od,es,ep,e,c⟩,r⟩:=x;exact⟨mA,⟨od,es,ep,k _ _ (.inl rfl) e,c⟩,r⟩
 | rng lo hi=>obtain⟨t,u,v,e⟩:=x;exact⟨t,u,v,k _ _ (.inl rfl) e⟩
 | frz ob u ih=>obtain⟨e,q⟩:=x;exact⟨k _ _ (.inl rfl) e,ih q⟩
 | tbl ps =>
  have e:h.get? a=some {cls:=.none,data:=.fields ps}:=x
  show h'.get? a=some {cls:=.none,data:=.fields ps}
  exact k a _ (.inl rfl) e
 | met f y =>
  have e:h.get? a=some (PySem.W.methodObj (.ref f) (.ref y)):=x
  show h'.get? a=some (PySem.W.methodObj (.ref f) (.ref y))
  exact k a _ (.inl rfl) e
 | ext φ=>obtain⟨p,⟨o,e⟩,st⟩:=x;exact⟨st _ _ p λo q=>k _ _ (.inl rfl) q,⟨o,k _ _ (.inl rfl) e⟩,st⟩
theorem HOk.lt (x:HOk P w H h) (e:H a=some o):a<h.objs.size:=(x a o e).lt
theorem HOk.fresh (x:HOk P w H h) (e:h.objs.size<=a):H a=none:=by
 cases q:H a with
 | none=>rfl
 | some u=>exact absurd (AR (x.lt q) e) (Do _)
theorem HOk.kept (x:HOk P w H h) (k:∀b u,h.get? b=some u->h'.get? b=some u):HOk P w H h':=λa o e =>
 (x a o e).stay (λb u _ q=>k b u q) (λ_ q=>q) λ_ _ q=>q
theorem HOk.laid (x:HOk P w H h) (k:∀b u,h.get? b=some u->h'.get? b=some u) (hp:h.objs.size<=a) (new:g0 P w (upd H a o) h' a o):HOk P w (upd H a o) h':=λb u e=>by
 have hn:=x.fresh hp
 by_cases hb:b=a
 ·subst hb;rw[bf]at e;cases e;exact new
 ·rw[av hb]at e
  exact(x b u e).stay (λc v _ q=>k c v q) (λc q=>by rw[av (bh q hn)];exact q) λc xs q=>by rw[av (bh q hn)];exact q
end
def Rd (H:Hp) (a:Addr) (u:HO):Prop:=H a=some u\/∃o,H a=some (.frz o u)
theorem Rd.ok {P:Program} {w:World} {H:Hp} {h:Heap} {a:Addr} {u:HO} (r:Rd H a u) (x:HOk P w H h):g0 P w H h a u:=by
 rcases r with r | ⟨o,r⟩
 ·exact x a u r
 ·obtain⟨_,q⟩:=x a _ r
  exact q
def Mut:Option HO->Prop
 | some (.lst _)=>True
 | some (.dK _)=>True
 | some (.dT _)=>True
 | some (.set _ _)=>True
 | some (.ins _ _ _)=>True
 | some (.ext _)=>True
 | _=>False
section
variable {P : Program} {w : World} {H : Hp} {h h' : Heap} {x e : Addr} {o' : HO}
theorem HOk.write (ok:HOk P w H h) (mu:Mut (H x)) (he:e=x\/H e=some (.own x)) (k:∀b u,b≠e->h.get? b=some u->h'.get? b=some u) (heo:∃u,h'.get? e=some u)
  (new:g0 P w (upd H x o') h' x o'):HOk P w (upd H x o') h':=λb u q=>by
 have nown:∀c y,H c=some (.own y)->c≠x:=λc y r z=>by subst z;rw[r]at mu;exact mu
 have ntup:∀c xs,H c=some (.tup xs)->c≠x:=λc xs r z=>by subst z;rw[r]at mu;exact mu
 by_cases hb:b=x
 ·subst hb;rw[bf]at q;cases q;exact new
 ·rw[av hb]at q
  by_cases hbe:b=e
  ·have q':H b=some (.own x):=by
    rcases he with z | z
    ·exact absurd (hbe.trans z) hb
    ·rw[hbe];exact z
   rw[q]at q';cases q'
   obtain⟨v,hv⟩:=heo
   exact⟨v,by rw[hbe];exact hv⟩
  ·refine(ok b u q).stay (λc v hc r=>k c v ?_ r) (λc r=>by rw[av (nown c b r)];exact r) λc xs r=>by rw[av (ntup c xs r)];exact r
   rcases hc with rfl | hc
   ·exact hbe
   ·rintro rfl
    rcases he with z | z
    ·exact nown c b hc z
    ·rw[hc]at z;cases z;exact hb rfl
end
structure Un (fs ex:List Addr) (H H':Hp) (h h':Heap):Prop where
 keep:∀b o,h.get? b=some o->H b=none->b∉fs->b∉ex->h'.get? b=some o
 slot:∀b o,h.get? b=some o->H b=none->b∈fs->b∉ex->∃sl,h'.get? b=some {o with slots:=sl}
 free:∀b o,h.get? b=some o->H b=none->b∉ex->H' b=none
 there:∀b o,h.get? b=some o->b∉ex->∃o',h'.get? b=some o'
 tups:∀b xs,H b=some (.tup xs)->H' b=some (.tup xs)
 frzs:∀b o u,H b=some (.frz o u)->H' b=some (.frz o u)
 tbls:∀b ps,H b=some (.tbl ps)->∃more,H' b=some (.tbl (ps++more))
section
variable {fs fs' ex ex' : List Addr} {H H1 H2 : Hp} {h h1 h2 h' : Heap} {a x e : Addr} {o : HO}
theorem Un.any (u:Un fs ex H H1 h h1) {b:Addr} {ob:Obj} (q:h.get? b=some ob) (n:H b=none) (hx:b∉ex):∃sl,h1.get? b=some {ob with slots:=sl}:=by
 by_cases hb:b∈fs
 ·exact u.slot b ob q n hb hx
 ·exact⟨ob.slots,u.keep b ob q n hb hx⟩
theorem Un.kept (k:∀b u,h.get? b=some u->h'.get? b=some u):Un fs ex H H h h' :=
 ⟨λb ob q _ _ _=>k b ob q,λb ob q _ _ _=>⟨ob.slots,k b ob q⟩,λ_ _ _ n _=>n,λb ob q _=>⟨ob,k b ob q⟩,λ_ _ q=>q,λ_ _ _ q=>q,λ_ ps q=>⟨#[],by rw[q];simp⟩⟩
theorem Un.refl:Un fs ex H H h h:=Un.kept λ_ _ q=>q
theorem Un.laid (k:∀b u,h.get? b=some u->h'.get? b=some u) (hp:h.objs.size<=a) (hn:H a=none):Un fs ex H (upd H a o) h h' where
 keep:=λb u q _ _ _=>k b u q
 slot:=λb u q _ _ _=>⟨u.slots,k b u q⟩
 free:=λb u q n _=>by rw[av (BD (AR (AQ q) hp))];exact n
 there:=λb u q _=>⟨u,k b u q⟩
 tups:=λb xs q=>by rw[av (bh q hn)];exact q
 frzs:=λb u xs q=>by rw[av (bh q hn)];exact q
 tbls:=λb ps q=>⟨#[],by rw[av (bh q hn),q];simp⟩
theorem Un.write (mu:Mut (H x)) (he:e=x\/H e=some (.own x)) (k:∀b u,b≠e->h.get? b=some u->h'.get? b=some u) (heo:∃u,h'.get? e=some u):Un fs ex H (upd H x o) h h':=by
 have hx:∀b,H b=none->b≠x:=λb n z=>by subst z;rw[n]at mu;exact mu
 have hb:∀b,H b=none->b≠e:=λb n z=>by
  subst z
  rcases he with r | r
  ·exact hx b n r
  ·rw[n]at r;cases r
 have hm:∀b u,H b=some u->¬Mut (some u)->b≠x:=λb u q nm z=>by subst z;rw[q]at mu;exact nm mu
 refine⟨λb u q n _ _=>k b u (hb b n) q,λb u q n _ _=>⟨u.slots,k b u (hb b n) q⟩,λb u q n _=>by rw[av (hx b n)];exact n,λb u q _=>?_,
  λb xs q=>by rw[av (hm b _ q λz=>z)];exact q,λb u xs q=>by rw[av (hm b _ q λz=>z)];exact q,λb ps q=>⟨#[],by rw[av (hm b _ q λz=>z),q];simp⟩⟩
 by_cases hbe:b=e
 ·subst hbe;exact heo
 ·exact⟨u,k b u hbe q⟩
end
def trk (h:Heap) (H:Hp):List Addr:=(List.range h.objs.size).filter λa=>(H a).isSome
def E6 (h:Heap) (H:Hp):Heap:=PySem.W.hideAll h (trk h H)
theorem Bb (h:Heap) (H:Hp):(E6 h H).objs.size=h.objs.size:=PySem.W.hideAll_size _ _
theorem E7 {h:Heap} {H:Hp} {b:Addr} {o:Obj} (e:h.get? b=some o) (n:H b=none):(E6 h H).get? b=some o :=
 PySem.W.hideAll_get _ e λhm=>by
  have q:(H b).isSome=true:=(HK.mp hm).2
  rw[n]at q;simp at q
theorem Jw {h:Heap} {H:Hp} {b:Addr} {o:Obj} (e:(E6 h H).get? b=some o):h.get? b=some o/\H b=none:=by
 have e':h.get? b=some o:=PySem.W.of_hideAll (trk h H) e
 refine⟨e',?_⟩
 cases q:H b with
 | none=>rfl
 | some x =>
  have hm:b∈trk h H:=HK.mpr ⟨HW.mpr (AQ e'),by simp[q]⟩
  have z:(E6 h H).get? b=none:=PySem.W.hideAll_none (trk h H) hm
  rw[z]at e;cases e
def Jx (g h:Heap) (L:Addr):List (Addr×Obj):=(List.range h.objs.size).filterMap λa=>if a=L\/(g.get? a).isSome=true then none else(h.get? a).map λo=>(a,o)
def rest (g h:Heap) (L d:Addr):List (Addr×Obj):=(Jx g h L).filter λp=>decide (p.1≠d)
structure Mod (K:PySem.W.Frag) (mg:Str->Option Value) (base:Heap):Prop where
 kin:K.In base
 glob:base.Ns mainGlobals mg
 blt:∃mb,base.Ns builtinsNs mb/\∀x:Str,x≠"__name__"->mb x=bootBuiltins x
 nolimit:base.NoLimit
structure Cx where
 prog:Program
 w:World
 K:PySem.W.Frag
 mg:Str->Option Value
 base:Heap
 A:Around
 N:List Str
 s₀:Shared
 H₀:Hp
 env:Env
 outer:List Env
 stack:List Env
 ex:List Addr
 fn:Str->Bool
 calm:Bool
 pn:List (Addr×Obj)
 xe:Value->Shared->Prop
def frs (l:List Env):List Addr:=l.filterMap (·.frame)
abbrev Cx.fs (X:Cx):List Addr:=frs X.outer
def Vis (sc:Scope) (x:Str):Prop:=sc.names.lookup x=some .local\/sc.names.lookup x=some .cell\/sc.names.lookup x=some .free
def Loc (sc:Scope) (x:Str):Prop:=sc.names.lookup x=some .local\/sc.names.lookup x=some .cell
def Look (env:Env) (h:Heap) (m:Str->Option Value) (x:Str) (u:Value):Prop :=
 (env.kindOf x=some .local/\m x=some u)\/((env.kindOf x=some .cell\/env.kindOf x=some .free)/\∃c,env.cells.lookup x=some c/\h.IsCell c (some u))
structure Cx.Ok (X:Cx):Prop where
 mod:Mod X.K X.mg X.base
 kind:X.env.scope.kind=.function
 glob:X.env.globals=mainGlobals
 blt:X.env.builtins=builtinsNs
 above:X.s₀.heap.objs.size<=X.env.locals
 inj:∀x y c,X.env.cells.lookup x=some c->X.env.cells.lookup y=some c->x=y
 has:∀x,(X.env.kindOf x=some .cell\/X.env.kindOf x=some .free)->∃c,X.env.cells.lookup x=some c
 cab:∀x c,X.fn x=true->X.env.cells.lookup x=some c->X.s₀.heap.objs.size<=c
 hd:X.calm=true->X.A.handled=none
 frames:X.A.frames=some X.stack
 stk:X.stack=X.outer\/(X.stack=X.env::X.outer/\X.env.frame=some X.env.locals)
 exf:∀b∈X.ex,b≠X.env.locals/\∀x c,X.env.cells.lookup x=some c->c≠b
 bs:∀b o,X.base.get? b=some o->X.s₀.heap.get? b=some o/\X.H₀ b=none
 bsz:X.base.objs.size<=X.s₀.heap.objs.size
 noex:∀b o,X.base.get? b=some o->b∉X.ex
 exfs:∀b∈X.ex,b∉X.fs
 funs:X.s₀.heap.FunFrames X.base X.outer
 frf:∀b∈X.fs,X.H₀ b=none
structure Inv (X:Cx) (pins:List (Addr×Obj)) (σ:List (Option V)) (H:Hp) (s:Shared):Prop where
 ok:X.Ok
 os:s.os=X.s₀.os
 bare:AllBare s.gens
 base:Un X.fs X.ex X.H₀ H X.s₀.heap s.heap
 loc:∃m,s.heap.Ns X.env.locals m/\∀(i:Nat) (x:Str) (v:V),X.N[i]? = some x->σ[i]? = some (some v)->Vis X.env.scope x->∃u,RelV v u/\Look X.env s.heap m x u
 cell:∀x c,X.env.cells.lookup x=some c->∃v,s.heap.IsCell c v
 free:H X.env.locals=none
 freeC:∀x c,X.env.cells.lookup x=some c->H c=none
 pin:∀p∈X.pn++pins,s.heap.get? p.1=some p.2/\H p.1=none/\p.1≠X.env.locals/\p.1∉X.fs/\∀v,p.2.data≠.cell v
 hok:HOk X.prog X.w H s.heap
 len:σ.length=X.N.length
section
variable {X : Cx} {pins : List (Addr × Obj)} {σ : List (Option V)} {H H' : Hp} {s : Shared} {h' : Heap}
theorem Cx.Ok.nofr (ok:X.Ok) {b:Addr} {o:Obj} (e:X.base.get? b=some o):b∉X.fs:=λhb=>by
 have:=(ok.funs.mem hb).1
 rw[e]at this;cases this
theorem Inv.bs (I:Inv X pins σ H s):∀b o,X.base.get? b=some o->s.heap.get? b=some o/\H b=none:=λb o e =>
 ⟨I.base.keep b o (I.ok.bs b o e).1 (I.ok.bs b o e).2 (I.ok.nofr e) (I.ok.noex b o e),I.base.free b o (I.ok.bs b o e).1 (I.ok.bs b o e).2 (I.ok.noex b o e)⟩
theorem Inv.bk (I:Inv X pins σ H s):∀b o,X.base.get? b=some o->s.heap.get? b=some o:=λb o e=>(I.bs b o e).1
theorem Inv.mod (I:Inv X pins σ H s):Mod X.K X.mg X.base:=I.ok.mod
theorem Inv.kIn (I:Inv X pins σ H s):X.K.In s.heap:=I.ok.mod.kin.keeps I.bk
theorem Inv.fr (I:Inv X pins σ H s):∃m,Fr X.base X.env.locals s.heap m :=
 let ⟨m,hn,_⟩:=I.loc
 ⟨m,hn,I.bk,BA I.ok.bsz I.ok.above⟩
theorem Inv.lt (I:Inv X pins σ H s):X.env.locals<s.heap.objs.size:=let ⟨_,hn,_⟩:=I.loc;hn.lt
theorem Inv.sz (I:Inv X pins σ H s):X.s₀.heap.objs.size<=s.heap.objs.size:=BA I.ok.above (CN I.lt)
theorem Inv.nofs (I:Inv X pins σ H s) {a:Addr} (h:s.heap.objs.size<=a):a∉X.fs:=λhb=>by
 obtain⟨_,o,ho,_⟩:=I.ok.funs.mem hb
 exact absurd (AR (AQ ho) (BA I.sz h)) (Do _)
theorem Inv.cne (I:Inv X pins σ H s):∀x c,X.env.cells.lookup x=some c->c≠X.env.locals:=λx c e z=>by
 obtain⟨v,o,ho,hd⟩:=I.cell x c e
 obtain⟨m,⟨o',es,ep,ho',hd',_⟩,_⟩:=I.loc
 rw[z,ho']at ho;cases ho;rw[hd']at hd;cases hd
theorem Inv.funs (I:Inv X pins σ H s):s.heap.FunFrames X.base X.outer:=by
 have all:∀(l:List Env),(∀b∈frs l,b∈X.fs)->X.s₀.heap.FunFrames X.base l->s.heap.FunFrames X.base l:=by
  intro l
  induction l with
  | nil=>intro _ _;trivial
  | cons env r ih =>
   intro hs hl
   obtain⟨hk,⟨L,o,hf,hn,ho,hd⟩,hr⟩:=hl
   have hL:L∈X.fs:=hs L (by unfold frs;rw[FZ,hf];exact BF)
   obtain⟨sl,e⟩:=I.base.slot L o ho (I.ok.frf L hL) hL λz=>I.ok.exfs L z hL
   exact⟨hk,⟨L,_,hf,hn,e,hd⟩,ih (λb hb=>hs b (by unfold frs;rw[FZ,hf];exact AT _ hb)) hr⟩
 exact all X.outer (λ_ hb=>hb) I.ok.funs
theorem Inv.stack (I:Inv X pins σ H s):s.heap.FunFrames X.base X.stack:=by
 rcases I.ok.stk with e | ⟨e,hf⟩
 ·rw[e];exact I.funs
 ·rw[e]
  obtain⟨m,hn,_⟩:=I.loc
  refine .cons (by rw[I.ok.kind];decide) hf hn ?_ I.funs
  exact Heap.get?_none_of_le (BA I.ok.bsz I.ok.above)
theorem Inv.stkSub (I:Inv X pins σ H s):∀b∈frs X.stack,b∈X.env.locals::X.fs:=λb hb=>by
 rcases I.ok.stk with e | ⟨e,hf⟩
 ·rw[e]at hb;exact AT _ hb
 ·rw[e]at hb
  unfold frs at hb
  rw[FZ,hf]at hb
  exact hb
theorem Inv.stkFree (I:Inv X pins σ H s):∀b∈frs X.stack,H b=none:=λb hb=>by
 rcases AV.mp (I.stkSub b hb)with e | hb
 ·rw[e];exact I.free
 ·obtain⟨_,o,ho,_⟩:=I.ok.funs.mem hb
  exact I.base.free b o ho (I.ok.frf b hb) λz=>I.ok.exfs b z hb
theorem Inv.step {g':Array GenState} {t':Nat} {d':Drawn} {ch:List Addr} (I:Inv X pins σ H s)
  (hch:∀b∈ch,(b∈X.ex\/X.s₀.heap.objs.size<=b)/\b≠X.env.locals/\(∀x c,X.env.cells.lookup x=some c->c≠b)/\∀p∈X.pn++pins,p.1≠b)
  (keep:∀b o,b≠X.env.locals->b∉X.fs->b∉ch->s.heap.get? b=some o->H b=none->h'.get? b=some o)
  (slot:∀b o,b≠X.env.locals->b∈X.fs->b∉ch->s.heap.get? b=some o->H b=none->∃sl,h'.get? b=some {o with slots:=sl}) (free:∀b o,b∉ch->s.heap.get? b=some o->H b=none->H' b=none)
  (there:∀b o,b∉ch->s.heap.get? b=some o->∃o',h'.get? b=some o')
  (tups:∀b xs,H b=some (.tup xs)->H' b=some (.tup xs)) (frzs:∀b o u,H b=some (.frz o u)->H' b=some (.frz o u)) (tbls:∀b ps,H b=some (.tbl ps)->∃more,H' b=some (.tbl (ps++more)))
  (ns:∀m,s.heap.Ns X.env.locals m->h'.Ns X.env.locals m) (hok:HOk X.prog X.w H' h') (hg:AllBare g') :
  Inv X pins σ H' {s with heap:=h',gens:=g',drawn:=d',toks:=t'}:=by
 have neL:∀b o,X.s₀.heap.get? b=some o->b≠X.env.locals:=λb o e=>BD (AR (AQ e) I.ok.above)
 have neC:∀b o,X.s₀.heap.get? b=some o->b∉X.ex->b∉ch:=λb o e hx hb=>by
  rcases(hch b hb).1 with z | z
  ·exact hx z
  ·exact absurd (AR (AQ e) z) (Do _)
 have cellK:∀x c,X.env.cells.lookup x=some c->∀v,s.heap.IsCell c v->h'.IsCell c v:=λx c e v ⟨o,ho,hd⟩=>by
  have nch:c∉ch:=λz=>(hch c z).2.2.1 x c e rfl
  by_cases hc:c∈X.fs
  ·obtain⟨sl,q⟩:=slot c o (I.cne x c e) hc nch ho (I.freeC x c e)
   exact⟨_,q,hd⟩
  ·exact⟨o,keep c o (I.cne x c e) hc nch ho (I.freeC x c e),hd⟩
 refine⟨I.ok,I.os,hg,⟨λb o e n hb hx=>?_,λb o e n hb hx=>?_,λb o e n hx=>?_,λb o e hx=>?_,λb xs e=>tups b xs (I.base.tups b xs e),λb o xs e=>frzs b o xs (I.base.frzs b o xs e),λb ps e=>?_⟩,?_,λx c e=>?_,?_,λx c e=>?_,λp hp=>?_,hok,I.len⟩
 ·exact keep b o (neL b o e) hb (neC b o e hx) (I.base.keep b o e n hb hx) (I.base.free b o e n hx)
 ·obtain⟨sl,e1⟩:=I.base.slot b o e n hb hx
  obtain⟨sl',e2⟩:=slot b _ (neL b o e) hb (neC b o e hx) e1 (I.base.free b o e n hx)
  exact⟨sl',e2⟩
 ·obtain⟨o',e1⟩:=I.base.there b o e hx
  exact free b o' (neC b o e hx) e1 (I.base.free b o e n hx)
 ·obtain⟨o',e1⟩:=I.base.there b o e hx
  exact there b o' (neC b o e hx) e1
 ·obtain⟨m1,e1⟩:=I.base.tbls b ps e
  obtain⟨m2,e2⟩:=tbls b _ e1
  exact⟨m1++m2,by rw[e2,Array.append_assoc]⟩
 ·obtain⟨m,hn,hl⟩:=I.loc
  refine⟨m,ns m hn,λi x v e1 e2 e3=>?_⟩
  obtain⟨u,r,l⟩:=hl i x v e1 e2 e3
  refine⟨u,r,?_⟩
  rcases l with l | ⟨k,c,e,z⟩
  ·exact .inl l
  ·exact .inr ⟨k,c,e,cellK x c e _ z⟩
 ·obtain⟨v,z⟩:=I.cell x c e
  exact⟨v,cellK x c e v z⟩
 ·obtain⟨m,⟨o,_,_,ho,_⟩,_⟩:=I.loc
  exact free _ o (λz=>(hch _ z).2.1 rfl) ho I.free
 ·obtain⟨v,o,ho,hd⟩:=I.cell x c e
  exact free c o (λz=>(hch c z).2.2.1 x c e rfl) ho (I.freeC x c e)
 ·obtain⟨e,n,ne,nf,d⟩:=I.pin p hp
  have nch:p.1∉ch:=λz=>(hch p.1 z).2.2.2 p hp rfl
  exact⟨keep p.1 p.2 ne nf nch e n,free p.1 p.2 nch e n,ne,nf,d⟩
theorem Inv.un {t':Nat} (I:Inv X pins σ H s) (u:Un X.fs [] H H' s.heap h') (hok:HOk X.prog X.w H' h'):Inv X pins σ H' {s with heap:=h',toks:=t'}:=by
 obtain⟨m,⟨o,es,ep,ho,r⟩,_⟩:=id I.loc
 obtain⟨sl,hL⟩:=u.any ho I.free (by simp)
 exact I.step (g':=s.gens) (d':=s.drawn) (ch:=[]) (λ_ z=>nomatch z) (λb o _ hb _ e n=>u.keep b o e n hb (by simp)) (λb o _ hb _ e n=>u.slot b o e n hb (by simp)) (λb o _ e n=>u.free b o e n (by simp)) (λb o _ e=>u.there b o e (by simp)) u.tups u.frzs u.tbls (λm' hm=>by
  obtain⟨o',es',ep',ho',r'⟩:=hm
  rw[ho]at ho';cases ho'
  exact⟨_,es',ep',hL,r'⟩) hok I.bare
theorem Inv.call {g':Array GenState} {t':Nat} {d':Drawn} {ch:List Addr} (I:Inv X pins σ H s) (u:Un (frs X.stack) ch H H' s.heap h') (hok:HOk X.prog X.w H' h') (hg:AllBare g')
  (hch:∀b∈ch,(b∈X.ex\/X.s₀.heap.objs.size<=b)/\b≠X.env.locals/\(∀x c,X.env.cells.lookup x=some c->c≠b)/\∀p∈X.pn++pins,p.1≠b) :
  Inv X pins σ H' {s with heap:=h',gens:=g',drawn:=d',toks:=t'}:=by
 obtain⟨m,⟨o,es,ep,ho,r⟩,_⟩:=id I.loc
 obtain⟨sl,hL⟩:=u.any ho I.free λz=>(hch _ z).2.1 rfl
 exact I.step (ch:=ch) hch (λb o hL hb hc e n=>u.keep b o e n (λz=>(AV.mp (I.stkSub b z)).elim hL hb) hc) (λb o _ _ hc e n=>u.any e n hc) (λb o hc e n=>u.free b o e n hc) (λb o hc e=>u.there b o e hc) u.tups u.frzs u.tbls (λm' hm=>by
  obtain⟨o',es',ep',ho',r'⟩:=hm
  rw[ho]at ho';cases ho'
  exact⟨_,es',ep',hL,r'⟩) hok hg
theorem Inv.turned {t':Nat} {it:Addr} (I:Inv X pins σ H s) (k:∀b o,b≠it->s.heap.get? b=some o->h'.get? b=some o) (hn:H it=none) (hL:it≠X.env.locals)
  (h1:it∈X.ex\/X.s₀.heap.objs.size<=it) (h2:∀x c,X.env.cells.lookup x=some c->c≠it) (h3:∀p∈X.pn++pins,p.1≠it):Inv X pins σ H {s with heap:=h',toks:=t'}:=by
 have nit:∀b u,H b=some u->b≠it:=λb u e z=>by rw[z,hn]at e;cases e
 refine I.step (g':=s.gens) (d':=s.drawn) (ch:=[it]) (λb hb=>?_) (λb o _ _ hc e _=>k b o (λz=>hc (by simp[z])) e) (λb o _ _ hc e _=>⟨o.slots,k b o (λz=>hc (by simp[z])) e⟩) (λ_ _ _ _ n=>n)
  (λb o hc e=>⟨o,k b o (λz=>hc (by simp[z])) e⟩) (λ_ _ e=>e) (λ_ _ _ e=>e) (λb ps e=>⟨#[],by rw[e];simp⟩) (λm hm=>?_) (λb u e=>?_) I.bare
 ·have e:b=it:=by simpa using hb
  subst e
  exact⟨h1,hL,h2,h3⟩
 ·obtain⟨o,es,ep,ho,r⟩:=hm
  exact⟨o,es,ep,k _ o (Ne.symm hL) ho,r⟩
 ·refine(I.hok b u e).stay (λc v hc q=>k c v ?_ q) (λ_ q=>q) λ_ _ q=>q
  rcases hc with z | z
  ·rw[z];exact nit b u e
  ·exact nit c _ z
theorem Inv.tok (I:Inv X pins σ H s) (t:Nat):Inv X pins σ H {s with toks:=t}:=I.un (h':=s.heap) (t':=t) Un.refl I.hok
theorem Inv.kept {t':Nat} (I:Inv X pins σ H s) (k:∀b u,s.heap.get? b=some u->h'.get? b=some u):Inv X pins σ H {s with heap:=h',toks:=t'}:=I.un (Un.kept k) (I.hok.kept k)
theorem Inv.laid {a:Addr} {o:HO} {t':Nat} (I:Inv X pins σ H s) (k:∀b u,s.heap.get? b=some u->h'.get? b=some u) (hp:s.heap.objs.size<=a) (new:g0 X.prog X.w (upd H a o) h' a o) :
  Inv X pins σ (upd H a o) {s with heap:=h',toks:=t'}:=I.un (Un.laid k hp (I.hok.fresh hp)) (I.hok.laid k hp new)
theorem Inv.write {x e:Addr} {o:HO} {t':Nat} (I:Inv X pins σ H s) (mu:Mut (H x)) (he:e=x\/H e=some (.own x)) (k:∀b u,b≠e->s.heap.get? b=some u->h'.get? b=some u) (heo:∃u,h'.get? e=some u)
  (new:g0 X.prog X.w (upd H x o) h' x o):Inv X pins σ (upd H x o) {s with heap:=h',toks:=t'}:=I.un (Un.write mu he k heo) (I.hok.write mu he k heo new)
theorem Inv.weak {σ':List (Option V)} (I:Inv X pins σ H s) (hl:σ'.length=σ.length) (w:∀(i:Nat) v,σ'[i]? = some (some v)->σ[i]? = some (some v)):Inv X pins σ' H s :=
 ⟨I.ok,I.os,I.bare,I.base,let ⟨m,hn,hl'⟩:=I.loc;⟨m,hn,λi x v e1 e2 e3=>hl' i x v e1 (w i v e2) e3⟩,I.cell,I.free,I.freeC,I.pin,I.hok,hl.trans I.len⟩
theorem Inv.pins_of {pins':List (Addr×Obj)} (I:Inv X pins σ H s) (h:∀p∈pins',s.heap.get? p.1=some p.2/\H p.1=none/\p.1≠X.env.locals/\p.1∉X.fs/\∀v,p.2.data≠.cell v):Inv X pins' σ H s :=
 ⟨I.ok,I.os,I.bare,I.base,I.loc,I.cell,I.free,I.freeC,λp hp=>(BX.mp hp).elim (λz=>I.pin p (FR _ z)) (h p),I.hok,I.len⟩
theorem yc {N:List Str} (hN:N.Nodup) {i j:Nat} {x:Str} (a:N[i]? = some x) (b:N[j]? = some x):i=j:=by
 obtain⟨h1,e1⟩:=AI.mp a
 obtain⟨h2,e2⟩:=AI.mp b
 exact(List.getElem_inj hN).mp (e1.trans e2.symm)
theorem sm {M:Model} {A:Around} {E:Value->Shared->Prop} {i:Nat} {x:Str} {v:V} {u:Value} {Q:Unit->Shared->Prop} (I:Inv X pins σ H s) (hN:X.N.Nodup) (hi:X.N[i]? = some x) (hx:Loc X.env.scope x) (r:RelV v u)
  (h:∀s',Inv X pins (σ.set i (some v)) H s'->(∃a,Heap.SameBut a s.heap s'.heap/\(a=X.env.locals\/X.env.cells.lookup x=some a))->Q () s') (hf:X.fn x=true\/X.env.scope.names.lookup x=some .local:=by first | exact .inl rfl | exact .inr rfl | assumption):wpAny M A (storeName X.env x u) Q E s:=by
 obtain⟨m,hn,hl⟩:=id I.loc
 have hcls:(X.env.scope.kind==.class || (X.env.scope.kind==.module&&X.env.locals != X.env.globals))=false:=by rw[I.ok.kind];rfl
 have hiσ:i<σ.length:=by rw[I.len];exact(AI.mp hi).1
 have cne:=I.cne
 have tracked:∀{a:Addr} {h':Heap},(∃o,s.heap.get? a=some o/\H a=none)->Heap.SameBut a s.heap h'->HOk X.prog X.w H h':=λ{a h'} ha hs b ob e=>by
  obtain⟨_,_,hfree⟩:=ha
  refine(I.hok b ob e).stay (λc w' hc q=>(hs.2 c ?_).trans q) (λ_ q=>q) λ_ _ q=>q
  rintro rfl
  rcases hc with rfl | hc
  ·rw[hfree]at e;cases e
  ·rw[hfree]at hc;cases hc
 rcases hx with hk | hk
 ·refine wpAny_storeName_local hk hn (λh' hn' hs=>?_) hcls
  obtain⟨oL,_,_,hoL,_⟩:=id hn
  refine h _ ⟨I.ok,I.os,I.bare,⟨λb o e n hb hx=>?_,λb o e n hb hx=>?_,I.base.free,λb o e hx=>?_,I.base.tups,I.base.frzs,I.base.tbls⟩,⟨_,hn',λj y v' e1 e2 e3=>?_⟩,λy c e=>?_,I.free,I.freeC,λp hp=>?_,tracked ⟨oL,hoL,I.free⟩ hs,by simpa using I.len⟩ ⟨_,hs,.inl rfl⟩
  ·exact(hs.2 b (BD (AR (AQ e) I.ok.above))).trans (I.base.keep b o e n hb hx)
  ·obtain⟨sl,e1⟩:=I.base.slot b o e n hb hx
   exact⟨sl,(hs.2 b (BD (AR (AQ e) I.ok.above))).trans e1⟩
  ·obtain⟨o',e1⟩:=I.base.there b o e hx
   exact⟨o',(hs.2 b (BD (AR (AQ e) I.ok.above))).trans e1⟩
  ·by_cases hj:j=i
   ·subst hj
    rw[hi]at e1;cases e1
    rw[DA hiσ]at e2
    cases e2
    exact⟨u,r,.inl ⟨hk,by simp⟩⟩
   ·rw[CG (Ne.symm hj)]at e2
    obtain⟨u',r',q⟩:=hl j y v' e1 e2 e3
    refine⟨u',r',?_⟩
    rcases q with⟨k,e⟩ | ⟨k,c,e,z⟩
    ·refine .inl ⟨k,?_⟩
     have:y≠x:=λe=>hj (yc hN e1 (e ▸ hi))
     simp[this,e]
    ·exact .inr ⟨k,c,e,z.sameBut hs (cne y c e)⟩
  ·obtain⟨w',z⟩:=I.cell y c e
   exact⟨w',z.sameBut hs (cne y c e)⟩
  ·obtain⟨e,n,ne,nf,d⟩:=I.pin p hp
   exact⟨(hs.2 p.1 ne).trans e,n,ne,nf,d⟩
 ·have hfn:X.fn x=true:=by
   rcases hf with z | z
   ·exact z
   ·rw[z]at hk;cases hk
  obtain⟨c,hc⟩:=I.ok.has x (.inl hk)
  obtain⟨w',z⟩:=I.cell x c hc
  refine wpAny_storeName_cell I.ok.kind hk hc z (λh' hc' hs=>?_)
  obtain⟨oc,hoc,hocd⟩:=id z
  refine h {s with heap:=h'} ⟨I.ok,I.os,I.bare,⟨λb o e n hb hx=>?_,λb o e n hb hx=>?_,I.base.free,λb o e hx=>?_,I.base.tups,I.base.frzs,I.base.tbls⟩,⟨m,hn.sameBut hs (Ne.symm (cne x c hc)),λj y v' e1 e2 e3=>?_⟩,λy c' e=>?_,I.free,I.freeC,λp hp=>?_,tracked ⟨oc,hoc,I.freeC x c hc⟩ hs,by simpa using I.len⟩ ⟨c,hs,.inr hc⟩
  ·exact(hs.2 b (BD (AR (AQ e) (I.ok.cab x c hfn hc)))).trans (I.base.keep b o e n hb hx)
  ·obtain⟨sl,e1⟩:=I.base.slot b o e n hb hx
   exact⟨sl,(hs.2 b (BD (AR (AQ e) (I.ok.cab x c hfn hc)))).trans e1⟩
  ·obtain⟨o',e1⟩:=I.base.there b o e hx
   exact⟨o',(hs.2 b (BD (AR (AQ e) (I.ok.cab x c hfn hc)))).trans e1⟩
  ·by_cases hj:j=i
   ·subst hj
    rw[hi]at e1;cases e1
    rw[DA hiσ]at e2
    cases e2
    exact⟨u,r,.inr ⟨.inl hk,c,hc,hc'⟩⟩
   ·rw[CG (Ne.symm hj)]at e2
    obtain⟨u',r',q⟩:=hl j y v' e1 e2 e3
    refine⟨u',r',?_⟩
    rcases q with q | ⟨k,c',e,z'⟩
    ·exact .inl q
    ·refine .inr ⟨k,c',e,z'.sameBut hs ?_⟩
     rintro rfl
     exact hj (yc hN e1 (I.ok.inj _ _ _ e hc ▸ hi))
  ·by_cases hcc:c'=c
   ·subst hcc;exact⟨_,hc'⟩
   ·obtain⟨w2,z2⟩:=I.cell y c' e
    exact⟨w2,z2.sameBut hs hcc⟩
  ·obtain⟨e,n,ne,nf,d⟩:=I.pin p hp
   refine⟨(hs.2 p.1 ?_).trans e,n,ne,nf,d⟩
   intro q
   rw[q,hoc]at e
   have q':oc=p.2:=CD e
   exact d w' (by rw[<-q'];exact hocd)
theorem yd {M:Model} {A:Around} {E:Value->Shared->Prop} {i:Nat} {x:Str} {v:V} {u:Value} {Q:Unit->Shared->Prop} (I:Inv X pins σ H s) (hN:X.N.Nodup) (hi:X.N[i]? = some x) (hx:Loc X.env.scope x) (r:RelV v u)
  (h:∀s',Inv X pins (σ.set i (some v)) H s'->Q () s') (hf:X.fn x=true\/X.env.scope.names.lookup x=some .local:=by first | exact .inl rfl | exact .inr rfl | assumption):wpAny M A (storeName X.env x u) Q E s :=
 sm I hN hi hx r (λs' I' _=>h s' I') hf
theorem Inv.call' {s':Shared} {ch:List Addr} (I:Inv X pins σ H s) (ho:s'.os=s.os) (u:Un (frs X.stack) ch H H' s.heap s'.heap) (hok:HOk X.prog X.w H' s'.heap) (hg:AllBare s'.gens)
  (hch:∀b∈ch,(b∈X.ex\/X.s₀.heap.objs.size<=b)/\b≠X.env.locals/\(∀x c,X.env.cells.lookup x=some c->c≠b)/\∀p∈X.pn++pins,p.1≠b):Inv X pins σ H' s':=by
 obtain⟨h',g',d',t',o'⟩:=s'
 have e:o'=s.os:=ho
 subst e
 exact I.call (g':=g') (t':=t') (d':=d') u hok hg hch
end
abbrev XK:=Value->Option Addr->Hp->Prop
abbrev St:=List (Option V)
abbrev VK:=V->Hp->Prop
abbrev TE:=St->Hp->VK->Prop
abbrev TT:=St->Hp->(Bool->Hp->Prop)->Prop
abbrev TA:=St->Hp->(List V->Hp->Prop)->Prop
structure Ends where
 nx:St->Hp->Prop
 rt:VK
 bk:St->Hp->Prop:=λ_ _=>False
 ct:St->Hp->Prop:=λ_ _=>False
abbrev TS:=Ends->St->Hp->Prop
def EP (X:Cx) (pins:List (Addr×Obj)) (σ:St) (Q:VK) (u:Value) (s':Shared):Prop:=∃v H',Inv X pins σ H' s'/\RelV v u/\Q v H'
def TP (X:Cx) (pins:List (Addr×Obj)) (σ:St) (Q:Bool->Hp->Prop) (b:Bool) (s':Shared):Prop:=∃H',Inv X pins σ H' s'/\Q b H'
def AP (X:Cx) (pins:List (Addr×Obj)) (σ:St) (Q:List V->Hp->Prop) (us:List Value) (s':Shared):Prop:=∃vs H',Inv X pins σ H' s'/\bu vs us/\Q vs H'
def SP (X:Cx) (pins:List (Addr×Obj)) (D:Ends) (f:Flow) (s':Shared):Prop :=
 match f with
 | .next=>∃σ' H',Inv X pins σ' H' s'/\D.nx σ' H'
 | .brk=>∃σ' H',Inv X pins σ' H' s'/\D.bk σ' H'
 | .cont=>∃σ' H',Inv X pins σ' H' s'/\D.ct σ' H'
 | .ret u=>∃v σ' H',Inv X pins σ' H' s'/\RelV v u/\D.rt v H'
def PE (X:Cx) (e:Expr) (t:TE):Prop :=
 ∀(pins:List (Addr×Obj)) (s:Shared) (σ:St) (H:Hp) (Q:VK),Inv X pins σ H s->t σ H Q->wpAny (model X.prog X.w) X.A (eval e X.env) (EP X pins σ Q) X.xe s
def PT (X:Cx) (e:Expr) (t:TT):Prop :=
 ∀(pins:List (Addr×Obj)) (s:Shared) (σ:St) (H:Hp) (Q:Bool->Hp->Prop),Inv X pins σ H s->t σ H Q->wpAny (model X.prog X.w) X.A (isTrue e X.env (eval e X.env)) (TP X pins σ Q) X.xe s
def PW (X:Cx) (e:Expr) (t:TT):Prop :=
 ∀(whole:Sem Value) (pins:List (Addr×Obj)) (s:Shared) (σ:St) (H:Hp) (Q:Bool->Hp->Prop),Inv X pins σ H s->t σ H Q->wpAny (model X.prog X.w) X.A (isTrue e X.env whole) (TP X pins σ Q) X.xe s
theorem PW.pt {X:Cx} {e:Expr} {t:TT} (h:PW X e t):PT X e t:=h _
def PA (X:Cx) (es:List Expr) (t:TA):Prop :=
 ∀(pos:Pos) (pins:List (Addr×Obj)) (s:Shared) (σ:St) (H:Hp) (Q:List V->Hp->Prop),Inv X pins σ H s->t σ H Q->wpAny (model X.prog X.w) X.A (spliced (backTo pos (starEach es X.env))) (AP X pins σ Q) X.xe s
def PS (X:Cx) (st:Stmt) (t:TS):Prop :=
 ∀(pins:List (Addr×Obj)) (s:Shared) (σ:St) (H:Hp) (D:Ends),Inv X pins σ H s->t D σ H->wpAny (model X.prog X.w) X.A (exec st X.env) (SP X pins D) X.xe s
def PSs (X:Cx) (st:List Stmt) (t:TS):Prop :=
 ∀(pins:List (Addr×Obj)) (s:Shared) (σ:St) (H:Hp) (D:Ends),Inv X pins σ H s->t D σ H->wpAny (model X.prog X.w) X.A (execs st X.env) (SP X pins D) X.xe s
theorem thn {α:Type} {t:Sem α} {Q Q':α->Shared->Prop} {M:Model} {A:Around} {E:Value->Shared->Prop} {s:Shared} (h:wpAny M A t Q E s) (hQ:∀a s,Q a s->Q' a s):wpAny M A t Q' E s:=DO h hQ λ_ _ x=>x
section
variable {X : Cx}
theorem bin {a b:Expr} {ta tb:TE} (ha:PE X a ta) (hb:PE X b tb) {pins:List (Addr×Obj)} {s:Shared} {σ:St} {H:Hp} {R:V->V->Hp->Prop} (I:Inv X pins σ H s) (h:ta σ H λx H1=>tb σ H1 λy H2=>R x y H2)
  {α:Type} {Q:α->Shared->Prop} {f:Value->Value->Sem α}
  (hf:∀v u s2 x y H2,Inv X pins σ H2 s2->RelV x v->RelV y u->R x y H2->wpAny (model X.prog X.w) X.A (f v u) Q X.xe s2) :
  wpAny (model X.prog X.w) X.A (eval a X.env) (λv s₁=>wpAny (model X.prog X.w) X.A (eval b X.env) (λu s₂=>wpAny (model X.prog X.w) X.A (f v u) Q X.xe s₂) X.xe s₁) X.xe s:=by
 refine thn (ha pins s σ H _ I h) λv s1 ⟨x,H1,I1,r1,q1⟩=>?_
 refine thn (hb pins s1 σ H1 _ I1 q1) λu s2 ⟨y,H2,I2,r2,q2⟩=>?_
 exact hf v u s2 x y H2 I2 r1 r2 q2
def Ui (i:Nat):TE:=λσ H Q=>∃v,σ[i]? = some (some v)/\Q v H
def tC (v:V):TE:=λ_ H Q=>Q v H
theorem Bc {i:Nat} {x:Str} {pos:Pos} (hN:X.N[i]? = some x) (hv:Vis X.env.scope x) (hd:(x==("__debug__":Str))=false:=by decide) (hcd:(x==("__classdict__":Str))=false:=by decide):PE X (.Name x pos) (Ui i):=by
 intro pins s σ H Q I h
 obtain⟨v,e,h⟩:=h
 obtain⟨m,hn,hl⟩:=I.loc
 obtain⟨u,r,l⟩:=hl i x v hN e hv
 have fin:EP X pins σ Q u s:=⟨v,H,I,r,h⟩
 rcases l with⟨hk,hm⟩ | ⟨hk,c,hc,hcell⟩
 ·exact wpAny_Name (wpAny_loadName_local I.ok.kind hk hn hm fin) hd
 ·rcases hk with hk | hk
  ·exact wpAny_Name (wpAny_loadName_cell I.ok.kind hk hc hcell fin) hd
  ·exact wpAny_Name (wpAny_loadName_free I.ok.kind hk hc hcell fin hcd) hd
theorem Mx {i j pos}:PE X (.Constant (.int i) j pos) (tC (.int i)):=λ_ _ _ H _ I h=>wpAny_Constant_int ⟨.int i,H,I.tok _,⟨_,rfl⟩,h⟩
theorem Rq {b j pos}:PE X (.Constant (.bool b) j pos) (tC (.bl b)):=λ_ _ _ H _ I h=>Constant_bool ⟨.bl b,H,I,rfl,h⟩
theorem My {x j pos}:PE X (.Constant (.str x) j pos) (tC (.str x)):=λ_ _ _ H _ I h=>Calls.Constant_str ⟨.str x,H,I.tok _,⟨_,rfl⟩,h⟩
def Gl (X:Cx) (x:Str):Prop:=X.env.kindOf x=some .globalImplicit
theorem Bd {E:Value->Shared->Prop} {pins:List (Addr×Obj)} {s:Shared} {σ:St} {H:Hp} {x:Str} {u:Value} {pos:Pos} {Q:Value->Shared->Prop} (I:Inv X pins σ H s) (hg:Gl X x) (hm:X.mg x=some u) (h:Q u s)
  (hd:(x==("__debug__":Str))=false:=by decide):wpAny (model X.prog X.w) X.A (eval (.Name x pos) X.env) Q E s :=
 GD I.ok.kind hg (Calls.loadGlobal_global (by rw[I.ok.glob];exact I.mod.glob.keeps I.bk) hm h) hd
theorem n4 {E:Value->Shared->Prop} {pins:List (Addr×Obj)} {s:Shared} {σ:St} {H:Hp} {x:Str} {u:Value} {pos:Pos} {Q:Value->Shared->Prop} (I:Inv X pins σ H s) (hg:Gl X x) (hm:X.mg x=none) (hv:bootBuiltins x=some u) (h:Q u s)
  (hn:x≠"__name__":=by decide) (hd:(x==("__debug__":Str))=false:=by decide):wpAny (model X.prog X.w) X.A (eval (.Name x pos) X.env) Q E s:=by
 obtain⟨mb,h1,h2⟩:=I.mod.blt
 exact GD I.ok.kind hg (Calls.loadGlobal_builtin (by rw[I.ok.glob];exact I.mod.glob.keeps I.bk) hm (by rw[I.ok.blt];exact h1.keeps I.bk) ((h2 x hn).trans hv) h) hd
theorem Jy {x:Str} {v:V} {u:Value} {pos:Pos} (hg:Gl X x) (hm:X.mg x=some u) (r:RelV v u) (hd:(x==("__debug__":Str))=false:=by decide):PE X (.Name x pos) (tC v) :=
 λ_ _ _ H _ I h=>Bd I hg hm ⟨v,H,I,r,h⟩ hd
theorem Jz {x:Str} {v:V} {u:Value} {pos:Pos} (hg:Gl X x) (hm:X.mg x=none) (hv:bootBuiltins x=some u) (r:RelV v u) (hn:x≠"__name__":=by decide) (hd:(x==("__debug__":Str))=false:=by decide):PE X (.Name x pos) (tC v) :=
 λ_ _ _ H _ I h=>n4 I hg hm hv ⟨v,H,I,r,h⟩ hn hd
variable {a b : Expr} {ta tb : TE} {pos : Pos}
def PC (X:Cx) (op:CmpOp) (a b:Expr) (t:TE):Prop :=
 ∀(pins:List (Addr×Obj)) (s:Shared) (σ:St) (H:Hp) (Q:VK),Inv X pins σ H s->t σ H Q ->
  wpAny (model X.prog X.w) X.A (eval a X.env) (λv s₁=>wpAny (model X.prog X.w) X.A (eval b X.env) (λu s₂=>wpAny (model X.prog X.w) X.A (compareOp op v u) (EP X pins σ Q) X.xe s₂) X.xe s₁) X.xe s
theorem E8 (b:Expr) {op:CmpOp} (h:op≠.In) (h2:op≠.NotIn):behindInMarks op b=false:=by
 have e1:(op==CmpOp.In)=false:=by cases op<;>first | rfl | exact absurd rfl h
 have e2:(op==CmpOp.NotIn)=false:=by cases op<;>first | rfl | exact absurd rfl h2
 cases b<;>simp[behindInMarks,e1,e2]
def tB (t:TE):TT:=λσ H Q=>t σ H λx H1=>∃c,x=.bl c/\Q c H1
theorem Mz {op:CmpOp} {t:TE} (h:PC X op a b t) (h1:behindInMarks op b=false:=by first | exact E8 _ (by decide) (by decide) | rfl):PT X (.Compare a [op] [b] pos) (tB t):=by
 intro pins s σ H Q I hw
 refine wpAny_isTrue_Compare1 (thn (h pins s σ H _ I hw) λv s1 h1=>thn h1 λu s2 h2=>thn h2 λc s3 ⟨x,H1,I1,r1,q1⟩=>?_) h1
 obtain⟨d,rfl,q⟩:=q1
 cases r1
 exact DJ ⟨H1,I1,q⟩
variable {tA tB' : TT} {rest : List Expr}
def Vu (t u:TT):TT:=λσ H Q=>t σ H λc H1=>if c=true then u σ H1 Q else Q false H1
def tOr (t u:TT):TT:=λσ H Q=>t σ H λc H1=>if c=true then Q true H1 else u σ H1 Q
def Vv (t:TT):TT:=λσ H Q=>t σ H λc H1=>Q (!c) H1
theorem J0 (ha:PT X a tA):PW X (.BoolOp .And [a] pos) tA:=by
 intro wh pins s σ H Q I h
 refine isTrue_and (thn (ha pins s σ H Q I h) λc s1 e=>?_)
 cases c with
 | true=>exact isTrue_and_nil e
 | false=>exact e
theorem M0 (ha:PT X a tA):PW X (.BoolOp .Or [a] pos) tA:=by
 intro wh pins s σ H Q I h
 refine isTrue_or (thn (ha pins s σ H Q I h) λc s1 e=>?_)
 cases c with
 | false=>exact isTrue_or_nil e
 | true=>exact e
theorem M1 (ha:PT X a tA) (hb:PW X (.BoolOp .And (b::rest) pos) tB'):PW X (.BoolOp .And (a::b::rest) pos) (Vu tA tB'):=by
 intro wh pins s σ H Q I h
 refine isTrue_and (thn (ha pins s σ H _ I h) λc s1 ⟨H1,I1,q1⟩=>?_)
 cases c with
 | true=>exact hb wh pins s1 σ H1 Q I1 q1
 | false=>exact⟨H1,I1,q1⟩
theorem Rr (ha:PT X a tA) (hb:PW X (.BoolOp .Or (b::rest) pos) tB'):PW X (.BoolOp .Or (a::b::rest) pos) (tOr tA tB'):=by
 intro wh pins s σ H Q I h
 refine isTrue_or (thn (ha pins s σ H _ I h) λc s1 ⟨H1,I1,q1⟩=>?_)
 cases c with
 | true=>exact⟨H1,I1,q1⟩
 | false=>exact hb wh pins s1 σ H1 Q I1 q1
theorem M3 (ha:PT X a tA):PT X (.UnaryOp .Not a pos) (Vv tA):=by
 intro pins s σ H Q I h
 exact isTrue_not (ha pins s σ H (λc H1=>Q (!c) H1) I h)
def Rt (ta tb:TE):TE:=λσ H Q=>ta σ H λx H1=>∃c,x=.bl c/\if c=true then tb σ H1 Q else Q (.bl false) H1
def Ru (ta:TE):TE:=λσ H Q=>ta σ H λx H1=>∃c,x=.bl c/\Q (.bl (!c)) H1
theorem M4 {op} {t:TE} (h:PE X a t):PE X (.BoolOp op [a] pos) t:=λpins s σ H Q I hw=>BoolOp_one (h pins s σ H Q I hw)
theorem M5 (ha:PE X a ta) (hb:PE X (.BoolOp .And (b::rest) pos) tb):PE X (.BoolOp .And (a::b::rest) pos) (Rt ta tb):=by
 intro pins s σ H Q I h
 refine BoolOp_and (thn (ha pins s σ H _ I h) λv s1 ⟨x,H1,I1,r1,q1⟩=>?_)
 obtain⟨c,rfl,q1⟩:=q1
 cases r1
 refine DJ ?_
 cases c with
 | true=>exact hb pins s1 σ H1 Q I1 q1
 | false=>exact⟨.bl false,H1,I1,rfl,q1⟩
theorem M6 (ha:PE X a ta):PE X (.UnaryOp .Not a pos) (Ru ta):=by
 intro pins s σ H Q I h
 refine UnaryOp_ (thn (ha pins s σ H _ I h) λv s1 ⟨x,H1,I1,r1,q1⟩=>?_)
 obtain⟨c,rfl,q1⟩:=q1
 cases r1
 exact not_of (DJ ⟨.bl (!c),H1,I1,rfl,q1⟩)
def tIf (t:TT) (ta tb:TE):TE:=λσ H Q=>t σ H λc H1=>if c=true then ta σ H1 Q else tb σ H1 Q
theorem E9 {c:Expr} (hc:PT X c tA) (ha:PE X a ta) (hb:PE X b tb):PE X (.IfExp c a b pos) (tIf tA ta tb):=by
 intro pins s σ H Q I h
 refine wpAny_IfExp (thn (hc pins s σ H _ I h) λd s1 ⟨H1,I1,q1⟩=>?_)
 cases d with
 | true=>exact ha pins s1 σ H1 Q I1 q1
 | false=>exact hb pins s1 σ H1 Q I1 q1
end
def SqL (K:PySem.W.Frag) (H:Hp) (a:Addr) (xs:List V):Prop :=
 Rd H a (.lst xs) \/
  ∃(o:Obj) (its:Array Value) (n:Nat),K.lookup a=some o/\o.cls=.type "list"/\o.dict=none/\o.data=.seq its n/\its.size<=sizeLine/\bu xs its.toList
def SqT (K:PySem.W.Frag) (H:Hp) (a:Addr) (xs:List V):Prop :=
 Rd H a (.tup xs) \/
  ∃(o:Obj) (its:Array Value) (n:Nat),K.lookup a=some o/\o.cls=.type "tuple"/\o.data=.seq its n/\its.size<=sizeLine/\bu xs its.toList/\o.dict=none
def Vw:Value->Option V
 | .none=>some .non
 | .bool b=>some (.bl b)
 | .int i _=>some (.int i)
 | .str x _=>some (.str x)
 | .bytes b _=>some (.byt b)
 | .float b _=>some (.flt b)
 | .ref a=>some (.ref a)
 | .type n=>some (.ty n)
 | _=>none
theorem RelV.abs {x:V} {u:Value} (r:RelV x u):Vw u=some x:=by
 cases x with
 | non=>cases r;rfl
 | bl _=>cases r;rfl
 | int _=>obtain⟨t,rfl⟩:=r;rfl
 | str _=>obtain⟨t,rfl⟩:=r;rfl
 | byt _=>obtain⟨t,rfl⟩:=r;rfl
 | flt _=>obtain⟨t,rfl⟩:=r;rfl
 | ref _=>cases r;rfl
 | ty _=>cases r;rfl
theorem RelV.inj {x y:V} {u:Value} (r:RelV x u) (q:RelV y u):x=y:=CD (r.abs.symm.trans q.abs)
theorem bu.inj:∀{xs ys:List V} {us:List Value},bu xs us->bu ys us->xs=ys
 | _,_,_,.nil,.nil=>rfl
 | _,_,_,.cons r t,.cons r' t'=>by rw[r.inj r',bu.inj t t']
section
variable {X : Cx} {pins : List (Addr × Obj)} {σ : St} {H : Hp} {s : Shared} {a : Addr} {xs ys : List V}
theorem SqL.of {K:PySem.W.Frag} (h:H a=some (.lst xs)):SqL K H a xs:=.inl (.inl h)
theorem SqT.of {K:PySem.W.Frag} (h:H a=some (.tup xs)):SqT K H a xs:=.inl (.inl h)
theorem Inv.list (I:Inv X pins σ H s) (h:SqL X.K H a xs):∃its:List Value,bu xs its/\PlainL s.heap a its.toArray/\xs.length<=sizeLine:=by
 rcases h with h | ⟨o,its,n,hk,hc,hd,hs,hz,r⟩
 ·obtain⟨z,its,n,r,e⟩:=h.ok I.hok
  exact⟨its,r,⟨_,n,e,rfl,rfl,rfl⟩,z⟩
 ·refine⟨its.toList,r,⟨o,n,I.kIn a o hk,hc,hd,by simpa using hs⟩,?_⟩
  have e:=r.length
  simp![BS]at e
  lia
theorem Inv.tuple (I:Inv X pins σ H s) (h:SqT X.K H a xs):∃its:List Value,bu xs its/\IsTup s.heap a its.toArray/\xs.length<=sizeLine:=by
 rcases h with h | ⟨o,its,n,hk,hc,hs,hz,r,_⟩
 ·obtain⟨z,its,r,p⟩:=h.ok I.hok
  exact⟨its,r,p.tup,z⟩
 ·refine⟨its.toList,r,⟨o,I.kIn a o hk,hc,n,by simpa using hs⟩,?_⟩
  have e:=r.length
  simp![BS]at e
  lia
theorem Inv.list_inj (I:Inv X pins σ H s) (h:SqL X.K H a xs) (h':SqL X.K H a ys):xs=ys:=by
 obtain⟨its,r,⟨o,n,e,_,_,d⟩,_⟩:=I.list h
 obtain⟨its',r',⟨o',n',e',_,_,d'⟩,_⟩:=I.list h'
 rw[e]at e';cases e'
 rw[d]at d'
 injection d' with d1 _
 have:its=its':=by simpa using congrArg Array.toList d1
 subst this
 exact r.inj r'
theorem Inv.tuple_inj (I:Inv X pins σ H s) (h:SqT X.K H a xs) (h':SqT X.K H a ys):xs=ys:=by
 obtain⟨its,r,⟨o,e,_,n,d⟩,_⟩:=I.tuple h
 obtain⟨its',r',⟨o',e',_,n',d'⟩,_⟩:=I.tuple h'
 rw[e]at e';cases e'
 rw[d]at d'
 injection d' with d1 _
 have:its=its':=by simpa using congrArg Array.toList d1
 subst this
 exact r.inj r'
end
abbrev Cx.wish (X:Cx) (E:Value->Shared->Prop):Cx:={X with xe:=E}
abbrev Cx.nox (X:Cx):Cx:=X.wish λ_ _=>False
theorem Cx.Ok.wish {X:Cx} (ok:X.Ok) (E:Value->Shared->Prop):(X.wish E).Ok :=
 ⟨ok.mod,ok.kind,ok.glob,ok.blt,ok.above,ok.inj,ok.has,ok.cab,ok.hd,ok.frames,ok.stk,ok.exf,ok.bs,ok.bsz,ok.noex,ok.exfs,ok.funs,ok.frf⟩
theorem Cx.Ok.unwish {X:Cx} {E:Value->Shared->Prop} (ok:(X.wish E).Ok):X.Ok :=
 ⟨ok.mod,ok.kind,ok.glob,ok.blt,ok.above,ok.inj,ok.has,ok.cab,ok.hd,ok.frames,ok.stk,ok.exf,ok.bs,ok.bsz,ok.noex,ok.exfs,ok.funs,ok.frf⟩
section
variable {X : Cx} {pins : List (Addr × Obj)} {σ : St} {H : Hp} {s : Shared} {E : Value -> Shared -> Prop}
theorem Inv.wish (I:Inv X pins σ H s) (E:Value->Shared->Prop):Inv (X.wish E) pins σ H s:=⟨I.ok.wish E,I.os,I.bare,I.base,I.loc,I.cell,I.free,I.freeC,I.pin,I.hok,I.len⟩
theorem Inv.unwish (I:Inv (X.wish E) pins σ H s):Inv X pins σ H s:=⟨I.ok.unwish,I.os,I.bare,I.base,I.loc,I.cell,I.free,I.freeC,I.pin,I.hok,I.len⟩
theorem SP.unwish {D:Ends} {f:Flow} {s':Shared} (h:SP (X.wish E) pins D f s'):SP X pins D f s':=by
 cases f with
 | next=>obtain⟨σ',H',I,q⟩:=h;exact⟨σ',H',I.unwish,q⟩
 | brk=>obtain⟨σ',H',I,q⟩:=h;exact⟨σ',H',I.unwish,q⟩
 | cont=>obtain⟨σ',H',I,q⟩:=h;exact⟨σ',H',I.unwish,q⟩
 | ret u=>obtain⟨v,σ',H',I,r,q⟩:=h;exact⟨v,σ',H',I.unwish,r,q⟩
theorem PSs.nox {st:List Stmt} {t:TS} (h:PSs X.nox st t):PSs X st t:=λpins s σ H D I hw =>
 DO (h pins s σ H D (I.wish _) hw) (λ_ _ q=>q.unwish) λ_ _ z=>False.elim z
end
section
variable {X : Cx} {st : Stmt} {rest : List Stmt} {t u : TS} {e : Expr} {te : TE} {pos : Pos}
def tNext:TS:=λD σ H=>D.nx σ H
def Vx (t u:TS):TS:=λD σ H=>t {D with nx:=u D} σ H
theorem J1:PSs X [] tNext:=λ_ _ σ H _ I h=>wpAny_execs_nil ⟨σ,H,I,h⟩
theorem Fb (h1:PS X st t) (h2:PSs X rest u):PSs X (st::rest) (Vx t u):=by
 intro pins s σ H D I h
 refine wpAny_execs_cons (thn (h1 pins s σ H {D with nx:=u D} I h) λf s1 q=>?_)
 cases f with
 | next =>
  obtain⟨σ',H',I',q⟩:=q
  exact h2 pins s1 σ' H' D I' q
 | ret v=>exact q
 | brk=>exact q
 | cont=>exact q
theorem Inv.quiet {pins:List (Addr×Obj)} {σ:St} {H:Hp} {s:Shared} (I:Inv X pins σ H s):interactive X.env=false:=by simp[interactive,I.ok.kind]
def Rv (te:TE):TS:=λD σ H=>te σ H λ_ H1=>D.nx σ H1
theorem J2 (he:PE X e te) (hs:swapsWith e none pos.line X.env=pure false:=by rfl):PS X (.Expr e pos) (Rv te):=by
 intro pins s σ H D I h
 exact wpAny_Expr_any (thn (he pins s σ H _ I h) λv s1 ⟨x,H1,I1,r1,q1⟩=>⟨σ,H1,I1,q1⟩) I.quiet hs
def Vy (te:TE):TS:=λD σ H=>te σ H D.rt
theorem M7 (he:PE X e te):PS X (.Return (some e) pos) (Vy te):=by
 intro pins s σ H D I h
 exact wpAny_Return_some (thn (he pins s σ H _ I h) λv s1 ⟨x,H1,I1,r1,q1⟩=>⟨x,σ,H1,I1,r1,q1⟩)
def Vz (c:TT) (t u:TS):TS:=λD σ H=>c σ H λb H1=>if b=true then t D σ H1 else u D σ H1
theorem Rw {c:Expr} {a b:List Stmt} {tc:TT} (hc:PT X c tc) (ha:PSs X a t) (hb:PSs X b u):PS X (.If c a b pos) (Vz tc t u):=by
 intro pins s σ H D I h
 refine wpAny_If (thn (hc pins s σ H _ I h) λd s1 ⟨H1,I1,q1⟩=>?_)
 cases d with
 | true=>exact ha pins s1 σ H1 D I1 q1
 | false=>exact hb pins s1 σ H1 D I1 q1
end
abbrev TG:=V->St->Hp->(St->Hp->Prop)->Prop
abbrev TGs:=List V->St->Hp->(St->Hp->Prop)->Prop
def PG (X:Cx) (target:Expr) (t:TG):Prop :=
 ∀(pins:List (Addr×Obj)) (s:Shared) (σ:St) (H:Hp) (v:V) (u:Value) (Q:St->Hp->Prop),Inv X pins σ H s->RelV v u->t v σ H Q ->
  wpAny (model X.prog X.w) X.A (assign target X.env u) (λ_ s'=>∃σ' H',Inv X pins σ' H' s'/\Q σ' H') X.xe s
def PGs (X:Cx) (ts:List Expr) (t:TGs):Prop :=
 ∀(pins:List (Addr×Obj)) (s:Shared) (σ:St) (H:Hp) (vs:List V) (us:List Value) (Q:St->Hp->Prop),Inv X pins σ H s->bu vs us->t vs σ H Q ->
  wpAny (model X.prog X.w) X.A (assignInOrder ((assignEach ts X.env).map (·.2)) us) (λ_ s'=>∃σ' H',Inv X pins σ' H' s'/\Q σ' H') X.xe s
abbrev TSet:=V->V->V->Hp->(Hp->Prop)->Prop
def Rb (X:Cx) (t:TSet):Prop :=
 ∀(pins:List (Addr×Obj)) (s:Shared) (σ:St) (H:Hp) (o i v:V) (ov iv u:Value) (Q:Hp->Prop),Inv X pins σ H s->RelV o ov->RelV i iv->RelV v u->t o i v H Q ->
  wpAny (model X.prog X.w) X.A (setItem ov iv u) (λ_ s'=>∃H',Inv X pins σ H' s'/\Q H') X.xe s
section
variable {X : Cx} {pos : Pos}
def J3 (i:Nat):TG:=λv σ H Q=>Q (σ.set i (some v)) H
theorem Be {i:Nat} {x:Str} (hN:X.N.Nodup) (hi:X.N[i]? = some x) (hx:Loc X.env.scope x) (hf:X.fn x=true\/X.env.scope.names.lookup x=some .local:=by first | exact .inl rfl | exact .inr rfl | assumption):PG X (.Name x pos) (J3 i):=by
 intro pins s σ H v u Q I r h
 exact wpAny_assign_Name (yd I hN hi hx r (λs' I'=>⟨_,H,I',h⟩) hf)
def gNil:TGs:=λvs σ H Q=>vs=[]/\Q σ H
def Rx (t:TG) (u:TGs):TGs:=λvs σ H Q=>∃v r,vs=v::r/\t v σ H λσ' H'=>u r σ' H' Q
theorem J4:PGs X [] gNil:=by
 intro pins s σ H vs us Q I r h
 obtain⟨e,h⟩:=h
 subst e
 cases r
 exact assignInOrder_nil ⟨σ,H,I,h⟩
theorem Fc {e:Expr} {es:List Expr} {t:TG} {u:TGs} (h1:PG X e t) (h2:PGs X es u)
  (hs:(assignEach (e::es) X.env).map (·.2)=assign e X.env::(assignEach es X.env).map (·.2):=by rfl):PGs X (e::es) (Rx t u):=by
 intro pins s σ H vs us Q I r h
 obtain⟨v,vr,e1,h⟩:=h
 subst e1
 cases r with
 | cons r rr =>
  rw[hs]
  refine assignInOrder_cons (thn (h1 pins s σ H _ _ _ I r h) λ_ s1 ⟨σ1,H1,I1,q1⟩=>?_)
  exact h2 pins s1 σ1 H1 _ _ Q I1 rr q1
def V0 (K:PySem.W.Frag) (n:Nat) (t:TGs):TG:=λv σ H Q=>∃a xs,v=.ref a/\SqT K H a xs/\xs.length=n/\t xs σ H Q
theorem M8 {es:List Expr} {k:Nat} {t:TGs} {n:Nat} (hc:X.calm=true) (h:PGs X es t)
  (hn:(assignEach es X.env).length=n:=by rfl) (hst:(assignEach es X.env).findIdx? (·.1)=none:=by rfl):PG X (.Tuple es k pos) (V0 X.K n t):=by
 intro pins s σ H v u Q I r hw
 obtain⟨a,xs,e1,hq,hl,hw⟩:=hw
 subst e1
 cases r
 obtain⟨its,rv,ht,hz⟩:=I.tuple hq
 refine assign_Tuple_tuple (I.ok.hd hc) ht (by simp[hn,<-hl,rv.length]) hst λh' hx=>?_
 have I1:Inv X pins σ H {s with heap:=h'}:=I.kept (t':=s.toks) λb o e=>hx b o (BD (AQ e)) e
 exact h pins _ σ H xs _ Q I1 (by simpa using rv) hw
def V1 (to ti:TE) (t:TSet):TG:=λv σ H Q=>to σ H λo H1=>ti σ H1 λi H2=>t o i v H2 λH3=>Q σ H3
theorem M9 {o i:Expr} {to ti:TE} {t:TSet} (ho:PE X o to) (hi:PE X i ti) (hs:Rb X t)
  (ha:∀v,assign (.Subscript o i pos) X.env v=(do
   let ov <-holding [v] (eval o X.env)
   let iv <-holding [v,ov] (eval i X.env)
   standAt pos
   holding [v,ov,iv] (setItem ov iv v)
   release [v,ov,iv] []):=by intro _;rfl):PG X (.Subscript o i pos) (V1 to ti t):=by
 intro pins s σ H v u Q I r h
 rw[ha]
 refine AB (DX (thn (ho pins s σ H _ I h) λov s1 ⟨x,H1,I1,r1,q1⟩=>?_))
 refine AB (DX (thn (hi pins s1 σ H1 _ I1 q1) λiv s2 ⟨y,H2,I2,r2,q2⟩=>?_))
 refine AB (wpAny_standAt (AB (DX (thn (hs pins s2 σ H2 x y v ov iv u _ I2 r1 r2 r q2) λ_ s3 ⟨H3,I3,q3⟩=>?_))))
 exact wpAny_release ⟨σ,H3,I3,q3⟩
def Uj (te:TE) (g:TG):TS:=λD σ H=>te σ H λx H1=>g x σ H1 D.nx
theorem Hd {tg e:Expr} {te:TE} {g:TG} (he:PE X e te) (hg:PG X tg g) (hs:swapsWithSole [tg] e pos.line X.env=pure false:=by rfl) (hw:swappedStores [tg] e X.env=pure none:=by rfl)
  (h1:(assignEach [tg] X.env).map (·.2)=[assign tg X.env]:=by rfl):PS X (.Assign [tg] e pos) (Uj te g):=by
 intro pins s σ H D I h
 refine wpAny_Assign_stores (thn (he pins s σ H _ I h) λv s1 ⟨x,H1,I1,r1,q1⟩=>?_) hs hw
 rw[h1]
 exact thn (hg pins s1 σ H1 x v _ I1 r1 q1) λ_ s2 q=>q
theorem Na {i:Nat} {x:Str} {e:Expr} {te:TE} {pos':Pos} (hN:X.N.Nodup) (hi:X.N[i]? = some x) (hx:Loc X.env.scope x) (he:PE X e te) (hs:swapsWith e (some (.Name x pos')) pos.line X.env=pure false:=by rfl) (hf:X.fn x=true\/X.env.scope.names.lookup x=some .local:=by first | exact .inl rfl | exact .inr rfl | assumption) :
  PS X (.Assign [.Name x pos'] e pos) (Uj te (J3 i)):=by
 intro pins s σ H D I h
 refine wpAny_Assign_Name (thn (he pins s σ H _ I h) λv s1 ⟨y,H1,I1,r1,q1⟩=>?_) hs
 exact yd I1 hN hi hx r1 (λs2 I2=>⟨_,H1,I2,q1⟩) hf
end
structure It where
 go:Nat->Hp->Prop
 yld:Nat->Hp->V->Hp->Prop
 stop:Nat->Hp->Prop
def A6 (X:Cx) (pins:List (Addr×Obj)) (H:Hp) (b:Addr):Prop :=
 H b=none/\b≠X.env.locals/\b∉X.fs/\(b∈X.ex\/X.s₀.heap.objs.size<=b)/\(∀x c,X.env.cells.lookup x=some c->c≠b)/\∀p∈X.pn++pins,p.1≠b
theorem Inv.fpOk {X:Cx} {pins:List (Addr×Obj)} {σ:St} {H H':Hp} {s:Shared} {b:Addr} (I:Inv X pins σ H s) (hb:s.heap.objs.size<=b) (hn:H' b=none):A6 X pins H' b:=by
 refine⟨hn,DT (AR I.lt hb),I.nofs hb,.inr (BA I.sz hb),λx c e z=>?_,λp hp z=>?_⟩
 ·obtain⟨v,q⟩:=I.cell x c e
  exact absurd (AR q.lt (by rw[z];exact hb)) (Do _)
 ·exact absurd (AR (AQ (I.pin p hp).1) (by rw[z];exact hb)) (Do _)
structure Turn (P:Program) (w:World) (K:PySem.W.Frag) (tg:Expr) (J:It) (fp:List Addr) (it:Addr) (tn:Nat->Heap->Prop):Prop where
 mem:it∈fp
 obj:∀i h,tn i h->∀b∈fp,∃o,h.get? b=some o/\∀v,o.data≠.cell v
 keep:∀i h h',tn i h->(∀b∈fp,∀o,h.get? b=some o->h'.get? b=some o)->tn i h'
 item:∀(X:Cx),X.prog=P->X.w=w->X.K=K->X.calm=true->∀(i:Nat) (pins:List (Addr×Obj)) (s:Shared) (σ:St) (H:Hp) (E:Value->Shared->Prop),Inv X pins σ H s->(∀b∈fp,A6 X pins H b)->tn i s.heap->J.go i H ->
  wpAny (model P w) X.A (pyNext (.ref it)) (λr s1=>∃u,r=some u /\
   wpAny (model P w) X.A (letOwnedTupleGo tg (.ref it) u) (λ_ s2=>∃x H',Inv X pins σ H' s2/\RelV x u/\J.yld i H x H'/\tn (i+1) s2.heap/\∀b∈fp,H' b=none) E s1) E s
 done:∀(X:Cx),X.prog=P->X.w=w->X.K=K->X.calm=true->∀(i:Nat) (pins:List (Addr×Obj)) (s:Shared) (σ:St) (H:Hp) (E:Value->Shared->Prop),Inv X pins σ H s->(∀b∈fp,A6 X pins H b)->tn i s.heap->J.stop i H ->
  wpAny (model P w) X.A (pyNext (.ref it)) (λr s1=>r=none/\Inv X pins σ H s1) E s
 self:∀(A:Around) (i:Nat) (s:Shared) (Q:Value->Shared->Prop) (E:Value->Shared->Prop),tn i s.heap->Q (.ref it) s->wpAny (model P w) A (pyIter (.ref it)) Q E s
abbrev TI:=St->Hp->(It->Hp->Prop)->Prop
def PIE (X:Cx) (pins:List (Addr×Obj)) (σ:St) (tg:Expr) (R:It->Hp->Prop) (itv:Value) (s2:Shared):Prop :=
 ∃(it:Addr) (fp:List Addr) (tn:Nat->Heap->Prop) (J:It) (H':Hp),itv=.ref it/\Inv X pins σ H' s2/\Turn X.prog X.w X.K tg J fp it tn/\tn 0 s2.heap/\(∀b∈fp,A6 X pins H' b)/\R J H'
def PI (X:Cx) (tg iter:Expr) (wi:TI):Prop :=
 ∀(pins:List (Addr×Obj)) (s:Shared) (σ:St) (H:Hp) (R:It->Hp->Prop),Inv X pins σ H s->wi σ H R ->
  wpAny (model X.prog X.w) X.A (eval iter X.env) (λv s1=>wpAny (model X.prog X.w) X.A (pyIter v) (PIE X pins σ tg R) X.xe s1) X.xe s
theorem J5 {M:Model} {A:Around} {E:Value->Shared->Prop} {s:Shared} {tg:Expr} {it:Addr} {u:Value} {o:Obj} {n:String} {vs:Array Value} {Q:Unit->Shared->Prop} (ho:s.heap.get? it=some o) (hc:o.cls=.type n) (hd:o.data=.fields vs)
  (hn:["enumerate","zip","dict_itemiterator","dict_reverseitemiterator","odict_iterator","itertools.zip_longest","itertools.pairwise"].contains n=false) (hQ:Q () s):wpAny M A (letOwnedTupleGo tg (.ref it) u) Q E s:=by
 unfold letOwnedTupleGo
 cases tg<;>first
  | exact AM hQ
  | (cases u<;>first
    | exact AM hQ
    | (
     refine AB (wpAny_load ho ?_)
     rw[hc,hd]
     show wpAny M A (if(["enumerate","zip","dict_itemiterator","dict_reverseitemiterator","odict_iterator","itertools.zip_longest","itertools.pairwise"].contains n&&vs[0]?==some (rawInt _))=true then _ else _) Q E s
     rw[if_neg (by intro h;rw[hn,Bool.false_and]at h;cases h)]
     exact AM hQ))
def Itl (K:PySem.W.Frag) (a:Addr):It :=
 ⟨λi H=>∃xs x,SqL K H a xs/\xs[i]? = some x,λi H x H'=>H'=H/\∀xs,SqL K H a xs->xs[i]? = some x,λi H=>∃xs,SqL K H a xs/\xs.length<=i⟩
def Itt (K:PySem.W.Frag) (a:Addr):It :=
 ⟨λi H=>∃xs x,SqT K H a xs/\xs[i]? = some x,λi H x H'=>H'=H/\∀xs,SqT K H a xs->xs[i]? = some x,λi H=>∃xs,SqT K H a xs/\xs.length<=i⟩
def Itr (lo:Int) (n:Nat):It:=⟨λi _=>i<n,λi H x H'=>H'=H/\x=.int (lo+i),λi _=>n<=i⟩
theorem Bf {P:Program} {w:World} {K:PySem.W.Frag} {tg:Expr} (a it:Addr):Turn P w K tg (Itl K a) [it] it (λi h=>h.IsListIter it a i) where
 mem:=by simp
 obj:=λi h st b hb=>by
  have e:b=it:=by simpa using hb
  subst e
  obtain⟨o,e,c,d⟩:=st
  exact⟨o,e,λv z=>by rw[d]at z;cases z⟩
 keep:=λi h h' st k=>st.at λo e=>k it (by simp) o e
 item:=by
  intro X hP hw hK hc i pins s σ H E I hf st hg
  subst hP hw hK
  obtain⟨xs,x,hq,hx⟩:=hg
  obtain⟨its,rv,p,hz⟩:=I.list hq
  obtain⟨u,hu,ru⟩:=rv.get hx
  obtain⟨f0,f1,f2,f3,f4,f5⟩:=hf it (by simp)
  refine wpAny_pyNext_list_item st p.isList (x:=u) (by simpa using hu) λh' st' sb=>?_
  have I1:Inv X pins σ H {s with heap:=h'}:=I.turned (t':=s.toks) (λb o hb e=>(sb.2 b hb).trans e) f0 f1 f3 f4 f5
  obtain⟨o,e,c,d⟩:=id st'
  exact⟨u,rfl,J5 (s:={s with heap:=h'}) e c d (by decide) ⟨x,H,I1,ru,⟨rfl,λys hy=>by rw[I.list_inj hy hq];exact hx⟩,st',λb hb=>(hf b hb).1⟩⟩
 done:=by
  intro X hP hw hK hc i pins s σ H E I hf st hg
  subst hP hw hK
  obtain⟨xs,hq,hx⟩:=hg
  obtain⟨its,rv,p,hz⟩:=I.list hq
  obtain⟨f0,f1,f2,f3,f4,f5⟩:=hf it (by simp)
  have hl:=rv.length
  exact wpAny_pyNext_list_end (I.ok.hd hc) st p.isList (by simp;lia) λh' eb=>⟨rfl,I.turned (t':=s.toks) (λb o hb e=>eb b o hb e) f0 f1 f3 f4 f5⟩
 self:=λ_ _ _ _ _ st h=>wpAny_pyIter_listiter st h
theorem z7 {P:Program} {w:World} {K:PySem.W.Frag} {tg:Expr} (a it:Addr):Turn P w K tg (Itt K a) [it] it (λi h=>h.IsTupleIter it a i) where
 mem:=by simp
 obj:=λi h st b hb=>by
  have e:b=it:=by simpa using hb
  subst e
  obtain⟨o,e,c,d⟩:=st
  exact⟨o,e,λv z=>by rw[d]at z;cases z⟩
 keep:=λi h h' st k=>st.at λo e=>k it (by simp) o e
 item:=by
  intro X hP hw hK hc i pins s σ H E I hf st hg
  subst hP hw hK
  obtain⟨xs,x,hq,hx⟩:=hg
  obtain⟨its,rv,p,hz⟩:=I.tuple hq
  obtain⟨u,hu,ru⟩:=rv.get hx
  obtain⟨f0,f1,f2,f3,f4,f5⟩:=hf it (by simp)
  refine wpAny_pyNext_tuple_item st (show s.heap.IsTuple a its.toArray from p) (x:=u) (by simpa using hu) λh' st' sb=>?_
  have I1:Inv X pins σ H {s with heap:=h'}:=I.turned (t':=s.toks) (λb o hb e=>(sb.2 b hb).trans e) f0 f1 f3 f4 f5
  obtain⟨o,e,c,d⟩:=id st'
  exact⟨u,rfl,J5 (s:={s with heap:=h'}) e c d (by decide) ⟨x,H,I1,ru,⟨rfl,λys hy=>by rw[I.tuple_inj hy hq];exact hx⟩,st',λb hb=>(hf b hb).1⟩⟩
 done:=by
  intro X hP hw hK hc i pins s σ H E I hf st hg
  subst hP hw hK
  obtain⟨xs,hq,hx⟩:=hg
  obtain⟨its,rv,p,hz⟩:=I.tuple hq
  obtain⟨f0,f1,f2,f3,f4,f5⟩:=hf it (by simp)
  have hl:=rv.length
  exact wpAny_pyNext_tuple_end (I.ok.hd hc) st (show s.heap.IsTuple a its.toArray from p) (by simp;lia) λh' eb=>⟨rfl,I.turned (t':=s.toks) (λb o hb e=>eb b o hb e) f0 f1 f3 f4 f5⟩
 self:=λ_ _ _ _ _ st h=>wpAny_pyIter_tupleiter st h
theorem z8 {P:Program} {w:World} {K:PySem.W.Frag} {tg:Expr} (it:Addr) (lo:Int) (n:Nat):Turn P w K tg (Itr lo n) [it] it (λi h=>IsRangeIter h it (lo+(i:Nat)*1) ((n:Int)-(i:Nat)) 1) where
 mem:=by simp
 obj:=λi h st b hb=>by
  have e:b=it:=by simpa using hb
  subst e
  exact⟨_,st,λv z=>by
   have z':Data.fields _=Data.cell v:=z
   cases z'⟩
 keep:=λi h h' st k=>k it (by simp) _ st
 item:=by
  intro X hP hw hK hc i pins s σ H E I hf st hg
  subst hP hw hK
  obtain⟨f0,f1,f2,f3,f4,f5⟩:=hf it (by simp)
  have W:=Walks.range (prog:=X.prog) (w:=X.w) (I.ok.hd hc) it lo 1 n
  refine W.item i s _ _ hg st λv h' tk hv st' kk=>?_
  obtain⟨t,rfl⟩:=hv
  have I1:Inv X pins σ H {s with heap:=h',toks:=tk}:=I.turned (λb o hb e=>kk b o (by simpa using hb) e) f0 f1 f3 f4 f5
  refine⟨_,rfl,J5 (s:={s with heap:=h',toks:=tk}) (n:="range_iterator") st' rfl rfl (by decide) ⟨.int (lo+i),H,I1,⟨t,?_⟩,⟨rfl,rfl⟩,st',λb hb=>(hf b hb).1⟩⟩
  rw[Int.mul_one]
 done:=by
  intro X hP hw hK hc i pins s σ H E I hf st hg
  subst hP hw hK
  obtain⟨f0,f1,f2,f3,f4,f5⟩:=hf it (by simp)
  exact wpAny_pyNext_range_end (I.ok.hd hc) st (by have:n<=i:=hg;lia) λh' eb=>⟨rfl,I.turned (t':=s.toks) (λb o hb e=>eb b o hb e) f0 f1 f3 f4 f5⟩
 self:=λ_ _ _ _ _ st h=>wpAny_pyIter_rangeiter st h
section
variable {X : Cx} {tg : Expr}
theorem ye {pins:List (Addr×Obj)} {σ:St} {H:Hp} {s:Shared} {R:It->Hp->Prop} {E:Value->Shared->Prop} {lo hi:Int} {t u v:Tok} {tk:Nat} (I:Inv X pins σ H s) (h1:-(2 ^ 62)<=lo) (h2:lo<2 ^ 62) (h3:-(2 ^ 62)<=hi) (h4:hi<2 ^ 62)
  (q:R (Itr lo (hi-lo).toNat) H):wpAny (model X.prog X.w) X.A (pyIter (.ref s.heap.objs.size)) (PIE X pins σ tg R) E {s with heap:=s.heap.push {cls:=.type "range",data:=.fields #[.int lo t,.int hi u,.int 1 v]},toks:=tk}:=by
 refine wpAny_pyIter_range (IsRange.new ..) (small_one h1 h2 h3 h4) ?_
 have I1:Inv X pins σ H {s with heap:=s.heap.push {cls:=.type "range",data:=.fields #[.int lo t,.int hi u,.int 1 v]},toks:=tk}:=I.kept λb o e=>AF _ e
 refine⟨(s.heap.push {cls:=.type "range",data:=.fields #[.int lo t,.int hi u,.int 1 v]}).objs.size,[(s.heap.push {cls:=.type "range",data:=.fields #[.int lo t,.int hi u,.int 1 v]}).objs.size],_,_,H,rfl,
  I1.kept (t':=tk) λb o e=>AF _ e,z8 _ lo (hi-lo).toNat,?_,λb hb=>?_,q⟩
 ·have e1:lo+((0:Nat):Int)*1=lo:=by simp
  have e2:(((hi-lo).toNat:Nat):Int)-((0:Nat):Int)=Builtin.Range.rangeSize lo hi 1:=by rw[rangeSize_one];split<;>lia
  show IsRangeIter _ _ (lo+((0:Nat):Int)*1) ((((hi-lo).toNat:Nat):Int)-((0:Nat):Int)) 1
  rw[e1,e2]
  exact AX _ rfl
 ·have e:b=(s.heap.push {cls:=.type "range",data:=.fields #[.int lo t,.int hi u,.int 1 v]}).objs.size:=by simpa using hb
  subst e
  exact I1.fpOk (AK _) (I1.hok.fresh (AK _))
def Ry (ta:TA):TI:=λσ H R=>ta σ H λvs H1=>∃j:Int,vs=[.int j] /\ -(2 ^ 62)<=j/\j<2 ^ 62/\R (Itr 0 j.toNat) H1
def Rz (ta:TA):TI:=λσ H R=>ta σ H λvs H1=>∃i j:Int,vs=[.int i,.int j]/\(-(2 ^ 62)<=i/\i<2 ^ 62 /\ -(2 ^ 62)<=j/\j<2 ^ 62)/\R (Itr i (j-i).toNat) H1
theorem Bg {a:Expr} {ta:TA} {p pos:Pos} (hg:Gl X "range") (hm:X.mg "range"=none) (ha:PA X [a] ta) (hs:starEach [a] X.env=[(false,eval a X.env)]:=by rfl):PI X tg (.Call (.Name "range" p) [a] [] pos) (Ry ta):=by
 intro pins s σ H R I h
 refine Call_ (n4 I hg hm boot_range (Db (thn (ha pos pins s σ H _ I h) λus s1 ⟨vs,H1,I1,r1,q1⟩=>?_) hs rfl))
 obtain⟨j,e,q1,q2,q⟩:=q1
 subst e
 cases r1 with
 | cons r rr =>
  cases rr
  obtain⟨t,rfl⟩:=r
  exact call_range_1 (ye I1 (by lia) (by lia) q1 q2 (by simpa using q))
theorem Bh {a b:Expr} {ta:TA} {p pos:Pos} (hg:Gl X "range") (hm:X.mg "range"=none) (ha:PA X [a,b] ta) (hs:starEach [a,b] X.env=[(false,eval a X.env),(false,eval b X.env)]:=by rfl) (hs2:starEach [b] X.env=[(false,eval b X.env)]:=by rfl) :
  PI X tg (.Call (.Name "range" p) [a,b] [] pos) (Rz ta):=by
 intro pins s σ H R I h
 refine Call_ (n4 I hg hm boot_range (Db (thn (ha pos pins s σ H _ I h) λus s1 ⟨vs,H1,I1,r1,q1⟩=>?_) (by rw[hs,hs2]) (by rw[hs2];rfl)))
 obtain⟨i,j,e,⟨q1,q2,q3,q4⟩,q⟩:=q1
 subst e
 cases r1 with
 | cons r rr =>
  cases rr with
  | cons r' rr =>
   cases rr
   obtain⟨t,rfl⟩:=r
   obtain⟨t',rfl⟩:=r'
   exact call_range_2 (ye I1 q1 q2 q3 q4 q)
def V2 (wi:TI) (g:TG) (tb:TS):TS:=λD σ H=>wi σ H λJ H1=>∃W:Nat->Nat->St->Hp->Prop,(∃m,W 0 m σ H1)/\∀i m σ H,W i m σ H ->
 (J.stop i H/\D.nx σ H)\/(J.go i H/\∃N:St->Hp->Prop,(∀σ' H',N σ' H'->∃m',m'<m/\W (i+1) m' σ' H')/\∀x H',J.yld i H x H'->g x σ H' λσ2 H2=>tb {D with nx:=N,ct:=N,bk:=D.nx} σ2 H2)
def sr (fp:List Addr) (h:Heap):List (Addr×Obj):=fp.filterMap λb=>(h.get? b).map λo=>(b,o)
theorem jr {fp:List Addr} {h:Heap} {b:Addr} {o:Obj} (hb:b∈fp) (e:h.get? b=some o):(b,o)∈sr fp h:=List.mem_filterMap.mpr ⟨b,hb,by rw[e];rfl⟩
theorem Bi {fp:List Addr} {h:Heap} {p:Addr×Obj} (hp:p∈sr fp h):p.1∈fp/\h.get? p.1=some p.2:=by
 obtain⟨b,hb,e⟩:=List.mem_filterMap.mp hp
 cases q:h.get? b with
 | none=>rw[q]at e;cases e
 | some o =>
  rw[q]at e
  have e':(b,o)=p:=CD e
  subst e'
  exact⟨hb,q⟩
theorem Inv.pinned {pins:List (Addr×Obj)} {σ:St} {H:Hp} {s:Shared} {fp:List Addr} (I:Inv X pins σ H s) (hf:∀b∈fp,A6 X pins H b) (ho:∀b∈fp,∃o,s.heap.get? b=some o/\∀v,o.data≠.cell v):Inv X (pins++sr fp s.heap) σ H s :=
 I.pins_of λp hp=>(BX.mp hp).elim (λz=>I.pin p (BW _ z)) λz=>by
  obtain⟨hb,e⟩:=Bi z
  obtain⟨f0,f1,f2,_⟩:=hf p.1 hb
  obtain⟨o,e',d⟩:=ho p.1 hb
  rw[e]at e';cases e'
  exact⟨e,f0,f1,f2,d⟩
theorem Inv.unpinned {pins pl:List (Addr×Obj)} {σ:St} {H:Hp} {s:Shared} (I:Inv X (pins++pl) σ H s):Inv X pins σ H s:=I.pins_of λp hp=>I.pin p (BW _ (FR _ hp))
theorem Nc {iter:Expr} {body:List Stmt} {wi:TI} {g:TG} {tb:TS} {pos:Pos} (hp:PassesOwn (model X.prog X.w) X.A X.env X.xe) (hc:X.calm=true) (hi:PI X tg iter wi) (hg:PG X tg g) (hb:PSs X body tb)
  (hs:∀x,foldedSetIterable iter X.env x=pure x:=by intro _;rfl):PS X (.For tg iter body [] pos) (V2 wi g tb):=by
 intro pins s σ H D I h
 refine wpAny_For (thn (hi pins s σ H _ I h) λv s1 h1=>thn h1 λitv s2 h2=>?_) hs
 obtain⟨it,fp,tn,J,H2,e,I2,T,st2,f2,W,⟨m0,w0⟩,turn⟩:=h2
 subst e
 -- what stays true of the iterator's objects through the loop
 have stat:∀{H':Hp},(∀b∈fp,H' b=none)->∀b∈fp,A6 X pins H' b:=λhn b hb=>⟨hn b hb,(f2 b hb).2⟩
 refine codeAny_forLoop_any (λn s'=>∃i σ' H',Inv X pins σ' H' s'/\tn i s'.heap/\(∀b∈fp,H' b=none)/\W i n σ' H') ?_ m0 ⟨0,σ,H2,I2,st2,λb hb=>(f2 b hb).1,w0⟩
 rintro n s3 ⟨i,σ3,H3,I3,st3,fr3,w3⟩
 rcases turn i n σ3 H3 w3 with⟨stop,qn⟩ | ⟨go,N,hN,step⟩
 ·refine FC hp (thn (T.done X rfl rfl rfl hc i pins s3 σ3 H3 X.xe I3 (stat fr3) st3 stop) λr s4 ⟨hr,I4⟩=>?_)
  subst hr
  exact wpAny_execs_nil ⟨σ3,H3,I4,qn⟩
 ·refine FC hp (thn (T.item X rfl rfl rfl hc i pins s3 σ3 H3 X.xe I3 (stat fr3) st3 go) λr s4 ⟨u,hr,h4⟩=>?_)
  subst hr
  refine FC hp (thn h4 λ_ s5 ⟨x,H5,I5,r5,y5,st5,fr5⟩=>?_)
  have I5':=I5.pinned (stat fr5) (T.obj _ _ st5)
  refine FC hp (thn (hg _ s5 σ3 H5 x u _ I5' r5 (step x H5 y5)) λ_ s6 ⟨σ6,H6,I6,q6⟩=>?_)
  refine FC hp (thn (hb _ s6 σ6 H6 _ I6 q6) λf s7 q7=>?_)
  have again:∀{σ7:St} {H7:Hp},Inv X (pins++sr fp s5.heap) σ7 H7 s7->N σ7 H7->∃m,m<n/\∃i σ' H',Inv X pins σ' H' s7/\tn i s7.heap/\(∀b∈fp,H' b=none)/\W i m σ' H':=λ{σ7 H7} I7 n7=>by
   obtain⟨m',hm,w7⟩:=hN σ7 H7 n7
   refine⟨m',hm,i+1,σ7,H7,I7.unpinned,T.keep _ _ _ st5 λb hb o e=>(I7.pin (b,o) (BW _ (BW _ (jr hb e)))).1,λb hb=>?_,w7⟩
   obtain⟨o,e,d⟩:=T.obj _ _ st5 b hb
   exact(I7.pin (b,o) (BW _ (BW _ (jr hb e)))).2.1
  cases f with
  | next=>obtain⟨σ7,H7,I7,n7⟩:=q7;exact again I7 n7
  | cont=>obtain⟨σ7,H7,I7,n7⟩:=q7;exact again I7 n7
  | brk=>obtain⟨σ7,H7,I7,q7⟩:=q7;exact⟨σ7,H7,I7.unpinned,q7⟩
  | ret v=>obtain⟨x7,σ7,H7,I7,r7,q7⟩:=q7;exact⟨x7,σ7,H7,I7.unpinned,r7,q7⟩
end
abbrev R2:=V->V->Hp->VK->Prop
def OpR (X:Cx) (f:Value->Value->Sem Value) (r:R2):Prop :=
 ∀(pins:List (Addr×Obj)) (s:Shared) (σ:St) (H:Hp) (x y:V) (v u:Value) (Q:VK),Inv X pins σ H s->RelV x v->RelV y u->r x y H Q ->
  wpAny (model X.prog X.w) X.A (f v u) (EP X pins σ Q) X.xe s
def fk (X:Cx) (f:Value) (r:List V->Hp->VK->Prop):Prop :=
 ∀(pins:List (Addr×Obj)) (s:Shared) (σ:St) (H:Hp) (xs:List V) (us:List Value) (Q:VK),Inv X pins σ H s->bu xs us->r xs H Q ->
  wpAny (model X.prog X.w) X.A (call f us) (EP X pins σ Q) X.xe s
def V3 (X:Cx) (r:V->Hp->(Bool->Hp->Prop)->Prop):Prop :=
 ∀(pins:List (Addr×Obj)) (s:Shared) (σ:St) (H:Hp) (x:V) (v:Value) (Q:Bool->Hp->Prop),Inv X pins σ H s->RelV x v->r x H Q ->
  wpAny (model X.prog X.w) X.A (truthy v) (TP X pins σ Q) X.xe s
def tOp (r:R2) (ta tb:TE):TE:=λσ H Q=>ta σ H λx H1=>tb σ H1 λy H2=>r x y H2 Q
def rI (C:Int->Int->Prop) (g:Int->Int->V):R2:=λx y H Q=>∃i j,x=.int i/\y=.int j/\C i j/\Q (g i j) H
def rI0 (g:Int->Int->V):R2:=λx y H Q=>∃i j,x=.int i/\y=.int j/\Q (g i j) H
section
variable {X : Cx} {a b c : Expr} {ta tb tc : TE} {pos : Pos}
theorem Uk (ha:PE X a ta) (hb:PE X b tb) {pins:List (Addr×Obj)} {s:Shared} {σ:St} {H:Hp} {R:V->V->Hp->Prop} (I:Inv X pins σ H s)
  (h:ta σ H λx H1=>tb σ H1 λy H2=>R x y H2) {Q:Value->Shared->Prop} {f:Value->Value->Sem Value}
  (hf:∀v u s2 x y H2,Inv X pins σ H2 s2->RelV x v->RelV y u->R x y H2->wpAny (model X.prog X.w) X.A (f v u) Q X.xe s2) :
  wpAny (model X.prog X.w) X.A (eval a X.env) (λv s₁=>wpAny (model X.prog X.w) X.A (eval b X.env) (λu s₂=>wpAny (model X.prog X.w) X.A (f v u) Q X.xe s₂) X.xe s₁) X.xe s:=by
 refine thn (ha pins s σ H _ I h) λv s1 ⟨x,H1,I1,r1,q1⟩=>?_
 refine thn (hb pins s1 σ H1 _ I1 q1) λu s2 ⟨y,H2,I2,r2,q2⟩=>?_
 exact hf v u s2 x y H2 I2 r1 r2 q2
theorem R0 {op:Operator} {r:R2} (ho:OpR X (binaryOp op) r) (ha:PE X a ta) (hb:PE X b tb):PE X (.BinOp a op b pos) (tOp r ta tb):=by
 intro pins s σ H Q I h
 exact wpAny_BinOp (Uk ha hb I h λv u s2 x y H2 I2 rx ry q=>ho pins s2 σ H2 x y v u Q I2 rx ry q)
theorem opI {f:Value->Value->Sem Value} {C:Int->Int->Prop} {g:Int->Int->Int}
  (rule:∀(i j:Int) (t u:Tok) (s:Shared) (Q:Value->Shared->Prop) (E:Value->Shared->Prop),C i j->Q (.int (g i j) s.toks) {s with toks:=s.toks+1}->wpAny (model X.prog X.w) X.A (f (.int i t) (.int j u)) Q E s) :
  OpR X f (rI C λi j=>.int (g i j)):=by
 intro pins s σ H x y v u Q I rx ry h
 obtain⟨i,j,rfl,rfl,hc,q⟩:=h
 obtain⟨t,rfl⟩:=rx
 obtain⟨t',rfl⟩:=ry
 exact rule i j t t' s _ _ hc ⟨.int (g i j),H,I.tok _,⟨_,rfl⟩,q⟩
theorem R1 {f:Value->Value->Sem Value} {g:Int->Int->Int}
  (rule:∀(i j:Int) (t u:Tok) (s:Shared) (Q:Value->Shared->Prop) (E:Value->Shared->Prop),Q (.int (g i j) s.toks) {s with toks:=s.toks+1}->wpAny (model X.prog X.w) X.A (f (.int i t) (.int j u)) Q E s) :
  OpR X f (rI0 λi j=>.int (g i j)):=by
 intro pins s σ H x y v u Q I rx ry h
 obtain⟨i,j,rfl,rfl,q⟩:=h
 obtain⟨t,rfl⟩:=rx
 obtain⟨t',rfl⟩:=ry
 exact rule i j t t' s _ _ ⟨.int (g i j),H,I.tok _,⟨_,rfl⟩,q⟩
theorem Rc {f:Value->Value->Sem Value} {g:Int->Int->Bool}
  (rule:∀(i j:Int) (t u:Tok) (s:Shared) (Q:Value->Shared->Prop) (E:Value->Shared->Prop),Q (.bool (g i j)) s->wpAny (model X.prog X.w) X.A (f (.int i t) (.int j u)) Q E s) :
  OpR X f (rI0 λi j=>.bl (g i j)):=by
 intro pins s σ H x y v u Q I rx ry h
 obtain⟨i,j,rfl,rfl,q⟩:=h
 obtain⟨t,rfl⟩:=rx
 obtain⟨t',rfl⟩:=ry
 exact rule i j t t' s _ _ ⟨.bl (g i j),H,I,rfl,q⟩
def V4 (i j:Int):Prop:=0<j/\j<1073741824
def Ul (i j:Int):Prop:=0<=j/\j<=1000000/\i.natAbs<2 ^ 64
def CMul (i j:Int):Prop:=(-(2 ^ 64)<i/\i<2 ^ 64)\/(-(2 ^ 64)<j/\j<2 ^ 64)
theorem CMul.ok {i j:Int} (h:CMul i j):IntMulOk i j:=by
 rcases h with⟨h1,h2⟩ | ⟨h1,h2⟩
 ·exact .of_left (intBits_le_64 h1 h2)
 ·exact .of_right (intBits_le_64 h1 h2)
theorem z9 (k:Nat):(0:Int)<=2 ^ k:=by
 rw[two_pow_cast]
 exact Int.natCast_nonneg _
theorem op_add:OpR X (binaryOp .Add) (rI0 λi j=>.int (i+j)):=R1 λ_ _ _ _ _ _ _ q=>add_int q
theorem op_sub:OpR X (binaryOp .Sub) (rI0 λi j=>.int (i-j)):=R1 λ_ _ _ _ _ _ _ q=>sub_int q
theorem op_mul:OpR X (binaryOp .Mult) (rI CMul λi j=>.int (i*j)):=opI λ_ _ _ _ _ _ _ hc q=>mul_int q hc.ok
theorem J6:OpR X (binaryOp .FloorDiv) (rI V4 λi j=>.int (i / j)):=opI λi j _ _ _ _ _ hc q=>by
 have h1:(0:Int)<j:=hc.1
 have h2:j<1073741824:=hc.2
 exact floordiv_int (by lia) (by rw[GF i (by lia)];exact q) (.inl (HF (by lia)))
theorem op_mod:OpR X (binaryOp .Mod) (rI (λ_ j=>0<j) λi j=>.int (i % j)):=opI λi j _ _ _ _ _ hc q=>by
 have h1:(0:Int)<j:=hc
 exact mod_int' (by lia) (by rw[Int.fmod_eq_emod_of_nonneg i (by lia)];exact q)
theorem op_pow:OpR X (binaryOp .Pow) (rI Ul λi j=>.int (i ^ j.toNat)):=opI λ_ _ _ _ _ _ _ hc q=>pow_int_small hc.1 hc.2.1 hc.2.2 q
theorem Nd:OpR X (binaryOp .LShift) (rI Ul λi j=>.int (i*2 ^ j.toNat)):=opI λ_ _ _ _ _ _ _ hc q=>lshift_int_small hc.1 hc.2.1 hc.2.2 q
theorem op_shr:OpR X (binaryOp .RShift) (rI (λ_ j=>0<=j) λi j=>.int (i / 2 ^ j.toNat)):=opI λi j _ _ _ _ _ hc q =>
 rshift_int hc (by rw[GF i (z9 _)];exact q)
theorem Nf:OpR X (binaryOp .BitXor) (rI0 λi j=>.int (Builtin.bitXor i j)):=R1 λ_ _ _ _ _ _ _ q=>xor_int q
theorem He {pins:List (Addr×Obj)} {σ:St} {H:Hp} {s:Shared} {Q:VK} {k k':Bool} (I:Inv X pins σ H s) (q:Q (.bl k) H) (e:k=k'):EP X pins σ Q (.bool k') s:=by
 subst e
 exact⟨.bl k,H,I,rfl,q⟩
theorem R3:OpR X (compareOp .Lt) (rI0 λi j=>.bl (decide (i<j))):=Rc λ_ _ _ _ _ _ _ q=>lt_int q
theorem R4:OpR X (compareOp .LtE) (rI0 λi j=>.bl (decide (i<=j))):=Rc λ_ _ _ _ _ _ _ q=>le_int q
theorem R5:OpR X (compareOp .Gt) (rI0 λi j=>.bl (decide (j<i))):=Rc λ_ _ _ _ _ _ _ q=>gt_int q
theorem R6:OpR X (compareOp .GtE) (rI0 λi j=>.bl (decide (j<=i))):=Rc λ_ _ _ _ _ _ _ q=>ge_int q
theorem Ng:OpR X (compareOp .Is) (λx y H Q=>y=.non/\Q (.bl (decide (x=.non))) H):=by
 intro pins s σ H x y v u Q I rx ry h
 obtain⟨rfl,q⟩:=h
 cases ry
 refine is_none_gen (He I q ?_)
 cases x<;>first
  | (cases rx;rfl)
  | (obtain⟨t,rfl⟩:=rx;rfl)
theorem J7:OpR X (compareOp .IsNot) (λx y H Q=>y=.non/\Q (.bl (!decide (x=.non))) H):=by
 intro pins s σ H x y v u Q I rx ry h
 obtain⟨rfl,q⟩:=h
 cases ry
 refine isnot_none_gen (He I q ?_)
 cases x<;>first
  | (cases rx;rfl)
  | (obtain⟨t,rfl⟩:=rx;rfl)
def isObj:HO->Bool
 | .lst _=>true
 | .ins _ _ _=>true
 | _=>false
def Um (K:PySem.W.Frag) (x:V) (H:Hp) (k:Bool):Prop :=
 match x with
 | .non=>k=false
 | .bl b=>k=b
 | .int i=>k=(i != 0)
 | .str y=>y.length<=sizeLine/\k=((y.length:Int) != 0)
 | .byt y=>y.size<=sizeLine/\k=((y.size:Int) != 0)
 | .ref p=>(∃xs,SqL K H p xs/\k=!xs.isEmpty)\/(∃xs,SqT K H p xs/\k=!xs.isEmpty)\/∃kvs,H p=some (.dK kvs)/\k=!kvs.isEmpty
 | _=>False
theorem Aa {κ:Type} {kvs:List (κ×V)} {vs:List (κ×Value)} (r:KV kvs vs):(!vs.isEmpty)=!kvs.isEmpty:=by
 cases r<;>rfl
theorem p6 {xs:List V} {its:List Value} (r:bu xs its):(!its.toArray.isEmpty)=!xs.isEmpty:=by
 cases r<;>simp
theorem p7:(sizeLine:Nat)<2 ^ 63:=by rw[FS];decide
theorem Nh:V3 X (λx H Q=>∃k,Um X.K x H k/\Q k H):=by
 intro pins s σ H x v Q I rx h
 obtain⟨k,e,q⟩:=h
 have hl:=p7
 have hs:sizeLine=16777216:=FS
 cases x with
 | non =>
  cases rx
  have e':k=false:=e
  subst e'
  exact truthy_none ⟨H,I,q⟩
 | bl b =>
  cases rx
  have e':k=b:=e
  subst e'
  exact DJ ⟨H,I,q⟩
 | int i =>
  obtain⟨t,rfl⟩:=rx
  have e':k=(i != 0):=e
  subst e'
  exact PySem.P.truthy_int ⟨H,I,q⟩
 | str y =>
  obtain⟨t,rfl⟩:=rx
  obtain⟨hy,e'⟩:y.length<=sizeLine/\k=((y.length:Int) != 0):=e
  subst e'
  exact PySem.P.truthy_str (by lia) ⟨H,I.tok _,q⟩
 | byt y =>
  obtain⟨t,rfl⟩:=rx
  obtain⟨hy,e'⟩:y.size<=sizeLine/\k=((y.size:Int) != 0):=e
  subst e'
  exact PySem.W.truthy_bytes (by lia) ⟨H,I.tok _,q⟩
 | ref p =>
  cases rx
  have e':(∃xs,SqL X.K H p xs/\k=!xs.isEmpty)\/(∃xs,SqT X.K H p xs/\k=!xs.isEmpty)\/∃kvs,H p=some (.dK kvs)/\k=!kvs.isEmpty:=e
  rcases e' with⟨xs,hx,e'⟩ | ⟨xs,hx,e'⟩ | ⟨kvs,hx,e'⟩
  ·subst e'
   obtain⟨its,r,pl,hz⟩:=I.list hx
   have hlen:=r.length
   exact wpAny_truthy_list pl.isList (by simp![AH];lia) ⟨H,I.tok _,by rw[p6 r];exact q⟩
  ·subst e'
   obtain⟨its,r,pl,hz⟩:=I.tuple hx
   have hlen:=r.length
   exact truthy_tuple pl (by simp![AH];lia) ⟨H,I.tok _,by rw[p6 r];exact q⟩
  ·subst e'
   obtain⟨hz,hS,vs,r,m⟩:kvs.length<=sizeLine/\(p==sysModules)=false/\∃vs,KV kvs vs/\s.heap.DictOf (d6 X.prog X.w) p vs:=I.hok p _ hx
   have hlen:kvs.length=vs.length:=EZ r
   exact wpAny_truthy_dict hS m (by lia) ⟨H,I.tok _,by rw[Aa r];exact q⟩
 | _=>exact(show False from e).elim
theorem Fd (ha:PE X a ta) (he:∀whole,isTrue a X.env whole=(do let v <-whole;standAt a.pos;holding [v] (truthy v))) :
  PT X a (λσ H Q=>ta σ H λx H'=>∃k,Um X.K x H' k/\Q k H'):=by
 intro pins s σ H Q I h
 exact isTrue_plain (thn (ha pins s σ H _ I h) λv s1 ⟨x,H1,I1,r1,q1⟩=>Nh pins s1 σ H1 x v Q I1 r1 q1) (he _)
theorem vals1 {x:V} {us:List Value} (r:bu [x] us):∃u,us=[u]/\RelV x u:=by
 cases r with
 | cons r1 r2=>cases r2;exact⟨_,rfl,r1⟩
theorem vals2 {x y:V} {us:List Value} (r:bu [x,y] us):∃u w',us=[u,w']/\RelV x u/\RelV y w':=by
 cases r with
 | cons r1 r2 =>
  cases r2 with
  | cons r3 r4=>cases r4;exact⟨_,_,rfl,r1,r3⟩
theorem Bj (hc:X.calm=true):fk X (.builtin "max") (λxs H Q=>∃i j,xs=[.int i,.int j]/\Q (.int (if j > i then j else i)) H):=by
 intro pins s σ H xs us Q I r h
 obtain⟨i,j,rfl,q⟩:=h
 obtain⟨u,w',rfl,⟨t,rfl⟩,⟨t',rfl⟩⟩:=vals2 r
 refine max_two_ints (I.ok.hd hc) λh' tk k=>⟨_,H,I.kept k,?_,q⟩
 by_cases hj:j > i
 ·rw[if_pos hj,if_pos hj];exact⟨_,rfl⟩
 ·rw[if_neg hj,if_neg hj];exact⟨_,rfl⟩
theorem Bk (hc:X.calm=true):fk X (.builtin "min") (λxs H Q=>∃i j,xs=[.int i,.int j]/\Q (.int (if j<i then j else i)) H):=by
 intro pins s σ H xs us Q I r h
 obtain⟨i,j,rfl,q⟩:=h
 obtain⟨u,w',rfl,⟨t,rfl⟩,⟨t',rfl⟩⟩:=vals2 r
 refine min_two_ints (I.ok.hd hc) λh' tk k=>⟨_,H,I.kept k,?_,q⟩
 by_cases hj:j<i
 ·rw[if_pos hj,if_pos hj];exact⟨_,rfl⟩
 ·rw[if_neg hj,if_neg hj];exact⟨_,rfl⟩
theorem Bl:fk X (.type "int") (λxs H Q=>(∃i,xs=[.int i]/\Q (.int i) H)\/∃k,xs=[.bl k]/\Q (.int (if k then 1 else 0)) H):=by
 intro pins s σ H xs us Q I r h
 rcases h with⟨i,rfl,q⟩ | ⟨k,rfl,q⟩
 ·obtain⟨u,rfl,t,rfl⟩:=vals1 r
  exact call_int_int ⟨.int i,H,I,⟨_,rfl⟩,q⟩
 ·obtain⟨u,rfl,r1⟩:=vals1 r
  cases r1
  exact call_int_bool ⟨.int (if k then 1 else 0),H,I.tok _,⟨_,rfl⟩,q⟩
end
structure Room (k:Nat) (A:Around):Prop where
 hd:A.handled=none
 dp:A.depth+3*k+5<recursionLimit
 un:A.units+16*k+200<cLine
theorem Room.deeper {k:Nat} {A:Around} (r:Room (k+1) A) (env:Env):Room k (A.deeper env) :=
 ⟨r.hd,by have:=r.dp;show A.depth+1+3*k+5<_;lia,by have:=r.un;show A.units+3+16*k+200<_;lia⟩
theorem Ab {A:Around} {C:Addr} {us:List Value} {kw:List (Str×Value)}:(A.under (.builtin "type.__call__" ⟨.ref C::us,kw⟩)).depth=A.depth+1:=by
 first | rfl | simp[Around.under,Code.weight,Code.isCreation,Code.isGuard,Code.isCaller,Code.frames,Code.isFrame,guardIds]
theorem Ac {A:Around} {C:Addr} {us:List Value} {kw:List (Str×Value)}:(A.under (.builtin "type.__call__" ⟨.ref C::us,kw⟩)).units=A.units+1:=by
 first | rfl | simp[Around.under,Code.cUnits,Code.frames,Code.isFrame]
theorem Room.depth {k:Nat} {A:Around} (r:Room k A):A.depth<recursionLimit:=by have:=r.dp;lia
theorem Room.units {k:Nat} {A:Around} (r:Room k A):A.units+64<cLine:=by have:=r.un;lia
def Bm (k:Nat) (A:Around):Prop:=Room k A/\∀(C:Addr) (us:List Value) (kw:List (Str×Value)),Room k (A.under (.builtin "type.__call__" ⟨.ref C::us,kw⟩))
theorem Room.deeperX {k:Nat} {A:Around} (r:Room (k+1) A) (env:Env):Bm k (A.deeper env) :=
 ⟨r.deeper env,λC us kw=>⟨r.hd,by have:=r.dp;rw[Ab];show A.depth+1+1+3*k+5<_;lia,by have:=r.un;rw[Ac];show A.units+3+1+16*k+200<_;lia⟩⟩
def tNil:TA:=λ_ H Q=>Q [] H
def R7 (ta:TE) (tr:TA):TA:=λσ H Q=>ta σ H λx H1=>tr σ H1 λxs H2=>Q (x::xs) H2
section
variable {X : Cx} {e : Expr} {es : List Expr} {te : TE} {t : TA} {pos : Pos}
theorem Hf:PA X [] tNil:=λ_ _ _ _ H Q I h=>Calls.spliced_nil ⟨[],H,I,.nil,h⟩
theorem vm (ha:PE X e te) (hr:PA X es t) (hs:starEach (e::es) X.env=(false,eval e X.env)::starEach es X.env:=by rfl):PA X (e::es) (R7 te t):=by
 intro pos pins s σ H Q I h
 rw[hs]
 show wpAny _ _ (spliced ((false,eval e X.env)::backTo pos (starEach es X.env))) _ _ s
 refine Calls.spliced_cons (thn (ha pins s σ H _ I h) λu s1 ⟨x,H1,I1,r1,q1⟩=>?_)
 exact thn (hr pos pins s1 σ H1 _ I1 q1) λus s2 ⟨xs,H2,I2,r2,q2⟩=>⟨x::xs,H2,I2,.cons r1 r2,q2⟩
def V5 (t:TA):TE:=λσ H Q=>t σ H λxs H1=>xs.length<=sizeLine/\∀p,H1 p=none->Q (.ref p) (upd H1 p (.tup xs))
def V6 (t:TA):TE:=λσ H Q=>t σ H λxs H1=>xs.length<=sizeLine/\∀p,H1 p=none->Q (.ref p) (upd H1 p (.lst xs))
theorem Ni {x1} (h:PA X es t):PE X (.Tuple es x1 pos) (V5 t):=by
 intro pins s σ H Q I hq
 refine wpAny_Tuple_spliced (thn (h pos pins s σ H _ I hq) λus s1 ⟨xs,H1,I1,r,z,q⟩=>⟨by rw[<-r.length];exact z,?_⟩)
 have hf:H1 s1.heap.objs.size=none:=I1.hok.fresh (AK _)
 refine⟨.ref s1.heap.objs.size,upd H1 s1.heap.objs.size (.tup xs),I1.laid (t':=s1.toks) (λb u e=>AF _ e) (AK _) ?_,rfl,q _ hf⟩
 exact⟨z,us,r,⟨_,AX _ rfl,rfl,rfl,_,rfl⟩⟩
theorem Nj (h:PA X es t):PE X (.List es pos) (V6 t):=by
 intro pins s σ H Q I hq
 refine wpAny_List_spliced (thn (h pos pins s σ H _ I hq) λus s1 ⟨xs,H1,I1,r,z,q⟩=>⟨by rw[<-r.length];exact z,?_⟩)
 have hf:H1 s1.heap.objs.size=none:=I1.hok.fresh (AK _)
 refine⟨.ref s1.heap.objs.size,upd H1 s1.heap.objs.size (.lst xs),I1.laid (t':=s1.toks) (λb u e=>AF _ e) (AK _) ?_,rfl,q _ hf⟩
 exact⟨z,us,0,r,AX _ rfl⟩
end
abbrev Sp:=List V->Hp->VK->XK->Prop
abbrev CXT:=List Env->Hp->Shared->XK->Value->Shared->Prop
structure Env0 (P:Program) (w:World) (K:PySem.W.Frag) (mg:Str->Option Value) (base:Heap) (A:Around) (outer:List Env) (s:Shared) (H:Hp):Prop where
 frames:A.frames=some outer
 mod:Mod K mg base
 bs:∀b o,base.get? b=some o->s.heap.get? b=some o/\H b=none
 bsz:base.objs.size<=s.heap.objs.size
 funs:s.heap.FunFrames base outer
 frf:∀b∈frs outer,H b=none
 hok:HOk P w H s.heap
 bare:AllBare s.gens
def CE (outer:List Env) (P:Program) (w:World) (H:Hp) (s:Shared) (Q:VK) (u:Value) (s':Shared):Prop :=
 ∃v H',s'.os=s.os/\AllBare s'.gens/\Un (frs outer) [] H H' s.heap s'.heap/\HOk P w H' s'.heap/\RelV v u/\Q v H'
def CR (CX:CXT) (outer:List Env) (P:Program) (w:World) (H:Hp) (s:Shared) (Q:VK) (E:XK) (r:Result) (s':Shared):Prop :=
 match r with
 | .ok (.ret u)=>CE outer P w H s Q u s'
 | .ok _=>False
 | .error e=>CX outer H s E e s'
structure FnOk (P:Program) (w:World) (K:PySem.W.Frag) (mg:Str->Option Value) (base:Heap) (CX:CXT) (k:Nat) (f:Addr) (fd:FuncData) (ps:List Str) (sp:Sp):Prop where
 len:∀vs H Q E,sp vs H Q E->vs.length=ps.length
 run:∀(A:Around) (outer:List Env) (s:Shared) (H:Hp) (args:Args) (us:List Value) (vs:List V) (Q:VK) (E:XK),Room k A->Env0 P w K mg base A outer s H->BindsTo s fd args (ps.zip us)->bu vs us->sp vs H Q E ->
  codeAny (model P w) A (.call (.ref f) args) (CR CX outer P w H s Q E) s
theorem FnOk.imp {P:Program} {w:World} {K:PySem.W.Frag} {mg:Str->Option Value} {base:Heap} {CX:CXT} {k:Nat} {f:Addr} {fd:FuncData} {ps:List Str} {sp sp':Sp} (F:FnOk P w K mg base CX k f fd ps sp)
  (h:∀vs H Q E,sp' vs H Q E->sp vs H Q E):FnOk P w K mg base CX k f fd ps sp' :=
 ⟨λvs H Q E q=>F.len vs H Q E (h _ _ _ _ q),λA outer s H args us vs Q E hr he hb hv hs=>F.run A outer s H args us vs Q E hr he hb hv (h _ _ _ _ hs)⟩
section
variable {X : Cx} {pins : List (Addr × Obj)} {σ : St} {H : Hp} {s s' : Shared}
theorem Inv.env0 (I:Inv X pins σ H s):Env0 X.prog X.w X.K X.mg X.base X.A X.stack s H :=
 ⟨I.ok.frames,I.ok.mod,I.bs,BA I.ok.bsz I.sz,I.stack,I.stkFree,I.hok,I.bare⟩
theorem Inv.after {Q:VK} {u:Value} (I:Inv X pins σ H s) (h:CE X.stack X.prog X.w H s Q u s'):EP X pins σ Q u s':=by
 obtain⟨v,H',os,bare,un,hok,r,q⟩:=h
 obtain⟨hh,g,d,t,os'⟩:=s'
 obtain rfl:os'=s.os:=os
 exact⟨v,H',I.call (h':=hh) (g':=g) (d':=d) (t':=t) (ch:=[]) un hok bare (λb z=>absurd z (by simp)),r,q⟩
end
def R8 (sp:Sp) (dvs:List V) (E:XK) (t:TA):TE:=λσ H Q=>t σ H λvs H1=>sp (vs++dvs) H1 Q E
def Binds (K:PySem.W.Frag) (fd:FuncData) (ps:List Str) (ds:List Value):Prop :=
 ∀(s:Shared) (us:List Value),K.In s.heap->(us++ds).length=ps.length->BindsTo s fd ⟨us,[]⟩ (ps.zip (us++ds))
theorem Binds.all {K:PySem.W.Frag} {fd:FuncData} {ps:List Str} (h:∀us:List Value,us.length=ps.length->bindArgs fd ⟨us,[]⟩=pure (ps.zip us)):Binds K fd ps []:=λs us _ hl=>by
 rw[DN]at hl ⊢
 exact .of_eq (h us hl)
def Bn (CX:CXT) (X:Cx) (E:XK):Prop:=∀(pins:List (Addr×Obj)) (σ:St) (H:Hp) (s:Shared) (e:Value) (s':Shared),Inv X pins σ H s->CX X.stack H s E e s'->X.xe e s'
section
variable {X : Cx} {CX : CXT} {k : Nat} {f C : Addr} {fd : FuncData} {ps : List Str} {sp : Sp} {dvs : List V} {ds : List Value} {E : XK} {x m : Str} {p pos apos : Pos} {e o : Expr} {es : List Expr} {ta : TE} {t : TA}
theorem Nk {pins:List (Addr×Obj)} {σ:St} {H:Hp} {s:Shared} {Q:VK} {us:List Value} {vs:List V} (F:FnOk X.prog X.w X.K X.mg X.base CX k f fd ps sp) (hr:Room k X.A) (hb:Binds X.K fd ps ds) (hd:bu dvs ds) (hx:Bn CX X E)
  (I:Inv X pins σ H s) (r:bu vs us) (h:sp (vs++dvs) H Q E):wpAny (model X.prog X.w) X.A (call (.ref f) us) (EP X pins σ Q) X.xe s:=by
 have r2:bu (vs++dvs) (us++ds):=r.append hd
 have hl:(us++ds).length=ps.length:=by rw[<-r2.length];exact F.len _ _ _ _ h
 refine wpAny_call (codeAny_mono (F.run X.A X.stack s H ⟨us,[]⟩ (us++ds) (vs++dvs) Q E hr I.env0 (hb s us I.kIn hl) r2 h) λr s' hq=>?_)
 cases r with
 | error e=>exact hx pins σ H s e s' I hq
 | ok fl =>
  cases fl with
  | ret u=>exact I.after hq
  | next=>exact False.elim hq
  | brk=>exact False.elim hq
  | cont=>exact False.elim hq
theorem J8 (F:FnOk X.prog X.w X.K X.mg X.base CX k f fd ps sp) (hr:Room k X.A) (hg:Gl X x) (hm:X.mg x=some (.ref f)) (hk:PySem.W.keepIn X.K (.ref f)=true) (hb:Binds X.K fd ps ds) (hd:bu dvs ds) (hx:Bn CX X E)
  (ha:PA X (e::es) t) (hdb:(x==("__debug__":Str))=false:=by decide) (he:starEach (e::es) X.env=(false,eval e X.env)::starEach es X.env:=by rfl) (hpl:(backTo pos (starEach es X.env)).any (·.1)=false:=by rfl) :
  PE X (.Call (.Name x p) (e::es) [] pos) (R8 sp dvs E t):=by
 intro pins s σ H Q I h
 refine GG (Bd I hg hm ?_ hdb)
 refine PySem.W.callWith_K (h₀:=X.base) I.ok.mod.kin hk (thn (ha pos pins s σ H _ I h) λus s1 ⟨vs,H1,I1,r,q⟩=>⟨I1.kIn,?_⟩) he hpl
 exact Nk F hr hb hd hx I1 r q
structure Mk (K:PySem.W.Frag) (C f:Addr):Prop where
 makes:PySem.W.makesIn K C=true
 init:PySem.W.findIn K (.ref C) "__init__"=some (some (.ref f))
 fn:PySem.W.isFn K (.ref f)=true
 kp:PySem.W.keepIn K (.ref C)=true
end
structure FnScope (N P:List Str) (sc:Scope):Prop where
 kind:sc.kind=.function
 co:sc.isCoroutine=false
 gen:sc.isGenerator=false
 nd:N.Nodup
 pre:N.take P.length=P
 par:∀x∈P,sc.names.lookup x=some .local\/sc.names.lookup x=some .cell
 nofree:∀y∈sc.names,y.2≠.free
theorem su {kindOf:Str->Option NameKind} {x:Str}:∀{binds:List (Str×Value)} {m:Str->Option Value},(∀v,(x,v)∉binds)->bindL kindOf binds m x=m x
 | [],_,_=>rfl
 | (n,v)::r,m,h=>by
  unfold bindL
  rw[su λw hw=>h w (AT _ hw)]
  split
  ·have:x≠n:=by rintro rfl;exact h v BF
   simp[this]
  ·rfl
theorem sv {kindOf:Str->Option NameKind} {x:Str}:∀{binds:List (Str×Value)} {m:Str->Option Value},(∀v,(x,v)∉binds)->bindC kindOf binds m x=m x
 | [],_,_=>rfl
 | (n,v)::r,m,h=>by
  unfold bindC
  rw[sv λw hw=>h w (AT _ hw)]
  split
  ·rfl
  ·have:x≠n:=by rintro rfl;exact h v BF
   simp[this]
theorem td {kindOf:Str->Option NameKind} {x:Str} {v:Value}:∀{P:List Str} {vs:List Value} {i:Nat} {m:Str->Option Value},P.Nodup->P[i]? = some x->vs[i]? = some v->kindOf x=some .local ->
  bindL kindOf (P.zip vs) m x=some v
 | [],_,_,_,_,h,_,_=>by simp at h
 | _::_,[],_,_,_,_,h,_=>by simp at h
 | p::P,w::vs,0,m,nd,h1,h2,hk=>by
  simp at h1 h2;subst h1;subst h2
  show bindL kindOf ((p,w)::P.zip vs) m p=_
  unfold bindL
  rw[su λv hv=>(FW.mp nd).1 (HL hv).1,if_pos hk]
  simp
 | p::P,w::vs,i+1,m,nd,h1,h2,hk=>by
  show bindL kindOf ((p,w)::P.zip vs) m x=_
  unfold bindL
  exact td (i:=i) (FW.mp nd).2 (by simpa using h1) (by simpa using h2) hk
theorem tf {kindOf:Str->Option NameKind} {x:Str} {v:Value}:∀{P:List Str} {vs:List Value} {i:Nat} {m:Str->Option Value},P.Nodup->P[i]? = some x->vs[i]? = some v->kindOf x≠some .local ->
  bindC kindOf (P.zip vs) m x=some v
 | [],_,_,_,_,h,_,_=>by simp at h
 | _::_,[],_,_,_,_,h,_=>by simp at h
 | p::P,w::vs,0,m,nd,h1,h2,hk=>by
  simp at h1 h2;subst h1;subst h2
  show bindC kindOf ((p,w)::P.zip vs) m p=_
  unfold bindC
  rw[sv λv hv=>(FW.mp nd).1 (HL hv).1,if_neg hk]
  simp
 | p::P,w::vs,i+1,m,nd,h1,h2,hk=>by
  show bindC kindOf ((p,w)::P.zip vs) m x=_
  unfold bindC
  exact tf (i:=i) (FW.mp nd).2 (by simpa using h1) (by simpa using h2) hk
def start (N:List Str) (vs:List V):St:=vs.map some++List.replicate (N.length-vs.length) none
def Fe (CX:CXT) (P:Program) (w:World) (K:PySem.W.Frag) (mg:Str->Option Value) (base:Heap) (N:List Str) (qual:Str) (scope:Scope) (f:Addr) (cd:Value) (A:Around) (outer:List Env) (s:Shared) (H:Hp) (E:XK):Cx where
 prog:=P
 w:=w
 K:=K
 mg:=mg
 base:=base
 A:=A.deeper (envOfC qual scope s.heap.objs.size f cd)
 N:=N
 s₀:=s
 H₀:=H
 env:=envOfC qual scope s.heap.objs.size f cd
 outer:=outer
 stack:=envOfC qual scope s.heap.objs.size f cd::outer
 ex:=[]
 calm:=true
 fn:=λ_=>true
 pn:=[]
 xe:=λe s'=>wpAny (model P w) (A.deeper (envOfC qual scope s.heap.objs.size f cd)) (leaving (envOfC qual scope s.heap.objs.size f cd) e) (λ_ s''=>CX outer H s E e s'') (λe' s''=>CX outer H s E e' s'') s'
theorem ni {sc:Scope} {n:Nat} {x:Str} (h:sc.names.lookup x=some .cell):∃c,(cellsFrom n sc.names []).lookup x=some c:=by
 have q:=HG sc.names n [] (.inl h)
 exact GR.mp q
theorem Bo {CX:CXT} {P:Program} {w:World} {K:PySem.W.Frag} {mg:Str->Option Value} {base:Heap} {N ps:List Str} {qual:Str} {scope:Scope} {f:Addr} {cd:Value} {A:Around} {outer:List Env} {s s1:Shared} {H:Hp} {E:XK} {us:List Value} {vs:List V}
  (S:FnScope N ps scope) (hd:A.handled=none) (e0:Env0 P w K mg base A outer s H) (hl:vs.length=ps.length) (r:bu vs us)
  (x:InCallC s s.heap.objs.size (bindL (envOfC qual scope s.heap.objs.size f cd).kindOf (ps.zip us) λ_=>none) (cellsFrom (s.heap.objs.size+1) scope.names []) (bindC (envOfC qual scope s.heap.objs.size f cd).kindOf (ps.zip us) λ_=>none) s1) :
  Inv (Fe CX P w K mg base N qual scope f cd A outer s H E) [] (start N vs) H s1:=by
 have hpl:ps.length<=N.length:=by have:=congrArg List.length S.pre;rw[BJ]at this;lia
 obtain⟨h1,tk,rfl,hk⟩:=x.done
 have noA:∀b:Addr,b∉(Fe CX P w K mg base N qual scope f cd A outer s H E).ex:=λb z=>absurd (show b∈([]:List Addr)from z) (by simp)
 refine⟨⟨e0.mod,S.kind,rfl,rfl,AK _,λy z c h1 h2=>?_,λy hy=>?_,λy c _ h=>?_,λ_=>hd,Around.frames_deeper e0.frames,.inr ⟨rfl,rfl⟩,λb z=>absurd z (noA b),e0.bs,e0.bsz,λb _ _=>noA b,λb z=>absurd z (noA b),e0.funs,e0.frf⟩,
  rfl,e0.bare,Un.kept hk,⟨_,x.toInCall.ns,λi y v h1 h2 h3=>?_⟩,λy c h=>⟨_,x.cell y c h⟩,e0.hok.fresh (AK _),λy c h=>?_,λp hp=>absurd (show p∈([]:List (Addr×Obj))from hp) (by simp),e0.hok.kept hk,?_⟩
 ·exact name_of_addr x.apart (CQ h1) (CQ h2)
 ·have hy:scope.names.lookup y=some .cell\/scope.names.lookup y=some .free:=hy
  rcases hy with hy | hy
  ·exact ni hy
  ·exact absurd rfl (S.nofree _ (CQ hy))
 ·exact CN (x.above y c (CQ h))
 ·have hi:i<vs.length:=by
   unfold start at h2
   by_cases hi:i<vs.length
   ·exact hi
   ·rw[BH (by simpa using hi)]at h2
    rw[DK]at h2
    split at h2<;>cases h2
  have ha:vs[i]? = some v:=by
   unfold start at h2
   rw[AN (by simpa using hi),BM]at h2
   cases e:vs[i]? with
   | none=>rw[e]at h2;cases h2
   | some a=>rw[e]at h2;cases h2;rfl
  obtain⟨u,hu,rv⟩:=r.get ha
  have hp:ps[i]? = some y:=by
   rw[<-S.pre,BY (by lia)];exact h1
  have ndP:ps.Nodup:=by rw[<-S.pre];exact S.nd.sublist (List.take_sublist _ _)
  refine⟨u,rv,?_⟩
  rcases S.par y (CK hp)with k | k
  ·exact .inl ⟨k,td ndP hp hu k⟩
  ·obtain⟨c,e⟩:=ni (n:=s.heap.objs.size+1) k
   refine .inr ⟨.inl k,c,e,?_⟩
   have q:=x.cell y c e
   rw[tf ndP hp hu (by show scope.names.lookup y≠_;rw[k];decide)]at q
   exact q
 ·exact e0.hok.fresh (CN (x.above y c (CQ h)))
 ·unfold start
  show _=N.length
  rw[AO,AD,HQ]
  lia
theorem R9 {CX:CXT} {P:Program} {w:World} {K:PySem.W.Frag} {mg:Str->Option Value} {base:Heap} {k:Nat} {f:Addr} {name qual:Str} {params:Arguments} {body:List Stmt} {scope:Scope} {dV kV doc pm cdv ct oc:Value} {an od:Option Addr}
  {osl:Array (Option Value)} {N ps:List Str} {sp:Sp} (lk:K.lookup f=some ⟨oc,od,.func (PySem.W.fnOf name qual params body scope dV kV doc pm an cdv ct),osl⟩) (hcd:PySem.W.codeIn K cdv qual=true) (S:FnScope N ps scope)
  (len:∀vs H Q E,sp vs H Q E->vs.length=ps.length)
  (hbody:∀(A:Around) (outer:List Env) (s:Shared) (H:Hp) (vs:List V) (Q:VK) (E:XK),Bm k (A.deeper (envOfC qual scope s.heap.objs.size f cdv))->sp vs H Q E ->
   ∃t,PSs (Fe CX P w K mg base N qual scope f cdv A outer s H E) body t/\t {nx:=λ_ H'=>Q .non H',rt:=Q} (start N vs) H) :
  FnOk P w K mg base CX (k+1) f (PySem.W.fnOf name qual params body scope dV kV doc pm an cdv ct) ps sp:=by
 refine⟨len,λA outer s H args us vs Q E hr e0 hb r hsp=>?_⟩
 have hl:=len _ _ _ _ hsp
 have KX:K.In s.heap:=e0.mod.kin.keeps λb o e=>(e0.bs b o e).1
 have lim:s.heap.NoLimit:=e0.mod.nolimit.keeps λb o e=>(e0.bs b o e).1
 have hkind:∀y∈ps.zip us,scope.names.lookup y.1=some .local\/(scope.names.lookup y.1=some .cell/\((cellsFrom (s.heap.objs.size+1) scope.names []).lookup y.1).isSome=true):=fun⟨n,v⟩ hy=>by
  rcases S.par n (HL hy).1 with q | q
  ·exact .inl q
  ·exact .inr ⟨q,HG _ _ _ (.inl q)⟩
 refine codeAny_call_function hr.depth (KX _ _ lk) rfl S.co S.gen rfl (PySem.W.codeRec_of KX hcd) (hb _ _ _ _ ?_)
 refine wpAny_newFunctionEnv_cells S.kind hkind λenv he s1 x=>?_
 subst he
 refine⟨lim.keeps x.toInCall.keep,codeAny_func ?_⟩
 obtain⟨t,ht,hq⟩:=hbody A outer s H vs Q E (hr.deeperX _) hsp
 have I:Inv (Fe CX P w K mg base N qual scope f cdv A outer s H E) [] (start N vs) H s1:=Bo S hr.hd e0 hl r x
 refine DO (ht [] s1 (start N vs) H _ I hq) (λfl s' hs=>?_) λe s' hs=>hs
 have fin:∀{σ':St} {H':Hp} {v:V} {u:Value},Inv (Fe CX P w K mg base N qual scope f cdv A outer s H E) [] σ' H' s'->RelV v u->Q v H'->CE outer P w H s Q u s' :=
  λ{σ' H' v u} J rv q=>⟨v,H',J.os,J.bare,J.base,J.hok,rv,q⟩
 cases fl with
 | ret u =>
  obtain⟨v,σ',H',J,rv,q⟩:=hs
  exact fin J rv q
 | next =>
  obtain⟨σ',H',J,q⟩:=hs
  exact fin (v:=V.non) (u:=Value.none) J rfl q
 | brk =>
  obtain⟨_,_,_,q⟩:=hs
  exact False.elim q
 | cont =>
  obtain⟨_,_,_,q⟩:=hs
  exact False.elim q
section
variable {X : Cx} {x : Str} {p pos : Pos} {e : Expr} {es : List Expr} {t : TA} {id T : String} {r : List V -> Hp -> VK -> Prop}
def tCB (r:List V->Hp->VK->Prop) (t:TA):TE:=λσ H Q=>t σ H λvs H1=>r vs H1 Q
theorem ij (hc:fk X (.builtin id) r) (hg:Gl X x) (hm:X.mg x=none) (hv:bootBuiltins x=some (.builtin id)) (ha:PA X (e::es) t) (hn:x≠"__name__":=by decide) (hdb:(x==("__debug__":Str))=false:=by decide)
  (he:starEach (e::es) X.env=(false,eval e X.env)::starEach es X.env:=by rfl) (hpl:(backTo pos (starEach es X.env)).any (·.1)=false:=by rfl):PE X (.Call (.Name x p) (e::es) [] pos) (tCB r t):=by
 intro pins s σ H Q I h
 refine GG (n4 I hg hm hv ?_ hn hdb)
 exact PyProof.Rows.callWith_builtin1 (thn (ha pos pins s σ H _ I h) λus s1 ⟨vs,H1,I1,r1,q1⟩=>hc pins s1 σ H1 vs us Q I1 r1 q1) he hpl
theorem tj (hc:fk X (.type T) r) (hg:Gl X x) (hm:X.mg x=none) (hv:bootBuiltins x=some (.type T)) (ha:PA X (e::es) t) (hn:x≠"__name__":=by decide) (hdb:(x==("__debug__":Str))=false:=by decide)
  (he:starEach (e::es) X.env=(false,eval e X.env)::starEach es X.env:=by rfl) (hpl:(backTo pos (starEach es X.env)).any (·.1)=false:=by rfl):PE X (.Call (.Name x p) (e::es) [] pos) (tCB r t):=by
 intro pins s σ H Q I h
 refine GG (n4 I hg hm hv ?_ hn hdb)
 exact Db (thn (ha pos pins s σ H _ I h) λus s1 ⟨vs,H1,I1,r1,q1⟩=>hc pins s1 σ H1 vs us Q I1 r1 q1) he hpl
end
end L2
namespace HT
open PySem PyProof.Rows
def lexLt:List Int->List Int->Bool
 | [],[]=>false
 | [],_::_=>true
 | _::_,[]=>false
 | x::xs,y::ys=>if x=y then lexLt xs ys else decide (x<y)
theorem fw (x y:Int) (xs ys:List Int):lexLt (x::xs) (y::ys)=if x=y then lexLt xs ys else decide (x<y):=rfl
theorem ik:lexLt [] []=false:=rfl
theorem gs (y:Int) (ys:List Int):lexLt [] (y::ys)=true:=rfl
theorem gu (x:Int) (xs:List Int):lexLt (x::xs) []=false:=rfl
theorem nj (A:Around) (s:Shared) (a:Int) (t:Tok) (c:Int) (u:Tok):∃e,SeqAt.EqAt A s (.int a t) (.int c u) e/\(e=true↔a=c) :=
 ⟨(a==c),IF a t c u,by simp⟩
theorem Ff (A:Around) (s:Shared) (a:Int) (t:Tok) (c:Int) (u:Tok) (prog:Program) (w:World) (E:Value->Shared->Prop) (Q:Value->Shared->Prop) (h:Q (.bool (decide (a<c))) s) :
  wpAny (model prog w) A (richCompare .Lt (.int a t) (.int c u)) Q E s :=
 (HZ h:wpAny (model prog w) A (compareOp .Lt (.int a t) (.int c u)) Q E s)
section
open PySem.SeqAt
open PySem.AutoSeq1 (wpAny_loadPart')
open PySem.MeetsSeq PySem.MeetsSeq2 PySem.MeetsSeq3
theorem qo (l b:Addr) (items items2:Array Value) (n n2:Nat) (dd dd2:Option Addr) (sl sl2:Array (Option Value)) (ns ms:List Int) (hi:IntsAre items.toList ns) (hj:IntsAre items2.toList ms) :
  Meets (Builtin.«tuple.__lt__» ⟨[.ref l,.ref b],[]⟩)
   (λ_ R s=>s.heap.get? l=some {cls:=.type "tuple",dict:=dd,data:=.seq items n,slots:=sl}/\s.heap.get? b=some {cls:=.type "tuple",dict:=dd2,data:=.seq items2 n2,slots:=sl2} /\
    R (.ok (.ret (.bool (lexLt ns ms)))) s) :=
 .of_wp λprog w A R s h=>by
  obtain⟨hp,g,d,tk,os⟩:=s;obtain⟨hl,hb,h⟩:=h
  have f2:=DY
  have z1:items.size=ns.length:=by rw[<-hi.length];simp
  have z2:items2.size=ms.length:=by rw[<-hj.length];simp
  wp_walk using CI hl,CI hb,FL _ (λrest b s'=>b.1=none/\s'=⟨hp,g,d,tk,os⟩/\∃(vs ws:List Value) (ns' ms':List Int),rest=vs.zip ws /\
   IntsAre vs ns'/\IntsAre ws ms'/\ns'.length+items2.size=ms'.length+items.size/\R (.ok (.ret (.bool (lexLt ns' ms')))) ⟨hp,g,d,tk,os⟩) _
  case turn =>
   rintro⟨y,x⟩ rest b s' ⟨hb',rfl,vs,ws,ns',ms',hz,hvi,hwi,hlen,hR⟩
   cases hvi with
   | nil=>rw[FI]at hz;cases hz
   | cons a t hvi' =>
    cases hwi with
    | nil=>rw[EH]at hz;cases hz
    | cons c u hwi' =>
     rw[CL]at hz
     injection hz with hyx hrest
     injection hyx with hy hx
     subst hy hx
     rw[fw]at hR
     simp![BC]at hlen
     obtain⟨e,he,hiff⟩:=nj A.in1 ⟨hp,g,d,tk,os⟩ a t c u
     refine AB (he prog w _ _ ?_)
     cases e with
     | true =>
      rw[if_pos (hiff.mp rfl)]at hR
      wp_walk
      exact⟨rfl,rfl,_,_,_,_,hrest,hvi',hwi',by lia,hR⟩
     | false =>
      rw[if_neg (λq=>absurd (hiff.mpr q) BI)]at hR
      have hri:=Ff A.in1 ⟨hp,g,d,tk,os⟩ a t c u prog w
      wp_walk using hri
      exact⟨_,rfl,by simpa using hR⟩
  case fin =>
   rintro⟨b1,b2⟩ s' ⟨hb',rfl,vs,ws,ns',ms',hz,hvi,hwi,hlen,hR⟩
   simp only at hb'
   subst hb'
   have hv:lexLt ns' ms'=decide (items.size<items2.size):=by
    cases hvi with
    | nil =>
     cases hwi with
     | nil =>
      simp![BU]at hlen
      rw[ik]
      exact(decide_eq_false (by lia)).symm
     | cons c u hw =>
      simp![BU,BC]at hlen
      rw[gs]
      exact(decide_eq_true (by lia)).symm
    | cons a t hv =>
     cases hwi with
     | nil =>
      simp![BU,BC]at hlen
      rw[gu]
      exact(decide_eq_false (by lia)).symm
     | cons c u hw =>
      rw[CL]at hz
      cases hz
   rw[hv]at hR
   wp_walk
   exact⟨_,rfl,by simpa[Builtin.Tuple.tupleCompareSizes]using hR⟩
  case h =>
   exact⟨rfl,rfl,items.toList,items2.toList,ns,ms,rfl,hi,hj,by lia,h⟩
end
section
variable {prog : Program} {w : World} {A : Around} {E : Value -> Shared -> Prop} {s : Shared}
theorem Ad {l b:Addr} {items items2:Array Value} {ns ms:List Int} {Q:Value->Shared->Prop} (hl:IsTup s.heap l items) (hb:IsTup s.heap b items2) (hi:IntsAre items.toList ns) (hj:IntsAre items2.toList ms)
  (hu:A.units<cLine) (h:Q (.bool (lexLt ns ms)) s):wpAny (model prog w) A (compareOp .Lt (.ref l) (.ref b)) Q E s:=by
 obtain⟨⟨cls,dd,data,sl⟩,ho,hc,n,hd⟩:=id hl
 obtain⟨⟨cls2,dd2,data2,sl2⟩,ho2,hc2,n2,hd2⟩:=id hb
 simp only at hc hd hc2 hd2
 subst hc hd hc2 hd2
 exact EI (op:=.Lt) ⟨_,ho,rfl⟩ ⟨_,ho2,rfl⟩ HR HH (GV _ _) (qo l b items items2 n n2 dd dd2 sl sl2 ns ms hi hj)
  ⟨ho,ho2,show Value.bool (lexLt ns ms)≠Value.notImplemented/\Q (.bool (lexLt ns ms)) s from⟨(λx=>nomatch x),h⟩⟩ hu
theorem J9 {t b:Addr} {vs ws:List Value} {Q:Value->Shared->Prop} (ht:IsTup s.heap t vs.toArray) (hb:IsTup s.heap b ws.toArray) (hv:vs≠[])
  (h1:ws=[]->Q (.ref t) s) (h2:ws≠[]->Q (.ref s.heap.objs.size) {s with heap:=s.heap.push {cls:=.type "tuple",data:=.seq (vs++ws).toArray}})
  (hsz:vs.length+ws.length<=sizeLine):wpAny (model prog w) A (binaryOp .Add (.ref t) (.ref b)) Q E s:=by
 obtain⟨⟨cls,dd,data,sl⟩,ho,hc,n,hd⟩:=id ht
 obtain⟨⟨cls2,dd2,data2,sl2⟩,ho2,hc2,n2,hd2⟩:=id hb
 simp only at hc hd hc2 hd2
 subst hc hd hc2 hd2
 have e:vs.toArray++ws.toArray=(vs++ws).toArray:=by simp
 by_cases hw:ws=[]
 ·exact concat_meets ⟨_,ho,rfl⟩ ⟨_,ho2,rfl⟩ GW seq_tuple_add FJ FG (FA _ _)
   (tuple_addW1 t b vs.toArray ws.toArray n n2 dd dd2 sl sl2 (by simpa using hv) (by simp[hw])) ⟨ho,ho2,h1 hw⟩
 ·refine concat_meets ⟨_,ho,rfl⟩ ⟨_,ho2,rfl⟩ GW seq_tuple_add FJ FG (FA _ _)
   (tuple_addW2 t b vs.toArray ws.toArray n n2 dd dd2 sl sl2 (by simpa using hv) (by simpa using hw) (by rw[AH,AH];exact hsz)) ⟨ho,ho2,?_⟩
  rw[e]
  exact h2 hw
def sIx (n d:Nat):Option Int->Nat
 | none=>d
 | some v=>if v<0 then(v+(n:Int)).toNat else min v.toNat n
theorem Nl (n d:Nat) (hd:d<=n) (o:Option Int):sIx n d o<=n:=by
 cases o with
 | none=>exact hd
 | some v =>
  show(if v<0 then(v+(n:Int)).toNat else min v.toNat n)<=n
  by_cases hv:v<0
  ·rw[if_pos hv];lia
  ·rw[if_neg hv];exact Nat.min_le_right _ _
theorem Bp (v:Int) (n d:Nat):(if v<0 then max (v+(n:Int)) 0 else min v (n:Int))=((sIx n d (some v):Nat):Int):=by
 show(if v<0 then max (v+(n:Int)) 0 else min v (n:Int))=(((if v<0 then(v+(n:Int)).toNat else min v.toNat n):Nat):Int)
 by_cases hv:v<0
 ·simp![if_pos hv];lia
 ·simp![if_neg hv];lia
theorem Ae (lo hi:Option Int) (n:Nat):Builtin.Slice.sliceAdjust lo hi 1 (n:Int)=(((sIx n 0 lo:Nat):Int),((sIx n n hi:Nat):Int)):=by
 have h1:¬((1:Int)<0):=by lia
 unfold Builtin.Slice.sliceAdjust
 simp![h1,if_false]
 refine Prod.ext ?_ ?_
 ·cases lo with
  | none=>rfl
  | some v=>exact Bp v n 0
 ·cases hi with
  | none=>rfl
  | some v=>exact Bp v n n
theorem Af (i j:Nat):Builtin.Slice.slicePlaces (i:Int) (j:Int) 1=j-i:=by
 unfold Builtin.Slice.slicePlaces
 have h1:(1:Int) > 0:=by lia
 simp![h1,if_true,Int.ediv_one]
 split<;>lia
theorem p8 {v:Value} {o:Option Int} {Q:Option Int->Shared->Prop} (p:IsPart v o) (h:Q o s):wpAny (model prog w) A (Builtin.Slice.slicePartIndex v) Q E s:=by
 cases p with
 | none=>exact slicePart_none h
 | int i t=>exact slicePart_int h
theorem jb {sl:Addr} {vl vu:Value} {lo hi:Option Int} {n:Nat} {Q:Int×Int×Nat->Shared->Prop} (hs:s.heap.IsSliceOf sl vl vu .none) (pl:IsPart vl lo) (pu:IsPart vu hi)
  (h:Q (((sIx n 0 lo:Nat):Int),1,sIx n n hi-sIx n 0 lo) s):wpAny (model prog w) A (Builtin.Slice.sliceApplied (.ref sl) (pure (n:Int))) Q E s:=by
 obtain⟨os,hos,hcs,hds⟩:=id hs
 unfold Builtin.Slice.sliceApplied Builtin.Slice.sliceFields
 refine AB (AB (DE hos hds (x:=vl) rfl (AB (DE hos hds (x:=vu) rfl (AB (DE hos hds (x:=.none) rfl (AM ?_)))))))
 refine AB (slicePart_none ?_)
 show wpAny _ _ (if((1:Int)==0)=true then _ else _) _ _ s
 rw[if_neg (by decide)]
 refine AB (p8 pl (AB (p8 pu (AB (AM ?_)))))
 show wpAny _ _ (match Builtin.Slice.sliceAdjust lo hi 1 (n:Int)with | (lo,hi)=>pure (lo,(1:Int),Builtin.Slice.slicePlaces lo hi 1)) _ _ s
 rw[Ae lo hi n]
 show wpAny _ _ (pure (((sIx n 0 lo:Nat):Int),(1:Int),Builtin.Slice.slicePlaces ((sIx n 0 lo:Nat):Int) ((sIx n n hi:Nat):Int) 1)) _ _ s
 rw[Af]
 exact AM h
theorem Fg (xs:Array Value) (i k:Nat):((List.range k).filterMap fun(m:Nat)=>xs[((i:Int)+(m:Int)*1).toNat]?).toArray=((xs.toList.drop i).take k).toArray:=by
 have e:(fun(m:Nat)=>xs[((i:Int)+(m:Int)*1).toNat]?)=λm=>xs[i+m]?:=by
  funext m
  have:((i:Int)+(m:Int)*1).toNat=i+m:=by lia
  rw[this]
 rw[e]
 have:=pick_run xs i k
 rw[List.filterMap_map]at this
 have e2:((λx=>xs[x]?)∘λx=>i+x)=λm=>xs[i+m]?:=rfl
 rw[e2]at this
 rw[this]
theorem lj {t sl:Addr} {items:Array Value} {vl vu:Value} {lo hi:Option Int} {Q:Value->Shared->Prop} (ht:IsTup s.heap t items) (hs:s.heap.IsSliceOf sl vl vu .none) (pl:IsPart vl lo) (pu:IsPart vu hi)
  (hw:¬(sIx items.size 0 lo=0/\sIx items.size items.size hi=items.size))
  (h:Q (.ref s.heap.objs.size) {s with heap:=s.heap.push {cls:=.type "tuple",data:=.seq ((items.toList.drop (sIx items.size 0 lo)).take (sIx items.size items.size hi-sIx items.size 0 lo)).toArray}})
  (hsz:items.size<=sizeLine):wpAny (model prog w) A (getItem (.ref t) (.ref sl)) Q E s:=by
 have htake:sizeOk (.seq ((items.toList.drop (sIx items.size 0 lo)).take (sIx items.size items.size hi-sIx items.size 0 lo)).toArray):=by
  show((items.toList.drop (sIx items.size 0 lo)).take (sIx items.size items.size hi-sIx items.size 0 lo)).toArray.size<=sizeLine
  rw[AH,BJ,Ev,BS]
  lia
 have hj:sIx items.size items.size hi<=items.size:=Nl _ _ (AK _) hi
 obtain⟨os,hos,hcs,hds⟩:=id hs
 have hTs:s.TypeIs (.ref sl) "slice":=⟨os,hos,hcs⟩
 unfold getItem
 try with_reducible refine DX ?_
 first | refine AB (AM ?_) | skip
 refine AB (wpAny_sequenceKey ht.typeIs (by decide) ?_)
 refine AB (Da (name:=Str.ofString "__getitem__") ht.typeIs CA
  (DG CA ht.typeIs entry_tuple_getitem ?_ (args_tuple_getitem _ _)))
 show wpAny _ _ (Builtin.Tuple.tupleItemsOf (.ref t)>>=_) _ _ s
 refine AB (tupleItemsOf_ ht ?_)
 refine AB (HI hTs ?_)
 rw[if_pos (by decide)]
 refine AB (jb hs pl pu ?_)
 have hno:¬((((sIx items.size 0 lo:Nat):Int)==0&&(1:Int)==1&&(sIx items.size items.size hi-sIx items.size 0 lo)==items.size)=true):=by
  intro q
  rw[AU,AU]at q
  have q1:((sIx items.size 0 lo:Nat):Int)=0:=eq_of_beq q.1.1
  have q2:sIx items.size items.size hi-sIx items.size 0 lo=items.size:=eq_of_beq q.2
  exact hw ⟨by lia,by lia⟩
 show wpAny _ _ (if(((sIx items.size 0 lo:Nat):Int)==0&&(1:Int)==1&&(sIx items.size items.size hi-sIx items.size 0 lo)==items.size)=true then _ else _) _ _ s
 rw[if_neg hno,Fg]
 first
  | exact AB (m:=Builtin.Tuple.tupleExact _) (DL (AM ⟨_,rfl,AM h⟩) htake)
  | exact AB (m:=Builtin.Tuple.tupleExact _) (DL (AB (AM (AM ⟨_,rfl,AM h⟩))) htake)
  | exact AB (AB (m:=Builtin.Tuple.tupleExact _) (DL (AM (AM ⟨_,rfl,AM h⟩)) htake))
  | exact AB (AB (m:=Builtin.Tuple.tupleExact _) (DL (AM ⟨_,rfl,AM h⟩) htake))
end
end HT
namespace L2
open PySem PySem.Spec PyProof.Rows
abbrev TO:=St->Hp->(Option Int->Hp->Prop)->Prop
def PO (X:Cx) (e:Option Expr) (t:TO):Prop :=
 ∀(pins:List (Addr×Obj)) (s:Shared) (σ:St) (H:Hp) (Q:Option Int->Hp->Prop),Inv X pins σ H s->t σ H Q ->
  wpAny (model X.prog X.w) X.A (evalPart e X.env) (λu s'=>∃o H',Inv X pins σ H' s'/\IsPart u o/\Q o H') X.xe s
def tNoPart:TO:=λ_ H Q=>Q none H
def Sa (t:TE):TO:=λσ H Q=>t σ H λx H1=>∃i,x=.int i/\Q (some i) H1
theorem intsAre_of {ns:List Int}:∀{us:List Value},bu (ns.map V.int) us->IntsAre us ns:=by
 induction ns with
 | nil=>intro us r;rw[CW]at r;cases r;exact .nil
 | cons n ns ih =>
  intro us r
  rw[AL]at r
  cases r with
  | cons r1 r2 =>
   obtain⟨t,e⟩:=r1
   subst e
   exact .cons n t (ih r2)
section
variable {X : Cx} {e : Expr} {te : TE} {lo hi : Option Expr} {tl th : TO} {pos p2 : Pos}
theorem Kb:PO X none tNoPart:=by
 intro pins s σ H Q I h
 rw[evalPart_none]
 exact AM ⟨none,H,I,.none,h⟩
theorem Kc (h:PE X e te):PO X (some e) (Sa te):=by
 intro pins s σ H Q I hw
 rw[evalPart_some]
 refine thn (h pins s σ H _ I hw) λu s1 ⟨x,H1,I1,r1,q1⟩=>?_
 obtain⟨i,rfl,q⟩:=q1
 obtain⟨t,rfl⟩:=r1
 exact⟨some i,H1,I1,.int i t,q⟩
def SlR (X:Cx) (r:V->Option Int->Option Int->Hp->VK->Prop):Prop :=
 ∀(pins:List (Addr×Obj)) (s:Shared) (σ:St) (H:Hp) (x:V) (v vl vu:Value) (lo hi:Option Int) (sl:Addr) (Q:VK),Inv X pins σ H s->RelV x v->s.heap.IsSliceOf sl vl vu .none->IsPart vl lo->IsPart vu hi->r x lo hi H Q ->
  ∃T id,typeLookup (.type T) "__getitem__"=pure (some (.builtin id))/\s.TypeIs v T/\wpAny (model X.prog X.w) X.A (getItem v (.ref sl)) (EP X pins σ Q) X.xe s
def tSl (r:V->Option Int->Option Int->Hp->VK->Prop) (te:TE) (tl th:TO):TE:=λσ H Q=>te σ H λx H1=>tl σ H1 λl H2=>th σ H2 λu H3=>r x l u H3 Q
theorem Fh {r:V->Option Int->Option Int->Hp->VK->Prop} (hr:SlR X r) (he:PE X e te) (hl:PO X lo tl) (hu:PO X hi th):PE X (.Subscript e (.Slice lo hi none p2) pos) (tSl r te tl th):=by
 intro pins s σ H Q I h
 refine Subscript_ (thn (he pins s σ H _ I h) λv s1 ⟨x,H1,I1,r1,q1⟩=>?_)
 refine wpAny_Slice (thn (hl pins s1 σ H1 _ I1 q1) λvl s2 ⟨l,H2,I2,pl,q2⟩=>thn (hu pins s2 σ H2 _ I2 q2) λvu s3 ⟨u,H3,I3,pu,q3⟩=>?_)
 rw[evalPart_none]
 refine AM ?_
 have I4:Inv X pins σ H3 {s3 with heap:=s3.heap.push {cls:=.type "slice",data:=.fields #[vl,vu,.none]}}:=I3.kept (t':=s3.toks) λb ob q=>AF _ q
 obtain⟨T,id,hT,ht,hg⟩:=hr pins {s3 with heap:=s3.heap.push {cls:=.type "slice",data:=.fields #[vl,vu,.none]}} σ H3 x v vl vu l u s3.heap.objs.size Q I4 r1 (Heap.IsSliceOf.new ..) pl pu q3
 show wpAny (model X.prog X.w) X.A (subscriptTail e (.Slice lo hi none p2) v (.ref s3.heap.objs.size)) (EP X pins σ Q) X.xe {s3 with heap:=s3.heap.push {cls:=.type "slice",data:=.fields #[vl,vu,.none]}}
 exact tail_any (ops:=[.ref s3.heap.objs.size,v]) ht hT hg (by with_unfolding_all rfl)
def Hg (xs:List V) (lo hi:Option Int):List V:=(xs.drop (HT.sIx xs.length 0 lo)).take (HT.sIx xs.length xs.length hi-HT.sIx xs.length 0 lo)
theorem n8 (xs:List V) (lo hi:Option Int):(Hg xs lo hi).length<=xs.length:=by
 unfold Hg
 rw[BJ,Ev]
 lia
def V7 (K:PySem.W.Frag):V->Option Int->Option Int->Hp->VK->Prop:=λx lo hi H Q=>∃a xs,x=.ref a/\SqT K H a xs /\
 ¬(HT.sIx xs.length 0 lo=0/\HT.sIx xs.length xs.length hi=xs.length)/\∀p,H p=none->Q (.ref p) (upd H p (.tup (Hg xs lo hi)))
theorem Nm:SlR X (V7 X.K):=by
 intro pins s σ H x v vl vu lo hi sl Q I rx hs pl pu h
 obtain⟨a,xs,rfl,hx,hw,q⟩:=h
 cases rx
 obtain⟨its,r,ht,hz⟩:=I.tuple hx
 have hlen:its.toArray.size=xs.length:=by rw[AH];exact r.length.symm
 refine⟨"tuple",_,CA.lookup,ht.typeIs,?_⟩
 refine HT.lj ht hs pl pu (by rw[hlen];exact hw) ?_ (by rw[hlen];exact hz)
 rw[hlen]
 refine⟨.ref s.heap.objs.size,_,I.laid (t':=s.toks) (o:=.tup (Hg xs lo hi)) (λb ob q=>AF _ q) (AK _) ?_,rfl,q _ (I.hok.fresh (AK _))⟩
 exact⟨BA (n8 xs lo hi) hz,_,(r.drop (HT.sIx xs.length 0 lo)).take (HT.sIx xs.length xs.length hi-HT.sIx xs.length 0 lo),mm.new _ _⟩
def V8 (K:PySem.W.Frag):R2:=λx y H Q=>∃a b ns ms,x=.ref a/\y=.ref b/\SqT K H a (ns.map V.int)/\SqT K H b (ms.map V.int)/\Q (.bl (HT.lexLt ns ms)) H
theorem Nn (hu:X.A.units<cLine):OpR X (compareOp .Lt) (V8 X.K):=by
 intro pins s σ H x y v u Q I rx ry h
 obtain⟨a,b,ns,ms,rfl,rfl,ha,hb,q⟩:=h
 cases rx
 cases ry
 obtain⟨its,r1,p1,_⟩:=I.tuple ha
 obtain⟨its2,r2,p2,_⟩:=I.tuple hb
 have i1:IntsAre its.toArray.toList ns:=intsAre_of r1
 have i2:IntsAre its2.toArray.toList ms:=intsAre_of r2
 exact HT.Ad p1 p2 i1 i2 hu ⟨.bl (HT.lexLt ns ms),H,I,rfl,q⟩
def Sb (K:PySem.W.Frag):R2:=λx y H Q=>∃a b xs ys,x=.ref a/\y=.ref b/\SqT K H a xs/\SqT K H b ys/\xs≠[]/\xs.length+ys.length<=sizeLine /\
 (ys=[]->Q (.ref a) H)/\(ys≠[]->∀p,H p=none->Q (.ref p) (upd H p (.tup (xs++ys))))
theorem bu.nil_iff {xs:List V} {us:List Value} (r:bu xs us):us=[]↔xs=[]:=by
 cases r with
 | nil=>simp
 | cons _ _=>simp
theorem Kd:OpR X (binaryOp .Add) (Sb X.K):=by
 intro pins s σ H x y v u Q I rx ry h
 obtain⟨a,b,xs,ys,rfl,rfl,ha,hb,hx,hz,q1,q2⟩:=h
 cases rx
 cases ry
 obtain⟨its,r1,p1,_⟩:=I.tuple ha
 obtain⟨its2,r2,p2,_⟩:=I.tuple hb
 refine HT.J9 p1 p2 (λz=>hx (r1.nil_iff.mp z)) (λz=>⟨.ref a,H,I,rfl,q1 (r2.nil_iff.mp z)⟩) (λz=>?_) (by rw[<-r1.length,<-r2.length];exact hz)
 refine⟨.ref s.heap.objs.size,_,I.laid (t':=s.toks) (o:=.tup (xs++ys)) (λb ob q=>AF _ q) (AK _) ?_,rfl,q2 (λw=>z (r2.nil_iff.mpr w)) _ (I.hok.fresh (AK _))⟩
 exact⟨by rw[AO];exact hz,_,r1.append r2,mm.new _ _⟩
end
def ixN (n:Nat) (i:Int):Option Nat:=if 0<=i then(if i<n then some i.toNat else none)else if -(n:Int)<=i then some (i+n).toNat else none
def atI {α:Type} (xs:List α) (i:Int):Option α:=(ixN xs.length i).bind λj=>xs[j]?
theorem Bq {n:Nat} {i:Int} {j:Nat} (h:ixN n i=some j):seqIndex? i n=some j/\j<n /\ -(n:Int)<=i/\i<n:=by
 unfold ixN at h
 by_cases h0:0<=i
 ·rw[if_pos h0]at h
  by_cases h1:i<n
  ·rw[if_pos h1]at h
   have e:i.toNat=j:=CD h
   exact⟨by rw[seqIndex_of h0 h1,e],by lia,by lia,h1⟩
  ·rw[if_neg h1]at h;cases h
 ·rw[if_neg h0]at h
  by_cases h1:-(n:Int)<=i
  ·rw[if_pos h1]at h
   have e:(i+n).toNat=j:=CD h
   exact⟨by rw[seqIndex_neg (by lia) h1,e],by lia,h1,by lia⟩
  ·rw[if_neg h1]at h;cases h
theorem vn {α:Type} {xs:List α} {i:Int} {v:α} (h:atI xs i=some v):∃j,seqIndex? i xs.length=some j/\xs[j]? = some v/\j<xs.length /\ -(xs.length:Int)<=i/\i<xs.length:=by
 unfold atI at h
 cases e:ixN xs.length i with
 | none=>rw[e]at h;cases h
 | some j =>
  rw[e]at h
  obtain⟨h1,h2,h3,h4⟩:=Bq e
  exact⟨j,h1,h,h2,h3,h4⟩
def vo (b:Expr):Prop:=∀o i,subscripted b false o i=operate [o,i] (getItem o i)
def IxR (X:Cx) (r:R2):Prop :=
 ∀(value slice:Expr) (pins:List (Addr×Obj)) (s:Shared) (σ:St) (H:Hp) (x y:V) (v u:Value) (Q:VK),Inv X pins σ H s->RelV x v->RelV y u->r x y H Q ->
  subscripted slice false v u=operate [v,u] (getItem v u)->wpAny (model X.prog X.w) X.A (subscriptTail value slice v u) (EP X pins σ Q) X.xe s
def MtR (X:Cx) (id:String) (r:V->List V->Hp->VK->Prop):Prop :=
 ∀(pins:List (Addr×Obj)) (s:Shared) (σ:St) (H:Hp) (x:V) (xs:List V) (v:Value) (us:List Value) (Q:VK),Inv X pins σ H s->RelV x v->bu xs us->r x xs H Q ->
  wpAny (model X.prog X.w) X.A (call (.builtin id) (v::us)) (EP X pins σ Q) X.xe s
section
variable {X : Cx} {a b : Expr} {ta tb : TE} {pos : Pos}
theorem IxR.or {r r':R2} (h:IxR X r) (h':IxR X r'):IxR X (λx y H Q=>r x y H Q\/r' x y H Q):=by
 intro value slice pins s σ H x y v u Q I rx ry q hs
 rcases q with q | q
 ·exact h value slice pins s σ H x y v u Q I rx ry q hs
 ·exact h' value slice pins s σ H x y v u Q I rx ry q hs
theorem Sd {r:R2} (hr:IxR X r) (ha:PE X a ta) (hb:PE X b tb) (hs:vo b):PE X (.Subscript a b pos) (tOp r ta tb):=by
 intro pins s σ H Q I h
 exact Subscript_ (Uk ha hb I h λv u s2 x y H2 I2 rx ry q=>hr a b pins s2 σ H2 x y v u Q I2 rx ry q (hs _ _))
def Uo (K:PySem.W.Frag):R2:=λx y H Q=>∃p xs i v,x=.ref p/\y=.int i/\SqL K H p xs/\atI xs i=some v/\Q v H
def Uq (K:PySem.W.Frag):R2:=λx y H Q=>∃p xs i v,x=.ref p/\y=.int i/\SqT K H p xs/\atI xs i=some v/\Q v H
def rIxS:R2:=λx y H Q=>∃z i c,x=.str z/\y=.int i/\z.length<=sizeLine/\atI z.cps.toList i=some c/\Q (.str ⟨#[c]⟩) H
theorem Ke:IxR X (Uo X.K):=by
 intro value slice pins s σ H x y v u Q I rx ry h hs
 obtain⟨p,xs,i,z,rfl,rfl,hq,he,q⟩:=h
 cases rx
 obtain⟨t,rfl⟩:=ry
 obtain⟨its,r,pl,hz⟩:=I.list hq
 obtain⟨j,h1,h2,h3,h4,h5⟩:=vn he
 obtain⟨w,ew,rw'⟩:=r.get h2
 have hl:=r.length
 have hn:=p7
 have fin:EP X pins σ Q w s:=⟨z,H,I,rw',q⟩
 by_cases h0:0<=i
 ·have hj:i.toNat=j:=by
   rw[seqIndex_of h0 h5]at h1
   exact CD h1
  exact item_listR pl.isList h0 (by lia) (by rw[hj];simpa using ew) fin hs
 ·have hj:(i+(its.toArray.size:Int)).toNat=j:=by
   rw[seqIndex_neg (by lia) h4]at h1
   rw[AH,<-hl]
   exact CD h1
  exact subscriptTail_builtinR (x:=w) pl.isList.typeIs slot_list_getitem.lookup
   (wpAny_getItem_list_neg (Q:=λr s'=>r=w/\EP X pins σ Q r s') pl.isList (by lia) (by rw[AH]<;>lia) (by lia) (by rw[hj];simpa using ew) ⟨rfl,fin⟩) hs
theorem Np:IxR X (Uq X.K):=by
 intro value slice pins s σ H x y v u Q I rx ry h hs
 obtain⟨p,xs,i,z,rfl,rfl,hq,he,q⟩:=h
 cases rx
 obtain⟨t,rfl⟩:=ry
 obtain⟨its,r,pl,hz⟩:=I.tuple hq
 obtain⟨j,h1,h2,h3,h4,h5⟩:=vn he
 obtain⟨w,ew,rw'⟩:=r.get h2
 have hl:=r.length
 have hn:=p7
 have fin:EP X pins σ Q w s:=⟨z,H,I,rw',q⟩
 exact subscriptTail_builtinR (x:=w) pl.typeIs slot_tuple_getitem.lookup
  (getItem_tuple (j:=j) (Q:=λr s'=>r=w/\EP X pins σ Q r s') pl (by lia) (by lia) (by rw[AH,<-hl];exact h1) (by simpa using ew) ⟨rfl,fin⟩) hs
theorem Nq:IxR X rIxS:=by
 intro value slice pins s σ H x y v u Q I rx ry h hs
 obtain⟨z,i,c,rfl,rfl,hz,he,q⟩:=h
 obtain⟨t,rfl⟩:=rx
 obtain⟨t',rfl⟩:=ry
 obtain⟨j,h1,h2,h3,h4,h5⟩:=vn he
 have hl:z.cps.toList.length=z.length:=by simp[Str.length]
 rw[hl]at h1 h4 h5
 have hn:=p7
 exact tail_any (typeIs_str s z t) slot_str_getitem.lookup (getItem_str (c:=c) (by
  have e1:decide (i < -(2 ^ 63:Int))=false:=decide_eq_false (by lia)
  have e2:decide (i≥2 ^ 63)=false:=decide_eq_false (by lia)
  rw[e1,e2,Bool.or_false]) (by rw[h1];simpa using h2) ⟨.str ⟨#[c]⟩,H,I.tok _,⟨_,rfl⟩,q⟩) hs
def rIx (K:PySem.W.Frag):R2:=λx y H Q=>Uo K x y H Q\/Uq K x y H Q\/rIxS x y H Q
theorem Nr:IxR X (rIx X.K):=Ke.or (Np.or Nq)
theorem Ag (its:List Value) (n j:Nat) (u:Value):Obj.mapSeq (·.setIfInBounds j u) {cls:=.type "list",data:=.seq its.toArray n}={cls:=.type "list",data:=.seq (its.set j u).toArray n}:=by
 simp[Obj.mapSeq]
theorem Inv.lst {pins:List (Addr×Obj)} {σ:St} {H:Hp} {s:Shared} {p:Addr} {xs:List V} (I:Inv X pins σ H s) (h:H p=some (.lst xs)) :
  ∃(its:List Value) (n:Nat),bu xs its/\s.heap.get? p=some {cls:=.type "list",data:=.seq its.toArray n}/\xs.length<=sizeLine:=by
 obtain⟨z,its,n,r,e⟩:=I.hok p _ h
 exact⟨its,n,r,e,z⟩
theorem Inv.lstUpd {pins:List (Addr×Obj)} {σ:St} {H:Hp} {s:Shared} {p:Addr} {xs ys:List V} {its its':List Value} {n n':Nat} {f:Obj->Obj} (I:Inv X pins σ H s) (h:H p=some (.lst xs))
  (ho:s.heap.get? p=some {cls:=.type "list",data:=.seq its.toArray n}) (hf:f {cls:=.type "list",data:=.seq its.toArray n}={cls:=.type "list",data:=.seq its'.toArray n'}) (r:bu ys its') (hz:ys.length<=sizeLine) (t:Nat) :
  Inv X pins σ (upd H p (.lst ys)) {s with heap:=s.heap.update p f,toks:=t}:=by
 have e:(s.heap.update p f).get? p=some {cls:=.type "list",data:=.seq its'.toArray n'}:=by
  rw[HS f ho (by rw[hf]<;>rfl),hf]
 refine I.write (x:=p) (e:=p) (by rw[h];trivial) (.inl rfl) (λb u hb q=>(HJ _ _ (Ne.symm hb)).trans q) ⟨_,e⟩ ?_
 exact⟨hz,its',n',r,e⟩
def rSetL:V->V->V->Hp->(Hp->Prop)->Prop:=λo i v H Q=>∃p xs k j,o=.ref p/\i=.int k/\H p=some (.lst xs)/\ixN xs.length k=some j/\Q (upd H p (.lst (xs.set j v)))
theorem set_list:Rb X rSetL:=by
 intro pins s σ H o i v ov iv u Q I ro ri rv h
 obtain⟨p,xs,k,j,rfl,rfl,hp,hj,q⟩:=h
 cases ro
 obtain⟨t,rfl⟩:=ri
 obtain⟨its,n,r,ho,hz⟩:=I.lst hp
 obtain⟨h1,h2,h3,h4⟩:=Bq hj
 have hl:=r.length
 have hn:=p7
 have I':Inv X pins σ (upd H p (.lst (xs.set j v))) {s with heap:=s.heap.update p (Obj.mapSeq (·.setIfInBounds j u))} :=
  I.lstUpd hp ho (Ag its n j u) (r.set rv j) (by rw[List.length_set];exact hz) s.toks
 by_cases h0:0<=k
 ·have hk:k.toNat=j:=by
   rw[seqIndex_of h0 h4]at h1
   exact CD h1
  exact PySem.W.ki_setAt ho h0 (by lia) (by rw[AH,<-hl];exact h4) (by rw[hk];exact⟨_,I',q⟩)
 ·have hk:(k+(its.toArray.size:Int)).toNat=j:=by
   rw[seqIndex_neg (by lia) h3]at h1
   rw[AH,<-hl]
   exact CD h1
  exact PySem.W.ki_setBack ho (by lia) (by rw[AH,<-hl];exact h3) (by lia) (by rw[hk];exact⟨_,I',q⟩)
theorem tm (lo hi:Option Int) (n:Nat):(sliceBounds lo hi none n).1=((HT.sIx n 0 lo:Nat):Int)/\(sliceBounds lo hi none n).2.1=((HT.sIx n n hi:Nat):Int)/\(sliceBounds lo hi none n).2.2=1:=by
 refine⟨?_,?_,rfl⟩
 ·cases lo with
  | none=>simp[sliceBounds,HT.sIx]
  | some i =>
   simp![sliceBounds,HT.sIx,Option.getD_none,show(1:Int) > 0 by decide,if_true]
   by_cases h:i<0
   ·simp![h,if_true]<;>lia
   ·simp![h,if_false]<;>lia
 ·cases hi with
  | none=>simp[sliceBounds,HT.sIx]
  | some i =>
   simp![sliceBounds,HT.sIx,Option.getD_none,show(1:Int) > 0 by decide,if_true]
   by_cases h:i<0
   ·simp![h,if_true]<;>lia
   ·simp![h,if_false]<;>lia
theorem qp (its:List Value) (lo hi:Option Int):slicePick its.toArray lo hi none=((its.drop (HT.sIx its.length 0 lo)).take (HT.sIx its.length its.length hi-HT.sIx its.length 0 lo)).toArray:=by
 obtain⟨h1,h2,h3⟩:=tm lo hi its.toArray.size
 unfold slicePick
 rw[h1,h2,h3]
 simp![sliceRange_one,pick_run,AH]<;>rfl
def V9 (K:PySem.W.Frag):V->Option Int->Option Int->Hp->VK->Prop:=λx lo hi H Q=>∃a xs,x=.ref a/\SqL K H a xs/\∀p,H p=none->Q (.ref p) (upd H p (.lst (Hg xs lo hi)))
theorem Kf:SlR X (V9 X.K):=by
 intro pins s σ H x v vl vu lo hi sl Q I rx hs pl pu h
 obtain⟨a,xs,rfl,hx,q⟩:=h
 cases rx
 obtain⟨its,r,ht,hz⟩:=I.list hx
 have hlen:=r.length
 refine⟨"list",_,slot_list_getitem.lookup,ht.isList.typeIs,?_⟩
 refine wpAny_getItem_list_slice ht.isList hs pl pu .none (by simp) ?_ (by rw[AH]<;>lia)
 rw[qp,<-hlen]
 refine⟨.ref s.heap.objs.size,_,I.laid (t':=s.toks) (o:=.lst (Hg xs lo hi)) (λb ob q=>AF _ q) (AK _) ?_,rfl,q _ (I.hok.fresh (AK _))⟩
 exact⟨BA (n8 xs lo hi) hz,_,0,(r.drop (HT.sIx xs.length 0 lo)).take (HT.sIx xs.length xs.length hi-HT.sIx xs.length 0 lo),AX _ rfl⟩
def p5:V->Bool
 | .non=>true
 | .bl _=>true
 | .int _=>true
 | .str _=>true
 | _=>false
def eqV:V->V->Bool
 | .non,.non=>true
 | .bl a,.bl b=>a==b
 | .bl a,.int b=>(if a then 1 else 0)==b
 | .int a,.bl b=>a==(if b then 1 else 0)
 | .int a,.int b=>a==b
 | .str a,.str b=>a==b
 | _,_=>false
theorem Nt {A:Around} {s:Shared} {y x:V} {u v:Value} (ry:RelV y u) (rx:RelV x v) (fy:p5 y=true) (fx:p5 x=true):SeqAt.EqAt A s u v (eqV y x):=by
 cases y with
 | non =>
  cases ry
  cases x with
  | non=>cases rx;exact SeqAt.EqAt.same _
  | bl b=>cases rx;exact SeqAt.EqAt.none_bool b
  | int b=>obtain⟨t,rfl⟩:=rx;exact SeqAt.EqAt.none_int b t
  | str b=>obtain⟨t,rfl⟩:=rx;exact SeqAt.EqAt.none_str b t
  | _=>exact absurd (show false=true from fx) BI
 | bl a =>
  cases ry
  cases x with
  | non=>cases rx;exact SeqAt.EqAt.bool_none a
  | bl b=>cases rx;exact SeqAt.EqAt.bool_bool a b
  | int b=>obtain⟨t,rfl⟩:=rx;exact SeqAt.EqAt.bool_int a b t
  | str b=>obtain⟨t,rfl⟩:=rx;exact SeqAt.EqAt.bool_str a b t
  | _=>exact absurd (show false=true from fx) BI
 | int a =>
  obtain⟨t',rfl⟩:=ry
  cases x with
  | non=>cases rx;exact SeqAt.EqAt.int_none a t'
  | bl b=>cases rx;exact SeqAt.EqAt.int_bool a t' b
  | int b=>obtain⟨t,rfl⟩:=rx;exact IF a t' b t
  | str b=>obtain⟨t,rfl⟩:=rx;exact ID a t' b t
  | _=>exact absurd (show false=true from fx) BI
 | str a =>
  obtain⟨t',rfl⟩:=ry
  cases x with
  | non=>cases rx;exact SeqAt.EqAt.str_none a t'
  | bl b=>cases rx;exact SeqAt.EqAt.str_bool a t' b
  | int b=>obtain⟨t,rfl⟩:=rx;exact IE a t' b t
  | str b=>obtain⟨t,rfl⟩:=rx;exact SeqAt.EqAt.str_str a t' b t
  | _=>exact absurd (show false=true from fx) BI
 | _=>exact absurd (show false=true from fy) BI
def eqU (x:V) (u:Value):Bool:=match u with
 | .none=>eqV .non x
 | .bool b=>eqV (.bl b) x
 | .int i _=>eqV (.int i) x
 | .str z _=>eqV (.str z) x
 | _=>false
theorem Hh {x y:V} {u:Value} (r:RelV y u) (f:p5 y=true):eqU x u=eqV y x:=by
 cases y with
 | non=>cases r;rfl
 | bl b=>cases r;rfl
 | int i=>obtain⟨t,rfl⟩:=r;rfl
 | str z=>obtain⟨t,rfl⟩:=r;rfl
 | _=>exact absurd (show false=true from f) BI
theorem n9 {x:V}:∀{xs:List V} {us:List Value},bu xs us->xs.all p5=true->us.any (eqU x)=xs.any λy=>eqV y x
 | _,_,.nil,_=>rfl
 | y::xs,u::us,.cons r t,f=>by
  rw[BO,AU]at f
  rw[DH,DH,Hh r f.1,n9 t f.2]
theorem kg {A:Around} {s:Shared} {x:V} {v:Value} (rx:RelV x v) (fx:p5 x=true):∀{xs:List V} {us:List Value},bu xs us->xs.all p5=true->∀u∈us,SeqAt.EqAt A s u v (eqU x u)
 | _,_,.nil,_=>λu hu=>by cases hu
 | y::xs,u::us,.cons r t,f=>λu' hu=>by
  rw[BO,AU]at f
  rcases AV.mp hu with rfl | hu
  ·rw[Hh r f.1];exact Nt r rx f.1 fx
  ·exact kg rx fx t f.2 u' hu
def inV (x:V) (xs:List V):Bool:=xs.any λy=>eqV y x
def rIn (K:PySem.W.Frag) (neg:Bool):R2:=λx y H Q=>∃p xs,y=.ref p/\(SqL K H p xs\/SqT K H p xs)/\p5 x=true/\xs.all p5=true/\Q (.bl (if neg then !inV x xs else inV x xs)) H
theorem Br:OpR X (compareOp .In) (rIn X.K false):=by
 intro pins s σ H x y v u Q I rx ry h
 obtain⟨p,xs,rfl,hq,fx,fs,q⟩:=h
 cases ry
 rcases hq with hq | hq
 ·obtain⟨its,r,pl,hz⟩:=I.list hq
  refine SeqAt.in_listAt (eqU x) pl.isList (λw hw=>kg rx fx r fs w (by simpa using hw)) ⟨.bl _,H,I,rfl,?_⟩
  rw[show its.toArray.any (eqU x)=its.any (eqU x)by simp,n9 r fs]
  exact q
 ·obtain⟨its,r,pl,hz⟩:=I.tuple hq
  refine SeqAt.in_tupleAt (eqU x) pl (λw hw=>kg rx fx r fs w (by simpa using hw)) ⟨.bl _,H,I,rfl,?_⟩
  rw[show its.toArray.any (eqU x)=its.any (eqU x)by simp,n9 r fs]
  exact q
theorem tq:OpR X (compareOp .NotIn) (rIn X.K true):=by
 intro pins s σ H x y v u Q I rx ry h
 obtain⟨p,xs,rfl,hq,fx,fs,q⟩:=h
 cases ry
 rcases hq with hq | hq
 ·obtain⟨its,r,pl,hz⟩:=I.list hq
  refine SeqAt.notIn_listAt (eqU x) pl.isList (λw hw=>kg rx fx r fs w (by simpa using hw)) ⟨.bl _,H,I,rfl,?_⟩
  rw[show its.toArray.any (eqU x)=its.any (eqU x)by simp,n9 r fs]
  exact q
 ·obtain⟨its,r,pl,hz⟩:=I.tuple hq
  refine SeqAt.notIn_tupleAt (eqU x) pl (λw hw=>kg rx fx r fs w (by simpa using hw)) ⟨.bl _,H,I,rfl,?_⟩
  rw[show its.toArray.any (eqU x)=its.any (eqU x)by simp,n9 r fs]
  exact q
theorem tu:fk X (.builtin "len") (λxs H Q=>∃p ys,xs=[.ref p]/\(SqL X.K H p ys\/SqT X.K H p ys)/\Q (.int ys.length) H):=by
 intro pins s σ H xs us Q I r h
 obtain⟨p,ys,rfl,hq,q⟩:=h
 obtain⟨u,rfl,rx⟩:=vals1 r
 cases rx
 have hn:=p7
 rcases hq with hq | hq
 ·obtain⟨its,r',pl,hz⟩:=I.list hq
  have hlen:=r'.length
  exact Calls.call_len_list pl.isList (by simp![AH]<;>lia) ⟨.int ys.length,H,I.tok _,⟨s.toks+1,by rw[AH,hlen]⟩,q⟩
 ·obtain⟨its,r',pl,hz⟩:=I.tuple hq
  have hlen:=r'.length
  exact len_tuple pl (by simp![AH]<;>lia) ⟨.int ys.length,H,I.tok _,⟨s.toks+1,by rw[AH,hlen]⟩,q⟩
theorem qq:fk X (.type "tuple") (λxs H Q=>∃p ys,xs=[.ref p]/\((SqL X.K H p ys/\∀l,H l=none->Q (.ref l) (upd H l (.tup ys)))\/(SqT X.K H p ys/\Q (.ref p) H))):=by
 intro pins s σ H xs us Q I r h
 obtain⟨p,ys,rfl,h⟩:=h
 obtain⟨u,rfl,rx⟩:=vals1 r
 cases rx
 rcases h with⟨hq,q⟩ | ⟨hq,q⟩
 ·obtain⟨its,r',pl,hz⟩:=I.list hq
  have hlen:=r'.length
  refine call_tuple_list pl.isList (λh' kp=>?_) (by simp![AH]<;>lia)
  have I1:Inv X pins σ H {s with heap:=h'}:=I.kept (t':=s.toks) kp
  have I2:Inv X pins σ (upd H h'.objs.size (.tup ys)) {s with heap:=h'.push {cls:=.type "tuple",data:=.seq its.toArray}} :=
   I1.laid (t':=s.toks) (λb o e=>AF _ e) (AK _) (show g0 X.prog X.w _ _ _ (.tup ys)from⟨hz,its,r',mm.new _ _⟩)
  exact⟨.ref h'.objs.size,_,I2,rfl,q _ (I1.hok.fresh (AK _))⟩
 ·obtain⟨its,r',pl,hz⟩:=I.tuple hq
  exact call_tuple_same pl ⟨.ref p,H,I,rfl,q⟩
def tyV (K:PySem.W.Frag) (T:String) (x:V) (H:Hp):Prop:=match x with
 | .str _=>T="str"
 | .int _=>T="int"
 | .ref p=>(T="list"/\∃xs,SqL K H p xs)\/(T="tuple"/\∃o,K.lookup p=some o/\o.cls=.type "tuple"/\o.dict=none) \/
   (T="dict"/\((∃kvs,H p=some (.dK kvs))\/∃kvs,H p=some (.dT kvs)))\/(T="set"/\∃S n,H p=some (.set S n))
 | _=>False
theorem Nu {pins:List (Addr×Obj)} {σ:St} {H:Hp} {s:Shared} {T:String} {x:V} {v:Value} (I:Inv X pins σ H s) (r:RelV x v) (ty:tyV X.K T x H) :
  s.TypeIs v T/\∀a,v=.ref a->∃ob,s.heap.get? a=some ob/\ob.dict=none:=by
 cases x with
 | str z =>
  obtain⟨t,rfl⟩:=r
  cases(show T="str" from ty)
  exact⟨typeIs_str s z t,λ_ e=>nomatch e⟩
 | int i =>
  obtain⟨t,rfl⟩:=r
  cases(show T="int" from ty)
  exact⟨typeIs_int s i t,λ_ e=>nomatch e⟩
 | ref p =>
  cases r
  rcases ty with⟨rfl,xs,hq⟩ | ⟨rfl,o,hk,hc,hd⟩ | ⟨rfl,hk⟩ | ⟨rfl,S,n,hk⟩
  ·obtain⟨its,_,pl,_⟩:=I.list hq
   refine⟨pl.isList.typeIs,λa e=>?_⟩
   cases e
   obtain⟨o,n,e,c,hd,_⟩:=pl
   exact⟨o,e,hd⟩
  ·refine⟨⟨o,I.kIn p o hk,hc⟩,λa e=>?_⟩
   cases e
   exact⟨o,I.kIn _ o hk,hd⟩
  ·have z:∃o,s.heap.get? p=some o/\o.ExactDict:=by
    rcases hk with⟨kvs,hk⟩ | ⟨kvs,hk⟩
    ·obtain⟨_,_,_,_,o,_,_,e,ex,_⟩:=I.hok p _ hk
     exact⟨o,e,ex⟩
    ·obtain⟨_,_,_,_,o,_,_,e,ex,_⟩:=I.hok p _ hk
     exact⟨o,e,ex⟩
   obtain⟨o,e,ex⟩:=z
   refine⟨⟨o,e,ex.1⟩,λa e2=>?_⟩
   cases e2
   exact⟨o,e,ex.2.1⟩
  ·obtain⟨o,_,_,_,e,ex,_⟩:=I.hok p _ hk
   refine⟨⟨o,e,ex.1⟩,λa e2=>?_⟩
   cases e2
   exact⟨o,e,ex.2.1⟩
 | _=>exact False.elim ty
def tBM (K:PySem.W.Frag) (T:String) (r:V->List V->Hp->VK->Prop) (to:TE) (t:TA):TE:=λσ H Q=>to σ H λx H1=>tyV K T x H1/\t σ H1 λxs H2=>r x xs H2 Q
variable {o e : Expr} {es : List Expr} {to : TE} {t : TA} {name : Str} {apos cpos : Pos} {T id : String} {r : V -> List V -> Hp -> VK -> Prop}
theorem Nv (pa:PlainAttrs T) (slot:Slot T name id) (hty:typeOf (.builtin id)=pure (.type "method_descriptor")) (hm:MtR X id r) (ho:PE X o to) (ha:PA X (e::es) t)
  (hbase:attributeBase o name X.env (eval o X.env)=eval o X.env:=by rfl)
  (hfew:((backTo cpos (starEach (e::es) X.env)).all (λx=>!x.1)&&(backToKw cpos (keywordEach [] X.env)).all (λx=>x.1.isSome)
   && decide ((e::es).length+([]:List Keyword).length+(if([]:List Keyword).isEmpty then 0 else 1)<30))=true:=by rfl)
  (hline:(apos.endLine==cpos.line)=true:=by rfl) (hs:starEach (e::es) X.env=(false,eval e X.env)::starEach es X.env:=by rfl) (hplain:(backTo cpos (starEach es X.env)).any (·.1)=false:=by rfl) :
  PE X (.Call (.Attribute o name apos) (e::es) [] cpos) (tBM X.K T r to t):=by
 intro pins s σ H Q I h
 refine wpAny_Call_method_late hbase hfew hline rfl (thn (ho pins s σ H _ I h) λv s1 ⟨x,H1,I1,r1,ty,q1⟩=>?_)
 obtain⟨h1,h2⟩:=Nu I1 r1 ty
 refine⟨T,id,pa,slot,hty,h1,h2,?_⟩
 have hA:=ha cpos pins s1 σ H1 _ I1 q1
 rw[hs]at hA ⊢
 refine Calls.callWith_builtin (by show(false || (backTo cpos (starEach es X.env)).any (·.1))=false;rw[hplain]<;>rfl) (Calls.evalArgs_plain ?_)
 exact thn hA λus s2 ⟨vs,H2,I2,r2,q2⟩=>hm pins s2 σ H2 x vs v us Q I2 r1 r2 q2
end
def MtM (X:Cx) (id:String) (r:V->List V->Hp->VK->Prop):Prop :=
 ∀(pins:List (Addr×Obj)) (s:Shared) (σ:St) (H:Hp) (x:V) (xs:List V) (v:Value) (us:List Value) (Q:VK),Inv X pins σ H s->RelV x v->bu xs us->r x xs H Q ->
  wpAny (model X.prog X.w) X.A (call (.builtin id) (v::us)) (EP X pins σ Q) X.xe s
theorem bu.one:∀{x:V} {us:List Value},bu [x] us->∃u,us=[u]/\RelV x u
 | _,_,.cons r .nil=>⟨_,rfl,r⟩
theorem bu.rep {xs:List V} {us:List Value} (h:bu xs us):∀k:Nat,bu (List.replicate k xs).flatten (List.replicate k us).flatten
 | 0=>.nil
 | k+1=>by
  rw[CS,CS,DB,DB]
  exact bu.append h (bu.rep h k)
theorem foldl_rep (its:List Value):∀(k:Nat) (acc:List Value),
  List.foldl (λx1 x2=>x1++x2) acc.toArray (List.replicate k its.toArray)=(acc++(List.replicate k its).flatten).toArray
 | 0,acc=>by simp
 | k+1,acc=>by
  have e:acc.toArray++its.toArray=(acc++its).toArray:=by simp
  have e2:(acc++its)++(List.replicate k its).flatten=acc++(List.replicate (k+1) its).flatten:=by
   rw[CS,DB,AC]
  rw[<-e2,<-foldl_rep its k (acc++its),<-e,CS,List.foldl_cons]
section
variable {X : Cx} {pins : List (Addr × Obj)} {σ : St} {H : Hp} {s : Shared} {l b : Addr} {xs ys zs : List V}
theorem Inv.lset {its its':List Value} {n:Nat} {f:Array Value->Array Value} {t':Nat} (I:Inv X pins σ H s) (hH:H l=some (.lst xs))
  (e:s.heap.get? l=some {cls:=.type "list",data:=.seq its.toArray n}) (hf:f its.toArray=its'.toArray) (hv:bu ys its') (hz:ys.length<=sizeLine) :
  Inv X pins σ (upd H l (.lst ys)) {s with heap:=s.heap.update l (Obj.mapSeq f),toks:=t'}:=by
 have q:=PySem.IsL.update e f
 rw[hf]at q
 refine I.write (x:=l) (e:=l) (by rw[hH];exact trivial) (.inl rfl) (λb' u hb hu=>(HJ s.heap (Obj.mapSeq f) (Ne.symm hb)).trans hu) ⟨_,q⟩ ?_
 exact⟨hz,its',_,hv,q⟩
theorem Inv.lnew {its:List Value} {t':Nat} (I:Inv X pins σ H s) (hv:bu ys its) (hz:ys.length<=sizeLine) :
  Inv X pins σ (upd H s.heap.objs.size (.lst ys)) {s with heap:=s.heap.push {cls:=.type "list",data:=.seq its.toArray},toks:=t'} :=
 I.laid (λ_ _ q=>AF _ q) (AK _) ⟨hz,its,0,hv,AX _ rfl⟩
theorem Inv.fresh (I:Inv X pins σ H s):H s.heap.objs.size=none:=I.hok.fresh (AK _)
theorem Inv.lstM (I:Inv X pins σ H s) (hH:H l=some (.lst xs)):xs.length<=sizeLine/\∃(its:List Value) (n:Nat),bu xs its/\xs.length=its.length/\s.heap.get? l=some {cls:=.type "list",data:=.seq its.toArray n}:=by
 obtain⟨z,its,n,r,e⟩:=I.hok l _ hH
 exact⟨z,its,n,r,r.length,e⟩
theorem yf {n:Nat} (h:n<=sizeLine):Builtin.List.listTooLong n=false:=by
 unfold Builtin.List.listTooLong
 exact decide_eq_false (by lia)
end
section
variable {X : Cx}
def rAppend:V->List V->Hp->VK->Prop:=λx vs H Q=>∃l xs y,x=.ref l/\vs=[y]/\H l=some (.lst xs)/\xs.length<sizeLine/\Q .non (upd H l (.lst (xs++[y])))
theorem Bs:MtM X "list.append" rAppend:=by
 intro pins s σ H x vs v us Q I rx rv h
 obtain⟨l,xs,y,rfl,rfl,hH,hz,q⟩:=h
 cases rx
 obtain⟨u,rfl,ru⟩:=rv.one
 obtain⟨z,its,n,r,hl,e⟩:=I.lstM hH
 refine call_meets F.slot_list_append ⟨_,e,rfl⟩ F.entry_list_append (F.args_list_append_2 _ _) (PySem.list_append l its.toArray n u (by rw[AH];lia)) ⟨e,?_⟩
 refine⟨.non,_,I.lset (its':=its++[u]) hH e (by simp) (r.append (.cons ru .nil)) ?_,rfl,q⟩
 rw[AO,List.length_singleton]
 lia
theorem len_rep {α:Type} (xs:List α) (k:Nat):(List.replicate k xs).flatten.length=k*xs.length:=by
 induction k with
 | zero=>simp
 | succ k ih=>rw[CS,DB,AO,ih,Nat.succ_mul,Nat.add_comm]
end
section
variable {κ : Type} [DecidableEq κ]
def Ah (kvs:List (κ×V)) (k:κ):Option V:=(kvs.find? λkv=>decide (kv.1=k)).map (·.2)
def putK (kvs:List (κ×V)) (k:κ) (v:V):List (κ×V) :=
 if(kvs.any λkv=>decide (kv.1=k))=true then kvs.map (λkv=>if kv.1=k then(kv.1,v)else kv)else kvs++[(k,v)]
theorem nk {p:κ×V} {r:List (κ×V)} {k:κ} (e:p.1=k):Ah (p::r) k=some p.2:=by simp[Ah,EN,e]
theorem nq {p:κ×V} {r:List (κ×V)} {k:κ} (e:¬p.1=k):Ah (p::r) k=Ah r k:=by simp[Ah,EN,e]
theorem yg (k:κ):∀kvs:List (κ×V),(kvs.any λkv=>decide (kv.1=k))=(Ah kvs k).isSome
 | []=>rfl
 | p::r=>by
  rw[DH]
  by_cases e:p.1=k
  ·simp![nk e,decide_eq_true e,Bool.true_or,Option.isSome_some]
  ·rw[nq e,decide_eq_false e,Bool.false_or];exact yg k r
theorem oa (kvs:List (κ×V)) (k:κ) (v:V):(putK kvs k v).length<=kvs.length+1:=by
 unfold putK
 split
 ·rw[AD];lia
 ·rw[AO,BC,BU];lia
theorem Mo.isSome_eq {o:Option V} {u:Option Value} (r:Mo o u):o.isSome=u.isSome:=by
 cases o with
 | none=>cases u with
  | none=>rfl
  | some _=>exact(show False from r).elim
 | some _=>cases u with
  | none=>exact(show False from r).elim
  | some _=>rfl
theorem KV.val {kvs:List (κ×V)} {vs:List (κ×Value)} (r:KV kvs vs) (k:κ):Mo (Ah kvs k) (valueAt vs k):=by
 unfold KV at r
 induction r with
 | nil=>exact True.intro
 | @cons p q ps qs h t ih =>
  obtain⟨h1,h2⟩:=h
  by_cases e:p.1=k
  ·have e':q.1=k:=h1.symm.trans e
   have b:valueAt (q::qs) k=some q.2:=by simp[valueAt,EN,e']
   rw[nk e,b];exact h2
  ·have e':¬q.1=k:=λz=>e (h1.trans z)
   have b:valueAt (q::qs) k=valueAt qs k:=by simp[valueAt,EN,e']
   rw[nq e,b];exact ih
theorem KV.any {kvs:List (κ×V)} {vs:List (κ×Value)} (r:KV kvs vs) (k:κ):(kvs.any λkv=>decide (kv.1=k))=vs.any λkv=>decide (kv.1=k):=by
 unfold KV at r
 induction r with
 | nil=>rfl
 | cons h t ih=>rw[DH,DH,ih,h.1]
theorem KV.repl {kvs:List (κ×V)} {vs:List (κ×Value)} (r:KV kvs vs) (k:κ) {y:V} {u:Value} (ry:RelV y u) :
  KV (kvs.map λkv=>if kv.1=k then(kv.1,y)else kv) (vs.map λkv=>if kv.1=k then(kv.1,u)else kv):=by
 unfold KV at r ⊢
 induction r with
 | nil=>exact .nil
 | @cons p q ps qs h t ih =>
  rw[AL,AL]
  refine .cons ?_ ih
  obtain⟨h1,h2⟩:=h
  by_cases e:p.1=k
  ·rw[if_pos e,if_pos (h1.symm.trans e)];exact⟨h1,ry⟩
  ·rw[if_neg e,if_neg (λz=>e (h1.trans z))];exact⟨h1,h2⟩
theorem KV.put {kvs:List (κ×V)} {vs:List (κ×Value)} (r:KV kvs vs) (k:κ) {y:V} {u:Value} (ry:RelV y u):KV (putK kvs k y) (stored vs k u):=by
 unfold putK stored
 rw[r.any k]
 by_cases e:(vs.any λkv=>decide (kv.1=k))=true
 ·rw[if_pos e,if_pos e];exact r.repl k ry
 ·rw[if_neg e,if_neg e];exact Paired.snoc r ⟨rfl,ry⟩
theorem KV.length {kvs:List (κ×V)} {vs:List (κ×Value)} (r:KV kvs vs):kvs.length=vs.length:=EZ r
end
theorem Fi {P:Program} {w:World} {k:Key} {u:Value} (r:RelV (kV k) u):(d6 P w).is k u=true:=by
 cases k with
 | inl i=>obtain⟨t,e⟩:=(show ∃t,u=Value.int i t from r);subst e;exact vj P w i t
 | inr x=>obtain⟨t,e⟩:=(show ∃t,u=Value.str x t from r);subst e;exact vk P w x t
theorem tv {P:Program} {w:World}:∀{ks:List Key} {us:List Value},bu (ks.map kV) us->ItemsAre (d6 P w) ks us
 | [],_,r=>by rw[CW]at r;cases r;exact .nil
 | k::ks,_,r=>by
  rw[AL]at r
  cases r with
  | cons h t=>exact .cons (Fi h) (tv t)
abbrev KT (H:Hp):List (List Key×V)->List (List Key×Addr×Value)->Prop:=Paired λp q=>p.1=q.1/\H q.2.1=some (.tup (p.1.map kV))/\RelV p.2 q.2.2
theorem KT.val {H:Hp} {kvs:List (List Key×V)} {xs:List (List Key×Addr×Value)} (r:KT H kvs xs) (k:List Key):Mo (Ah kvs k) ((atKey xs k).map (·.2)):=by
 induction r with
 | nil=>exact True.intro
 | @cons p q ps qs h t ih =>
  obtain⟨h1,_,h2⟩:=h
  by_cases e:p.1=k
  ·have e':q.1=k:=h1.symm.trans e
   have b:atKey (q::qs) k=some q.2:=by simp[atKey,EN,e']
   rw[nk e,b];exact h2
  ·have e':¬q.1=k:=λz=>e (h1.trans z)
   have b:atKey (q::qs) k=atKey qs k:=by simp[atKey,EN,e']
   rw[nq e,b];exact ih
theorem KT.repl {H:Hp} {kvs:List (List Key×V)} {xs:List (List Key×Addr×Value)} (r:KT H kvs xs) (k:List Key) {y:V} {u:Value} (ry:RelV y u) :
  KT H (kvs.map λkv=>if kv.1=k then(kv.1,y)else kv) (xs.map (putAt k u)):=by
 induction r with
 | nil=>exact .nil
 | @cons p q ps qs h t ih =>
  rw[AL,AL]
  refine .cons ?_ ih
  obtain⟨h1,h2,h3⟩:=h
  unfold putAt
  by_cases e:p.1=k
  ·rw[if_pos e,if_pos (h1.symm.trans e)];exact⟨h1,h2,ry⟩
  ·rw[if_neg e,if_neg (λz=>e (h1.trans z))];exact⟨h1,h2,h3⟩
theorem KT.put {H:Hp} {kvs:List (List Key×V)} {xs:List (List Key×Addr×Value)} (r:KT H kvs xs) (k:List Key) {b:Addr} {y:V} {u:Value} (hb:H b=some (.tup (k.map kV))) (ry:RelV y u) :
  KT H (putK kvs k y) (storedH xs k b u):=by
 have e:(kvs.any λkv=>decide (kv.1=k))=(atKey xs k).isSome:=by
  rw[yg,(r.val k).isSome_eq,GN]
 unfold putK storedH
 rw[e]
 by_cases q:(atKey xs k).isSome=true
 ·rw[if_pos q,if_pos q];exact r.repl k ry
 ·rw[if_neg q,if_neg q];exact Paired.snoc r ⟨rfl,hb,ry⟩
theorem KT.keeps {H H':Hp} {kvs:List (List Key×V)} {xs:List (List Key×Addr×Value)} (r:KT H kvs xs) (ht:∀b ys,H b=some (.tup ys)->H' b=some (.tup ys)):KT H' kvs xs :=
 Paired.mapP r λ_ _ z=>⟨z.1,ht _ _ z.2.1,z.2.2⟩
section
variable {P : Program} {w : World} {H : Hp} {h : Heap} {a : Addr}
theorem Nw {u:HO} (ok:HOk P w H h) (e:Rd H a u):g0 P w H h a u:=e.ok ok
theorem Kg {kvs:List (Key×V)} (ok:HOk P w H h) (e:Rd H a (.dK kvs)):kvs.length<=sizeLine/\(a==sysModules)=false/\∃vs,KV kvs vs/\h.DictOf (d6 P w) a vs :=
 show g0 P w H h a (.dK kvs)from Nw ok e
theorem Se {kvs:List (Key×V)} (ok:HOk P w H h) (e:H a=some (.dK kvs)):kvs.length<=sizeLine/\(a==sysModules)=false/\∃vs,KV kvs vs/\h.DictOf (d6 P w) a vs:=Kg ok (.inl e)
theorem yh {ks:List Key} (ok:HOk P w H h) (e:H a=some (.tup (ks.map kV))):(tupleKind (d6 P w)).is h ks a:=by
 obtain⟨_,its,r,o,h1,h2,_,n,h3⟩:=(show g0 P w H h a (.tup (ks.map kV))from ok a _ e)
 exact⟨o,its.toArray,n,h1,h2,h3,by simpa using tv r⟩
theorem Kh {kvs:List (List Key×V)} (ok:HOk P w H h) (e:Rd H a (.dT kvs)):kvs.length<=sizeLine/\(a==sysModules)=false /\
  ∃xs,KT H kvs xs/\h.DictOfH (tupleKind (d6 P w)) a xs:=by
 obtain⟨z,y,xs,r,o,es,ep,h1,h2,h3,h4,h5⟩:=(show g0 P w H h a (.dT kvs)from Nw ok e)
 refine⟨z,y,xs,r,o,es,ep,h1,h2,h3,h4,λx hx=>?_,h5⟩
 have all:∀{l:List (List Key×V)} {m:List (List Key×Addr×Value)},KT H l m->∀x∈m,(tupleKind (d6 P w)).is h x.1 x.2.1:=by
  intro l m q
  induction q with
  | nil=>intro x hx;exact nomatch hx
  | @cons p q ps qs hq t ih =>
   intro x hx
   rcases AV.mp hx with e | hx
   ·subst e
    exact yh ok (by rw[<-hq.1];exact hq.2.1)
   ·exact ih x hx
 exact all r x hx
theorem Sf {kvs:List (List Key×V)} (ok:HOk P w H h) (e:H a=some (.dT kvs)):kvs.length<=sizeLine/\(a==sysModules)=false /\
  ∃xs,KT H kvs xs/\h.DictOfH (tupleKind (d6 P w)) a xs:=Kh ok (.inl e)
end
def Ur (H:Hp) (a:Addr) (y:V) (r:Option V):Prop :=
 (∃kvs k,Rd H a (.dK kvs)/\y=kV k/\r=Ah kvs k)\/∃kvs k b,Rd H a (.dT kvs)/\y=.ref b/\H b=some (.tup (k.map kV))/\r=Ah kvs k
def Nx (H:Hp) (a:Addr) (y v:V) (H':Hp):Prop :=
 (∃kvs k,H a=some (.dK kvs)/\y=kV k/\kvs.length<sizeLine/\H'=upd H a (.dK (putK kvs k v))) \/
 ∃kvs k b,H a=some (.dT kvs)/\y=.ref b/\H b=some (.tup (k.map kV))/\kvs.length<sizeLine/\H'=upd H a (.dT (putK kvs k v))
theorem Nx.k {H:Hp} {a:Addr} {kvs:List (Key×V)} {k:Key} {v:V} (e:H a=some (.dK kvs)) (hl:kvs.length<sizeLine):Nx H a (kV k) v (upd H a (.dK (putK kvs k v))):=.inl ⟨kvs,k,e,rfl,hl,rfl⟩
section
variable {X : Cx} {pins : List (Addr × Obj)} {σ : St} {H : Hp} {s : Shared} {a : Addr} {y v : V} {u r : Value} {o : Option V} {A : Around} {E : Value -> Shared -> Prop}
theorem Wa {Q:Value->Shared->Prop} (hu:A.units+1<cLine) (I:Inv X pins σ H s) (g:Ur H a y o) (ry:RelV y u) (h:∀s',Inv X pins σ H s'->Q (.bool o.isSome) s') :
  wpAny (model X.prog X.w) A (compareOp .In u (.ref a)) Q E s:=by
 rcases g with⟨kvs,k,e,ey,l⟩ | ⟨kvs,k,b,e,ey,eb,l⟩
 ·subst ey
  obtain⟨z,hd,vs,rel,dd⟩:=Kg I.hok e
  refine wpAny_in_of (Fi ry) hd dd.mapOf ?_
  rw[<-(rel.val k).isSome_eq,<-l]
  exact h _ (I.tok _)
 ·subst ey
  cases(show u=Value.ref b from ry)
  obtain⟨z,hd,xs,rel,dd⟩:=Kh I.hok e
  refine wpAny_in_heap (GH hu) (yh I.hok eb) hd dd ?_
  have q:=(rel.val k).isSome_eq
  rw[GN]at q
  rw[<-q,<-l]
  exact h _ (I.tok _)
theorem Ki {Q:Value->Shared->Prop} (hu:A.units+1<cLine) (I:Inv X pins σ H s) (g:Ur H a y o) (ry:RelV y u) (h:∀s',Inv X pins σ H s'->Q (.bool (!o.isSome)) s') :
  wpAny (model X.prog X.w) A (compareOp .NotIn u (.ref a)) Q E s:=by
 rcases g with⟨kvs,k,e,ey,l⟩ | ⟨kvs,k,b,e,ey,eb,l⟩
 ·subst ey
  obtain⟨z,hd,vs,rel,dd⟩:=Kg I.hok e
  refine wpAny_notIn_of (Fi ry) hd dd.mapOf ?_
  rw[<-(rel.val k).isSome_eq,<-l]
  exact h _ (I.tok _)
 ·subst ey
  cases(show u=Value.ref b from ry)
  obtain⟨z,hd,xs,rel,dd⟩:=Kh I.hok e
  refine wpAny_notIn_heap (GH hu) (yh I.hok eb) hd dd ?_
  have q:=(rel.val k).isSome_eq
  rw[GN]at q
  rw[<-q,<-l]
  exact h _ (I.tok _)
theorem Bu {h':Heap} {t':Nat} {ob:HO} (I:Inv X pins σ H s) (mu:Mut (H a)) (hs:Heap.SameBut a s.heap h') (he:∃q,h'.get? a=some q) (new:g0 X.prog X.w (upd H a ob) h' a ob) :
  Inv X pins σ (upd H a ob) {s with heap:=h',toks:=t'} :=
 I.write (x:=a) (e:=a) mu (.inl rfl) (λb q hb z=>(hs.2 b hb).trans z) he new
theorem Ny {P:Program} {w:World} {H':Hp} {h':Heap} {kvs:List (Key×V)} {vs:List (Key×Value)} (z:kvs.length<=sizeLine) (hd:(a==sysModules)=false) (rel:KV kvs vs) (dd:h'.DictOf (d6 P w) a vs) :
  g0 P w H' h' a (.dK kvs):=⟨z,hd,vs,rel,dd⟩
theorem tw {H':Hp} {Q:Unit->Shared->Prop} (hu:A.units+1<cLine) (I:Inv X pins σ H s) (g:Nx H a y v H') (ry:RelV y u) (rv:RelV v r) (h:∀s',Inv X pins σ H' s'->Q () s') :
  wpAny (model X.prog X.w) A (setItem (.ref a) u r) Q E s:=by
 rcases g with⟨kvs,k,e,ey,l,eH⟩ | ⟨kvs,k,b,e,ey,eb,l,eH⟩
 ·subst ey eH
  obtain⟨z,hd,vs,rel,dd⟩:=Se I.hok e
  have hz:vs.length<=sizeLine:=by rw[<-rel.length];exact z
  have hl:(putK kvs k v).length<=sizeLine:=by have:=oa kvs k v;lia
  refine wpAny_setItem_pairs (hsz:=hz) (Fi ry) dd λh' dd' hs=>h _ ?_
  have he:∃q,h'.get? a=some q:=let ⟨q,_,_,hq,_⟩:=dd';⟨q,hq⟩
  exact Bu I (by rw[e];exact True.intro) hs he (Ny hl hd (rel.put k rv) dd')
 ·subst ey eH
  cases(show u=Value.ref b from ry)
  obtain⟨z,hd,xs,rel,dd⟩:=Sf I.hok e
  have hz:xs.length<=sizeLine:=by rw[<-EZ rel];exact z
  have hl:(putK kvs k v).length<=sizeLine:=by have:=oa kvs k v;lia
  refine wpAny_setItem_heap (hsz:=hz) (GH hu) (yh I.hok eb) dd λh' dd' hs=>h _ ?_
  obtain⟨q,es,ep,hq,h2,h3,h4,_,h5⟩:=dd'
  refine Bu I (by rw[e];exact True.intro) hs ⟨q,hq⟩ ⟨hl,hd,_,(rel.put k eb rv).keeps λc ys ec=>?_,q,es,ep,hq,h2,h3,h4,h5⟩
  rw[av (pq ec e (λz=>nomatch z))]
  exact ec
end
def IsD (H:Hp) (a:Addr):Prop:=(∃kvs,Rd H a (.dK kvs))\/∃kvs,Rd H a (.dT kvs)
end L2
namespace Att
open PySem PySem.W PySem.Calls PyProof.Rows
theorem og {P:Params} {h:Heap}:∀(ns:List Int) (vs:List Value),WellAll P h vs (ns.map WData.int)->IntsAre vs ns:=by
 intro ns
 induction ns with
 | nil =>
  intro vs w
  rw[CW]at w
  cases w
  exact .nil
 | cons n ns ih =>
  intro vs w
  rw[AL]at w
  cases w with
  | cons a b =>
   cases a
   exact .cons _ _ (ih _ b)
theorem Bv {l:OpenLaw} {n:Nat} (hn:l.most=some n) {P:Params} {h:Heap} {args:List WData} {vals:List Value}
  (hpre:l.row.toRowW.claim.pre args=true) (hwl:WellAll P h vals args) :
  ∃a vs ns,vals=[Value.ref a]/\args=[WData.list (ns.map WData.int)]/\h.get? a=some {cls:=.type "list",data:=.seq vs.toArray}/\IntsAre vs ns/\ns.length<=n:=by
 have hsh:WShape.hasAll [] args [.list .int]=true:=(pre_splitW hpre).1
 have hc:l.pre.holds [] {args:=args}=true:=(pre_splitW hpre).2
 obtain⟨d,r,rfl,h1,h2⟩:=hasAllW_cons hsh
 obtain rfl:=hasAllW_nil h2
 obtain⟨xs,rfl,h3⟩:=hasW_list h1
 obtain⟨ns,rfl⟩:=items_int h3
 have hlen:ns.length<=n:=by
  unfold OpenLaw.pre at hc
  have h4:(WTm.not (.lt (.lit (.int (n:Int))) (.len (.arg 0)))).holds [] {args:=[.list (ns.map .int)]}=true:=by
   have h4:=(holds_andW hc).1
   rw[hn]at h4
   exact h4
  have h5:=condW_of h4 (w_not (w_lt w_lit (w_len_list (w_arg rfl))))
  rw[AD]at h5
  refine GX λq=>?_
  have q':(n:Int)<((ns.length:Nat):Int):=by lia
  first
   | (rw[decide_eq_true q']at h5;exact absurd h5 (by decide))
   | (simp at h5;lia)
 cases hwl with
 | cons w1 w2 =>
  cases w2
  cases w1 with
  | list ho hall=>exact⟨_,_,ns,rfl,rfl,ho,og ns _ hall,hlen⟩
theorem Bw (l:OpenLaw) (args:List WData):l.row.toRowW.claim.post args (.bool true) args=true :=
 postW_of (r:=l.row.toRowW) (X:=(true==true))
  (show WShape.has [] (.bool true) .bool=true by first | rfl | decide | simp[WShape.has,WShape.arms,WShape.armsAll])
  (show(WTm.eq .res (.lit (.bool true))).value [] {args:=args,res:=some (.bool true),after:=args}=some (.bool (true==true))from w_eq_bool (w_res rfl) w_lit) rfl
theorem vp {l:OpenLaw} {n:Nat} {q:Program} {loose:List Str} {XP:(Str->Option Value)->Heap->Prop} {YP:World->Heap->Prop} {d:DefRec}
  (hn:l.most=some n) (hdf:d.params.defaults=[])
  (call:∀(w:World) (s₀ s₁:Shared) (mg mb:Str->Option Value) (fa:Addr) (o:Obj) (pm cd doc:Value) (a:Addr) (vs:List Value) (ns:List Int),
   Ground q loose [] XP w s₀ mg mb s₁.heap->YP w s₁.heap ->
   s₁.heap.get? fa=some o->o.data=.func (docDef d.name d.params d.body d.scope pm cd doc)->s₁.heap.CodeRec cd d.name->mg d.name=some (.ref fa) ->
   s₁.heap.get? a=some {cls:=.type "list",data:=.seq vs.toArray}->IntsAre vs ns->ns.length<=n->s₁.gens=#[] ->
   codeAny (model l.prog w) callerA (.call (.ref fa) ⟨[.ref a],[]⟩) (λr s'=>r=.ok (.ret (.bool true))/\OldK s₁.heap s'.heap/\s'.os=s₁.os/\AllBare s'.gens) s₁) :
  WalkO q loose XP YP l.row.toRowW d [] (λf vs=>PySem.call f vs):=by
 intro w s₀ s₁ mg mb G Y fa o pm cd doc dV kV ho hd hcd hD hmg hg args vals as hpre hlay hrd hwl hlo
 obtain rfl:dV=.none:=Dflts.none hD hdf
 obtain rfl:kV=.none:=Dflts.noKw hD
 obtain⟨a,vs,ns,rfl,rfl,hobj,hints,hlen⟩:=Bv hn hpre hwl
 refine enter_call (codeAny_mono (call w s₀ s₁ mg mb fa o pm cd doc a vs ns G Y ho (fd_plain hd) hcd hmg hobj hints hlen hg) λr s' hq=>?_)
 obtain⟨rfl,h2,h3,h4⟩:=hq
 exact⟨.inl ⟨.bool true,.bool true,[],rfl,λ_=>rfl,.bool true,Bw l _,λ_=>⟨List.Pairwise.nil,λ_ hm=>(nomatch hm)⟩⟩,h2,h3,h4⟩
end Att
namespace L2
open PySem PySem.Spec PyProof.Rows
def FzL (K:PySem.W.Frag) (H:Hp) (a:Addr) (xs:List V):Prop :=
 (∃o,H a=some (.frz o (.lst xs))) \/
  ∃(its:List Value) (n:Nat),K.lookup a=some {cls:=.type "list",data:=.seq its.toArray n}/\xs.length<=sizeLine/\bu xs its
theorem vals_ints:∀{vs:List Value} {ns:List Int},IntsAre vs ns->bu (ns.map V.int) vs
 | _,_,.nil=>.nil
 | _,_,.cons n t h=>.cons ⟨t,rfl⟩ (vals_ints h)
def Sg (H:Hp):Prop:=∀b,H b=none\/∃o xs,H b=some (.frz o (.lst xs))
theorem Fj {P:Program} {w:World} {K:PySem.W.Frag} {mg mb:Str->Option Value} {CX:CXT} {k:Nat} {fa a:Addr} {fd:FuncData} {x:Str} {sp:Sp} {s₁:Shared} {vs:List Value} {ns:List Int}
  (KX:K.In s₁.heap) (hns:s₁.heap.Ns mainGlobals mg) (hb:s₁.heap.Ns builtinsNs mb) (hbb:∀x:Str,x≠"__name__"->mb x=bootBuiltins x) (hlim:s₁.heap.NoLimit) (hg:s₁.gens=#[])
  (ha:s₁.heap.get? a=some {cls:=.type "list",data:=.seq vs.toArray}) (hi:IntsAre vs ns) (hl:ns.length<=sizeLine) (hr:Room k callerA)
  (F:∀base:Heap,K.In base->base.Ns mainGlobals mg->FnOk P w K mg base CX k fa fd [x] sp) (hbind:∀(s:Shared) (u:Value),BindsTo s fd ⟨[u],[]⟩ [(x,u)])
  (hsp:∀H:Hp,Sg H->FzL K H a (ns.map V.int)->sp [.ref a] H (λv _=>v=.bl true) λ_ _ _=>False)
  (hCX:∀H e s',CX [] H s₁ (λ_ _ _=>False) e s'->False) :
  codeAny (model P w) callerA (.call (.ref fa) ⟨[.ref a],[]⟩) (λr s'=>r=.ok (.ret (.bool true))/\OldK s₁.heap s'.heap/\s'.os=s₁.os/\AllBare s'.gens) s₁:=by
 have rv:=vals_ints hi
 have lenV:=hi.length
 -- from an abstract heap in which nothing but the script may be tracked
 have core:∀H:Hp,Sg H->FzL K H a (ns.map V.int)->HOk P w H s₁.heap->(∀b,H b≠none->b=a)->(H a≠none->K.lookup a=none) ->
   codeAny (model P w) callerA (.call (.ref fa) ⟨[.ref a],[]⟩) (λr s'=>r=.ok (.ret (.bool true))/\OldK s₁.heap s'.heap/\s'.os=s₁.os/\AllBare s'.gens) s₁:=by
  intro H hO hS hok hA hK
  have base_of:∀{b:Addr} {o:Obj},s₁.heap.get? b=some o->H b=none->(E6 s₁.heap H).get? b=some o:=λe n=>E7 e n
  have noA:∀{b:Addr} {o:Obj} {es:Array DictEntry} {ep:Nat},s₁.heap.get? b=some o->o.data=.dict es ep->H b=none:=λ{b o es ep} e d=>by
   cases q:H b with
   | none=>rfl
   | some u =>
    have e':b=a:=hA b (by rw[q];simp)
    subst e'
    rw[ha]at e;cases e
    have d':Data.seq vs.toArray _=Data.dict es ep:=d
    cases d'
  have nsK:∀{b:Addr} {m:Str->Option Value},s₁.heap.Ns b m->(E6 s₁.heap H).Ns b m:=λ{b m} ⟨o,es,ep,e,d,r⟩=>⟨o,es,ep,base_of e (noA e d),d,r⟩
  have hKb:K.In (E6 s₁.heap H):=λb o e=>base_of (KX b o e) (by
   cases q:H b with
   | none=>rfl
   | some u =>
    have e':b=a:=hA b (by rw[q];simp)
    subst e'
    rw[hK (by rw[q];simp)]at e;cases e)
  have hM:Mod K mg (E6 s₁.heap H):=⟨hKb,nsK hns,⟨mb,nsK hb,hbb⟩,let ⟨mc,h1,h2⟩:=hlim;⟨mc,nsK h1,h2⟩⟩
  have e0:Env0 P w K mg (E6 s₁.heap H) callerA [] s₁ H:=⟨rfl,hM,λb o e=>Jw e,Nat.le_of_eq (Bb _ _),trivial,λb hb=>absurd (show b∈([]:List Addr)from hb) (by simp),hok,.of_eq hg⟩
  refine codeAny_mono ((F _ hKb (nsK hns)).run callerA [] s₁ H ⟨[.ref a],[]⟩ [.ref a] [.ref a] _ _ hr e0 (hbind s₁ (.ref a)) (.cons rfl .nil) (hsp H hO hS)) λr s' h=>?_
  cases r with
  | error e=>exact(hCX H e s' h).elim
  | ok fl =>
   cases fl with
   | next=>exact False.elim h
   | brk=>exact False.elim h
   | cont=>exact False.elim h
   | ret u =>
    obtain⟨v,H',os,bare,un,hok',r',q⟩:=h
    have q':v=.bl true:=q
    subst q'
    obtain rfl:u=Value.bool true:=r'
    refine⟨rfl,OldK.of_keep λb o e=>?_,os,bare⟩
    cases q:H b with
    | none=>exact un.keep b o e q (by intro z;exact absurd (show b∈([]:List Addr)from z) (by simp)) (by simp)
    | some u =>
     rcases hO b with z | ⟨ob,xs,z⟩
     ·rw[q]at z;cases z
     ·have z2:=un.frzs b ob _ z
      obtain⟨e1,_⟩:=hok b _ z
      obtain⟨e2,_⟩:=hok' b _ z2
      rw[e]at e1;cases e1
      exact e2
 cases hk:K.lookup a with
 | some o =>
  -- the script is one of the module's own objects
  have e:=KX a o hk
  rw[ha]at e
  cases e
  refine core (λ_=>none) (λ_=>.inl rfl) (.inr ⟨vs,_,hk,by rw[AD];exact hl,rv⟩) (λb u z=>by have z':(none:Option HO)=some u:=z;cases z') (λb z=>absurd rfl z) λz=>absurd rfl z
 | none =>
  refine core (λb=>if b=a then some (.frz {cls:=.type "list",data:=.seq vs.toArray} (.lst (ns.map V.int)))else none) (λb=>?_) (.inl ⟨{cls:=.type "list",data:=.seq vs.toArray},if_pos rfl⟩) (λb u z=>?_) (λb z=>?_) λ_=>hk
  ·by_cases hb:b=a
   ·exact .inr ⟨_,_,if_pos hb⟩
   ·exact .inl (if_neg hb)
  ·by_cases hb:b=a
   ·have z':=(if_pos hb).symm.trans z
    cases z'
    subst hb
    exact⟨ha,by rw[AD];exact hl,vs,_,rv,ha⟩
   ·have z':=(if_neg hb).symm.trans z
    cases z'
  ·by_cases hb:b=a
   ·exact hb
   ·exact absurd (if_neg hb) z
abbrev KOf {K:PySem.W.Frag} {h:Heap} (_:K.In h):PySem.W.Frag:=K
theorem Kj {l:PySem.W.OpenLaw} {n k:Nat} {q:Program} {loose:List Str} {XP:(Str->Option Value)->Heap->Prop} {YP:World->Heap->Prop} {d:DefRec} {K:Params->PySem.W.Frag} {CX:World->CXT} {sp:World->Sp} {x:Str}
  (hn:l.most=some n) (hn2:n<=sizeLine) (hdf:d.params.defaults=[]) (hr:Room k callerA)
  (hY:∀(w:World) (h:Heap),YP w h->(K w.params).In h)
  (F:∀(w:World) (mg:Str->Option Value) (fa:Addr) (h:Heap),(K w.params).In h->h.Ns mainGlobals mg->mg d.name=some (.ref fa) ->
   ∃fd:FuncData,(∀(s:Shared) (u:Value),BindsTo s fd ⟨[u],[]⟩ [(x,u)]) /\
    ∀base:Heap,(K w.params).In base->base.Ns mainGlobals mg->FnOk l.prog w (K w.params) mg base (CX w) k fa fd [x] (sp w))
  (hsp:∀(w:World) (H:Hp) (a:Addr) (ns:List Int),ns.length<=n->Sg H->FzL (K w.params) H a (ns.map V.int)->sp w [.ref a] H (λv _=>v=.bl true) λ_ _ _=>False)
  (hCX:∀(w:World) (H:Hp) (s:Shared) (e:Value) (s':Shared),CX w [] H s (λ_ _ _=>False) e s'->False) :
  PySem.W.WalkO q loose XP YP l.row.toRowW d [] (λf vs=>PySem.call f vs):=by
 refine Att.vp hn hdf λw s₀ s₁ mg mb fa o pm cd doc a vs ns G Y ho hd hcd hmg hobj hints hlen hg=>?_
 have KX:=hY w _ Y
 obtain⟨fd,hb,hF⟩:=F w mg fa _ KX G.T.g hmg
 exact Fj KX G.T.g G.T.b G.T.builtins G.T.nolimit hg hobj hints (BA hlen hn2) hr hF hb (λH hO hS=>hsp w H a ns hlen hO hS) λH e s'=>hCX w H s₁ e s'
def oh (s:Stmt):Arguments:=match s with
 | .FunctionDef _ a _ _ _ _ _ _ _ _=>a
 | _=>{posonlyargs:=[],args:=[],vararg:=none,kwonlyargs:=[],kw_defaults:=[],kwarg:=none,defaults:=[]}
def il (s:Stmt):List Stmt:=match s with
 | .FunctionDef _ _ b _ _ _ _ _ _ _=>b
 | _=>[]
def bg (s:Stmt):Scope:=match s with
 | .FunctionDef _ _ _ _ _ _ sc _ _ _=>sc
 | _=>{kind:=.function,names:=[],isGenerator:=false,isCoroutine:=false}
abbrev CX0:CXT:=λ_ _ _ _ _ _=>False
abbrev E0:XK:=λ_ _ _=>False
theorem Sh {X:Cx}:Bn CX0 X E0:=λ_ _ _ _ _ _ _ h=>h.elim
structure Fun (K:PySem.W.Frag) (x qual:Str) (st:Stmt) (f:Addr) (fd:FuncData):Prop where
 ex:∃(oc:Value) (od:Option Addr) (kV doc pm:Value) (an:Option Addr) (cdv ct:Value) (osl:Array (Option Value)),
  fd=PySem.W.fnOf x qual (oh st) (il st) (bg st) .none kV doc pm an cdv ct/\K.lookup f=some ⟨oc,od,.func fd,osl⟩/\PySem.W.codeIn K cdv qual=true
 kp:PySem.W.keepIn K (.ref f)=true
section
variable {P : Program} {w : World} {K : PySem.W.Frag} {mg : Str -> Option Value} {base : Heap}
theorem Fun.ok {x qual:Str} {st:Stmt} {f:Addr} {fd:FuncData} {N ps:List Str} {k:Nat} {sp:Sp} (F:Fun K x qual st f fd) (S:FnScope N ps (bg st)) (len:∀vs H Q E,sp vs H Q E->vs.length=ps.length)
  (hbody:∀(cdv:Value) (A:Around) (outer:List Env) (s:Shared) (H:Hp) (vs:List V) (Q:VK) (E:XK),Bm k (A.deeper (envOfC qual (bg st) s.heap.objs.size f cdv))->sp vs H Q E ->
   ∃t,PSs (Fe CX0 P w K mg base N qual (bg st) f cdv A outer s H E).nox (il st) t/\t {nx:=λ_ H'=>Q .non H',rt:=Q} (start N vs) H):FnOk P w K mg base CX0 (k+1) f fd ps sp:=by
 obtain⟨oc,od,kV,doc,pm,an,cdv,ct,osl,rfl,lk,hcd⟩:=F.ex
 refine R9 lk hcd S len λA outer s H vs Q E hr hsp=>?_
 obtain⟨t,h,q⟩:=hbody cdv A outer s H vs Q E hr hsp
 exact⟨t,h.nox,q⟩
theorem Nz {x qual:Str} {st:Stmt} {f:Addr} {oc:Value} {od an:Option Addr} {osl:Array (Option Value)} {kV doc pm cdv ct:Value} (l:K.lookup f=some ⟨oc,od,.func (PySem.W.fnOf x qual (oh st) (il st) (bg st) .none kV doc pm an cdv ct),osl⟩)
  (c:PySem.W.codeIn K cdv qual=true) (k:PySem.W.keepIn K (.ref f)=true):Fun K x qual st f (PySem.W.fnOf x qual (oh st) (il st) (bg st) .none kV doc pm an cdv ct):=⟨⟨oc,od,kV,doc,pm,an,cdv,ct,osl,rfl,l,c⟩,k⟩
end
theorem t6 {n:Nat} (h:n<=1000):n<sizeLine:=Nat.lt_of_le_of_lt h (by decide)
section
variable {X : Cx}
theorem pv (i:Nat) {x:Str} {pos:Pos} (hN:X.N[i]? = some x:=by rfl) (hv:Vis X.env.scope x:=by first | exact Or.inl rfl | exact Or.inr (Or.inl rfl) | exact Or.inr (Or.inr rfl)) (hd:(x==("__debug__":Str))=false:=by decide)
  (hcd:(x==("__classdict__":Str))=false:=by decide):PE X (.Name x pos) (Ui i):=Bc hN hv hd hcd
end
end L2
set_option maxHeartbeats 4000000
namespace L2
open PySem PySem.Spec PyProof.Rows
def Wb (h0:Heap) (H:Hp) (h:Heap) (e:Addr) (cls:Value):Prop:=∃oe vs T oT ts a0,h.get? e=some oe/\(oe.cls=cls/\vs[0]? = some a0)/\oe.data=.fields vs/\vs[1]? = some (.ref T)/\(h0.get? T=none/\H T=none)/\T≠e/\h.get? T=some oT/\oT.data=.fields ts/\ts[3]? = some Value.none
section
variable {X : Cx} {pins : List (Addr × Obj)} {σ : St} {H H' : Hp} {s : Shared} {e : Addr} {cls : Value}
structure Fl (X:Cx) (H0:Hp) (s0:Shared) (H':Hp) (e:Addr) (cls:Value) (s:Shared):Prop where
 os:s.os=s0.os
 bare:AllBare s.gens
 un:Un (frs X.stack) [] H0 H' s0.heap s.heap
 hok:HOk X.prog X.w H' s.heap
 new:s0.heap.get? e=none
 free:H' e=none
 fly:Wb s0.heap H' s.heap e cls
section
variable {H0 : Hp} {s0 : Shared}
def Wc (e:Addr) (cls:Value):HO:=.ext λh=>∃o vs,h.get? e=some o/\o.cls=cls/\o.data=.fields vs
end
end
end L2
namespace Lp
open PySem
inductive D where
 | non | bl (b:Bool) | int (i:Int) | str (x:Str)
 | tup (ds:List D) | lst (ds:List D) | loc (n:Nat)
 deriving Inhabited
def D.pureN:Nat->D->Bool
 | 0,d=>match d with | .tup _=>false | .lst _=>false | .loc _=>false | _=>true
 | k+1,d=>match d with | .tup ds=>ds.all (D.pureN k) | .lst ds=>ds.all (D.pureN k) | .loc _=>false | _=>true
abbrev D.pure (d:D):Bool:=D.pureN 8 d
inductive O where
 | l (ds:List D)
 | r (ds:List D)
 | d (kvs:List (D×D))
 | dt (kvs:List (D×D))
 | x (c:Str)
 | o (c:Str) (fs:List (Str×D))
 | dr (kvs:List (D×D))
 | fd (kvs:List (D×D))
 | dead
 deriving Inhabited
abbrev Sto:=List O
abbrev Sl:=List (Option D)
inductive Res (α:Type) where
 | ok (a:α) (μ:Sto)
 | exc (c:Nat) (ds:List D) (μ:Sto)
 | stuck
namespace Res
variable {α β : Type}
def bind (x:Res α) (f:α->Sto->Res β):Res β:=match x with
 | .ok a μ=>f a μ
 | .exc c ds μ=>.exc c ds μ
 | .stuck=>.stuck
@[simp] theorem cq (a:α) (μ:Sto) (f:α->Sto->Res β):(Res.ok a μ).bind f=f a μ:=rfl
@[simp] theorem Rf (c:Nat) (ds:List D) (μ:Sto) (f:α->Sto->Res β):(Res.exc c ds μ:Res α).bind f=.exc c ds μ:=rfl
@[simp] theorem Mp (f:α->Sto->Res β):(Res.stuck:Res α).bind f=.stuck:=rfl
theorem bind_assoc {γ:Type} (x:Res α) (f:α->Sto->Res β) (g:β->Sto->Res γ):(x.bind f).bind g=x.bind λa μ=>(f a μ).bind g:=by
 cases x<;>rfl
end Res
inductive Mk where | z | l | r
 deriving DecidableEq,Inhabited
inductive Bt where
 | len | tuple | list | sum | min | min1 | max | all | any | sorted | sortedSet | sortedL | int | listRev | listRange | tupleRange | dictP | sortedI | sortedD | odds | min3 | max1 | sortedN | sortedT | inR3
 deriving DecidableEq,Inhabited
inductive Mt where
 | append | pop | extend | extendT | insert | remove | reverse | clear | count | countL | get
 deriving DecidableEq,Inhabited
inductive Cl where
 | int | bool | tuple | list | str | own (c:Str)
 deriving DecidableEq,Inhabited
inductive Tg where
 | one (i:Nat) | many (is:List Nat)
 deriving DecidableEq,Inhabited
inductive Cp where
 | eq | ne | eqM | neM | lt | le | gt | ge | is | isnot | in_ | notin
 deriving DecidableEq,Inhabited
mutual
inductive Ex where
 | var (i:Nat)
 | frz (i:Nat)
 | cst (d:D)
 | bin (op:Operator) (m:Mk) (a b:Ex)
 | neg (a:Ex)
 | not (a:Ex)
 | and (a b:Ex)
 | or (a b:Ex)
 | ite (c a b:Ex)
 | cmp (a:Ex) (r:Cps)
 | call (keep:Bool) (f:Nat) (es:Exs)
 | blt (b:Bt) (m:Mk) (es:Exs)
 | isi (a:Ex) (c:Cl)
 | meth (mt:Mt) (o:Ex) (es:Exs)
 | ix (a b:Ex)
 | dix (a b:Ex)
 | sl (m:Mk) (a:Ex) (lo hi:ExO)
 | tup (es:Exs)
 | lst (m:Mk) (es:Exs)
 | dic (t:Bool) (es:Exs)
 | inT (neg:Bool) (es:Exs) (d:Ex)
 | att (e:Ex) (f:Str)
 | mcall (k1:Bool) (c m:Str) (f:Nat) (o:Ex) (es:Exs)
 | make (c:Str) (f:Nat) (es:Exs)
 | callK (f:Nat) (es:Exs)
 | tru (e:Ex)
 | drp (e:Ex)
 | gix (a b:Ex)
 | dicr
 | comp (m:Mk) (cap:List Nat) (nl:Nat) (tg:Tg) (it:It) (cs:Exs) (elt:Ex)
inductive Exs where
 | nil
 | cons (e:Ex) (es:Exs)
inductive Cps where
 | nil
 | cons (op:Cp) (e:Ex) (r:Cps)
inductive ExO where
 | no
 | so (e:Ex)
inductive It where
 | seq (e:Ex)
 | rng (a:Ex)
 | rng2 (a b:Ex)
 | rng3 (a b c:Ex)
 | zip (a b:Ex)
 | enum (a:Ex)
 | rev (a:Ex)
 | vals (a:Ex)
 | keys (a:Ex)
end
mutual
inductive Sm where
 | set (i:Nat) (e:Ex)
 | unp (is:List Nat) (e:Ex)
 | setx (o i v:Ex)
 | augx (op:Operator) (o i v:Ex)
 | setxT (o:Ex) (i:Exs) (v:Ex)
 | ex (e:Ex)
 | ite (c:Ex) (a b:Sms)
 | loop (tg:Tg) (it:It) (b:Sms)
 | ret (e:Ex)
 | raise (c:Str) (es:Exs)
 | pl (s:Sm)
 | callx (f:Nat) (es:Exs)
 | tryc (f:Nat) (es:Exs) (ei:Nat) (h:Sms)
 | mapx (i:Nat) (cap:List Nat) (nl:Nat) (tg:Tg) (it:It) (f:Nat) (es:Exs)
 | tryi (i j:Nat) (e:Ex)
 | seta (o:Ex) (f:Str) (e:Ex)
 | whl (c:Ex) (b:Sms)
 | pass | brk | cont
 | never
inductive Sms where
 | nil
 | cons (s:Sm) (r:Sms)
end
@[irreducible] def lim:Nat:=2 ^ 24
theorem Hj:lim=2 ^ 24:=by with_unfolding_all rfl
theorem oi:1000000<=lim:=by rw[Hj];decide
def gv (μ:Sto):D->Option (List D)
 | .tup ds=>some ds
 | .lst ds=>some ds
 | .loc n=>match μ[n]? with
  | some (.l ds)=>some ds
  | some (.r ds)=>some ds
  | _=>none
 | _=>none
def listOf (μ:Sto):D->Option (List D)
 | .lst ds=>some ds
 | .loc n=>match μ[n]? with
  | some (.l ds)=>some ds
  | some (.r ds)=>some ds
  | _=>none
 | _=>none
def jf {α β:Type} (o:Option α) (k:α->Res β):Res β:=match o with
 | some a=>k a
 | none=>.stuck
@[simp] theorem j7 {α β:Type} (a:α) (k:α->Res β):jf (some a) k=k a:=rfl
@[simp] theorem Kk {α β:Type} (k:α->Res β):jf none k=.stuck:=rfl
def mkL (m:Mk) (ds:List D) (μ:Sto):Res D:=match m with
 | .z=>.ok (.lst ds) μ
 | .l=>if ds.all (D.pureN 8)=true then .ok (.loc μ.length) (μ++[.l ds])else .stuck
 | .r=>.ok (.loc μ.length) (μ++[.r ds])
mutual
def deq:D->D->Bool
 | .non,.non=>true
 | .bl a,.bl b=>a==b
 | .int a,.int b=>decide (a=b)
 | .bl a,.int b=>decide ((if a then 1 else 0:Int)=b)
 | .int a,.bl b=>decide (a=(if b then 1 else 0:Int))
 | .str a,.str b=>decide (a=b)
 | .tup a,.tup b=>lg a b
 | .lst a,.lst b=>lg a b
 | _,_=>false
def lg:List D->List D->Bool
 | [],[]=>true
 | a::r,b::q=>deq a b&&lg r q
 | _,_=>false
end
def rs1 (μ:Sto):Nat->D->D
 | 0,d=>d
 | _,.loc n=>match μ[n]? with
  | some (.l ds)=>.lst ds
  | some (.r ds)=>.lst ds
  | _=>.loc n
 | k+1,.tup ds=>.tup (ds.map (rs1 μ k))
 | k+1,.lst ds=>.lst (ds.map (rs1 μ k))
 | _,d=>d
def rs (μ:Sto) (d:D):D:=rs1 μ 8 (rs1 μ 8 (rs1 μ 8 d))
def cv:List D->Option (List Int)
 | []=>some []
 | .int i::r=>(cv r).map (i::·)
 | _=>none
def Hk:List D->Option (List Bool)
 | []=>some []
 | .bl i::r=>(Hk r).map (i::·)
 | _=>none
def lexLt:List Int->List Int->Bool
 | _,[]=>false
 | [],_::_=>true
 | x::xs,y::ys=>if x=y then lexLt xs ys else decide (x<y)
def rowsOf:List D->Option (List (List Int))
 | []=>some []
 | .tup ds::r=>(cv ds).bind λx=>(rowsOf r).map (x::·)
 | _=>none
def ixN (n:Nat) (i:Int):Option Nat:=if 0<=i then(if i<n then some i.toNat else none)else if -(n:Int)<=i then some (i+n).toNat else none
def sIx (n d:Nat):Option Int->Nat
 | none=>d
 | some v=>if v<0 then(v+(n:Int)).toNat else min v.toNat n
def cut (ds:List D) (lo hi:Option Int):List D:=(ds.drop (sIx ds.length 0 lo)).take (sIx ds.length ds.length hi-sIx ds.length 0 lo)
def CMul (i j:Int):Prop:=(-(2 ^ 64)<i/\i<2 ^ 64)\/(-(2 ^ 64)<j/\j<2 ^ 64)
instance (i j:Int):Decidable (CMul i j):=by unfold CMul;infer_instance
def opI (op:Operator) (i j:Int) (μ:Sto):Res D:=match op with
 | .Add=>.ok (.int (i+j)) μ
 | .Sub=>.ok (.int (i-j)) μ
 | .Mult=>if CMul i j then .ok (.int (i*j)) μ else .stuck
 | .FloorDiv=>if 0<j/\j<1073741824 then .ok (.int (i / j)) μ else .stuck
 | .Mod=>if 0<j then .ok (.int (i % j)) μ else .stuck
 | .Pow=>if 0<=j/\j<=1000000/\i.natAbs<2 ^ 64 then .ok (.int (i ^ j.toNat)) μ else .stuck
 | .RShift=>if 0<=j then .ok (.int (i / 2 ^ j.toNat)) μ else .stuck
 | .LShift=>if 0<=j/\j<=1000000/\i.natAbs<2 ^ 64 then .ok (.int (i*2 ^ j.toNat)) μ else .stuck
 | .BitXor=>if 0<=i/\j=1 then .ok (.int (if i % 2=0 then i+1 else i-1)) μ else .stuck
 | _=>.stuck
def opD (op:Operator) (m:Mk) (a b:D) (μ:Sto):Res D:=match a,b with
 | .int i,.int j=>opI op i j μ
 | .tup xs,.tup ys=>match op with
  | .Add=>if xs.length+ys.length<=lim then .ok (.tup (xs++ys)) μ else .stuck
  | _=>.stuck
 | x,.int j=>match op,listOf μ x with
  | .Mult,some xs=>if xs.length*j.toNat<=lim /\ -(2 ^ 63)<=j/\j<2 ^ 63 then mkL m (List.replicate j.toNat xs).flatten μ else .stuck
  | _,_=>.stuck
 | x,y=>match op,listOf μ x,listOf μ y with
  | .Add,some xs,some ys=>if xs.length+ys.length<=lim then mkL m (xs++ys) μ else .stuck
  | _,_,_=>.stuck
def flat:D->Bool
 | .tup _=>false
 | .lst _=>false
 | .loc _=>false
 | _=>true
def bw (μ:Sto) (x:D):Option (List D×Option (Nat×O)):=match x with
 | .tup ds=>some (ds,none)
 | .lst ds=>some (ds,none)
 | .loc n=>match μ[n]? with
  | some (.l ds)=>some (ds,some (n,.l ds))
  | some (.r ds)=>some (ds,some (n,.r ds))
  | _=>none
 | _=>none
def A7:D->Bool
 | .int _=>true
 | .str _=>true
 | _=>false
def Wd:D->Bool
 | .tup ds=>ds.all A7
 | _=>false
def Fk (k:D):List (D×D)->Option D
 | []=>none
 | (x,v)::r=>if deq x k then some v else Fk k r
def dput (k v:D) (kvs:List (D×D)):List (D×D) :=
 if(kvs.any λp=>deq p.1 k)=true then kvs.map (λp=>if deq p.1 k=true then(p.1,v)else p)else kvs++[(k,v)]
def dictAt (μ:Sto) (o k:D):Option (List (D×D)):=match o with
 | .loc n=>match μ[n]? with
  | some (.d kvs)=>if A7 k=true then some kvs else none
  | some (.dr kvs)=>if A7 k=true then some kvs else none
  | some (.fd kvs)=>if A7 k=true then some kvs else none
  | _=>none
 | _=>none
def Kl (μ:Sto) (o:D) (ks:List D):Option (List (D×D)):=match o with
 | .loc n=>match μ[n]? with
  | some (.dt kvs)=>if ks.all A7=true then some kvs else none
  | _=>none
 | _=>none
def cw:List (Option D)->Option (List D)
 | []=>some []
 | none::_=>none
 | some d::r=>match cw r with
  | some ds=>some (d::ds)
  | none=>none
def a7 (μ:Sto):Nat->D->Option D
 | 0,d=>if flat d=true then some d else none
 | k+1,d=>match d with
  | .tup ds=>(cw (ds.map (a7 μ k))).map .tup
  | .lst ds=>(cw (ds.map (a7 μ k))).map .lst
  | .loc n=>match μ[n]? with
   | some (.l ds)=>(cw (ds.map (a7 μ k))).map .lst
   | some (.r ds)=>(cw (ds.map (a7 μ k))).map .lst
   | _=>none
  | d=>some d
def cpD (op:Cp) (a b:D) (μ:Sto):Res D:=match op with
 | .eq=>if a.pure=true/\b.pure=true then .ok (.bl (deq a b)) μ else .stuck
 | .ne=>if a.pure=true/\b.pure=true then .ok (.bl (!deq a b)) μ else .stuck
 | .eqM=>match a7 μ 8 a,a7 μ 8 b with
  | some x,some y=>.ok (.bl (deq x y)) μ
  | _,_=>.stuck
 | .neM=>match a7 μ 8 a,a7 μ 8 b with
  | some x,some y=>.ok (.bl (!deq x y)) μ
  | _,_=>.stuck
 | .lt=>match a,b with
  | .int i,.int j=>.ok (.bl (decide (i<j))) μ
  | .tup x,.tup y=>match cv x,cv y with
   | some xs,some ys=>.ok (.bl (lexLt xs ys)) μ
   | _,_=>.stuck
  | _,_=>.stuck
 | .le=>match a,b with
  | .int i,.int j=>.ok (.bl (decide (i<=j))) μ
  | .tup x,.tup y=>match cv x,cv y with
   | some xs,some ys=>.ok (.bl (!lexLt ys xs)) μ
   | _,_=>.stuck
  | _,_=>.stuck
 | .gt=>match a,b with
  | .int i,.int j=>.ok (.bl (decide (j<i))) μ
  | _,_=>.stuck
 | .ge=>match a,b with
  | .int i,.int j=>.ok (.bl (decide (j<=i))) μ
  | .tup x,.tup y=>match cv x,cv y with
   | some xs,some ys=>.ok (.bl (!lexLt xs ys)) μ
   | _,_=>.stuck
  | _,_=>.stuck
 | .is=>match b with
  | .non=>.ok (.bl (match a with | .non=>true | _=>false)) μ
  | .bl k=>match a with
   | .bl j=>.ok (.bl (j==k)) μ
   | .non=>.ok (.bl false) μ
   | _=>.stuck
  | _=>.stuck
 | .isnot=>match b with
  | .non=>.ok (.bl (match a with | .non=>false | _=>true)) μ
  | .bl k=>match a with
   | .bl j=>.ok (.bl (!(j==k))) μ
   | .non=>.ok (.bl true) μ
   | _=>.stuck
  | _=>.stuck
 | .in_=>match gv μ b with
  | some ds=>if flat a=true/\ds.all flat=true then .ok (.bl (ds.any λy=>deq y a)) μ else .stuck
  | none=>match dictAt μ b a with
   | some kvs=>.ok (.bl (Fk a kvs).isSome) μ
   | none=>.stuck
 | .notin=>match gv μ b with
  | some ds=>if flat a=true/\ds.all flat=true then .ok (.bl (!ds.any λy=>deq y a)) μ else .stuck
  | none=>match dictAt μ b a with
   | some kvs=>.ok (.bl (!(Fk a kvs).isSome)) μ
   | none=>.stuck
def insI (x:Int):List Int->List Int
 | []=>[x]
 | y::r=>if x<=y then x::y::r else y::insI x r
def sortI:List Int->List Int
 | []=>[]
 | x::r=>insI x (sortI r)
def Us (x:List Int):List (List Int)->List (List Int)
 | []=>[x]
 | y::r=>if lexLt y x=true then y::Us x r else x::y::r
def Km:List (List Int)->List (List Int)
 | []=>[]
 | x::r=>Us x (Km r)
def Ut:Int->List Int->Int
 | x,[]=>x
 | x,y::r=>Ut (if y<x then y else x) r
def Uu:Int->List Int->Int
 | x,[]=>x
 | x,y::r=>Uu (if y > x then y else x) r
def kh (f:D->Sto->Res D) (ds:List D) (μ:Sto):Res D:=match ds with
 | [x]=>f x μ
 | _=>.stuck
@[simp] theorem nr (f:D->Sto->Res D) (x:D) (μ:Sto):kh f [x] μ=f x μ:=rfl
def seq1 (f:List D->Sto->Res D) (x:D) (μ:Sto):Res D:=match gv μ x with
 | some xs=>f xs μ
 | none=>.stuck
def Kn (f:List Int->Sto->Res D) (x:D) (μ:Sto):Res D:=match(gv μ x).bind cv with
 | some ns=>f ns μ
 | none=>.stuck
def N0 (f:List Bool->Sto->Res D) (x:D) (μ:Sto):Res D:=match(gv μ x).bind Hk with
 | some ns=>f ns μ
 | none=>.stuck
def Fm (m:Mk) (x:D) (μ:Sto):Res D:=match listOf μ x with
 | some xs=>mkL m xs.reverse μ
 | none=>.stuck
def minD (ds:List D) (μ:Sto):Res D:=match ds with
 | [.int i,.int j]=>.ok (.int (if j<i then j else i)) μ
 | _=>.stuck
def Si (ds:List D) (μ:Sto):Res D:=match ds with
 | [.int i,.int j,.int k]=>.ok (.int (if k<(if j<i then j else i)then k else(if j<i then j else i))) μ
 | _=>.stuck
def maxD (ds:List D) (μ:Sto):Res D:=match ds with
 | [.int i,.int j]=>.ok (.int (if j > i then j else i)) μ
 | _=>.stuck
def Ko (m:Mk) (xs:List D) (μ:Sto):Res D:=match rowsOf xs with
 | some rs=>if rs.all (λr=>!r.isEmpty)=true then mkL m ((Km rs).map λr=>.tup (r.map .int)) μ else .stuck
 | none=>.stuck
def We (ns:List Int):List Int:=ns.foldl (λσ k=>if σ.any (·==k)then σ else σ++[k]) []
def N1 (m:Mk):D->Sto->Res D:=Kn λns μ=>if ns.length<64 then mkL m ((sortI (We ns)).map .int) μ else .stuck
def N2 (m:Mk) (x:D) (μ:Sto):Res D:=match listOf μ x with
 | some xs=>if xs.length<64 then Ko m xs μ else .stuck
 | none=>.stuck
def Kp (ds:List D) (μ:Sto):Res D:=match ds with
 | [.int x,.int i,.int j,.int k]=>if 0<=i/\i<2 ^ 32/\0<=j/\j<2 ^ 32/\1<=k/\k<=1000 then .ok (.bl (decide (i<=x/\x<j/\(x-i) % k=0))) μ else .stuck
 | _=>.stuck
def Kq {R:Type} (lt:R->R->Bool) (x:R):List R->List R
 | []=>[x]
 | y::r=>if lt y x=true then y::Kq lt x r else x::y::r
def eh {R:Type} (lt:R->R->Bool):List R->List R
 | []=>[]
 | x::r=>Kq lt x (eh lt r)
abbrev NR:=List Int×Str×List Int
abbrev dj (x:NR):D:=.tup [.tup (x.1.map .int),.tup (.str x.2.1::x.2.2.map .int)]
def ltN (x y:NR):Bool:=if x.1=y.1 then(if x.2.1=y.2.1 then lexLt x.2.2 y.2.2 else decide (x.2.1.cps.toList<y.2.1.cps.toList))else lexLt x.1 y.1
def qr:List D->Option (List NR)
 | []=>some []
 | .tup [.tup ds,.tup (.str t::es)]::r=>(cv ds).bind λx=>(cv es).bind λy=>(qr r).map ((x,t,y)::·)
 | _=>none
def Bx (m:Mk) (x:D) (μ:Sto):Res D:=match(listOf μ x).bind qr with
 | some rs=>if rs.length<=1000 then mkL m ((eh ltN rs).map dj) μ else .stuck
 | none=>.stuck
def By (m:Mk) (x:D) (μ:Sto):Res D:=match(listOf μ x).bind rowsOf with
 | some rs=>if rs.length<=1000/\(rs.all λr=>!r.isEmpty)=true then mkL m ((eh lexLt rs).map λr=>.tup (r.map .int)) μ else .stuck
 | none=>.stuck
def N3 (m:Mk) (x:D) (μ:Sto):Res D:=match(listOf μ x).bind cv with
 | some ns=>if ns.length<64 then mkL m ((sortI ns).map .int) μ else .stuck
 | none=>.stuck
def keysOf (μ:Sto):D->Option (List (D×D))
 | .loc n=>match μ[n]? with
  | some (.d kvs)=>some kvs
  | some (.dr kvs)=>some kvs
  | some (.fd kvs)=>some kvs
  | _=>none
 | _=>none
def N4 (m:Mk) (x:D) (μ:Sto):Res D:=match(keysOf μ x).bind λkvs=>cv (kvs.map (·.1))with
 | some ns=>if ns.length<64 then mkL m ((sortI ns).map .int) μ else .stuck
 | none=>.stuck
def Sj (xs:List D):List D:=(List.range (xs.length / 2)).filterMap λi=>xs[2*i+1]?
def Sk (m:Mk) (x:D) (μ:Sto):Res D:=match listOf μ x with
 | some xs=>mkL m (Sj xs) μ
 | none=>.stuck
def N5:List D->Sto->Option (List (List Int)×Sto)
 | [],μ=>some ([],μ)
 | .loc n::r,μ=>match μ[n]? with
  | some (.l ds)=>match cv ds,N5 r (μ.set n .dead)with
   | some x,some p=>some (x::p.1,p.2)
   | _,_=>none
  | _=>none
 | _,_=>none
def Kr (m:Mk) (x:D) (μ:Sto):Res D:=match listOf μ x with
 | some xs=>if xs.length<64 then(match N5 xs μ with
  | some p=>mkL m ((Km p.1).map λr=>.lst (r.map .int)) p.2
  | none=>.stuck)else .stuck
 | none=>.stuck
def Sn:D->Sto->Res D:=Kn λns μ=>match ns with
 | n::r=>.ok (.int (Ut n r)) μ
 | []=>.stuck
def So:D->Sto->Res D:=Kn λns μ=>match ns with
 | n::r=>.ok (.int (Uu n r)) μ
 | []=>.stuck
def Hl (x:D) (μ:Sto):Res D:=match x with
 | .bl b=>.ok (.int (if b then 1 else 0)) μ
 | .int i=>.ok (.int i) μ
 | _=>.stuck
def Hm (f:List D->Sto->Res D) (x:D) (μ:Sto):Res D:=match x with
 | .int j=>if -(lim:Int)<=j/\j<=lim then f ((List.range j.toNat).map fun(i:Nat)=>D.int i) μ else .stuck
 | _=>.stuck
def Hn:List D->Option (List (D×D))
 | []=>some []
 | .tup [k,v]::r=>if A7 k=true/\v.pure=true then(Hn r).map ((k,v)::·)else none
 | _=>none
def N6 (x:D) (μ:Sto):Res D:=match(listOf μ x).bind Hn with
 | some ps=>if ps.length<1000 then .ok (.loc μ.length) (μ++[.d (ps.foldl (λm p=>dput p.1 p.2 m) [])])else .stuck
 | none=>.stuck
def btD (b:Bt) (m:Mk) (ds:List D) (μ:Sto):Res D:=match b with
 | .len=>kh (seq1 λxs μ=>.ok (.int xs.length) μ) ds μ
 | .tuple=>kh (seq1 λxs μ=>.ok (.tup xs) μ) ds μ
 | .list=>kh (seq1 λxs μ=>mkL m xs μ) ds μ
 | .listRev=>kh (Fm m) ds μ
 | .sum=>kh (Kn λns μ=>.ok (.int ns.sum) μ) ds μ
 | .min=>minD ds μ
 | .max=>maxD ds μ
 | .all=>kh (N0 λbs μ=>.ok (.bl (bs.all id)) μ) ds μ
 | .any=>kh (N0 λbs μ=>.ok (.bl (bs.any id)) μ) ds μ
 | .sorted=>kh (N2 m) ds μ
 | .min1=>kh Sn ds μ
 | .max1=>kh So ds μ
 | .sortedN=>kh (Bx m) ds μ
 | .sortedT=>kh (By m) ds μ
 | .inR3=>Kp ds μ
 | .sortedSet=>kh (N1 m) ds μ
 | .sortedL=>kh (Kr m) ds μ
 | .int=>kh Hl ds μ
 | .listRange=>kh (Hm λxs μ=>mkL m xs μ) ds μ
 | .tupleRange=>kh (Hm λxs μ=>.ok (.tup xs) μ) ds μ
 | .dictP=>kh N6 ds μ
 | .sortedI=>kh (N3 m) ds μ
 | .sortedD=>kh (N4 m) ds μ
 | .odds=>kh (Sk m) ds μ
 | .min3=>Si ds μ
def Uv:List Str:=["BadBook","BadTicks","NoDeed","NoRest","BadRow"]
def Wg (k c:Str):Bool:=decide (c=k) || decide (c="LampError") || decide (c="ValueError")
def Ks (c:Cl) (d:D) (μ:Sto):Res D:=match d,c with
 | .int _,.int=>.ok (.bl true) μ
 | .bl _,.int=>.ok (.bl true) μ
 | .bl _,.bool=>.ok (.bl true) μ
 | .tup _,.tuple=>.ok (.bl true) μ
 | .lst _,.list=>.ok (.bl true) μ
 | .str _,.str=>.ok (.bl true) μ
 | .loc n,.list=>match μ[n]? with
  | some (.l _)=>.ok (.bl true) μ
  | some (.r _)=>.ok (.bl true) μ
  | _=>.stuck
 | .loc n,.own c=>match μ[n]? with
  | some (.x k)=>if Uv.contains k=true then .ok (.bl (Wg k c)) μ else .stuck
  | _=>.stuck
 | .loc _,_=>.stuck
 | _,.own _=>.stuck
 | _,_=>.ok (.bl false) μ
def putL (n:Nat) (o:O) (ds:List D) (d:D) (μ:Sto):Res D:=match o with
 | .l _=>.ok d (μ.set n (.l ds))
 | .r _=>.ok d (μ.set n (.r ds))
 | _=>.stuck
def fits (o:O) (d:D):Bool:=match o with
 | .l _=>d.pure
 | .r _=>true
 | _=>false
def g7:O->Option (List D)
 | .l ds=>some ds
 | .r ds=>some ds
 | _=>none
def mtL (mt:Mt) (n:Nat) (ob:O) (xs:List D) (ds:List D) (μ:Sto):Res D:=match mt with
 | .append=>kh (λd μ=>if fits ob d=true/\xs.length<lim then putL n ob (xs++[d]) .non μ else .stuck) ds μ
 | .pop=>match ds with
  | []=>match xs.getLast? with
   | some d=>putL n ob xs.dropLast d μ
   | none=>.stuck
  | [.int i]=>if 0<=i/\i<lim then(match xs[i.toNat]? with
   | some d=>putL n ob (xs.eraseIdx i.toNat) d μ
   | none=>.stuck)else .stuck
  | _=>.stuck
 | .extend=>kh (λy μ=>match listOf μ y with
  | some ys=>if ys.all (fits ob)=true/\xs.length+ys.length<=lim then putL n ob (xs++ys) .non μ else .stuck
  | none=>.stuck) ds μ
 | .extendT=>kh (λy μ=>match y with
  | .tup ys=>if ys.all (fits ob)=true/\xs.length+ys.length<=lim then putL n ob (xs++ys) .non μ else .stuck
  | _=>.stuck) ds μ
 | .insert=>match ds with
  | [.int i,d]=>if 0<=i/\i<=(xs.length:Int)/\fits ob d=true/\xs.length<lim then putL n ob (xs.take i.toNat++d::xs.drop i.toNat) .non μ else .stuck
  | _=>.stuck
 | .remove=>kh (λd μ=>match cw (xs.map (a7 μ 8)),a7 μ 8 d with
  | some es,some e=>match es.findIdx? (λx=>deq x e)with
   | some j=>putL n ob (xs.eraseIdx j) .non μ
   | none=>.stuck
  | _,_=>.stuck) ds μ
 | .reverse=>match ds with
  | []=>putL n ob xs.reverse .non μ
  | _=>.stuck
 | .clear=>match ds with
  | []=>putL n ob [] .non μ
  | _=>.stuck
 | _=>.stuck
def Uw (xs ds:List D) (μ:Sto):Res D:=kh (λx μ=>if flat x=true/\xs.all flat=true then .ok (.int (xs.countP λy=>deq y x)) μ else .stuck) ds μ
def Wh (o:D) (ds:List D) (μ:Sto):Res D:=match o with
 | .tup xs=>Uw xs ds μ
 | _=>.stuck
def Wi (o:D) (ds:List D) (μ:Sto):Res D:=match listOf μ o with
 | some xs=>Uw xs ds μ
 | none=>.stuck
def oj (mt:Mt) (x:D) (μ:Sto):Bool:=match mt with
 | .get=>match x with
  | .loc n=>match μ[n]? with
   | some (.d _)=>true
   | _=>false
  | _=>false
 | .count=>match x with
  | .tup _=>true
  | _=>false
 | _=>(listOf μ x).isSome
def Sr (o:D) (ds:List D) (μ:Sto):Res D:=match ds with
 | [k,x]=>match dictAt μ o k with
  | some kvs=>.ok ((Fk k kvs).getD x) μ
  | none=>.stuck
 | _=>.stuck
def Bz (mt:Mt) (o:D) (ds:List D) (μ:Sto):Res D:=match o with
 | .loc n=>match μ[n]? with
  | none=>.stuck
  | some ob=>match g7 ob with
   | none=>.stuck
   | some xs=>mtL mt n ob xs ds μ
 | _=>.stuck
def mtD (mt:Mt) (o:D) (ds:List D) (μ:Sto):Res D:=match mt with
 | .count=>Wh o ds μ
 | .countL=>Wi o ds μ
 | .get=>Sr o ds μ
 | mt=>Bz mt o ds μ
def Ss (a:D) (ks:List D) (v:D) (μ:Sto):Res Unit:=match a with
 | .loc n=>match μ[n]? with
  | some (.dt kvs)=>if ks.all A7=true/\v.pure=true/\kvs.length<lim then .ok () (μ.set n (.dt (dput (.tup ks) v kvs)))else .stuck
  | _=>.stuck
 | _=>.stuck
def Wj (neg:Bool) (ks:List D) (a:D) (μ:Sto):Res D:=match Kl μ a ks with
 | some kvs=>.ok (.bl (neg ^^ (Fk (.tup ks) kvs).isSome)) μ
 | none=>.stuck
def ixD (a b:D) (μ:Sto):Res D:=match b with
 | .int i=>match gv μ a with
  | some xs=>match ixN xs.length i with
   | some j=>match xs[j]? with
    | some d=>.ok d μ
    | none=>.stuck
   | none=>.stuck
  | none=>.stuck
 | _=>.stuck
def ixL (a b:D) (μ:Sto):Res D:=match a with
 | .loc n=>ixD (.loc n) b μ
 | _=>.stuck
def Rg (a b:D) (μ:Sto):Res D:=match dictAt μ a b with
 | some kvs=>match Fk b kvs with
  | some v=>.ok v μ
  | none=>.stuck
 | none=>.stuck
def Su (a b:D) (μ:Sto):Res D:=match keysOf μ a with
 | some _=>Rg a b μ
 | none=>ixD a b μ
def objOf (μ:Sto):D->Option (Nat×Str×List (Str×D))
 | .loc n=>match μ[n]? with
  | some (.o c fs)=>some (n,c,fs)
  | _=>none
 | _=>none
def N7 (c f:Str):Bool :=
 if c="Residue" then decide (f="heads") || decide (f="rooms") || decide (f="leaving") || decide (f="surplus")
 else if c="Slope" then decide (f="residue") || decide (f="scale") || decide (f="costs") || decide (f="worths")
 else if c="Watch" then decide (f="rests")else false
def Ux (f:Str) (x:D) (μ:Sto):Res D:=match objOf μ x with
 | some (_,c,fs)=>if N7 c f=true then(match fs.lookup f with
  | some v=>.ok v μ
  | none=>.stuck)else .stuck
 | none=>.stuck
def Uy (f:Str) (v:D):List (Str×D)->List (Str×D)
 | []=>[(f,v)]
 | (g,x)::r=>if g=f then(g,v)::r else(g,x)::Uy f v r
def Kt (f:Str) (x v:D) (μ:Sto):Res Unit:=match objOf μ x with
 | some (n,c,fs)=>if N7 c f=true/\fs.length<100 then .ok () (μ.set n (.o c (Uy f v fs)))else .stuck
 | none=>.stuck
def isObj (c m:Str) (x:D) (μ:Sto):Bool:=match objOf μ x with
 | some (_,c',fs)=>decide (c'=c)&&(fs.lookup m).isNone
 | none=>false
def truD (x:D) (μ:Sto):Res D:=match x with
 | .bl b=>.ok (.bl b) μ
 | x=>match gv μ x with
  | some xs=>.ok (.bl (!xs.isEmpty)) μ
  | none=>.stuck
def Uz (op:Operator) (a b:D) (μ:Sto):Res D:=match a,b with
 | .int i,.int j=>match op with
  | .Add=>.ok (.int (i+j)) μ
  | .Sub=>.ok (.int (i-j)) μ
  | _=>.stuck
 | _,_=>.stuck
def slD (m:Mk) (a:D) (lo hi:Option Int) (μ:Sto):Res D:=match a with
 | .tup xs=>.ok (.tup (cut xs lo hi)) μ
 | x=>match listOf μ x with
  | some xs=>mkL m (cut xs lo hi) μ
  | none=>.stuck
def E5 (a b v:D) (μ:Sto):Res Unit:=match a with
 | .loc n=>match μ[n]? with
  | none=>.stuck
  | some (.d kvs)=>if A7 b=true/\v.pure=true/\kvs.length<lim then .ok () (μ.set n (.d (dput b v kvs)))else .stuck
  | some (.dr kvs)=>if A7 b=true/\kvs.length<lim then .ok () (μ.set n (.dr (dput b v kvs)))else .stuck
  | some ob=>match g7 ob,b with
   | some xs,.int i=>match ixN xs.length i with
    | some j=>if fits ob v=true then(putL n ob (xs.set j v) .non μ).bind λ_ μ=>.ok () μ else .stuck
    | none=>.stuck
   | _,_=>.stuck
 | _=>.stuck
def d7 (tg:Tg) (d:D) (σ:Sl):Option Sl:=match tg with
 | .one i=>some (σ.set i (some d))
 | .many is=>match d with
  | .tup ds=>if ds.length=is.length then some ((is.zip ds).foldl (λs p=>s.set p.1 (some p.2)) σ)else none
  | _=>none
abbrev Gd:=Option (Nat×O)
def gd (g:Gd) (μ:Sto):Prop:=match g with
 | none=>True
 | some (n,o)=>μ[n]? = some o
@[simp] theorem vq (μ:Sto):gd none μ=True:=rfl
open Classical in
def mapR (g:Gd) (f:D->Sto->Res (List D)):List D->Sto->Res (List D)
 | [],μ=>if gd g μ then .ok [] μ else .stuck
 | d::ds,μ=>if gd g μ then(f d μ).bind λxs μ1=>(mapR g f ds μ1).bind λys μ2=>.ok (xs++ys) μ2 else .stuck
inductive Fl where
 | nx (σ:Sl) | rt (d:D) | bk (σ:Sl) | ct (σ:Sl)
open Classical in
def ki (g:Gd) (f:D->Sl->Sto->Res Fl):List D->Sl->Sto->Res Fl
 | [],σ,μ=>if gd g μ then .ok (.nx σ) μ else .stuck
 | d::ds,σ,μ=>if gd g μ then(f d σ μ).bind λfl μ1=>match fl with
  | .nx σ1=>ki g f ds σ1 μ1
  | .ct σ1=>ki g f ds σ1 μ1
  | .bk σ1=>.ok (.nx σ1) μ1
  | .rt v=>.ok (.rt v) μ1 else .stuck
def U0 (t:Bool) (ds:List D) (μ:Sto):Res D:=match ds with
 | []=>.ok (.loc μ.length) (μ++[if t then .dt []else .d []])
 | [.int a,x]=>if t=false/\x.pure=true then .ok (.loc μ.length) (μ++[.d [(.int a,x)]])else .stuck
 | [.int a,x,.int b,y]=>if t=false/\x.pure=true/\y.pure=true then .ok (.loc μ.length) (μ++[.d (dput (.int b) y [(.int a,x)])])else .stuck
 | _=>.stuck
abbrev Phi:=Nat->List D->Sto->Res D
def D.belowN (b:Nat):Nat->D->Bool
 | 0,d=>match d with | .tup _=>false | .lst _=>false | .loc n=>decide (n<b) | _=>true
 | k+1,d=>match d with | .tup ds=>ds.all (D.belowN b k) | .lst ds=>ds.all (D.belowN b k) | .loc n=>decide (n<b) | _=>true
def fh (b:Nat):O->Bool
 | .r ds=>ds.all (D.belowN b 8)
 | .o _ fs=>fs.all λp=>D.belowN b 8 p.2
 | .dr kvs=>kvs.all λp=>D.belowN b 8 p.2
 | _=>true
def noR:O->Bool
 | .r _=>false
 | .o _ _=>false
 | .dr _=>false
 | _=>true
def ll (keep:Bool) (base:Nat) (r:Res D):Res D:=match r with
 | .ok d μ'=>if keep=true then .ok d μ' else if D.belowN base 8 d=true/\(μ'.take base).all (fh base)=true then .ok d (μ'.take base)else .stuck
 | x=>x
def Wk:O->Bool
 | .l _=>true
 | .d _=>true
 | .dt _=>true
 | .fd _=>true
 | _=>false
def Ku (base:Nat) (r:Res D):Res D:=match r with
 | .ok d μ'=>if(μ'.take base).all (fh base)=true then(if D.belowN base 8 d=true then .ok d (μ'.take base)else match d with
  | .loc n=>match μ'[n]? with
   | some o=>if Wk o=true then .ok (.loc base) (μ'.take base++[o])else .stuck
   | none=>.stuck
  | _=>.stuck)else .stuck
 | x=>x
def N8 (k1:Bool) (base:Nat) (r:Res D):Res D:=if k1=true then Ku base r else ll false base r
def N9 (base:Nat) (r:Res D):Res D:=match r with
 | .ok .non μ'=>.ok (.loc base) μ'
 | _=>.stuck
def U1:D->Option (Sum D Str)
 | .non=>some (.inl .non)
 | .tup [.bl true,d]=>some (.inl d)
 | .tup [.bl false,.str c]=>some (.inr c)
 | _=>none
def Oa (base:Nat) (r:Res D):Res (Option Str):=match r with
 | .ok d μ'=>if(μ'.take base).all (fh base)=true then(match U1 d with
  | some (.inl _)=>.ok none (μ'.take base)
  | some (.inr c)=>.ok (some c) (μ'.take base)
  | none=>.stuck)else .stuck
 | .exc c ds μ'=>.exc c ds μ'
 | .stuck=>.stuck
def kTh (σ:Sl) (r:Option Str) (μ:Sto):Res Fl:=match r with
 | none=>.ok (.nx σ) μ
 | some c=>.ok (.rt (.tup [.bl false,.str c])) μ
def kPl (fl:Fl) (μ:Sto):Res Fl:=match fl with
 | .nx σ=>.ok (.nx σ) μ
 | _=>.stuck
def kGo (ei:Nat) (fl:Fl) (μ:Sto):Res Fl:=match fl with
 | .nx σ=>.ok (.nx (σ.set ei none)) μ
 | _=>.stuck
def kTi (σ:Sl) (i j:Nat) (d:D) (μ:Sto):Res Fl:=match d with
 | .int n=>if i=j then .stuck else .ok (.nx ((σ.set j (some (.int n))).set i none)) μ
 | _=>.stuck
def Wl (σ:Sl) (ei:Nat) (h:Sl->Sto->Res Fl) (r:Option Str) (μ:Sto):Res Fl:=match r with
 | none=>.ok (.nx σ) μ
 | some c=>if Uv.contains c=true then(h (σ.set ei (some (.loc μ.length))) (μ++[.x c])).bind (kGo ei)else .stuck
def Sv (base:Nat) (r:Res D):Res (Sum D Str):=match r with
 | .ok d μ'=>if(μ'.take base).all (fh base)=true then(match U1 d with
  | some (.inl d')=>if D.belowN base 8 d'=true then .ok (.inl d') (μ'.take base)else .stuck
  | some (.inr c)=>.ok (.inr c) (μ'.take base)
  | none=>.stuck)else .stuck
 | .exc c ds μ'=>.exc c ds μ'
 | .stuck=>.stuck
def kMd (x:D) (q:Sum (List D) Str) (μ:Sto):Res (Sum (List D) Str):=match q with
 | .inl xs=>.ok (.inl (x::xs)) μ
 | .inr c=>.ok (.inr c) μ
def kMc (rest:Sto->Res (Sum (List D) Str)) (r:Sum D Str) (μ:Sto):Res (Sum (List D) Str):=match r with
 | .inl x=>(rest μ).bind (kMd x)
 | .inr c=>.ok (.inr c) μ
open Classical in
def U2 (g:Gd) (f:D->Sto->Res (Sum D Str)):List D->Sto->Res (Sum (List D) Str)
 | [],μ=>if gd g μ then .ok (.inl []) μ else .stuck
 | d::ds,μ=>if gd g μ then(f d μ).bind (kMc λμ=>U2 g f ds μ)else .stuck
def kMx (σ:Sl) (i:Nat) (ys:List D) (r:Sum (List D) Str) (μ:Sto):Res Fl:=match r with
 | .inl xs=>.ok (.nx (σ.set i (some (.tup (ys++xs))))) μ
 | .inr c=>.ok (.rt (.tup [.bl false,.str c])) μ
def Ob (d:D) (μ:Sto):Res Bool:=match d with
 | .bl b=>.ok b μ
 | _=>.stuck
section
variable (φ : Phi)
mutual
def evE:Ex->Sl->Sto->Res D
 | .var i,σ,μ=>match σ[i]? with
  | some (some d)=>.ok d μ
  | _=>.stuck
 | .frz i,σ,μ=>match σ[i]? with
  | some (some (.loc n))=>match μ[n]? with
   | some (.l ds)=>.ok (.lst ds) (μ.set n .dead)
   | some (.r ds)=>.ok (.lst ds) (μ.set n .dead)
   | _=>.stuck
  | _=>.stuck
 | .cst d,_,μ=>.ok d μ
 | .bin op m a b,σ,μ=>(evE a σ μ).bind λx μ=>(evE b σ μ).bind λy μ=>opD op m x y μ
 | .neg a,σ,μ=>(evE a σ μ).bind λx μ=>match x with
  | .int i=>.ok (.int (-i)) μ
  | _=>.stuck
 | .not a,σ,μ=>(evE a σ μ).bind λx μ=>match x with
  | .bl b=>.ok (.bl (!b)) μ
  | _=>.stuck
 | .and a b,σ,μ=>(evE a σ μ).bind λx μ=>match x with
  | .bl c=>if c=true then evE b σ μ else .ok (.bl false) μ
  | _=>.stuck
 | .or a b,σ,μ=>(evE a σ μ).bind λx μ=>match x with
  | .bl c=>if c=true then .ok (.bl true) μ else evE b σ μ
  | _=>.stuck
 | .ite c a b,σ,μ=>(evE c σ μ).bind λx μ=>match x with
  | .bl c=>if c=true then evE a σ μ else evE b σ μ
  | _=>.stuck
 | .cmp a r,σ,μ=>(evE a σ μ).bind λx μ=>evC r x σ μ
 | .call keep f es,σ,μ=>(fi es σ μ).bind λds μ=>ll keep μ.length (φ f ds μ)
 | .blt b m es,σ,μ=>(fi es σ μ).bind λds μ=>btD b m ds μ
 | .isi a c,σ,μ=>(evE a σ μ).bind λx μ=>Ks c x μ
 | .meth mt o es,σ,μ=>(evE o σ μ).bind λx μ=>if oj mt x μ=true then(fi es σ μ).bind λds μ=>mtD mt x ds μ else .stuck
 | .ix a b,σ,μ=>(evE a σ μ).bind λx μ=>(evE b σ μ).bind λy μ=>ixD x y μ
 | .dix a b,σ,μ=>(evE a σ μ).bind λx μ=>(evE b σ μ).bind λy μ=>Rg x y μ
 | .sl m a lo hi,σ,μ=>(evE a σ μ).bind λx μ=>(evO lo σ μ).bind λl μ=>(evO hi σ μ).bind λh μ=>slD m x l h μ
 | .tup es,σ,μ=>(fi es σ μ).bind λds μ=>.ok (.tup ds) μ
 | .lst m es,σ,μ=>(fi es σ μ).bind λds μ=>mkL m ds μ
 | .dic t es,σ,μ=>(fi es σ μ).bind λds μ=>U0 t ds μ
 | .inT neg es d,σ,μ=>(fi es σ μ).bind λds μ=>(evE d σ μ).bind λx μ=>Wj neg ds x μ
 | .att e f,σ,μ=>(evE e σ μ).bind λx μ=>Ux f x μ
 | .mcall k1 c m f o es,σ,μ=>(evE o σ μ).bind λx μ=>if isObj c m x μ=true then(fi es σ μ).bind λds μ=>N8 k1 μ.length (φ f (x::ds) μ)else .stuck
 | .make c f es,σ,μ=>(fi es σ μ).bind λds μ=>N9 μ.length (φ f (.loc μ.length::ds) (μ++[.o c []]))
 | .callK f es,σ,μ=>(fi es σ μ).bind λds μ=>Ku μ.length (φ f ds μ)
 | .tru e,σ,μ=>(evE e σ μ).bind λx μ=>truD x μ
 | .drp e,σ,μ=>ll false μ.length (evE e σ μ)
 | .dicr,_,μ=>.ok (.loc μ.length) (μ++[.dr []])
 | .gix a b,σ,μ=>(evE a σ μ).bind λx μ=>(evE b σ μ).bind λy μ=>Su x y μ
 | .comp m cap nl tg it cs elt,σ,μ=>(evI it σ μ).bind λds μ =>
   (mapR ds.2 (λd μ=>jf (d7 tg d (cap.map (λi=>(σ[i]?).getD none)++List.replicate nl none)) λσ' =>
    (Ai cs σ' μ).bind λb μ=>if b=true then(evE elt σ' μ).bind λx μ=>.ok [x] μ else .ok [] μ) ds.1 μ).bind λxs μ=>mkL m xs μ
def fi:Exs->Sl->Sto->Res (List D)
 | .nil,_,μ=>.ok [] μ
 | .cons e es,σ,μ=>(evE e σ μ).bind λd μ=>(fi es σ μ).bind λds μ=>.ok (d::ds) μ
def evC:Cps->D->Sl->Sto->Res D
 | .nil,_,_,_=>.stuck
 | .cons op e r,x,σ,μ=>(evE e σ μ).bind λy μ=>(cpD op x y μ).bind λz μ=>match r with
  | .nil=>.ok z μ
  | r=>match z with
   | .bl b=>if b=true then evC r y σ μ else .ok (.bl false) μ
   | _=>.stuck
def evO:ExO->Sl->Sto->Res (Option Int)
 | .no,_,μ=>.ok none μ
 | .so e,σ,μ=>(evE e σ μ).bind λx μ=>match x with
  | .int i=>.ok (some i) μ
  | _=>.stuck
def Ai:Exs->Sl->Sto->Res Bool
 | .nil,_,μ=>.ok true μ
 | .cons e es,σ,μ=>(evE e σ μ).bind λx μ=>match x with
  | .bl b=>if b=true then Ai es σ μ else .ok false μ
  | _=>.stuck
def evI:It->Sl->Sto->Res (List D×Gd)
 | .seq e,σ,μ=>(evE e σ μ).bind λx μ=>match bw μ x with
  | some w=>.ok w μ
  | none=>.stuck
 | .rng a,σ,μ=>(evE a σ μ).bind λx μ=>match x with
  | .int j=>if -(lim:Int)<=j/\j<=lim then .ok ((List.range j.toNat).map fun(i:Nat)=>D.int i,none) μ else .stuck
  | _=>.stuck
 | .rng2 a b,σ,μ=>(evE a σ μ).bind λx μ=>(evE b σ μ).bind λy μ=>match x,y with
  | .int i,.int j=>if -(lim:Int)<=i/\i<=lim/\j<=lim /\ -(lim:Int)<=j/\(j-i)<=lim then .ok ((List.range (j-i).toNat).map fun(k:Nat)=>D.int (i+k),none) μ else .stuck
  | _,_=>.stuck
 | .rng3 a b c,σ,μ=>(evE a σ μ).bind λx μ=>(evE b σ μ).bind λy μ=>(evE c σ μ).bind λz μ=>match x,y,z with
  | .int i,.int j,.int k=>if 0<=i/\i<=lim/\j<=lim/\0<=j/\1<=k/\k<=1000 then .ok ((List.range (if i<j then((j-i-1) / k+1).toNat else 0)).map fun(n:Nat)=>D.int (i+n*k),none) μ else .stuck
  | _,_,_=>.stuck
 | .zip a b,σ,μ=>(evE a σ μ).bind λx μ=>(evE b σ μ).bind λy μ=>match bw μ x,gv [] y with
  | some w,some ys=>.ok ((w.1.zip ys).map λp=>.tup [p.1,p.2],w.2) μ
  | _,_=>.stuck
 | .enum a,σ,μ=>(evE a σ μ).bind λx μ=>match bw μ x with
  | some w=>.ok ((List.range w.1.length |>.zip w.1).map fun(p:Nat×D)=>.tup [.int p.1,p.2],w.2) μ
  | none=>.stuck
 | .rev _,_,_=>.stuck
 | .vals a,σ,μ=>(evE a σ μ).bind λx μ=>match x with
  | .loc n=>match μ[n]? with
   | some (.d kvs)=>.ok (kvs.map (·.2),none) (μ.set n .dead)
   | _=>.stuck
  | _=>.stuck
 | .keys a,σ,μ=>(evE a σ μ).bind λx μ=>match x with
  | .loc n=>match μ[n]? with
   | some (.d kvs)=>.ok (kvs.map (·.1),none) (μ.set n (.fd kvs))
   | _=>.stuck
  | _=>.stuck
end
def whN (c:Sl->Sto->Res Bool) (b:Sl->Sto->Res Fl):Nat->Sl->Sto->Res Fl
 | 0,_,_=>.stuck
 | n+1,σ,μ=>(c σ μ).bind λk μ1=>if k=true then(b σ μ1).bind λfl μ2=>match fl with
  | .nx σ1=>whN c b n σ1 μ2
  | .ct σ1=>whN c b n σ1 μ2
  | .bk σ1=>.ok (.nx σ1) μ2
  | .rt v=>.ok (.rt v) μ2 else .ok (.nx σ) μ1
open Classical in
def whR (c:Sl->Sto->Res Bool) (b:Sl->Sto->Res Fl) (σ:Sl) (μ:Sto):Res Fl :=
 if h:∃n,whN c b n σ μ≠.stuck then whN c b h.choose σ μ else .stuck
mutual
def evS:Sm->Sl->Sto->Res Fl
 | .set i e,σ,μ=>(evE φ e σ μ).bind λd μ=>.ok (.nx (σ.set i (some d))) μ
 | .unp is e,σ,μ=>(evE φ e σ μ).bind λd μ=>match d7 (.many is) d σ with
  | some σ'=>.ok (.nx σ') μ
  | none=>.stuck
 | .setx o i v,σ,μ=>(evE φ v σ μ).bind λd μ=>(evE φ o σ μ).bind λx μ=>(evE φ i σ μ).bind λy μ=>(E5 x y d μ).bind λ_ μ=>.ok (.nx σ) μ
 | .augx op o i v,σ,μ=>(evE φ o σ μ).bind λx μ=>(evE φ i σ μ).bind λy μ=>(ixL x y μ).bind λold μ=>(evE φ v σ μ).bind λd μ=>(Uz op old d μ).bind λz μ=>(E5 x y z μ).bind λ_ μ=>.ok (.nx σ) μ
 | .setxT o i v,σ,μ=>(evE φ v σ μ).bind λd μ=>(evE φ o σ μ).bind λx μ=>(fi φ i σ μ).bind λy μ=>(Ss x y d μ).bind λ_ μ=>.ok (.nx σ) μ
 | .ex e,σ,μ=>(evE φ e σ μ).bind λ_ μ=>.ok (.nx σ) μ
 | .ite c a b,σ,μ=>(evE φ c σ μ).bind λx μ=>match x with
  | .bl k=>if k=true then kj a σ μ else kj b σ μ
  | _=>.stuck
 | .loop tg it b,σ,μ=>(evI φ it σ μ).bind λds μ=>ki ds.2 (λd σ μ=>jf (d7 tg d σ) λσ'=>kj b σ' μ) ds.1 σ μ
 | .ret e,σ,μ=>(evE φ e σ μ).bind λd μ=>.ok (.rt d) μ
 | .raise c es,σ,μ=>(fi φ es σ μ).bind λ_ μ=>.ok (.rt (.tup [.bl false,.str c])) μ
 | .pl s,σ,μ=>(evS s σ μ).bind kPl
 | .callx f es,σ,μ=>(fi φ es σ μ).bind λds μ=>(Oa μ.length (φ f ds μ)).bind (kTh σ)
 | .mapx i cap nl tg it f es,σ,μ=>(evI φ it σ μ).bind λds μ =>
   (U2 ds.2 (λd μ=>jf (d7 tg d (cap.map (λi=>(σ[i]?).getD none)++List.replicate nl none)) λσ'=>(fi φ es σ' μ).bind λas μ=>Sv μ.length (φ f as μ)) ds.1 μ).bind (kMx σ i [])
 | .tryi i j e,σ,μ=>(evE φ e σ μ).bind (kTi σ i j)
 | .tryc f es ei h,σ,μ=>(fi φ es σ μ).bind λds μ=>(Oa μ.length (φ f ds μ)).bind (Wl σ ei λσ μ=>kj h σ μ)
 | .seta o f e,σ,μ=>(evE φ e σ μ).bind λd μ=>(evE φ o σ μ).bind λx μ=>(Kt f x d μ).bind λ_ μ=>.ok (.nx σ) μ
 | .whl c b,σ,μ=>whR (λσ μ=>(evE φ c σ μ).bind λd μ=>Ob d μ) (λσ μ=>kj b σ μ) σ μ
 | .pass,σ,μ=>.ok (.nx σ) μ
 | .brk,σ,μ=>.ok (.bk σ) μ
 | .cont,σ,μ=>.ok (.ct σ) μ
 | .never,_,_=>.stuck
def kj:Sms->Sl->Sto->Res Fl
 | .nil,σ,μ=>.ok (.nx σ) μ
 | .cons s r,σ,μ=>(evS s σ μ).bind λfl μ=>match fl with
  | .nx σ'=>kj r σ' μ
  | fl=>.ok fl μ
end
end
structure Df where
 np:Nat
 nn:Nat
 body:Sms
def Mq (φ:Phi) (f:Df) (ds:List D) (μ:Sto):Res D :=
 if ds.length=f.np then(kj φ f.body (ds.map some++List.replicate (f.nn-f.np) none) μ).bind λfl μ=>match fl with
  | .nx _=>.ok .non μ
  | .rt d=>.ok d μ
  | _=>.stuck
 else .stuck
def ak (T:List Df):Nat->Phi
 | 0=>λ_ _ _=>.stuck
 | n+1=>λf ds μ=>match T[f]? with
  | some d=>Mq (ak T n) d ds μ
  | none=>.stuck
open PySem PySem.Spec PyProof.Rows L2
abbrev St:=L2.St
theorem _root_.L2.FzL.sq {K:PySem.W.Frag} {H:Hp} {a:Addr} {xs:List V} (h:FzL K H a xs):SqL K H a xs:=by
 rcases h with⟨o,h⟩ | ⟨its,n,h,hz,hv⟩
 ·exact .inl (.inr ⟨o,h⟩)
 ·exact .inr ⟨_,its.toArray,n,h,rfl,rfl,rfl,by rw[AH,<-hv.length];exact hz,by simpa using hv⟩
def LsL (K:PySem.W.Frag) (H:Hp) (a:Addr) (xs:List V):Prop:=H a=some (.lst xs)\/FzL K H a xs
theorem LsL.sq {K:PySem.W.Frag} {H:Hp} {a:Addr} {xs:List V} (h:LsL K H a xs):SqL K H a xs:=by
 rcases h with h | h
 ·exact .of h
 ·exact h.sq
theorem _root_.L2.Inv.ls {X:Cx} {pins:List (Addr×Obj)} {σ:St} {H:Hp} {s:Shared} {a:Addr} {xs:List V} (I:Inv X pins σ H s) (h:LsL X.K H a xs) :
  xs.length<=sizeLine/\∃(its:List Value) (n:Nat),bu xs its/\xs.length=its.length/\s.heap.get? a=some {cls:=.type "list",data:=.seq its.toArray n}:=by
 rcases h with h | ⟨o,h⟩ | ⟨its,n,h,hz,hv⟩
 ·obtain⟨z,its,n,hv,e⟩:=I.hok a _ h
  exact⟨z,its,n,hv,hv.length,e⟩
 ·obtain⟨_,z,its,n,hv,e⟩:=I.hok a _ h
  exact⟨z,its,n,hv,hv.length,e⟩
 ·exact⟨hz,its,n,hv,hv.length,I.kIn a _ h⟩
structure Ext (H H':Hp):Prop where
 tups:∀b xs,H b=some (.tup xs)->H' b=some (.tup xs)
 frzs:∀b o u,H b=some (.frz o u)->H' b=some (.frz o u)
theorem Ext.refl (H:Hp):Ext H H:=⟨λ_ _ h=>h,λ_ _ _ h=>h⟩
theorem Ext.trans {H H1 H2:Hp} (a:Ext H H1) (b:Ext H1 H2):Ext H H2:=⟨λc xs h=>b.tups c xs (a.tups c xs h),λc o u h=>b.frzs c o u (a.frzs c o u h)⟩
theorem Ext.new {H:Hp} {p:Addr} {o:HO} (h:H p=none):Ext H (upd H p o) :=
 ⟨λb xs e=>by rw[av (bh e h)];exact e,λb o u e=>by rw[av (bh e h)];exact e⟩
theorem Ext.lst {H:Hp} {p:Addr} {xs:List V} {o:HO} (h:H p=some (.lst xs)):Ext H (upd H p o) :=
 ⟨λb ys e=>by rw[av (pq e h (by intro z;cases z))];exact e,λb o u e=>by rw[av (pq e h (by intro z;cases z))];exact e⟩
theorem Ext.dK {H:Hp} {p:Addr} {xs:List (Key×V)} {o:HO} (h:H p=some (.dK xs)):Ext H (upd H p o) :=
 ⟨λb ys e=>by rw[av (pq e h (by intro z;cases z))];exact e,λb o u e=>by rw[av (pq e h (by intro z;cases z))];exact e⟩
theorem _root_.L2.SqT.ext {K:PySem.W.Frag} {H H':Hp} {a:Addr} {xs:List V} (h:SqT K H a xs) (e:Ext H H'):SqT K H' a xs:=by
 rcases h with(h | ⟨o,h⟩) | h
 ·exact .inl (.inl (e.tups _ _ h))
 ·exact .inl (.inr ⟨o,e.frzs _ _ _ h⟩)
 ·exact .inr h
theorem _root_.L2.FzL.ext {K:PySem.W.Frag} {H H':Hp} {a:Addr} {xs:List V} (h:FzL K H a xs) (e:Ext H H'):FzL K H' a xs:=by
 rcases h with⟨o,h⟩ | h
 ·exact .inl ⟨o,e.frzs _ _ _ h⟩
 ·exact .inr h
section
variable (K : PySem.W.Frag) (ι : List Addr) (H : Hp)
mutual
def IsD:D->V->Prop
 | .non,v=>v=.non
 | .bl b,v=>v=.bl b
 | .int i,v=>v=.int i
 | .str x,v=>v=.str x
 | .tup ds,v=>∃a xs,v=.ref a/\SqT K H a xs/\ai ds xs
 | .lst ds,v=>∃a xs,v=.ref a/\FzL K H a xs/\ai ds xs
 | .loc n,v=>∃a,v=.ref a/\ι[n]? = some a
def ai:List D->List V->Prop
 | [],xs=>xs=[]
 | d::ds,xs=>∃v r,xs=v::r/\IsD d v/\ai ds r
end
end
section
variable {K : PySem.W.Frag} {ι ι' : List Addr} {H H' : Hp}
mutual
theorem IsD.mono (hp:ι <+: ι') (he:Ext H H'):∀(d:D) (v:V),IsD K ι H d v->IsD K ι' H' d v
 | .non,_,h=>by simpa[IsD]using h
 | .bl b,_,h=>by simpa[IsD]using h
 | .int i,_,h=>by simpa[IsD]using h
 | .str x,_,h=>by simpa[IsD]using h
 | .tup ds,v,h=>by
  simp![IsD]at h ⊢
  obtain⟨a,xs,e,q,r⟩:=h
  exact⟨a,xs,e,q.ext he,ai.mono hp he ds xs r⟩
 | .lst ds,v,h=>by
  simp![IsD]at h ⊢
  obtain⟨a,xs,e,q,r⟩:=h
  exact⟨a,xs,e,q.ext he,ai.mono hp he ds xs r⟩
 | .loc n,v,h=>by
  simp![IsD]at h ⊢
  obtain⟨a,e,q⟩:=h
  obtain⟨t,rfl⟩:=hp
  exact⟨a,e,by rw[AN (AI.mp q).1];exact q⟩
theorem ai.mono (hp:ι <+: ι') (he:Ext H H'):∀(ds:List D) (xs:List V),ai K ι H ds xs->ai K ι' H' ds xs
 | [],xs,h=>by simpa[ai]using h
 | d::ds,xs,h=>by
  simp![ai]at h ⊢
  obtain⟨v,r,e,q,t⟩:=h
  exact⟨v,r,e,IsD.mono hp he d v q,ai.mono hp he ds r t⟩
end
theorem ai.length:∀{ds:List D} {xs:List V},ai K ι H ds xs->xs.length=ds.length
 | [],xs,h=>by simp![ai]at h;subst h;rfl
 | d::ds,xs,h=>by
  simp![ai]at h
  obtain⟨v,r,rfl,_,t⟩:=h
  simp[ai.length t]
theorem ai.get:∀{ds:List D} {xs:List V} {i:Nat} {d:D},ai K ι H ds xs->ds[i]? = some d->∃v,xs[i]? = some v/\IsD K ι H d v
 | [],_,_,_,_,e=>by simp at e
 | d::ds,xs,0,_,h,e=>by
  simp![ai]at h
  obtain⟨v,r,rfl,q,_⟩:=h
  simp at e;subst e
  exact⟨v,rfl,q⟩
 | d::ds,xs,i+1,x,h,e=>by
  simp![ai]at h
  obtain⟨v,r,rfl,_,t⟩:=h
  obtain⟨w,h1,h2⟩:=ai.get (i:=i) (d:=x) t (by simpa using e)
  exact⟨w,by simpa using h1,h2⟩
theorem ai.append:∀{ds es:List D} {xs ys:List V},ai K ι H ds xs->ai K ι H es ys->ai K ι H (ds++es) (xs++ys)
 | [],_,_,_,h,g=>by simp![ai]at h;subst h;exact g
 | d::ds,es,xs,ys,h,g=>by
  simp![ai]at h
  obtain⟨v,r,rfl,q,t⟩:=h
  simp![FM,ai]
  exact⟨v,r++ys,rfl,q,ai.append t g⟩
theorem ai.one {d:D} {v:V} (h:IsD K ι H d v):ai K ι H [d] [v]:=by
 simp![ai];exact⟨v,[],rfl,h,rfl⟩
theorem ai.take:∀{ds:List D} {xs:List V} (n:Nat),ai K ι H ds xs->ai K ι H (ds.take n) (xs.take n)
 | _,_,0,_=>by simp[ai]
 | [],_,n+1,h=>by simp![ai]at h;subst h;simp[ai]
 | d::ds,xs,n+1,h=>by
  simp![ai]at h
  obtain⟨v,r,rfl,q,t⟩:=h
  simp![List.take_succ_cons,ai]
  exact⟨v,_,rfl,q,ai.take n t⟩
theorem ai.drop:∀{ds:List D} {xs:List V} (n:Nat),ai K ι H ds xs->ai K ι H (ds.drop n) (xs.drop n)
 | _,_,0,h=>by simpa using h
 | [],_,n+1,h=>by simp![ai]at h;subst h;simp[ai]
 | d::ds,xs,n+1,h=>by
  simp![ai]at h
  obtain⟨v,r,rfl,q,t⟩:=h
  simpa using ai.drop n t
theorem ai.set {d:D} {v:V} (hd:IsD K ι H d v):∀{ds:List D} {xs:List V} (n:Nat),ai K ι H ds xs->ai K ι H (ds.set n d) (xs.set n v)
 | [],_,n,h=>by simp![ai]at h;subst h;simp[ai]
 | e::ds,xs,0,h=>by
  simp![ai]at h
  obtain⟨w,r,rfl,q,t⟩:=h
  simp![FD,ai]
  exact⟨v,r,rfl,hd,t⟩
 | e::ds,xs,n+1,h=>by
  simp![ai]at h
  obtain⟨w,r,rfl,q,t⟩:=h
  simp![GI,ai]
  exact⟨w,_,rfl,q,ai.set hd n t⟩
theorem ai.rep {ds:List D} {xs:List V} (h:ai K ι H ds xs):∀k:Nat,ai K ι H (List.replicate k ds).flatten (List.replicate k xs).flatten
 | 0=>by simp[ai]
 | k+1=>by
  simp![CS,DB]
  exact h.append (ai.rep h k)
theorem ai.ints:∀(ns:List Int),ai K ι H (ns.map D.int) (ns.map V.int)
 | []=>by simp[ai]
 | n::r=>by
  simp![AL,ai]
  exact⟨_,_,rfl,by simp[IsD],ai.ints r⟩
theorem IsD.puren:∀(k:Nat) (d:D) (v:V),D.pureN k d=true->IsD K ι H d v->IsD K ι' H d v:=by
 have list:∀(k:Nat),(∀(d:D) (v:V),D.pureN k d=true->IsD K ι H d v->IsD K ι' H d v) ->
   ∀(ds:List D) (xs:List V),ds.all (D.pureN k)=true->ai K ι H ds xs->ai K ι' H ds xs:=by
  intro k ih ds
  induction ds with
  | nil=>intro xs _ h;simpa[ai]using h
  | cons d ds ihd =>
   intro xs hp h
   simp![ai]at h ⊢
   simp![BO,AU]at hp
   obtain⟨v,r,e,q,t⟩:=h
   exact⟨v,r,e,ih d v hp.1 q,ihd r hp.2 t⟩
 intro k
 induction k with
 | zero =>
  intro d v hp h
  cases d<;>simp_all[D.pureN,IsD]
 | succ k ih =>
  intro d v hp h
  cases d with
  | tup ds =>
   simp![D.pureN]at hp
   simp![IsD]at h ⊢
   obtain⟨a,xs,e,q,r⟩:=h
   exact⟨a,xs,e,q,list k ih ds xs hp r⟩
  | lst ds =>
   simp![D.pureN]at hp
   simp![IsD]at h ⊢
   obtain⟨a,xs,e,q,r⟩:=h
   exact⟨a,xs,e,q,list k ih ds xs hp r⟩
  | loc n=>simp[D.pureN]at hp
  | _=>simpa[IsD]using h
theorem IsD.pur {d:D} {v:V} (hp:d.pure=true) (h:IsD K ι H d v):IsD K ι' H d v:=IsD.puren 8 d v hp h
theorem ai.pur {ds:List D} {xs:List V} (hp:ds.all (D.pureN 8)=true) (h:ai K ι H ds xs):ai K ι' H ds xs:=by
 induction ds generalizing xs with
 | nil=>simpa[ai]using h
 | cons d ds ih =>
  simp![ai]at h ⊢
  simp![BO,AU]at hp
  obtain⟨v,r,e,q,t⟩:=h
  exact⟨v,r,e,IsD.pur hp.1 q,ih hp.2 t⟩
end
section
variable (K : PySem.W.Frag) (ι : List Addr) (H : Hp)
def Wm (kvs:List (D×D)) (xs:List (List Key×V)):Prop :=
 Paired (fun(p:D×D) (q:List Key×V)=>(∃ds,p.1=.tup ds/\ai K [] H ds (q.1.map kV))/\IsD K [] H p.2 q.2) kvs xs
def vt (kvs:List (D×D)) (xs:List (Key×V)):Prop :=
 Paired (fun(p:D×D) (q:Key×V)=>IsD K [] H p.1 (kV q.1)/\IsD K ι H p.2 q.2) kvs xs
abbrev U3 (kvs:List (D×D)) (xs:List (Key×V)):Prop:=vt K [] H kvs xs
def FsD (fs:List (Str×D)) (xs:List (Str×V)):Prop:=Paired (fun(p:Str×D) (q:Str×V)=>p.1=q.1/\IsD K ι H p.2 q.2) fs xs
def OIs (a:Addr):O->Prop
 | .l ds=>∃xs,H a=some (.lst xs)/\ai K [] H ds xs
 | .r ds=>∃xs,H a=some (.lst xs)/\ai K ι H ds xs
 | .d kvs=>∃xs,H a=some (.dK xs)/\U3 K H kvs xs
 | .dt kvs=>∃xs,H a=some (.dT xs)/\Wm K H kvs xs
 | .x c=>∃cls,PySem.W.nsIn K mainGlobals c=some (some cls)/\H a=some (Wc a cls)
 | .o c fs=>∃C dx xs,PySem.W.nsIn K mainGlobals c=some (some (.ref C))/\H a=some (.ins C dx xs)/\FsD K ι H fs xs
 | .dr kvs=>∃xs,H a=some (.dK xs)/\vt K ι H kvs xs
 | .fd kvs=>∃o xs,H a=some (.frz o (.dK xs))/\U3 K H kvs xs
 | .dead=>∃u,H a=some u
structure Sim (μ:Sto):Prop where
 len:ι.length=μ.length
 nd:ι.Nodup
 obj:∀(n:Nat) a o,ι[n]? = some a->μ[n]? = some o->OIs K ι H a o
def lh (σ:Sl) (σv:St):Prop:=∀(i:Nat) d,σ[i]? = some (some d)->∃v,σv[i]? = some (some v)/\IsD K ι H d v
end
section
variable {K : PySem.W.Frag} {ι ι' : List Addr} {H H' : Hp} {μ : Sto} {σ : Sl} {σv : St}
theorem lh.mono (h:lh K ι H σ σv) (hp:ι <+: ι') (he:Ext H H'):lh K ι' H' σ σv:=λi d e=>by
 obtain⟨v,q,r⟩:=h i d e
 exact⟨v,q,IsD.mono hp he d v r⟩
theorem lh.set (h:lh K ι H σ σv) (hl:σ.length=σv.length) {i:Nat} {d:D} {v:V} (hd:IsD K ι H d v):lh K ι H (σ.set i (some d)) (σv.set i (some v)):=λj e q=>by
 by_cases hj:i=j
 ·subst hj
  by_cases hi:i<σ.length
  ·rw[DA hi]at q
   cases q
   exact⟨v,by rw[DA (by lia)],hd⟩
  ·rw[CV (by simp;lia)]at q;cases q
 ·rw[CG hj]at q
  obtain⟨w,q1,q2⟩:=h j e q
  exact⟨w,by rw[CG hj];exact q1,q2⟩
theorem OIs.ne (h:OIs K ι H a o):∃u,H a=some u:=by
 cases o with
 | l ds=>obtain⟨xs,e,_⟩:=h;exact⟨_,e⟩
 | r ds=>obtain⟨xs,e,_⟩:=h;exact⟨_,e⟩
 | d kvs=>obtain⟨xs,e,_⟩:=h;exact⟨_,e⟩
 | dt kvs=>obtain⟨xs,e,_⟩:=h;exact⟨_,e⟩
 | x c=>obtain⟨_,_,e⟩:=h;exact⟨_,e⟩
 | o c fs=>obtain⟨_,_,_,_,e,_⟩:=h;exact⟨_,e⟩
 | dr kvs=>obtain⟨xs,e,_⟩:=h;exact⟨_,e⟩
 | fd kvs=>obtain⟨_,xs,e,_⟩:=h;exact⟨_,e⟩
 | dead=>exact h
theorem OIs.mono {a:Addr} {o:O} (h:OIs K ι H a o) (hp:ι <+: ι') (he:Ext H H') (ha:H' a=H a):OIs K ι' H' a o:=by
 cases o with
 | l ds=>obtain⟨xs,e,q⟩:=h;exact⟨xs,ha.trans e,ai.mono (AE _) he ds xs q⟩
 | r ds=>obtain⟨xs,e,q⟩:=h;exact⟨xs,ha.trans e,ai.mono hp he ds xs q⟩
 | d kvs =>
  obtain⟨xs,e,q⟩:=h
  exact⟨xs,ha.trans e,Paired.mapP q λp r z=>⟨IsD.mono (AE _) he _ _ z.1,IsD.mono (AE _) he _ _ z.2⟩⟩
 | dt kvs =>
  obtain⟨xs,e,q⟩:=h
  exact⟨xs,ha.trans e,Paired.mapP q λp r z=>⟨let ⟨ds,e,t⟩:=z.1;⟨ds,e,ai.mono (AE _) he _ _ t⟩,IsD.mono (AE _) he _ _ z.2⟩⟩
 | x c=>obtain⟨k,q,e⟩:=h;exact⟨k,q,ha.trans e⟩
 | o c fs=>obtain⟨C,dx,xs,n,e,q⟩:=h;exact⟨C,dx,xs,n,ha.trans e,Paired.mapP q λp r z=>⟨z.1,IsD.mono hp he _ _ z.2⟩⟩
 | dr kvs =>
  obtain⟨xs,e,q⟩:=h
  exact⟨xs,ha.trans e,Paired.mapP q λp r z=>⟨IsD.mono (AE _) he _ _ z.1,IsD.mono hp he _ _ z.2⟩⟩
 | fd kvs =>
  obtain⟨o,xs,e,q⟩:=h
  exact⟨o,xs,ha.trans e,Paired.mapP q λp r z=>⟨IsD.mono (AE _) he _ _ z.1,IsD.mono (AE _) he _ _ z.2⟩⟩
 | dead=>obtain⟨u,e⟩:=h;exact⟨u,ha.trans e⟩
theorem Sim.at (h:Sim K ι H μ) {n:Nat} {o:O} (e:μ[n]? = some o):∃a,ι[n]? = some a/\OIs K ι H a o:=by
 have hn:n<ι.length:=by rw[h.len];exact(AI.mp e).1
 exact⟨ι[n],AA hn,h.obj n _ o (AA hn) e⟩
theorem Sim.used (h:Sim K ι H μ) {n:Nat} {a:Addr} (e:ι[n]? = some a):∃u,H a=some u:=by
 have hn:n<μ.length:=by rw[<-h.len];exact(AI.mp e).1
 exact(h.obj n a _ e (AA hn)).ne
theorem Sim.new (h:Sim K ι H μ) {p:Addr} {o:HO} (hp:H p=none):Sim K ι (upd H p o) μ :=
 ⟨h.len,h.nd,λn a ob e1 e2=>by
  obtain⟨u,hu⟩:=h.used e1
  exact(h.obj n a ob e1 e2).mono (AE _) (.new hp) (av (bh hu hp))⟩
theorem Sim.push (h:Sim K ι H μ) {p:Addr} {u:HO} {o:O} (hp:H p=none) (ho:OIs K (ι++[p]) (upd H p u) p o):Sim K (ι++[p]) (upd H p u) (μ++[o]):=by
 have hne:∀a∈ι,a≠p:=λa ha z=>by
  obtain⟨n,hn,e⟩:=CH.mp ha
  obtain⟨u,hu⟩:=h.used (n:=n) (by rw[AA hn,e])
  rw[z,hp]at hu;cases hu
 refine⟨by simp[h.len],?_,λn a ob e1 e2=>?_⟩
 ·refine List.nodup_append.mpr ⟨h.nd,by simp,?_⟩
  intro a ha b hb
  have:b=p:=by simpa using hb
  subst this
  exact hne a ha
 ·by_cases hn:n<ι.length
  ·rw[AN hn]at e1
   rw[AN (by rw[<-h.len];exact hn)]at e2
   exact(h.obj n a ob e1 e2).mono ⟨[p],rfl⟩ (.new hp) (av (hne a (CK e1)))
  ·have hm:n=ι.length:=by
    have:=(AI.mp e1).1
    simp at this;lia
   subst hm
   simp at e1
   rw[h.len]at e2
   simp at e2
   subst e1;subst e2
   exact ho
theorem Sim.put (h:Sim K ι H μ) {n:Nat} {p:Addr} {u:HO} {o:O} (hn:ι[n]? = some p) (he:Ext H (upd H p u)) (ho:OIs K ι (upd H p u) p o):Sim K ι (upd H p u) (μ.set n o):=by
 refine⟨by simp[h.len],h.nd,λk a ob e1 e2=>?_⟩
 by_cases hk:n=k
 ·subst hk
  rw[hn]at e1;cases e1
  have:n<μ.length:=by rw[<-h.len];exact(AI.mp hn).1
  rw[DA this]at e2;cases e2
  exact ho
 ·rw[CG hk]at e2
  refine(h.obj k a ob e1 e2).mono (AE _) he (av λz=>hk ?_)
  subst z
  obtain⟨h1,e1'⟩:=AI.mp e1
  obtain⟨h2,e2'⟩:=AI.mp hn
  exact(List.getElem_inj h.nd).mp (e2'.trans e1'.symm)
end
def fj {α β:Type} (K:PySem.W.Frag) (R:List Addr->Hp->α->β->Prop) (ι:List Addr) (H:Hp) (r:Res α) (Q:β->Hp->Prop):Prop:=match r with
 | .ok d μ'=>∀ι' v H',ι <+: ι'->Ext H H'->Sim K ι' H' μ'->R ι' H' d v->Q v H'
 | .exc _ _ _=>False
 | .stuck=>False
abbrev RD (K:PySem.W.Frag):List Addr->Hp->D->V->Prop:=λι H d v=>IsD K ι H d v
abbrev RDs (K:PySem.W.Frag):List Addr->Hp->List D->List V->Prop:=λι H d v=>ai K ι H d v
abbrev RB:List Addr->Hp->Bool->Bool->Prop:=λ_ _ d v=>d=v
abbrev RO:List Addr->Hp->Option Int->Option Int->Prop:=λ_ _ d v=>d=v
section
variable {α β γ δ : Type} {K : PySem.W.Frag} {R : List Addr -> Hp -> α -> β -> Prop} {S : List Addr -> Hp -> γ -> δ -> Prop} {ι ι' : List Addr} {H H' : Hp}
theorem fj.mono {r:Res α} {Q:β->Hp->Prop} (h:fj K R ι H r Q) (hp:ι <+: ι') (he:Ext H H'):fj K R ι' H' r Q:=by
 cases r with
 | ok d μ=>exact λι2 v H2 p e s q=>h ι2 v H2 (hp.trans p) (he.trans e) s q
 | exc _ _ _=>exact h
 | stuck=>exact h
theorem fj.imp {r:Res α} {Q Q':β->Hp->Prop} (h:fj K R ι H r Q) (hq:∀v H',Q v H'->Q' v H'):fj K R ι H r Q':=by
 cases r with
 | ok d μ=>exact λι2 v H2 p e s q=>hq _ _ (h ι2 v H2 p e s q)
 | exc _ _ _=>exact h
 | stuck=>exact h
theorem fj.ok {d:α} {μ:Sto} {v:β} {Q:β->Hp->Prop} (h:fj K R ι H (.ok d μ) Q) (hs:Sim K ι H μ) (hr:R ι H d v):Q v H:=h ι v H (AE _) (.refl _) hs hr
theorem fj.bind {x:Res α} {f:α->Sto->Res γ} {Q:δ->Hp->Prop} (h:fj K S ι H (x.bind f) Q) :
  ∃d μ1,x=.ok d μ1/\fj K S ι H (f d μ1) Q:=by
 cases x with
 | ok d μ=>exact⟨d,μ,rfl,h⟩
 | exc _ _ _=>exact h.elim
 | stuck=>exact h.elim
end
def tE (K:PySem.W.Frag) (φ:Phi) (x:Ex):TE:=λσv H Q=>∃ι σ μ,Sim K ι H μ/\lh K ι H σ σv/\fj K (RD K) ι H (evE φ x σ μ) Q
def tEs (K:PySem.W.Frag) (φ:Phi) (x:Exs):TA:=λσv H Q=>∃ι σ μ,Sim K ι H μ/\lh K ι H σ σv/\fj K (RDs K) ι H (fi φ x σ μ) Q
def tEo (K:PySem.W.Frag) (φ:Phi) (x:ExO):TO:=λσv H Q=>∃ι σ μ,Sim K ι H μ/\lh K ι H σ σv/\fj K RO ι H (evO φ x σ μ) Q
def tT (K:PySem.W.Frag) (φ:Phi) (x:Ex):TT:=λσv H Q=>∃ι σ μ,Sim K ι H μ/\lh K ι H σ σv/\fj K RB ι H ((evE φ x σ μ).bind λd μ=>Ob d μ) Q
theorem PE.imp {X:Cx} {e:Expr} {t t':TE} (h:PE X e t) (i:∀σ H Q,t' σ H Q->t σ H Q):PE X e t':=λpins s σ H Q I q=>h pins s σ H Q I (i σ H Q q)
theorem PA.imp {X:Cx} {e:List Expr} {t t':TA} (h:PA X e t) (i:∀σ H Q,t' σ H Q->t σ H Q):PA X e t':=λpos pins s σ H Q I q=>h pos pins s σ H Q I (i σ H Q q)
theorem PT.imp {X:Cx} {e:Expr} {t t':TT} (h:PT X e t) (i:∀σ H Q,t' σ H Q->t σ H Q):PT X e t':=λpins s σ H Q I q=>h pins s σ H Q I (i σ H Q q)
theorem PW.imp {X:Cx} {e:Expr} {t t':TT} (h:PW X e t) (i:∀σ H Q,t' σ H Q->t σ H Q):PW X e t':=λwh pins s σ H Q I q=>h wh pins s σ H Q I (i σ H Q q)
section
variable {X : Cx} {φ : Phi} {a b c : Expr} {xa xb xc : Ex} {pos : Pos}
theorem Sw {i:Nat} {x:Str} (hN:X.N[i]? = some x) (hv:Vis X.env.scope x) (hd:(x==("__debug__":Str))=false) (hcd:(x==("__classdict__":Str))=false):PE X (.Name x pos) (tE X.K φ (.var i)) :=
 PE.imp (Bc hN hv hd hcd) λσv H Q ⟨ι,σ,μ,hS,hL,h⟩=>by
  simp![evE]at h
  split at h
  ·rename_i d e
   obtain⟨v,e1,e2⟩:=hL i d e
   exact⟨v,e1,h.ok hS e2⟩
  ·exact h.elim
theorem Sx {i:Int} {j:Nat}:PE X (.Constant (.int i) j pos) (tE X.K φ (.cst (.int i))) :=
 PE.imp Mx λσv H Q ⟨ι,σ,μ,hS,hL,h⟩=>by simp![evE]at h;exact h.ok hS (by simp[IsD])
theorem Wn {i:Bool} {j:Nat}:PE X (.Constant (.bool i) j pos) (tE X.K φ (.cst (.bl i))) :=
 PE.imp Rq λσv H Q ⟨ι,σ,μ,hS,hL,h⟩=>by simp![evE]at h;exact h.ok hS (by simp[IsD])
theorem Sy {i:Str} {j:Nat}:PE X (.Constant (.str i) j pos) (tE X.K φ (.cst (.str i))) :=
 PE.imp My λσv H Q ⟨ι,σ,μ,hS,hL,h⟩=>by simp![evE]at h;exact h.ok hS (by simp[IsD])
theorem two {σv:St} {H:Hp} {ι:List Addr} {σ:Sl} {μ:Sto} {f:D->D->Sto->Res D} {Q:VK} {R:V->V->Hp->Prop} (hS:Sim X.K ι H μ) (hL:lh X.K ι H σ σv)
  (h:fj X.K (RD X.K) ι H ((evE φ xa σ μ).bind λx μ=>(evE φ xb σ μ).bind λy μ=>f x y μ) Q)
  (k:∀ι' H' d e x y μ',Sim X.K ι' H' μ'->IsD X.K ι' H' d x->IsD X.K ι' H' e y->fj X.K (RD X.K) ι' H' (f d e μ') Q->R x y H') :
  tE X.K φ xa σv H λx H1=>tE X.K φ xb σv H1 λy H2=>R x y H2:=by
 obtain⟨d,μ1,e1,h⟩:=h.bind
 refine⟨ι,σ,μ,hS,hL,?_⟩
 rw[e1]
 intro ι1 x H1 p1 x1 s1 d1
 obtain⟨e,μ2,e2,h⟩:=h.bind
 refine⟨ι1,σ,μ1,s1,hL.mono p1 x1,?_⟩
 rw[e2]
 intro ι2 y H2 p2 x2 s2 d2
 exact k ι2 H2 d e x y μ2 s2 (IsD.mono p2 x2 d x d1) d2 (h.mono (p1.trans p2) (x1.trans x2))
def rOp (K:PySem.W.Frag) (f:D->D->Sto->Res D):R2:=λx y H Q=>∃ι d e μ,Sim K ι H μ/\IsD K ι H d x/\IsD K ι H e y/\fj K (RD K) ι H (f d e μ) Q
theorem Sz {op:Operator} {m:Mk} (ho:OpR X (binaryOp op) (rOp X.K (opD op m))) (ha:PE X a (tE X.K φ xa)) (hb:PE X b (tE X.K φ xb)):PE X (.BinOp a op b pos) (tE X.K φ (.bin op m xa xb)) :=
 PE.imp (R0 ho ha hb) λσv H Q ⟨ι,σ,μ,hS,hL,h⟩=>by
  simp![evE]at h
  exact two hS hL h λι' H' d e x y μ' s d1 d2 p=>⟨ι',d,e,μ',s,d1,d2,p⟩
theorem Wo (ho:IxR X (rOp X.K ixD)) (ha:PE X a (tE X.K φ xa)) (hb:PE X b (tE X.K φ xb)) (hs:vo b):PE X (.Subscript a b pos) (tE X.K φ (.ix xa xb)) :=
 PE.imp (Sd ho ha hb hs) λσv H Q ⟨ι,σ,μ,hS,hL,h⟩=>by
  simp![evE]at h
  exact two hS hL h λι' H' d e x y μ' s d1 d2 p=>⟨ι',d,e,μ',s,d1,d2,p⟩
theorem Fn:PA X [] (tEs X.K φ .nil) :=
 PA.imp Hf λσv H Q ⟨ι,σ,μ,hS,hL,h⟩=>by simp![fi]at h;exact h.ok hS (by simp[ai])
theorem t8 {es:List Expr} {xs:Exs} (ha:PE X a (tE X.K φ xa)) (hb:PA X es (tEs X.K φ xs)) (hs:starEach (a::es) X.env=(false,eval a X.env)::starEach es X.env):PA X (a::es) (tEs X.K φ (.cons xa xs)) :=
 PA.imp (vm ha hb hs) λσv H Q ⟨ι,σ,μ,hS,hL,h⟩=>by
  simp![fi]at h
  obtain⟨d,μ1,e1,h⟩:=h.bind
  refine⟨ι,σ,μ,hS,hL,?_⟩
  rw[e1]
  intro ι1 x H1 p1 x1 s1 d1
  obtain⟨e,μ2,e2,h⟩:=h.bind
  refine⟨ι1,σ,μ1,s1,hL.mono p1 x1,?_⟩
  rw[e2]
  intro ι2 y H2 p2 x2 s2 d2
  refine h ι2 (x::y) H2 (p1.trans p2) (x1.trans x2) s2 ?_
  show ai _ _ _ _ _
  simp![ai]
  exact⟨x,y,rfl,IsD.mono p2 x2 d x d1,d2⟩
theorem S0 {es:List Expr} {xs:Exs} {k:Nat} (h:PA X es (tEs X.K φ xs)) (hl:∀σ μ ds μ',fi φ xs σ μ=.ok ds μ'->ds.length<=sizeLine):PE X (.Tuple es k pos) (tE X.K φ (.tup xs)) :=
 PE.imp (Ni h) λσv H Q ⟨ι,σ,μ,hS,hL,h⟩=>by
  simp![evE]at h
  obtain⟨ds,μ1,e1,h⟩:=h.bind
  refine⟨ι,σ,μ,hS,hL,?_⟩
  rw[e1]
  intro ι1 vs H1 p1 x1 s1 d1
  have hd:ai X.K ι1 H1 ds vs:=d1
  refine⟨by rw[hd.length];exact hl σ μ ds μ1 e1,λp hp=>?_⟩
  refine h ι1 (.ref p) (upd H1 p (.tup vs)) p1 (x1.trans (.new hp)) (s1.new hp) ?_
  show IsD _ _ _ _ _
  simp![IsD]
  exact⟨p,vs,rfl,.of bf,ai.mono (AE _) (.new hp) ds vs d1⟩
theorem S4 {x:Ex} {σv:St} {H:Hp} {Q:Bool->Hp->Prop} (h:tT X.K φ x σv H Q):tE X.K φ x σv H λv H'=>∃k,v=.bl k/\Q k H':=by
 obtain⟨ι,σ,μ,hS,hL,h⟩:=h
 obtain⟨d,μ1,e1,h⟩:=h.bind
 refine⟨ι,σ,μ,hS,hL,?_⟩
 rw[e1]
 intro ι1 x H1 p1 x1 s1 d1
 cases d with
 | bl k=>exact⟨k,by simpa[IsD]using d1,h ι1 k H1 p1 x1 s1 rfl⟩
 | _=>exact h.elim
theorem Kv {x:Ex} (ha:PE X a (tE X.K φ x)) (he:∀whole,isTrue a X.env whole=(do let v <-whole;standAt a.pos;holding [v] (truthy v))):PT X a (tT X.K φ x) :=
 PT.imp (Fd ha he) λσv H Q h=>by
  have q:=S4 h
  obtain⟨ι,σ,μ,hS,hL,q⟩:=q
  exact⟨ι,σ,μ,hS,hL,q.imp λv H' ⟨k,e,z⟩=>⟨k,by subst e;exact rfl,z⟩⟩
theorem Oc (ha:PT X a (tT X.K φ xa)):PT X (.UnaryOp .Not a pos) (tT X.K φ (.not xa)) :=
 PT.imp (M3 ha) λσv H Q ⟨ι,σ,μ,hS,hL,h⟩=>by
  simp![evE]at h
  rw[Res.bind_assoc]at h
  obtain⟨d,μ1,e1,h⟩:=h.bind
  refine⟨ι,σ,μ,hS,hL,?_⟩
  rw[e1]
  cases d with
  | bl k=>exact λι1 x H1 p1 x1 s1 d1=>h ι1 (!x) H1 p1 x1 s1 (by cases d1;rfl)
  | _=>exact h.elim
theorem Od (ha:PE X a (tE X.K φ xa)):PE X (.UnaryOp .Not a pos) (tE X.K φ (.not xa)) :=
 PE.imp (M6 ha) λσv H Q ⟨ι,σ,μ,hS,hL,h⟩=>by
  simp![evE]at h
  obtain⟨d,μ1,e1,h⟩:=h.bind
  refine⟨ι,σ,μ,hS,hL,?_⟩
  rw[e1]
  intro ι1 x H1 p1 x1 s1 d1
  cases d with
  | bl k=>exact⟨k,by simpa[IsD]using d1,h ι1 (.bl !k) H1 p1 x1 s1 (by simp[IsD])⟩
  | _=>exact h.elim
theorem Oe {rest:List Expr} (ha:PE X a (tE X.K φ xa)) (hb:PE X (.BoolOp .And (b::rest) pos) (tE X.K φ xb)):PE X (.BoolOp .And (a::b::rest) pos) (tE X.K φ (.and xa xb)) :=
 PE.imp (M5 ha hb) λσv H Q ⟨ι,σ,μ,hS,hL,h⟩=>by
  simp![evE]at h
  obtain⟨d,μ1,e1,h⟩:=h.bind
  refine⟨ι,σ,μ,hS,hL,?_⟩
  rw[e1]
  intro ι1 x H1 p1 x1 s1 d1
  cases d with
  | bl k =>
   refine⟨k,by simpa[IsD]using d1,?_⟩
   cases k with
   | true=>exact⟨ι1,σ,μ1,s1,hL.mono p1 x1,(show fj _ _ _ _ (evE φ xb σ μ1) _ from h).mono p1 x1⟩
   | false=>exact h ι1 (.bl false) H1 p1 x1 s1 (by simp[IsD])
  | _=>exact h.elim
theorem Of {rest:List Expr} (ha:PT X a (tT X.K φ xa)) (hb:PW X (.BoolOp .And (b::rest) pos) (tT X.K φ xb)):PW X (.BoolOp .And (a::b::rest) pos) (tT X.K φ (.and xa xb)) :=
 PW.imp (M1 ha hb) λσv H Q ⟨ι,σ,μ,hS,hL,h⟩=>by
  simp![evE]at h
  rw[Res.bind_assoc]at h
  obtain⟨d,μ1,e1,h⟩:=h.bind
  refine⟨ι,σ,μ,hS,hL,?_⟩
  rw[e1]
  cases d with
  | bl k =>
   intro ι1 x H1 p1 x1 s1 d1
   cases d1
   cases k with
   | true=>exact⟨ι1,σ,μ1,s1,hL.mono p1 x1,(show fj _ _ _ _ ((evE φ xb σ μ1).bind _) _ from h).mono p1 x1⟩
   | false=>exact h ι1 false H1 p1 x1 s1 rfl
  | _=>exact h.elim
theorem S5 {rest:List Expr} (ha:PT X a (tT X.K φ xa)) (hb:PW X (.BoolOp .Or (b::rest) pos) (tT X.K φ xb)):PW X (.BoolOp .Or (a::b::rest) pos) (tT X.K φ (.or xa xb)) :=
 PW.imp (Rr ha hb) λσv H Q ⟨ι,σ,μ,hS,hL,h⟩=>by
  simp![evE]at h
  rw[Res.bind_assoc]at h
  obtain⟨d,μ1,e1,h⟩:=h.bind
  refine⟨ι,σ,μ,hS,hL,?_⟩
  rw[e1]
  cases d with
  | bl k =>
   intro ι1 x H1 p1 x1 s1 d1
   cases d1
   cases k with
   | true=>exact h ι1 true H1 p1 x1 s1 rfl
   | false=>exact⟨ι1,σ,μ1,s1,hL.mono p1 x1,(show fj _ _ _ _ ((evE φ xb σ μ1).bind _) _ from h).mono p1 x1⟩
  | _=>exact h.elim
theorem S6 (hc:PT X c (tT X.K φ xc)) (ha:PE X a (tE X.K φ xa)) (hb:PE X b (tE X.K φ xb)):PE X (.IfExp c a b pos) (tE X.K φ (.ite xc xa xb)) :=
 PE.imp (E9 hc ha hb) λσv H Q ⟨ι,σ,μ,hS,hL,h⟩=>by
  simp![evE]at h
  obtain⟨d,μ1,e1,h⟩:=h.bind
  refine⟨ι,σ,μ,hS,hL,?_⟩
  rw[e1]
  cases d with
  | bl k =>
   intro ι1 x H1 p1 x1 s1 d1
   cases d1
   cases k with
   | true=>exact⟨ι1,σ,μ1,s1,hL.mono p1 x1,(show fj _ _ _ _ (evE φ xa σ μ1) _ from h).mono p1 x1⟩
   | false=>exact⟨ι1,σ,μ1,s1,hL.mono p1 x1,(show fj _ _ _ _ (evE φ xb σ μ1) _ from h).mono p1 x1⟩
  | _=>exact h.elim
end
def jd (K:PySem.W.Frag) (ι:List Addr) (H:Hp) (r:Res Fl) (E:Ends):Prop:=match r with
 | .ok (.nx σ') μ'=>∀ι' σv H',ι <+: ι'->Ext H H'->Sim K ι' H' μ'->lh K ι' H' σ' σv->σ'.length=σv.length->E.nx σv H'
 | .ok (.bk σ') μ'=>∀ι' σv H',ι <+: ι'->Ext H H'->Sim K ι' H' μ'->lh K ι' H' σ' σv->σ'.length=σv.length->E.bk σv H'
 | .ok (.ct σ') μ'=>∀ι' σv H',ι <+: ι'->Ext H H'->Sim K ι' H' μ'->lh K ι' H' σ' σv->σ'.length=σv.length->E.ct σv H'
 | .ok (.rt d) μ'=>∀ι' v H',ι <+: ι'->Ext H H'->Sim K ι' H' μ'->IsD K ι' H' d v->E.rt v H'
 | .exc _ _ _=>False
 | .stuck=>False
theorem jd.mono {K:PySem.W.Frag} {ι ι':List Addr} {H H':Hp} {r:Res Fl} {E:Ends} (h:jd K ι H r E) (hp:ι <+: ι') (he:Ext H H'):jd K ι' H' r E:=by
 cases r with
 | ok f μ=>cases f<;>exact λι2 v H2 p e=>h ι2 v H2 (hp.trans p) (he.trans e)
 | exc _ _ _=>exact h
 | stuck=>exact h
theorem jd.bind {α:Type} {K:PySem.W.Frag} {ι:List Addr} {H:Hp} {E:Ends} {x:Res α} {f:α->Sto->Res Fl} (h:jd K ι H (x.bind f) E):∃d μ1,x=.ok d μ1/\jd K ι H (f d μ1) E:=by
 cases x with
 | ok d μ=>exact⟨d,μ,rfl,h⟩
 | exc _ _ _=>exact h.elim
 | stuck=>exact h.elim
def tS (K:PySem.W.Frag) (φ:Phi) (x:Sm):TS:=λE σv H=>∃ι σ μ,Sim K ι H μ/\lh K ι H σ σv/\σ.length=σv.length/\jd K ι H (evS φ x σ μ) E
def tSs (K:PySem.W.Frag) (φ:Phi) (x:Sms):TS:=λE σv H=>∃ι σ μ,Sim K ι H μ/\lh K ι H σ σv/\σ.length=σv.length/\jd K ι H (kj φ x σ μ) E
theorem PS.imp {X:Cx} {e:Stmt} {t t':TS} (h:PS X e t) (i:∀E σ H,t' E σ H->t E σ H):PS X e t':=λpins s σ H E I q=>h pins s σ H E I (i E σ H q)
theorem PSs.imp {X:Cx} {e:List Stmt} {t t':TS} (h:PSs X e t) (i:∀E σ H,t' E σ H->t E σ H):PSs X e t':=λpins s σ H E I q=>h pins s σ H E I (i E σ H q)
section
variable {X : Cx} {φ : Phi} {e : Expr} {x : Ex} {pos : Pos} {s : Stmt} {ss : List Stmt} {xs : Sm} {xss : Sms}
theorem S7:PSs X [] (tSs X.K φ .nil) :=
 PSs.imp J1 λE σv H ⟨ι,σ,μ,hS,hL,hl,h⟩=>by
  simp![kj]at h
  exact h ι σv H (AE _) (.refl _) hS hL hl
theorem Og (h1:PS X s (tS X.K φ xs)) (h2:PSs X ss (tSs X.K φ xss)):PSs X (s::ss) (tSs X.K φ (.cons xs xss)) :=
 PSs.imp (Fb h1 h2) λE σv H ⟨ι,σ,μ,hS,hL,hl,h⟩=>by
  simp![kj]at h
  refine⟨ι,σ,μ,hS,hL,hl,?_⟩
  obtain⟨f,μ1,e1,h⟩:=h.bind
  rw[e1]
  cases f with
  | nx σ'=>exact λι1 σ1 H1 p1 x1 s1 l1 z1=>⟨ι1,σ',μ1,s1,l1,z1,(show jd _ _ _ (kj φ xss σ' μ1) _ from h).mono p1 x1⟩
  | rt d=>exact h
  | bk σ'=>exact h
  | ct σ'=>exact h
theorem Oh (he:PE X e (tE X.K φ x)) (hs:swapsWith e none pos.line X.env=pure false):PS X (.Expr e pos) (tS X.K φ (.ex x)) :=
 PS.imp (J2 he hs) λE σv H ⟨ι,σ,μ,hS,hL,hl,h⟩=>by
  simp![evS]at h
  obtain⟨d,μ1,e1,h⟩:=h.bind
  refine⟨ι,σ,μ,hS,hL,?_⟩
  rw[e1]
  exact λι1 v H1 p1 x1 s1 d1=>h ι1 σv H1 p1 x1 s1 (hL.mono p1 x1) hl
theorem S8 (he:PE X e (tE X.K φ x)):PS X (.Return (some e) pos) (tS X.K φ (.ret x)) :=
 PS.imp (M7 he) λE σv H ⟨ι,σ,μ,hS,hL,hl,h⟩=>by
  simp![evS]at h
  obtain⟨d,μ1,e1,h⟩:=h.bind
  refine⟨ι,σ,μ,hS,hL,?_⟩
  rw[e1]
  exact h
theorem Wp {c:Expr} {xc:Ex} {a b:List Stmt} {xa xb:Sms} (hc:PT X c (tT X.K φ xc)) (ha:PSs X a (tSs X.K φ xa)) (hb:PSs X b (tSs X.K φ xb)):PS X (.If c a b pos) (tS X.K φ (.ite xc xa xb)) :=
 PS.imp (Rw hc ha hb) λE σv H ⟨ι,σ,μ,hS,hL,hl,h⟩=>by
  simp![evS]at h
  obtain⟨d,μ1,e1,h⟩:=h.bind
  refine⟨ι,σ,μ,hS,hL,?_⟩
  rw[e1]
  cases d with
  | bl k =>
   intro ι1 x H1 p1 x1 s1 d1
   cases d1
   cases k with
   | true=>exact⟨ι1,σ,μ1,s1,hL.mono p1 x1,hl,(show jd _ _ _ (kj φ xa σ μ1) _ from h).mono p1 x1⟩
   | false=>exact⟨ι1,σ,μ1,s1,hL.mono p1 x1,hl,(show jd _ _ _ (kj φ xb σ μ1) _ from h).mono p1 x1⟩
  | _=>exact h.elim
def slots:Tg->List Nat
 | .one i=>[i]
 | .many is=>is
def tG (K:PySem.W.Frag) (tg:Tg):TG:=λv σv H Q=>∃ι σ d σ',lh K ι H σ σv/\σ.length=σv.length/\IsD K ι H d v/\d7 tg d σ=some σ' /\
 ∀σv',lh K ι H σ' σv'->σ'.length=σv'.length->σv'.length=σv.length->(∀j,j∉slots tg->σv'[j]? = σv[j]?)->Q σv' H
theorem PG.imp {e:Expr} {t t':TG} (h:PG X e t) (i:∀v σ H Q,t' v σ H Q->t v σ H Q):PG X e t':=by
 intro pins s σ H x u Q I r q
 exact h pins s σ H x u Q I r (i _ _ _ _ q)
theorem Oi {i:Nat} {y:Str} (hN:X.N.Nodup) (hi:X.N[i]? = some y) (hx:Loc X.env.scope y) (hf:X.fn y=true\/X.env.scope.names.lookup y=some .local):PG X (.Name y pos) (tG X.K (.one i)) :=
 PG.imp (Be hN hi hx hf) λv σv H Q ⟨ι,σ,d,σ',hL,hl,hd,hb,q⟩=>by
  simp![d7,BV]at hb
  subst hb
  exact q _ (hL.set hl hd) (by simp[hl]) (by simp) λj hj=>CG (λz=>hj (by simp[slots,z]))
def tGs (K:PySem.W.Frag) (is:List Nat):TGs:=λvs σv H Q=>∃ι σ ds,lh K ι H σ σv/\σ.length=σv.length/\ai K ι H ds vs/\ds.length=is.length /\
 ∀σv',lh K ι H ((is.zip ds).foldl (λs p=>s.set p.1 (some p.2)) σ) σv'->((is.zip ds).foldl (λs p=>s.set p.1 (some p.2)) σ).length=σv'.length->σv'.length=σv.length->(∀j,j∉is->σv'[j]? = σv[j]?)->Q σv' H
theorem PGs.imp {es:List Expr} {t t':TGs} (h:PGs X es t) (i:∀v σ H Q,t' v σ H Q->t v σ H Q):PGs X es t':=by
 intro pins s σ H vs us Q I r q
 exact h pins s σ H vs us Q I r (i _ _ _ _ q)
theorem Oj:PGs X [] (tGs X.K []) :=
 PGs.imp J4 λvs σv H Q ⟨ι,σ,ds,hL,hl,hd,hn,q⟩=>by
  have e:ds=[]:=List.length_eq_zero_iff.mp hn
  subst e
  exact⟨by simpa[ai]using hd,q σv (by simpa using hL) (by simpa using hl) rfl λ_ _=>rfl⟩
theorem Kw {i:Nat} {is:List Nat} {es:List Expr} (h1:PG X e (J3 i)) (h2:PGs X es (tGs X.K is)) (hs:(assignEach (e::es) X.env).map (·.2)=assign e X.env::(assignEach es X.env).map (·.2)):PGs X (e::es) (tGs X.K (i::is)) :=
 PGs.imp (Fc h1 h2 hs) λvs σv H Q ⟨ι,σ,ds,hL,hl,hd,hn,q⟩=>by
  cases ds with
  | nil=>simp at hn
  | cons d ds =>
   simp![ai]at hd
   obtain⟨v,r,e,hd1,hd2⟩:=hd
   refine⟨v,r,e,ι,σ.set i (some d),ds,hL.set hl hd1,by simp[hl],hd2,by simpa using hn,λσv' l z z2 ks=>q σv' (by simpa using l) (by simpa using z) (by simpa using z2) λj hj=>?_⟩
   have hj':j≠i/\j∉is:=by simpa using hj
   rw[ks j hj'.2,CG (Ne.symm hj'.1)]
theorem S9 {is:List Nat} {es:List Expr} {k:Nat} (hc:X.calm=true) (h:PGs X es (tGs X.K is)) (hn:(assignEach es X.env).length=is.length) (hst:(assignEach es X.env).findIdx? (·.1)=none) :
  PG X (.Tuple es k pos) (tG X.K (.many is)) :=
 PG.imp (M8 hc h hn hst) λv σv H Q ⟨ι,σ,d,σ',hL,hl,hd,hb,q⟩=>by
  cases d with
  | tup ds =>
   simp![d7]at hb
   split at hb
   ·rename_i hlen
    cases hb
    simp![IsD]at hd
    obtain⟨a,xs,e,hq,hds⟩:=hd
    exact⟨a,xs,e,hq,hds.length.trans hlen,ι,σ,ds,hL,hl,hds,hlen,q⟩
   ·cases hb
  | _=>simp[d7]at hb
theorem Ta {i:Nat} {y:Str} {pos':Pos} (hN:X.N.Nodup) (hi:X.N[i]? = some y) (hx:Loc X.env.scope y) (hf:X.fn y=true\/X.env.scope.names.lookup y=some .local) (he:PE X e (tE X.K φ x)) (hs:swapsWith e (some (.Name y pos')) pos.line X.env=pure false) :
  PS X (.Assign [.Name y pos'] e pos) (tS X.K φ (.set i x)) :=
 PS.imp (Na hN hi hx he hs hf) λE σv H ⟨ι,σ,μ,hS,hL,hl,h⟩=>by
  simp![evS]at h
  obtain⟨d,μ1,e1,h⟩:=h.bind
  refine⟨ι,σ,μ,hS,hL,?_⟩
  rw[e1]
  exact λι1 v H1 p1 x1 s1 d1=>h ι1 _ H1 p1 x1 s1 ((hL.mono p1 x1).set hl d1) (by simp[hl])
theorem Tb {is:List Nat} {tg:Expr} (hg:PG X tg (tG X.K (.many is))) (he:PE X e (tE X.K φ x)) (hs:swapsWithSole [tg] e pos.line X.env=pure false) (hw:swappedStores [tg] e X.env=pure none)
  (h1:(assignEach [tg] X.env).map (·.2)=[assign tg X.env]):PS X (.Assign [tg] e pos) (tS X.K φ (.unp is x)) :=
 PS.imp (Hd he hg hs hw h1) λE σv H ⟨ι,σ,μ,hS,hL,hl,h⟩=>by
  simp![evS]at h
  obtain⟨d,μ1,e1,h⟩:=h.bind
  refine⟨ι,σ,μ,hS,hL,?_⟩
  rw[e1]
  intro ι1 v H1 p1 x1 s1 d1
  split at h
  ·rename_i σ' eb
   exact⟨ι1,σ,d,σ',hL.mono p1 x1,hl,d1,eb,λσv' l z _ _=>h ι1 σv' H1 p1 x1 s1 l z⟩
  ·exact h.elim
def U4 (K:PySem.W.Frag):TSet:=λo i v H Q=>∃ι a b d μ,Sim K ι H μ/\IsD K ι H a o/\IsD K ι H b i/\IsD K ι H d v/\fj K (λ_ _ _ (_:Unit)=>True) ι H (E5 a b d μ) λ_ H'=>Q H'
theorem Ol {o i:Expr} {xo xi:Ex} {tp:Pos} (hset:Rb X (U4 X.K)) (ho:PE X o (tE X.K φ xo)) (hi:PE X i (tE X.K φ xi)) (he:PE X e (tE X.K φ x))
  (ha:∀v,assign (.Subscript o i tp) X.env v=(do
   let ov <-holding [v] (eval o X.env)
   let iv <-holding [v,ov] (eval i X.env)
   standAt tp
   holding [v,ov,iv] (setItem ov iv v)
   release [v,ov,iv] [])) (hs:swapsWithSole [.Subscript o i tp] e pos.line X.env=pure false) (hw:swappedStores [.Subscript o i tp] e X.env=pure none)
  (h1:(assignEach [.Subscript o i tp] X.env).map (·.2)=[assign (.Subscript o i tp) X.env]):PS X (.Assign [.Subscript o i tp] e pos) (tS X.K φ (.setx xo xi x)) :=
 PS.imp (Hd he (M9 ho hi hset ha) hs hw h1) λE σv H ⟨ι,σ,μ,hS,hL,hl,h⟩=>by
  simp![evS]at h
  obtain⟨d,μ1,e1,h⟩:=h.bind
  refine⟨ι,σ,μ,hS,hL,?_⟩
  rw[e1]
  intro ι1 v H1 p1 x1 s1 d1
  obtain⟨a,μ2,e2,h⟩:=h.bind
  refine⟨ι1,σ,μ1,s1,hL.mono p1 x1,?_⟩
  rw[e2]
  intro ι2 va H2 p2 x2 s2 d2
  obtain⟨b,μ3,e3,h⟩:=h.bind
  refine⟨ι2,σ,μ2,s2,(hL.mono p1 x1).mono p2 x2,?_⟩
  rw[e3]
  intro ι3 vb H3 p3 x3 s3 d3
  obtain⟨_,μ4,e4,h⟩:=h.bind
  refine⟨ι3,a,b,d,μ3,s3,IsD.mono p3 x3 _ _ d2,d3,IsD.mono p3 x3 _ _ (IsD.mono p2 x2 _ _ d1),?_⟩
  rw[e4]
  exact λι4 _ H4 p4 x4 s4 _=>h ι4 σv H4 (((p1.trans p2).trans p3).trans p4) (((x1.trans x2).trans x3).trans x4) s4 ((((hL.mono p1 x1).mono p2 x2).mono p3 x3).mono p4 x4) hl
structure Walk (K:PySem.W.Frag) (ι0:List Addr) (H0:Hp) (J:L2.It) (ds:List D) (g:Gd):Prop where
 len:ds.length<=sizeLine
 go:∀(i:Nat) ι H μ,ι0 <+: ι->Ext H0 H->Sim K ι H μ->gd g μ->i<ds.length->J.go i H
 yld:∀(i:Nat) ι H μ x H',ι0 <+: ι->Ext H0 H->Sim K ι H μ->gd g μ->i<ds.length->J.yld i H x H'->Ext H H'/\Sim K ι H' μ/\∃d,ds[i]? = some d/\IsD K ι H' d x
 stop:∀ι H μ,ι0 <+: ι->Ext H0 H->Sim K ι H μ->gd g μ->J.stop ds.length H
def tI (K:PySem.W.Frag) (φ:Phi) (it:It):TI:=λσv H R=>∃ι σ μ,Sim K ι H μ/\lh K ι H σ σv /\
 match evI φ it σ μ with
 | .ok (ds,g) μ'=>∀ι' H' J,ι <+: ι'->Ext H H'->Sim K ι' H' μ'->Walk K ι' H' J ds g->R J H'
 | _=>False
theorem PI.imp {tg it:Expr} {t t':TI} (h:PI X tg it t) (i:∀σ H R,t' σ H R->t σ H R):PI X tg it t':=λpins s σ H R I q=>h pins s σ H R I (i _ _ _ q)
theorem Tc {tg it:Expr} {body:List Stmt} {xt:Tg} {xi:It} {xb:Sms} (hp:PassesOwn (model X.prog X.w) X.A X.env X.xe) (hc:X.calm=true) (hi:PI X tg it (tI X.K φ xi)) (hg:PG X tg (tG X.K xt)) (hb:PSs X body (tSs X.K φ xb))
  (hs:∀x,foldedSetIterable it X.env x=pure x):PS X (.For tg it body [] pos) (tS X.K φ (.loop xt xi xb)) :=
 PS.imp (Nc hp hc hi hg hb hs) λE σv H ⟨ι,σ,μ,hS,hL,hl,h⟩=>by
  simp![evS]at h
  obtain⟨⟨ds,g⟩,μ1,e1,h⟩:=h.bind
  refine⟨ι,σ,μ,hS,hL,?_⟩
  rw[e1]
  intro ι1 H1 J p1 x1 s1 wk
  refine⟨λi m σv' H'=>m=ds.length-i/\i<=ds.length/\∃ι' σ' μ',ι1 <+: ι'/\Ext H1 H'/\Sim X.K ι' H' μ'/\lh X.K ι' H' σ' σv'/\σ'.length=σv'.length /\
   jd X.K ι' H' (ki g (λd σ μ=>jf (d7 xt d σ) λσ'=>kj φ xb σ' μ) (ds.drop i) σ' μ') E,⟨ds.length,by simp,EF _,ι1,σ,μ1,AE _,.refl _,s1,hL.mono p1 x1,hl,?_⟩,?_⟩
  ·simpa using(show jd _ _ _ (ki g _ ds σ μ1) _ from h).mono p1 x1
  ·rintro i m σv' H' ⟨rfl,hi,ι',σ',μ',p',x',s',l',z',h'⟩
   by_cases hlt:i<ds.length
   ·obtain⟨d,ed⟩:∃d,ds[i]? = some d:=⟨ds[i],AA hlt⟩
    have edrop:ds.drop i=d::ds.drop (i+1):=by
     rw[EW hlt]
     rw[AA hlt]at ed
     cases ed;rfl
    rw[edrop]at h'
    simp![ki]at h'
    split at h'
    ·rename_i hgd
     right
     refine⟨wk.go i ι' H' μ' p' x' s' hgd hlt,?_⟩
     obtain⟨fl,μ2,e2,h2⟩:=h'.bind
     refine⟨λσ2 H2=>ds.length-(i+1)<ds.length-i/\∃ι2 σs,ι1 <+: ι2/\Ext H1 H2/\Sim X.K ι2 H2 μ2/\lh X.K ι2 H2 σs σ2/\σs.length=σ2.length /\
      jd X.K ι2 H2 (ki g (λd σ μ=>jf (d7 xt d σ) λσ'=>kj φ xb σ' μ) (ds.drop (i+1)) σs μ2) E,?_,?_⟩
     ·rintro σ2 H2 ⟨_,ι2,σs,q1,q2,q3,q4,q5,q6⟩
      exact⟨ds.length-(i+1),by lia,rfl,hlt,ι2,σs,μ2,q1,q2,q3,q4,q5,q6⟩
     ·intro v H2 hy
      obtain⟨x2,s2,d',ed',hd'⟩:=wk.yld i ι' H' μ' v H2 p' x' s' hgd hlt hy
      rw[ed]at ed';cases ed'
      cases eb:d7 xt d σ' with
      | none=>rw[eb]at e2;cases e2
      | some σb =>
       rw[eb]at e2
       refine⟨ι',σ',d,σb,l'.mono (AE _) x2,z',hd',eb,λσv2 l2 z2 _ _=>⟨ι',σb,μ',s2,l2,z2,?_⟩⟩
       have e2':kj φ xb σb μ'=.ok fl μ2:=e2
       rw[e2']
       cases fl with
       | nx σ3=>exact λι3 σv3 H3 p3 x3 s3 l3 z3=>⟨by lia,ι3,σ3,p'.trans p3,(x'.trans x2).trans x3,s3,l3,z3,(show jd _ _ _ (ki g _ (ds.drop (i+1)) σ3 μ2) _ from h2).mono p3 (x2.trans x3)⟩
       | ct σ3=>exact λι3 σv3 H3 p3 x3 s3 l3 z3=>⟨by lia,ι3,σ3,p'.trans p3,(x'.trans x2).trans x3,s3,l3,z3,(show jd _ _ _ (ki g _ (ds.drop (i+1)) σ3 μ2) _ from h2).mono p3 (x2.trans x3)⟩
       | bk σ3=>exact(show jd _ _ _ (.ok (.nx σ3) μ2) _ from h2).mono (AE _) x2
       | rt w=>exact(show jd _ _ _ (.ok (.rt w) μ2) _ from h2).mono (AE _) x2
    ·exact h'.elim
   ·have ei:i=ds.length:=by lia
    subst ei
    simp![FN,ki]at h'
    split at h'
    ·rename_i hgd
     exact .inl ⟨wk.stop ι' H' μ' p' x' s' hgd,h' ι' σv' H' (AE _) (.refl _) s' l' z'⟩
    ·exact h'.elim
end
theorem fo:lim=sizeLine:=by rw[Hj];rfl
section
variable {X : Cx} {pins : List (Addr × Obj)} {σ : St} {H : Hp} {s : Shared} {φ : Phi}
theorem _root_.L2.Inv.freeze {p:Addr} {xs:List V} (I:Inv X pins σ H s) (h:H p=some (.lst xs)):∃o,Inv X pins σ (upd H p (.frz o (.lst xs))) s:=by
 have hp:=I.hok p _ h
 obtain⟨hz,its,n,hv,hget⟩:=id hp
 refine⟨{cls:=.type "list",data:=.seq its.toArray n},I.ok,I.os,I.bare,⟨I.base.keep,I.base.slot,λb o e hn hx=>?_,I.base.there,λb ys e=>?_,λb o u e=>?_,λb ps e=>?_⟩,I.loc,I.cell,?_,λx c e=>?_,λq hq=>?_,λb u e=>?_,I.len⟩
 ·have q:=I.base.free b o e hn hx
  rw[av (λz=>by subst z;rw[h]at q;cases q)]
  exact q
 ·have q:=I.base.tups b ys e
  rw[av (pq q h (by intro z;cases z))];exact q
 ·have q:=I.base.frzs b o u e
  rw[av (pq q h (by intro z;cases z))];exact q
 ·obtain⟨more,q⟩:=I.base.tbls b ps e
  exact⟨more,by rw[av (pq q h (by intro z;cases z))];exact q⟩
 ·rw[av (λz=>by rw[<-z,I.free]at h;cases h)];exact I.free
 ·rw[av (λz=>by rw[<-z,I.freeC x c e]at h;cases h)];exact I.freeC x c e
 ·obtain⟨e1,e2,e3⟩:=I.pin q hq
  refine⟨e1,?_,e3⟩
  rw[av (λz=>by rw[<-z,e2]at h;cases h)];exact e2
 ·by_cases hb:b=p
  ·subst hb
   rw[bf]at e;cases e
   exact⟨hget,hz,its,n,hv,hget⟩
  ·rw[av hb]at e
   refine(I.hok b u e).stay (λc v _ q=>q) (λc q=>?_) (λc ys q=>?_)
   ·rw[av (pq q h (by intro z;cases z))];exact q
   ·rw[av (pq q h (by intro z;cases z))];exact q
def FQ (Q:VK):VK:=λv H=>Q v H\/∃p xs,v=.ref p/\H p=some (.lst xs)/\∀o,Q v (upd H p (.frz o (.lst xs)))
theorem Fo {Q:VK} {u:Value} (h:EP X pins σ (FQ Q) u s):EP X pins σ Q u s:=by
 obtain⟨v,H',I,r,q⟩:=h
 rcases q with q | ⟨p,xs,rfl,e,q⟩
 ·exact⟨v,H',I,r,q⟩
 ·obtain⟨o,I'⟩:=L2.Inv.freeze I e
  exact⟨_,_,I',r,q o⟩
theorem Ho {A:Around} {E:Value->Shared->Prop} {M:Model} {t:Sem Value} {Q:VK} (h:wpAny M A t (EP X pins σ (FQ Q)) E s):wpAny M A t (EP X pins σ Q) E s:=thn h λ_ _ z=>Fo z
theorem PE.fq {e:Expr} {t:TE} (h:PE X e t):PE X e (λσ H Q=>t σ H (FQ Q)):=λpins s σ H Q I q=>thn (h pins s σ H _ I q) λ_ _ z=>Fo z
theorem SlR.fq {r:V->Option Int->Option Int->Hp->VK->Prop} (h:SlR X r):SlR X (λx l u H Q=>r x l u H (FQ Q)):=by
 intro pins s σ H x v vl vu lo hi sl Q I rx h1 h2 h3 q
 obtain⟨T,id,e1,e2,e3⟩:=h pins s σ H x v vl vu lo hi sl _ I rx h1 h2 h3 q
 exact⟨T,id,e1,e2,thn e3 λ_ _ z=>Fo z⟩
theorem lp {K:PySem.W.Frag} {ι:List Addr} {μ:Sto} {ds:List D} {xs:List V} {m:Mk} {Q:VK} {p:Addr} (hS:Sim K ι H μ) (hd:ai K ι H ds xs) (h:fj K (RD K) ι H (mkL m ds μ) Q) (hp:H p=none) :
  FQ Q (.ref p) (upd H p (.lst xs)):=by
 cases m with
 | z =>
  refine .inr ⟨p,xs,rfl,bf,λo=>?_⟩
  rw[Jv]
  refine h ι (.ref p) _ (AE _) (.new hp) (hS.new hp) ?_
  show IsD _ _ _ _ _
  simp![IsD]
  exact⟨p,xs,rfl,.inl ⟨o,bf⟩,ai.mono (AE _) (.new hp) ds xs hd⟩
 | l =>
  simp![mkL]at h
  split at h
  ·rename_i hpure
   refine .inl (h (ι++[p]) (.ref p) _ ⟨[p],rfl⟩ (.new hp) (hS.push hp ⟨xs,bf,ai.pur hpure (ai.mono (AE _) (.new hp) ds xs hd)⟩) ?_)
   show IsD _ _ _ _ _
   simp![IsD]
   exact⟨p,rfl,by rw[<-hS.len];simp⟩
  ·exact h.elim
 | r =>
  simp![mkL]at h
  refine .inl (h (ι++[p]) (.ref p) _ ⟨[p],rfl⟩ (.new hp) (hS.push hp ⟨xs,bf,ai.mono ⟨[p],rfl⟩ (.new hp) ds xs hd⟩) ?_)
  show IsD _ _ _ _ _
  simp![IsD]
  exact⟨p,rfl,by rw[<-hS.len];simp⟩
theorem Td {es:List Expr} {xs:Exs} {m:Mk} {pos:Pos} (h:PA X es (tEs X.K φ xs)) (hl:∀σ μ ds μ',fi φ xs σ μ=.ok ds μ'->ds.length<=sizeLine):PE X (.List es pos) (tE X.K φ (.lst m xs)) :=
 PE.imp (PE.fq (Nj h)) λσv H Q ⟨ι,σ,μ,hS,hL,h⟩=>by
  simp![evE]at h
  obtain⟨ds,μ1,e1,h⟩:=h.bind
  refine⟨ι,σ,μ,hS,hL,?_⟩
  rw[e1]
  intro ι1 vs H1 p1 x1 s1 d1
  have hd:ai X.K ι1 H1 ds vs:=d1
  exact⟨by rw[hd.length];exact hl σ μ ds μ1 e1,λp hp=>lp s1 hd (h.mono p1 x1) hp⟩
theorem t9 {K:PySem.W.Frag} {ι:List Addr} {μ:Sto} {d:D} {v:V} {ds:List D} (hS:Sim K ι H μ) (hd:IsD K ι H d v) (h:gv μ d=some ds) :
  ∃a xs,v=.ref a/\(LsL K H a xs\/SqT K H a xs)/\ai K ι H ds xs:=by
 cases d with
 | tup es =>
  cases h
  simp![IsD]at hd
  obtain⟨a,xs,e,q,r⟩:=hd
  exact⟨a,xs,e,.inr q,r⟩
 | lst es =>
  cases h
  simp![IsD]at hd
  obtain⟨a,xs,e,q,r⟩:=hd
  exact⟨a,xs,e,.inl (.inr q),r⟩
 | loc n =>
  simp![IsD]at hd
  obtain⟨a,e,q⟩:=hd
  simp![gv]at h
  split at h
  ·rename_i es em
   cases h
   obtain⟨a',q',ho⟩:=hS.at em
   rw[q]at q';cases q'
   obtain⟨xs,e1,e2⟩:=ho
   exact⟨a,xs,e,.inl (.inl e1),ai.mono (CY) (.refl _) _ _ e2⟩
  ·rename_i es em
   cases h
   obtain⟨a',q',ho⟩:=hS.at em
   rw[q]at q';cases q'
   obtain⟨xs,e1,e2⟩:=ho
   exact⟨a,xs,e,.inl (.inl e1),e2⟩
  ·cases h
 | _=>simp[gv]at h
theorem gw {K:PySem.W.Frag} {ι:List Addr} {μ:Sto} {d:D} {v:V} {ds:List D} (hS:Sim K ι H μ) (hd:IsD K ι H d v) (h:listOf μ d=some ds) :
  ∃a xs,v=.ref a/\LsL K H a xs/\ai K ι H ds xs:=by
 cases d with
 | lst es =>
  cases h
  simp![IsD]at hd
  obtain⟨a,xs,e,q,r⟩:=hd
  exact⟨a,xs,e,.inr q,r⟩
 | loc n =>
  simp![IsD]at hd
  obtain⟨a,e,q⟩:=hd
  simp![listOf]at h
  split at h
  ·rename_i es em
   cases h
   obtain⟨a',q',ho⟩:=hS.at em
   rw[q]at q';cases q'
   obtain⟨xs,e1,e2⟩:=ho
   exact⟨a,xs,e,.inl e1,ai.mono (CY) (.refl _) _ _ e2⟩
  ·rename_i es em
   cases h
   obtain⟨a',q',ho⟩:=hS.at em
   rw[q]at q';cases q'
   obtain⟨xs,e1,e2⟩:=ho
   exact⟨a,xs,e,.inl e1,e2⟩
  ·cases h
 | _=>simp[listOf]at h
theorem Te {i:Nat} {x:Str} {pos:Pos} (hN:X.N[i]? = some x) (hv:Vis X.env.scope x) (hd:(x==("__debug__":Str))=false) (hcd:(x==("__classdict__":Str))=false):PE X (.Name x pos) (tE X.K φ (.frz i)) :=
 PE.imp (PE.fq (Bc hN hv hd hcd)) λσv H Q ⟨ι,σ,μ,hS,hL,h⟩=>by
  simp![evE]at h
  split at h
  ·rename_i n e
   obtain⟨v,e1,e2⟩:=hL i _ e
   refine⟨v,e1,?_⟩
   simp![IsD]at e2
   obtain⟨a,rfl,ha⟩:=e2
   split at h
   ·rename_i ds em
    obtain⟨a',q',ho⟩:=hS.at em
    rw[ha]at q';cases q'
    obtain⟨xs,f1,f2⟩:=ho
    refine .inr ⟨a,xs,rfl,f1,λo=>?_⟩
    refine h ι (.ref a) _ (AE _) (.lst f1) (hS.put ha (.lst f1) ⟨_,bf⟩) ?_
    show IsD _ _ _ _ _
    simp![IsD]
    exact⟨a,xs,rfl,.inl ⟨o,bf⟩,ai.mono (CY) (.lst f1) ds xs f2⟩
   ·rename_i ds em
    obtain⟨a',q',ho⟩:=hS.at em
    rw[ha]at q';cases q'
    obtain⟨xs,f1,f2⟩:=ho
    refine .inr ⟨a,xs,rfl,f1,λo=>?_⟩
    refine h ι (.ref a) _ (AE _) (.lst f1) (hS.put ha (.lst f1) ⟨_,bf⟩) ?_
    show IsD _ _ _ _ _
    simp![IsD]
    exact⟨a,xs,rfl,.inl ⟨o,bf⟩,ai.mono (AE _) (.lst f1) ds xs f2⟩
   ·exact h.elim
  ·exact h.elim
theorem OpR.imp {f:Value->Value->Sem Value} {r r':R2} (h:OpR X f r) (i:∀x y H Q,r' x y H Q->r x y H Q):OpR X f r':=λpins s σ H x y v u Q I rx ry q=>h pins s σ H x y v u Q I rx ry (i _ _ _ _ q)
theorem IxR.imp {r r':R2} (h:IxR X r) (i:∀x y H Q,r' x y H Q->r x y H Q):IxR X r':=λe1 e2 pins s σ H x y v u Q I rx ry q=>h e1 e2 pins s σ H x y v u Q I rx ry (i _ _ _ _ q)
theorem fk.imp {f:Value} {r r':List V->Hp->VK->Prop} (h:fk X f r) (i:∀xs H Q,r' xs H Q->r xs H Q):fk X f r':=λpins s σ H xs us Q I rx q=>h pins s σ H xs us Q I rx (i _ _ _ q)
theorem MtR.imp {id:String} {r r':V->List V->Hp->VK->Prop} (h:MtR X id r) (i:∀x xs H Q,r' x xs H Q->r x xs H Q):MtR X id r':=λpins s σ H x xs v us Q I rx rr q=>h pins s σ H x xs v us Q I rx rr (i _ _ _ _ q)
theorem Om {K:PySem.W.Frag} {ι:List Addr} {ds:List D} {xs:List V} {i:Int} {j:Nat} {d:D} (h:ai K ι H ds xs) (hi:Lp.ixN ds.length i=some j) (hj:ds[j]? = some d):∃v,atI xs i=some v/\IsD K ι H d v:=by
 obtain⟨v,e,q⟩:=h.get hj
 refine⟨v,?_,q⟩
 unfold atI
 rw[h.length,show L2.ixN ds.length i=some j from hi]
 exact e
theorem Tf:IxR X (rOp X.K ixD):=IxR.imp Nr λx y H Q ⟨ι,d,e,μ,hS,hd,he,h⟩=>by
 unfold ixD at h
 split at h
 ·rename_i i
  have hy:y=.int i:=by simpa[IsD]using he
  subst hy
  split at h
  ·rename_i ds es
   obtain⟨a,xs,rfl,hq,hds⟩:=t9 hS hd es
   split at h
   ·rename_i j ej
    split at h
    ·rename_i d' ed
     obtain⟨v,ev,hv⟩:=Om hds ej ed
     have qv:=h.ok hS hv
     rcases hq with hq | hq
     ·exact .inl ⟨a,xs,i,v,rfl,rfl,hq.sq,ev,qv⟩
     ·exact .inr (.inl ⟨a,xs,i,v,rfl,rfl,hq,ev,qv⟩)
    ·exact h.elim
   ·exact h.elim
  ·exact h.elim
 ·exact h.elim
theorem Hq {K:PySem.W.Frag} {ι:List Addr} {ds:List D} {xs:List V} (h:ai K ι H ds xs) (lo hi:Option Int):ai K ι H (cut ds lo hi) (Hg xs lo hi):=by
 have e1:∀n d o,Lp.sIx n d o=HT.sIx n d o:=λn d o=>by cases o<;>rfl
 unfold cut Hg
 rw[h.length,e1,e1]
 exact(h.drop _).take _
end
def yi (env:Env):List (Str×NameKind)->List (Str×Addr)->List (Str×Addr)
 | [],acc=>acc
 | (n,k)::r,acc=>yi env r (if k==.free then(n,(env.cells.lookup n).getD 0)::acc else acc)
def mn (env:Env) (x:Str×NameKind) (cs:List (Str×Addr)):Sem (ForInStep (List (Str×Addr))):=match x with
 | (name,kind)=>if kind==.free then(do let a <-cellOf env name;pure (ForInStep.yield ((name,a)::cs)))else pure (ForInStep.yield cs)
theorem lr {env:Env}:∀(names:List (Str×NameKind)) (acc:List (Str×Addr)),(∀n,(n,NameKind.free)∈names->∃c,env.cells.lookup n=some c) ->
  forIn names acc (mn env)=pure (yi env names acc)
 | [],acc,_=>rfl
 | (n,k)::r,acc,h=>by
  rw[HM]
  by_cases hk:k=.free
  ·subst hk
   obtain⟨c,hc⟩:=h n BF
   have e:mn env (n,.free) acc=pure (ForInStep.yield ((n,c)::acc)):=by
    simp![mn,cellOf,hc,beq_self_eq_true,if_true]
    rfl
   rw[e]
   refine Eq.trans (b:=forIn r ((n,c)::acc) (mn env)) rfl ?_
   rw[lr r ((n,c)::acc) λm hm=>h m (AT _ hm)]
   simp[yi,hc]
  ·have hb:(k==NameKind.free)=false:=by simpa using hk
   have e:mn env (n,k) acc=pure (ForInStep.yield acc):=by
    unfold mn
    simp![hb,BB,if_false]
   rw[e]
   refine Eq.trans (b:=forIn r acc (mn env)) rfl ?_
   rw[lr r acc λm hm=>h m (AT _ hm)]
   simp[yi,hb]
theorem p9 {env:Env} {scope:Scope} (h:∀n,(n,NameKind.free)∈scope.names->∃c,env.cells.lookup n=some c):closureFor scope env=pure (yi env scope.names []):=by
 have e:=lr (env:=env) scope.names [] h
 have e2:closureFor scope env=(forIn scope.names [] (mn env)>>=λcs=>pure cs):=rfl
 rw[e2,e]
 rfl
theorem yj {env:Env}:∀(names:List (Str×NameKind)) (acc:List (Str×Addr)) (x:Str) (c:Addr),(∀n,(n,NameKind.free)∈names->∃c,env.cells.lookup n=some c)->(yi env names acc).lookup x=some c->acc.lookup x=some c\/env.cells.lookup x=some c
 | [],acc,x,c,_,h=>.inl h
 | (n,k)::r,acc,x,c,hh,h=>by
  rcases yj r _ x c (λm hm=>hh m (AT _ hm)) h with q | q
  ·by_cases hk:k=.free
   ·subst hk
    obtain⟨c',hc⟩:=hh n BF
    simp![beq_self_eq_true,if_true,EA]at q
    by_cases hx:x=n
    ·subst hx
     simp![beq_self_eq_true,hc,GY,BV]at q
     subst q
     exact .inr hc
    ·have hb:(x==n)=false:=beq_eq_false_iff_ne.mpr hx
     rw[hb]at q
     exact .inl q
   ·have hb:(k==NameKind.free)=false:=by simpa using hk
    simp![hb,BB,if_false]at q
    exact .inl q
  ·exact .inr q
theorem ua {env:Env}:∀(names:List (Str×NameKind)) (acc:List (Str×Addr)) (x:Str),(∃c,acc.lookup x=some c)->∃c,(yi env names acc).lookup x=some c
 | [],acc,x,h=>h
 | (n,k)::r,acc,x,h=>by
  refine ua r _ x ?_
  by_cases hk:(k==NameKind.free)=true
  ·rw[if_pos hk,EA]
   cases hx:x==n with
   | true=>exact⟨_,rfl⟩
   | false=>exact h
  ·rw[if_neg hk];exact h
theorem yk {env:Env}:∀(names:List (Str×NameKind)) (acc:List (Str×Addr)) (x:Str),(x,NameKind.free)∈names->∃c,(yi env names acc).lookup x=some c
 | [],acc,x,h=>by cases h
 | (n,k)::r,acc,x,h=>by
  rcases AV.mp h with e | e
  ·cases e
   refine ua r _ n ?_
   exact⟨(env.cells.lookup n).getD 0,by simp⟩
  ·exact yk r _ x e
abbrev B0 (env:Env) (scope:Scope) (C:Addr):List (Str×Addr):=cellsFrom (C+1) scope.names []++yi env scope.names []
theorem d8:∀(names:List (Str×NameKind)) (n:Nat) (acc:List (Str×Addr)),cellsFrom n names acc=cellsFrom n names []++acc
 | [],_,_=>rfl
 | (a,k)::r,n,acc=>by
  unfold cellsFrom
  split
  ·rw[d8 r (n+1) ((a,n)::acc),d8 r (n+1) [(a,n)],AC];rfl
  ·exact d8 r n acc
theorem gx:∀(names:List (Str×NameKind)) (n:Nat) (x:Str) (c:Addr),(x,c)∈cellsFrom n names []->(x,NameKind.cell)∈names
 | [],_,_,_,h=>nomatch h
 | (a,k)::r,n,x,c,h=>by
  unfold cellsFrom at h
  split at h
  ·rename_i hk
   rw[d8]at h
   rcases BX.mp h with h | h
   ·exact AT _ (gx r _ x c h)
   ·cases FE.mp h
    have:k=.cell:=by simpa using hk
    subst this
    exact BF
  ·exact AT _ (gx r _ x c h)
theorem vv {env:Env} {scope:Scope} {C:Addr} {x:Str} {c:Addr} (hc:∀n,(n,NameKind.free)∈scope.names->∃c,env.cells.lookup n=some c) (e:(B0 env scope C).lookup x=some c) :
  (x,c)∈cellsFrom (C+1) scope.names []\/env.cells.lookup x=some c:=by
 rcases BX.mp (CQ e)with h | h
 ·exact .inl h
 ·cases q:(cellsFrom (C+1) scope.names []).lookup x with
  | some d =>
   have e2:(cellsFrom (C+1) scope.names []++yi env scope.names []).lookup x=some c:=e
   rw[FF,q]at e2
   cases e2
   exact .inl (CQ q)
  | none =>
   have e2:(cellsFrom (C+1) scope.names []++yi env scope.names []).lookup x=some c:=e
   rw[FF,q]at e2
   rcases yj scope.names [] x c hc (by simpa using e2)with z | z
   ·cases z
   ·exact .inr z
theorem B1 {M:Model} {A:Around} {E:Value->Shared->Prop} {s:Shared} {scope:Scope} {cl:List (Str×Addr)} {globals builtins:Addr} {qual:Str} {func:Option Addr} {code:Value} {env:Env} {Q:Env->Shared->Prop}
  (hQ:∀h',h'.Ns s.heap.objs.size (λ_=>none)->(∀b o,s.heap.get? b=some o->h'.get? b=some o)->CellsOk h' (s.heap.objs.size+1) (cellsFrom (s.heap.objs.size+1) scope.names []) ->
   Q (newEnv scope s.heap.objs.size globals (cellsFrom (s.heap.objs.size+1) scope.names []++cl) qual func code (some env) builtins) {s with heap:=h'}) :
  wpAny M A (newFunctionEnv scope globals cl [] qual func code (some env) builtins) Q E s:=by
 simp![newFunctionEnv,Option.isSome_some,if_true]
 refine AB (wpAny_alloc ?_)
 refine AB (wpAny_layCells _ (λname kind cells=>by cases hkc:kind==NameKind.cell<;>simp[hkc]) _ _ _ _ ?_)
 have ok:=cellsFrom_ok scope.names (s.heap.push {cls:=.type "dict",data:=.dict #[]}) (s.heap.objs.size+1) [] ⟨λ_ _ hm=>(nomatch hm),List.Pairwise.nil⟩ (by rw[EB];exact AK _)
 rw[EB]at ok
 rw[show({s with heap:=s.heap.push {cls:=.type "dict",data:=.dict #[]}}:Shared).heap.objs.size=s.heap.objs.size+1 from EB ..]
 rw[List.forIn_nil,d8]
 exact AB (AM (AM (hQ _ ((Heap.Ns.new s.heap (.type "dict")).keeps (pushCells_keeps _ _)) (λb o e=>pushCells_keeps _ _ b o (AF _ e)) ok)))
def j8 (X:Cx) (scope:Scope) (Nb:List Str) (C:Addr) (s:Shared) (H:Hp) (fp:List Addr):Cx :=
 {X with N:=Nb,s₀:=s,H₀:=H,env:=compEnvC scope (B0 X.env scope C) C X.env,outer:=X.stack,stack:=X.stack,ex:=fp,fn:=λx=>scope.names.lookup x==some .cell,pn:=[],xe:=λ_ _=>False}
structure CompScope (sc scope:Scope) (N Nb:List Str) (cap:List Nat) (nl:Nat):Prop where
 kind:scope.kind=.function
 uniq:∀y∈scope.names,scope.names.lookup y.1=some y.2
 free:∀n,(n,NameKind.free)∈scope.names->sc.names.lookup n=some .cell\/sc.names.lookup n=some .free
 fnames:∀n,(relabel scope {scope:=sc,locals:=0,globals:=0,cells:=[]}).names.lookup n=some .cell\/(relabel scope {scope:=sc,locals:=0,globals:=0,cells:=[]}).names.lookup n=some .free->(n,NameKind.free)∈scope.names\/(n,NameKind.cell)∈scope.names
 nd:Nb.Nodup
 len:Nb.length=cap.length+nl
 capt:∀(j:Nat) i,cap[j]? = some i->∃x,Nb[j]? = some x/\N[i]? = some x/\(x,NameKind.free)∈scope.names
theorem Aj (scope:Scope) (env env':Env) (h:env.scope=env'.scope):relabel scope env=relabel scope env':=by
 unfold relabel Env.kindOf
 rw[h]
section
variable {X : Cx} {pins : List (Addr × Obj)} {σ : St} {H : Hp} {s : Shared} {scope : Scope} {Nb : List Str} {cap : List Nat} {nl : Nat}
def g8 (cap:List Nat) (nl:Nat) (σ:St):St:=cap.map (λi=>(σ[i]?).getD none)++List.replicate nl none
theorem B2 {fp:List Addr} {h':Heap} {tk:Nat} {C:Addr} {m:Str->Option Value} {D:Addr} {n0:Nat} (I:Inv X pins σ H s) (S:CompScope X.env.scope scope X.N Nb cap nl)
  (hf:∀b∈fp,A6 X pins H b) (hfp:∀b∈fp,∃o,s.heap.get? b=some o) (hk:∀b o,s.heap.get? b=some o->h'.get? b=some o) (hC:s.heap.objs.size<=C) (hD:s.heap.objs.size<=D) (hDC:D≠C)
  (hns:h'.Ns C m) (hDo:h'.get? D=some {cls:=.type "list",data:=.seq #[] n0}) (ok:CellsOk h' (C+1) (cellsFrom (C+1) scope.names [])) :
  Inv (j8 X scope Nb C s H fp) [(D,{cls:=.type "list",data:=.seq #[] n0})] (g8 cap nl σ) H {s with heap:=h',toks:=tk}:=by
 have hcells:∀n,(n,NameKind.free)∈scope.names->∃c,X.env.cells.lookup n=some c:=λn hn=>by
  rcases S.free n hn with e | e
  ·exact I.ok.has n (.inl e)
  ·exact I.ok.has n (.inr e)
 have sub:∀x c,(B0 X.env scope C).lookup x=some c->(x,c)∈cellsFrom (C+1) scope.names []\/X.env.cells.lookup x=some c:=λx c e=>vv hcells e
 have up:∀x c,(x,c)∈cellsFrom (C+1) scope.names []->s.heap.objs.size<=c:=λx c e=>BA hC (Nat.le_of_succ_le (ok.empty x c e).2)
 have hasB:∀x,(x,NameKind.free)∈scope.names\/(x,NameKind.cell)∈scope.names->∃c,(B0 X.env scope C).lookup x=some c:=λx hx=>by
  show ∃c,(cellsFrom (C+1) scope.names []++yi X.env scope.names []).lookup x=some c
  rw[FF]
  cases q:(cellsFrom (C+1) scope.names []).lookup x with
  | some d=>exact⟨d,rfl⟩
  | none =>
   rcases hx with hx | hx
   ·obtain⟨c,e⟩:=yk (env:=X.env) scope.names [] x hx
    exact⟨c,by rw[e];rfl⟩
   ·obtain⟨c,e⟩:=ni (n:=C+1) (S.uniq _ hx)
    rw[q]at e;cases e
 have hlt:∀b∈fp,b<s.heap.objs.size:=λb hb=>let ⟨o,e⟩:=hfp b hb;AQ e
 have hrel:relabel scope X.env=relabel scope {scope:=X.env.scope,locals:=0,globals:=0,cells:=[]}:=Aj _ _ _ rfl
 have hcm:∀x c,X.env.cells.lookup x=some c->c<s.heap.objs.size:=λx c e=>let ⟨v,q⟩:=I.cell x c e;q.lt
 refine⟨⟨I.ok.mod,by show(relabel scope X.env).kind=_;unfold relabel;exact S.kind,I.ok.glob,I.ok.blt,hC,λx y c e1 e2=>?_,λx hx=>?_,λx c hfn e=>?_,I.ok.hd,I.ok.frames,.inl rfl,
  λb hb=>⟨BD (AR (hlt b hb) hC),λx c e=>(sub x c e).elim (λq=>DT (AR (hlt b hb) (up x c q))) λq=>(hf b hb).2.2.2.2.1 x c q⟩,I.bs,BA I.ok.bsz I.sz,λb o e hb=>?_,λb hb hb2=>?_,I.stack,I.stkFree⟩,
  rfl,I.bare,Un.kept hk,⟨m,hns,λi x v e1 e2 e3=>?_⟩,λx c e=>?_,I.hok.fresh hC,λx c e=>(sub x c e).elim (λq=>I.hok.fresh (up x c q)) λq=>I.freeC x c q,λp hp=>?_,I.hok.kept hk,?_⟩
 ·rcases sub x c e1 with q1 | q1<;>rcases sub y c e2 with q2 | q2
  ·exact name_of_addr ok.apart q1 q2
  ·exact absurd (hcm y c q2) (IG.mpr (up x c q1))
  ·exact absurd (hcm x c q1) (IG.mpr (up y c q2))
  ·exact I.ok.inj x y c q1 q2
 ·have hx':(relabel scope {scope:=X.env.scope,locals:=0,globals:=0,cells:=[]}).names.lookup x=some .cell\/(relabel scope {scope:=X.env.scope,locals:=0,globals:=0,cells:=[]}).names.lookup x=some .free:=by
   rw[<-hrel];exact hx
  exact hasB x (S.fnames x hx')
 ·obtain⟨d,q⟩:=ni (n:=C+1) (show scope.names.lookup x=some .cell from beq_iff_eq.mp hfn)
  have e2:(cellsFrom (C+1) scope.names []++yi X.env scope.names []).lookup x=some c:=e
  rw[FF,q]at e2
  cases e2
  exact up x _ (CQ q)
 ·rcases(hf b hb).2.2.2.1 with z | z
  ·exact I.ok.noex b o e z
  ·have:=AQ e
   exact absurd (AR this (BA I.ok.bsz z)) (Do _)
 ·rcases AV.mp (I.stkSub b hb2)with z | z
  ·exact(hf b hb).2.1 z
  ·exact(hf b hb).2.2.1 z
 ·-- a captured name
  have hi:i<cap.length:=by
   by_cases hi:i<cap.length
   ·exact hi
   ·unfold g8 at e2
    rw[BH (by simpa using hi),DK]at e2
    split at e2<;>cases e2
  unfold g8 at e2
  rw[AN (by simpa using hi),BM,AA hi]at e2
  simp![DR,BV]at e2
  obtain⟨y,q1,q2,q3⟩:=S.capt i _ (AA hi)
  have ey:y=x:=CD (q1.symm.trans e1)
  subst ey
  have e4:σ[cap[i]]? = some (some v):=by
   cases e5:σ[cap[i]]? with
   | none=>rw[e5]at e2;cases e2
   | some w=>rw[e5]at e2;simp at e2;rw[e2]
  obtain⟨m0,hn0,hl0⟩:=I.loc
  have hkind:X.env.kindOf y=some .cell\/X.env.kindOf y=some .free:=S.free y q3
  obtain⟨u,r,l⟩:=hl0 _ y v q2 e4 (by rcases hkind with z | z;exact .inr (.inl z);exact .inr (.inr z))
  refine⟨u,r,.inr ?_⟩
  rcases l with⟨z,_⟩ | ⟨_,c,ec,hc⟩
  ·rcases hkind with w | w<;>(rw[w]at z;cases z)
  ·obtain⟨c',ec'⟩:=hasB y (.inl q3)
   have:c'=c:=by
    rcases sub y c' ec' with z | z
    ·have:=S.uniq _ (gx _ _ _ _ z)
     rw[S.uniq (y,NameKind.free) q3]at this;cases this
    ·rw[ec]at z;cases z;rfl
   subst this
   obtain⟨o,ho,hd⟩:=hc
   refine⟨?_,c',ec',o,hk _ _ ho,hd⟩
   -- a free name is seen as a cell or as free
   have hv:(j8 X scope Nb C s H fp).env.kindOf y=some .local\/(j8 X scope Nb C s H fp).env.kindOf y=some .cell\/(j8 X scope Nb C s H fp).env.kindOf y=some .free:=e3
   rcases hv with z | z | z
   ·exfalso
    have hl:(relabel scope X.env).names.lookup y=some .local:=z
    have mem:∀(l:List (Str×NameKind)) (y:Str),(l.map fun(n,k)=>if(k==NameKind.free&&X.env.scope.kind==.function&&X.env.kindOf n==some .cell)then(n,NameKind.cell)else(n,k)).lookup y=some .local->l.lookup y=some .local:=by
     intro l
     induction l with
     | nil=>intro y h;simp at h
     | cons a r ih =>
      obtain⟨n,k⟩:=a
      intro y h
      simp![AL]at h
      rw[EA]
      by_cases hc:(k==NameKind.free&&X.env.scope.kind==.function&&X.env.kindOf n==some .cell)=true
      ·rw[if_pos hc,EA]at h
       cases hy:y==n with
       | true=>rw[hy]at h;cases h
       | false=>rw[hy]at h;exact ih y h
      ·rw[if_neg hc,EA]at h
       cases hy:y==n with
       | true=>rw[hy]at h;exact h
       | false=>rw[hy]at h;exact ih y h
    have hloc:=mem scope.names y hl
    rw[S.uniq (y,NameKind.free) q3]at hloc
    cases hloc
   ·exact .inl z
   ·exact .inr z
 ·rcases sub x c e with q | q
  ·exact⟨_,(ok.empty x c q).1⟩
  ·obtain⟨v,o,ho,hd⟩:=I.cell x c q
   exact⟨v,o,hk _ _ ho,hd⟩
 ·have e:p=(D,{cls:=.type "list",data:=.seq #[] n0}):=by
   have:p∈([]:List (Addr×Obj))++[(D,{cls:=.type "list",data:=.seq #[] n0})]:=hp
   simpa using this
  subst e
  refine⟨hDo,I.hok.fresh hD,hDC,λz=>?_,λv z=>by cases z⟩
  have z':D∈frs X.stack:=z
  rcases AV.mp (I.stkSub D z')with w | w
  ·exact absurd (AR I.lt hD) (by rw[w];exact Do _)
  ·exact I.nofs hD w
 ·show(g8 cap nl σ).length=Nb.length
  rw[S.len];simp[g8]
end
abbrev vw (ifs:List Expr) (env:Env) (b:Bool):Sem Bool:=forIn ifs b λc r=>if r=true then do let ok <-isTrue c env (eval c env);pure (ForInStep.yield ok)else pure (ForInStep.yield r)
def PTs (X:Cx) (ifs:List Expr) (t:TT):Prop :=
 ∀(pins:List (Addr×Obj)) (s:Shared) (σ:St) (H:Hp) (Q:Bool->Hp->Prop),Inv X pins σ H s->t σ H Q->wpAny (model X.prog X.w) X.A (vw ifs X.env true) (TP X pins σ Q) X.xe s
theorem om {M:Model} {A:Around} {E:Value->Shared->Prop} {env:Env} {Q:Bool->Shared->Prop}:∀(ifs:List Expr) {s:Shared},Q false s->wpAny M A (vw ifs env false) Q E s
 | [],s,h=>AM h
 | c::r,s,h=>by
  show wpAny M A (forIn (c::r) false _) Q E s
  rw[HM]
  exact AB (AM (om r h))
def tTsNil:TT:=λ_ H Q=>Q true H
def Kx (t u:TT):TT:=λσ H Q=>t σ H λb H1=>if b=true then u σ H1 Q else Q false H1
theorem Kz {X:Cx}:PTs X [] tTsNil:=λpins s σ H Q I h=>AM ⟨H,I,h⟩
theorem Fp {X:Cx} {c:Expr} {r:List Expr} {t u:TT} (h1:PT X c t) (h2:PTs X r u):PTs X (c::r) (Kx t u):=λpins s σ H Q I h=>by
 show wpAny _ _ (forIn (c::r) true _) _ _ s
 rw[HM]
 refine AB (AB (thn (h1 pins s σ H _ I h) λb s1 ⟨H1,I1,q1⟩=>AM ?_))
 cases b with
 | true=>exact h2 pins s1 σ H1 Q I1 q1
 | false=>exact om r ⟨H1,I1,q1⟩
def Kept (σ σ':St):Prop:=σ.length=σ'.length/\∀(i:Nat) v,σ[i]? = some (some v)->σ'[i]? = some (some v)
def K0 (wi:TI) (g:TG) (ts:TT) (te:TE) (σb:St->St):TE:=λσ H Q=>wi σ H λJ H1=>∃W:Nat->Nat->Hp->List V->Prop,(∃m,W 0 m H1 [])/\∀i m H acc,W i m H acc ->
 (J.stop i H/\acc.length<=sizeLine/\∀p,H p=none->Q (.ref p) (upd H p (.lst acc))) \/
 (J.go i H/\acc.length<sizeLine/\∀x H',J.yld i H x H'->g x (σb σ) H' λσ2 H2=>Kept (σb σ) σ2/\ts σ2 H2 λb H3=>if b=true then te σ2 H3 λv H4=>∃m',m'<m/\W (i+1) m' H4 (acc++[v])else ∃m',m'<m/\W (i+1) m' H3 acc)
section
variable {X : Cx} {scope : Scope} {Nb : List Str} {cap : List Nat} {nl : Nat}
theorem _root_.L2.HOk.track {P:Program} {w:World} {H:Hp} {h:Heap} {p:Addr} {o:HO} (x:HOk P w H h) (hp:H p=none) (new:g0 P w (upd H p o) h p o):HOk P w (upd H p o) h:=λb u e=>by
 by_cases hb:b=p
 ·subst hb;rw[bf]at e;cases e;exact new
 ·rw[av hb]at e
  exact(x b u e).stay (λc v _ q=>q) (λc q=>by rw[av (bh q hp)];exact q) λc xs q=>by rw[av (bh q hp)];exact q
theorem B3 {prog:Program} {w:World} {A:Around} {R:Result->Shared->Prop} {s:Shared} {elt target iter:Expr} {ifs:List Expr} {pos:Pos} {it acc:Value} {env:Env} (I:Nat->Shared->Prop)
  (turn:∀n s,I n s->wpAny (model prog w) A (pyNext it) (λr s₁=>match r with
   | none=>R (.ok .next) s₁
   | some v=>wpAny (model prog w) A (letOwnedTupleGo target it v) (λ_ s₀=>wpAny (model prog w) A (assign target env v) (λ_ s₂ =>
     wpAny (model prog w) A (vw ifs env true) (λok s₃ =>
      if ok=true then wpAny (model prog w) A (eval elt env) (λx s₄ =>
       wpAny (model prog w) A (call (.builtin "list.append") [acc,x]) (λ_ s₅=>∃m,m<n/\I m s₅) (λ_ _=>False) s₄) (λ_ _=>False) s₃
      else ∃m,m<n/\I m s₃) (λ_ _=>False) s₂) (λ_ _=>False) s₀) (λ_ _=>False) s₁) (λ_ _=>False) s)
  (n:Nat) (h:I n s) :
  codeAny (model prog w) A (.compLoop (.ListComp elt [⟨target,iter,ifs,0⟩] scope pos) 0 it acc env) R s:=by
 refine codeAny_loop rfl I (λn s hI=>?_) n h
 show wpAny _ A ((compTurn (.ListComp elt [⟨target,iter,ifs,0⟩] scope pos) 0 it acc env).onRaise (λx=>do noteFrame x env;theTreesLotGoes x)) _ _ s
 refine wpAny_noted ?_
 rw[compTurn_list]
 have no:∀{α:Type} {t:Sem α} {Q:α->Shared->Prop} {E:Value->Shared->Prop} {s:Shared},wpAny (model prog w) A t Q (λ_ _=>False) s->wpAny (model prog w) A t Q E s:=λh=>DO h (λ_ _ q=>q) λ_ _ q=>q.elim
 refine AB (wpAny_standAt (AB (DO (turn n s hI) (λr s₁ h₁=>?_) λ_ _ h'=>h'.elim)))
 cases r with
 | none=>exact AM h₁
 | some v =>
  refine AB (DO h₁ (λ_ s₀ h₀=>?_) λ_ _ h'=>h'.elim)
  refine AB (DO h₀ (λ_ s₂ h₂=>AB (DO h₂ (λok s₃ h₃=>?_) λ_ _ h'=>h'.elim)) λ_ _ h'=>h'.elim)
  cases ok with
  | false=>exact AM ⟨rfl,h₃⟩
  | true =>
   exact AB (AB (DO h₃ (λx s₄ h₄=>AB (DO h₄ (λ_ s₅ h₅=>AM (AM ⟨rfl,h₅⟩)) λ_ _ h'=>h'.elim)) λ_ _ h'=>h'.elim))
def vx (X:Cx) (scope:Scope) (Nb:List Str) (target:Expr) (ifs:List Expr) (elt:Expr) (g:TG) (ts:TT) (te:TE):Prop :=
 ∀C s H fp,PG (j8 X scope Nb C s H fp) target g/\PTs (j8 X scope Nb C s H fp) ifs ts/\PE (j8 X scope Nb C s H fp) elt te
theorem qa {elt target iter:Expr} {ifs:List Expr} {pos:Pos} {g:TG} {ts:TT} {te:TE} {pins:List (Addr×Obj)} {σ:St} {H:Hp} {s:Shared} {it:Addr} {fp:List Addr} {tn:Nat->Heap->Prop} {J:L2.It} {Q:VK} {E:Value->Shared->Prop} {use:Option (Value->Sem Unit)} {QQ:Value->Shared->Prop}
  (S:CompScope X.env.scope scope X.N Nb cap nl) (hc:X.calm=true) (B:vx X scope Nb target ifs elt g ts te) (I:Inv X pins σ H s) (T:Turn X.prog X.w X.K target J fp it tn) (t0:tn 0 s.heap) (hf:∀b∈fp,A6 X pins H b)
  (h:∃W:Nat->Nat->Hp->List V->Prop,(∃m,W 0 m H [])/\∀i m H acc,W i m H acc ->
   (J.stop i H/\acc.length<=sizeLine/\∀p,H p=none->Q (.ref p) (upd H p (.lst acc))) \/
   (J.go i H/\acc.length<sizeLine/\∀x H',J.yld i H x H'->g x (g8 cap nl σ) H' λσ2 H2=>Kept (g8 cap nl σ) σ2/\ts σ2 H2 λb H3=>if b=true then te σ2 H3 λv H4=>∃m',m'<m/\W (i+1) m' H4 (acc++[v])else ∃m',m'<m/\W (i+1) m' H3 acc))
  (hQ:∀(D C:Addr) (s':Shared) m,s.heap.objs.size<=C->(∀h',Heap.SameBut C s'.heap h'->EP X pins σ (λv H=>H C=none/\Q v H) (.ref D) {s' with heap:=h'})->s'.heap.Ns C m->compPost (model X.prog X.w) X.A E use QQ (.ref D) C (.ok .next) s') :
  wpAny (model X.prog X.w) X.A (newList []) (λacc s₃=>wpAny (model X.prog X.w) X.A (newFunctionEnv scope X.env.globals (yi X.env scope.names []) [] X.env.qual none .none (some X.env)) (λcenv s₄ =>
   codeAny (model X.prog X.w) X.A (.compStart (.ListComp elt [⟨target,iter,ifs,0⟩] scope pos) 0 (.ref it) acc {cenv with scope:=relabel scope X.env}) (compPost (model X.prog X.w) X.A E use QQ acc cenv.locals) s₄) E s₃) E s:=by
 refine DL (B1 λh₁ hns₁ hsb₁ cok=>?_)
 dsimp only at hns₁ hsb₁ cok ⊢
 generalize hH2:s.heap.push {cls:=.type "list",dict:=none,data:=.seq ([]:List Value).toArray}=H2 at hns₁ hsb₁ cok ⊢
 have hC:H2.objs.size=s.heap.objs.size+1:=by rw[<-hH2,EB]
 have hDC:s.heap.objs.size≠H2.objs.size:=by rw[hC];exact BD (GZ _)
 have hCle:s.heap.objs.size<=H2.objs.size:=by rw[hC];exact Nat.le_succ _
 have old:∀b o,s.heap.get? b=some o->h₁.get? b=some o:=λb o e=>hsb₁ b o (hH2 ▸ AF _ e)
 have hDo:h₁.get? s.heap.objs.size=some {cls:=.type "list",data:=.seq #[]}:=hsb₁ _ _ (hH2 ▸ AX _ rfl)
 have own:∀x c,(x,c)∈cellsFrom (H2.objs.size+1) scope.names []->H2.objs.size<c:=λx c q=>(cok.empty x c q).2
 have hfp:∀b∈fp,∃o,s.heap.get? b=some o:=λb hb=>let ⟨o,e,_⟩:=T.obj 0 _ t0 b hb;⟨o,e⟩
 have hlt:∀b∈fp,b<s.heap.objs.size:=λb hb=>let ⟨o,e⟩:=hfp b hb;AQ e
 obtain⟨W,⟨m0,w0⟩,turn⟩:=h
 obtain⟨BG,BT,BE⟩:=B H2.objs.size s H fp
 have I4:=B2 (tk:=s.toks) I S hf hfp old hCle (AK _) hDC hns₁ hDo cok
 have hcells:∀n,(n,NameKind.free)∈scope.names->∃c,X.env.cells.lookup n=some c:=λn hn=>by
  rcases S.free n hn with e | e
  ·exact I.ok.has n (.inl e)
  ·exact I.ok.has n (.inr e)
 -- what the iterator's objects are to the block
 have stat:∀{H':Hp},(∀b∈fp,H' b=none)->∀b∈fp,A6 (j8 X scope Nb H2.objs.size s H fp) [] H' b:=λhn b hb=>by
  refine⟨hn b hb,BD (AR (hlt b hb) hCle),λz=>?_,.inl hb,λx c e=>?_,λp hp=>absurd (show p∈([]:List (Addr×Obj))++[]from hp) (by simp)⟩
  ·rcases AV.mp (I.stkSub b z)with z | z
   ·exact(hf b hb).2.1 z
   ·exact(hf b hb).2.2.1 z
  ·rcases vv hcells e with q | q
   ·exact DT (Nat.lt_trans (AR (hlt b hb) hCle) (own x c q))
   ·exact(hf b hb).2.2.2.2.1 x c q
 have loop:∀s₃:Shared,s₃={s with heap:=h₁} ->
   codeAny (model X.prog X.w) X.A (.compLoop (.ListComp elt [⟨target,iter,ifs,0⟩] scope pos) 0 (.ref it) (.ref s.heap.objs.size) (compEnvC scope (B0 X.env scope H2.objs.size) H2.objs.size X.env))
    (compPost (model X.prog X.w) X.A E use QQ (.ref s.heap.objs.size) H2.objs.size) s₃:=by
  rintro s₃ rfl
  refine B3 (λn s'=>∃i H' acc its n',Inv (j8 X scope Nb H2.objs.size s H fp) [] (g8 cap nl σ) H' s'/\tn i s'.heap/\(∀b∈fp,H' b=none)/\H' s.heap.objs.size=none /\
   s'.heap.get? s.heap.objs.size=some {cls:=.type "list",data:=.seq (its:List Value).toArray n'}/\bu acc its/\W i n H' acc) ?_ m0
   ⟨0,H,[],[],_,I4.pins_of (λp hp=>absurd hp (by simp)),T.keep _ _ _ t0 λb hb o e=>old b o e,λb hb=>(hf b hb).1,I.hok.fresh (AK _),hDo,.nil,w0⟩
  rintro n s5 ⟨i,H5,acc,its,n5,I5,t5,f5,hD5,hget5,hv5,w5⟩
  rcases turn i n H5 acc w5 with⟨stop,hz,q⟩ | ⟨go,hz,q⟩
  ·refine thn (T.done (j8 X scope Nb H2.objs.size s H fp) rfl rfl rfl hc i [(s.heap.objs.size,{cls:=.type "list",data:=.seq its.toArray n5})] s5 _ H5 _ (I5.pins_of ?_) ?_ t5 stop) λr s6 ⟨hr,I6⟩=>?_
   ·intro p hp
    have e:p=(s.heap.objs.size,{cls:=.type "list",data:=.seq its.toArray n5}):=by simpa using hp
    subst e
    refine⟨hget5,hD5,hDC,λz=>?_,λv z=>by cases z⟩
    rcases AV.mp (I.stkSub _ (show s.heap.objs.size∈frs X.stack from z))with w | w
    ·exact absurd I.lt (by rw[<-w];exact Do _)
    ·exact I.nofs (AK _) w
   ·intro b hb
    obtain⟨a1,a2,a3,a4,a5,a6⟩:=stat f5 b hb
    refine⟨a1,a2,a3,a4,a5,λp hp=>?_⟩
    have e:p=(s.heap.objs.size,{cls:=.type "list",data:=.seq its.toArray n5}):=by
     have:p∈([]:List (Addr×Obj))++[(s.heap.objs.size,{cls:=.type "list",data:=.seq its.toArray n5})]:=hp
     simpa using this
    subst e
    exact λz=>absurd (hlt b hb) (by rw[<-z];exact Do _)
   ·subst hr
    have hget6:=(I6.pin (s.heap.objs.size,{cls:=.type "list",data:=.seq its.toArray n5}) (by show _∈([]:List (Addr×Obj))++_;simp)).1
    obtain⟨m6,hn6,_⟩:=I6.loc
    refine hQ _ _ s6 m6 hCle (λh' hs'=>?_) hn6
    have hk6:∀b o,b≠H2.objs.size->s6.heap.get? b=some o->h'.get? b=some o:=λb o hb e=>hs'.extBut b o hb e
    have hgetD:=hk6 _ _ hDC hget6
    have Cn:H5 H2.objs.size=none:=I6.free
    have hok':HOk X.prog X.w H5 h':=λb u e=>by
     refine(I6.hok b u e).stay (λc v hcc q=>hk6 c v ?_ q) (λ_ q=>q) λ_ _ q=>q
     rcases hcc with z | z
     ·rintro rfl;rw[<-z]at e;rw[Cn]at e;cases e
     ·rintro rfl;rw[Cn]at z;cases z
    refine⟨.ref s.heap.objs.size,upd H5 s.heap.objs.size (.lst acc),?_,rfl,by rw[av (Ne.symm hDC)];exact Cn,q _ hD5⟩
    have hU:Un (frs X.stack) fp H H5 s.heap s6.heap:=I6.base
    have nC:∀b o,s.heap.get? b=some o->b≠H2.objs.size:=λb o e=>BD (AR (AQ e) hCle)
    have nD:∀b o,s.heap.get? b=some o->b≠s.heap.objs.size:=λb o e=>BD (AQ e)
    refine I.call' (s':={s6 with heap:=h'}) (ch:=fp) (by show s6.os=s.os;exact I6.os) ⟨λb o e nn hb hx=>hk6 b o (nC b o e) (hU.keep b o e nn hb hx),λb o e nn hb hx=>?_,λb o e nn hx=>?_,λb o e hx=>?_,λb xs e=>?_,λb o u e=>?_,λb ps e=>?_⟩ ?_ I6.bare ?_
    ·obtain⟨sl,e2⟩:=hU.slot b o e nn hb hx
     exact⟨sl,hk6 b _ (nC b o e) e2⟩
    ·rw[av (nD b o e)];exact hU.free b o e nn hx
    ·obtain⟨o',e2⟩:=hU.there b o e hx
     exact⟨o',hk6 b _ (nC b o e) e2⟩
    ·have e2:=hU.tups b xs e
     rw[av (bh e2 hD5)];exact e2
    ·have e2:=hU.frzs b o u e
     rw[av (bh e2 hD5)];exact e2
    ·obtain⟨more,e2⟩:=hU.tbls b ps e
     exact⟨more,by rw[av (bh e2 hD5)];exact e2⟩
    ·exact L2.HOk.track hok' hD5 ⟨hz,its,n5,hv5,hgetD⟩
    ·intro b hb
     obtain⟨a1,a2,a3,a4,a5,a6⟩:=hf b hb
     exact⟨a4,a2,a5,a6⟩
  ·-- one more turn
   have notfs:s.heap.objs.size∉frs X.stack:=λz=>by
    rcases AV.mp (I.stkSub _ z)with w | w
    ·exact absurd I.lt (by rw[<-w];exact Do _)
    ·exact I.nofs (AK _) w
   have I5':Inv (j8 X scope Nb H2.objs.size s H fp) [(s.heap.objs.size,{cls:=.type "list",data:=.seq its.toArray n5})] (g8 cap nl σ) H5 s5:=I5.pins_of λp hp=>by
    have e:p=(s.heap.objs.size,{cls:=.type "list",data:=.seq its.toArray n5}):=by simpa using hp
    subst e
    exact⟨hget5,hD5,hDC,notfs,λv z=>by cases z⟩
   have stat':∀{H':Hp},(∀b∈fp,H' b=none)->∀b∈fp,A6 (j8 X scope Nb H2.objs.size s H fp) [(s.heap.objs.size,{cls:=.type "list",data:=.seq its.toArray n5})] H' b:=λhn b hb=>by
    obtain⟨a1,a2,a3,a4,a5,a6⟩:=stat hn b hb
    refine⟨a1,a2,a3,a4,a5,λp hp=>?_⟩
    have e:p=(s.heap.objs.size,{cls:=.type "list",data:=.seq its.toArray n5}):=by
     have:p∈([]:List (Addr×Obj))++[(s.heap.objs.size,{cls:=.type "list",data:=.seq its.toArray n5})]:=hp
     simpa using this
    subst e
    exact λz=>absurd (hlt b hb) (by rw[<-z];exact Do _)
   refine thn (T.item (j8 X scope Nb H2.objs.size s H fp) rfl rfl rfl hc i _ s5 _ H5 (λ_ _=>False) I5' (stat' f5) t5 go) λr s6 ⟨u,hr,h6⟩=>?_
   subst hr
   refine thn h6 λ_ s7 ⟨x,H7,I7,r7,y7,t7,f7⟩=>?_
   have I7':=I7.pinned (stat' f7) (T.obj _ _ t7)
   have back:∀{σ':St} {H':Hp} {s':Shared},Inv (j8 X scope Nb H2.objs.size s H fp) ([(s.heap.objs.size,{cls:=.type "list",data:=.seq its.toArray n5})]++sr fp s7.heap) σ' H' s' ->
     tn (i+1) s'.heap/\(∀b∈fp,H' b=none)/\H' s.heap.objs.size=none/\s'.heap.get? s.heap.objs.size=some {cls:=.type "list",data:=.seq its.toArray n5}:=λ{σ' H' s'} J'=>by
    have pD:=J'.pin (s.heap.objs.size,{cls:=.type "list",data:=.seq its.toArray n5}) (by show _∈([]:List (Addr×Obj))++_;simp)
    refine⟨T.keep _ _ _ t7 λb hb o e=>(J'.pin (b,o) (BW _ (BW _ (jr hb e)))).1,λb hb=>?_,pD.2.1,pD.1⟩
    obtain⟨o,e,d⟩:=T.obj _ _ t7 b hb
    exact(J'.pin (b,o) (BW _ (BW _ (jr hb e)))).2.1
   refine thn (BG _ s7 _ H7 x u _ I7' r7 (q x H7 y7)) λ_ s8 ⟨σ8,H8,I8,ks,q8⟩=>?_
   refine thn (BT _ s8 σ8 H8 _ I8 q8) λok s9 ⟨H9,I9,q9⟩=>?_
   cases ok with
   | false =>
    obtain⟨m',hm',w9⟩:∃m',m'<n/\W (i+1) m' H9 acc:=q9
    obtain⟨b1,b2,b3,b4⟩:=back I9
    exact⟨m',hm',i+1,H9,acc,its,n5,(I9.weak ks.1 ks.2).pins_of (λp hp=>absurd hp (by simp)),b1,b2,b3,b4,hv5,w9⟩
   | true =>
    refine thn (BE _ s9 σ8 H9 _ I9 q9) λxv s10 ⟨v,H10,I10,r10,m',hm',w10⟩=>?_
    obtain⟨b1,b2,b3,b4⟩:=back I10
    have hl5:=hv5.length
    refine wpAny_list_append_plain (items:=its.toArray) ⟨n5,b4⟩ (λh' hpl hs'=>?_) (by rw[AH,<-hl5];exact CN hz)
    obtain⟨n6,hg6⟩:=hpl
    have I11:Inv (j8 X scope Nb H2.objs.size s H fp) [] (g8 cap nl σ) H10 {s10 with heap:=h'}:=by
     have I10':=(I10.weak ks.1 ks.2).pins_of (pins':=[]) (λp hp=>absurd hp (by simp))
     refine I10'.turned (t':=s10.toks) (it:=s.heap.objs.size) (λb o hb e=>hs'.extBut b o hb e) b3 hDC (.inr (AK _)) (λx c e=>?_) (λp hp=>absurd (show p∈([]:List (Addr×Obj))++[]from hp) (by simp))
     rcases vv hcells e with q | q
     ·exact DT (Nat.lt_of_le_of_lt hCle (own x c q))
     ·obtain⟨v,hcc⟩:=I.cell x c q
      exact BD hcc.lt
    refine⟨m',hm',i+1,H10,acc++[v],its++[xv],n6,I11,?_,b2,b3,by rw[hg6];simp,hv5.append (.cons r10 .nil),w10⟩
    exact T.keep _ _ _ b1 λb hb o e=>hs'.extBut b o (BD (hlt b hb)) e
 exact codeAny_compStart_list (loop _ rfl) (T.self X.A 0 _ _ _ (T.keep _ _ _ t0 λb hb o e=>old b o e) (loop _ rfl))
theorem K1 {elt target iter:Expr} {ifs:List Expr} {pos:Pos} {wi:TI} {g:TG} {ts:TT} {te:TE} (S:CompScope X.env.scope scope X.N Nb cap nl) (hc:X.calm=true) (hi:PI X target iter wi) (B:vx X scope Nb target ifs elt g ts te)
  (hs:∀x,foldedSetIterable iter X.env x=pure x):PE X (.ListComp elt [⟨target,iter,ifs,0⟩] scope pos) (K0 wi g ts te (g8 cap nl)):=by
 intro pins s σ H Q I h
 rw[eval_ListComp]
 have hcells:∀n,(n,NameKind.free)∈scope.names->∃c,X.env.cells.lookup n=some c:=λn hn=>by
  rcases S.free n hn with e | e
  ·exact I.ok.has n (.inl e)
  ·exact I.ok.has n (.inr e)
 refine wpAny_comprehension_free (use:=none) rfl hs (p9 hcells) S.kind (λy hy hl=>by rw[S.uniq y hy,hl]) ?_
 refine thn (hi pins s σ H _ I h) λv s1 h1=>thn h1 λitv s2 ⟨it,fp,tn,J,H2,e,I2,T,t2,f2,hW⟩=>?_
 subst e
 exact qa (Q:=Q) (QQ:=EP X pins σ Q) S hc B I2 T t2 f2 hW λD C s' m _ hq hn=>⟨m,hn,λh' hs'=>let ⟨v,H',I',r,q⟩:=hq h' hs';⟨v,H',I',r,q.2⟩⟩
theorem Ak {elt target iter:Expr} {ifs:List Expr} {pos spos py:Pos} {y:Str} {i:Nat} {wi:TI} {g:TG} {ts:TT} {te:TE} (S:CompScope X.env.scope scope X.N Nb cap nl) (hc:X.calm=true) (hi:PI X target iter wi) (B:vx X scope Nb target ifs elt g ts te)
  (hs:∀x,foldedSetIterable iter X.env x=pure x) (hsw:swapsWith (.ListComp elt [⟨target,iter,ifs,0⟩] scope pos) (some (.Name y py)) spos.line X.env=pure true)
  (hN:X.N.Nodup) (hiN:X.N[i]? = some y) (hy:X.env.scope.names.lookup y=some .local) :
  PS X (.Assign [.Name y py] (.ListComp elt [⟨target,iter,ifs,0⟩] scope pos) spos) (λE σ H=>K0 wi g ts te (g8 cap nl) σ H (FQ λv H1=>E.nx (σ.set i (some v)) H1)):=by
 intro pins s σ H E I h
 rw[exec_Assign_Name_used _ _ _ _ hsw]
 have hcells:∀n,(n,NameKind.free)∈scope.names->∃c,X.env.cells.lookup n=some c:=λn hn=>by
  rcases S.free n hn with e | e
  ·exact I.ok.has n (.inl e)
  ·exact I.ok.has n (.inr e)
 refine AB (wpAny_standAt (AB ?_))
 show wpAny _ _ (comprehension _ scope X.env _ (newList []) false (eval iter X.env) (some (assign (.Name y py) X.env))>>=λ_=>pure ()) _ _ _
 refine AB (wpAny_comprehension_free (use:=some (assign (.Name y py) X.env)) rfl hs (p9 hcells) S.kind (λz hz hl=>by rw[S.uniq z hz,hl]) ?_)
 refine thn (hi pins s σ H _ I h) λv s1 h1=>thn h1 λitv s2 ⟨it,fp,tn,J,H2,e,I2,T,t2,f2,hW⟩=>?_
 subst e
 refine qa (Q:=FQ λv H1=>E.nx (σ.set i (some v)) H1) S hc B I2 T t2 f2 hW λD C s' m hC hq hn=>?_
 obtain⟨v,H',I',r,hCn,q⟩:=hq s'.heap (.refl ..)
 have hep:∃H',Inv X pins σ H' s'/\H' C=none/\E.nx (σ.set i (some v)) H':=by
  rcases q with q | ⟨p,xs,rfl,e,q⟩
  ·exact⟨H',I',hCn,q⟩
  ·obtain⟨o,I''⟩:=L2.Inv.freeze I' e
   exact⟨_,I'',by rw[av (λz=>by rw[z,e]at hCn;cases hCn)];exact hCn,q o⟩
 obtain⟨H',I',hCn,q⟩:=hep
 have hCL:C≠X.env.locals:=DT (AR I2.lt hC)
 show wpAny _ _ (assign (.Name y py) X.env (.ref D)) _ _ s'
 refine wpAny_assign_Name (sm I' hN hiN (.inl hy) r (λs'' I'' ⟨a,hsb,ha⟩=>?_) (.inr hy))
 have haC:C≠a:=by
  rcases ha with z | z
  ·rw[z];exact hCL
  ·obtain⟨w,hc⟩:=I2.cell y a z
   exact DT (AR hc.lt hC)
 refine⟨m,hn.sameBut hsb haC,λh' hs'=>?_⟩
 refine AM (AM ⟨_,H',?_,q⟩)
 refine I''.turned (t':=s''.toks) (it:=C) (λb o hb e=>hs'.extBut b o hb e) hCn hCL (.inr (BA I2.sz hC)) (λx c e=>?_) (λp hp=>?_)
 ·obtain⟨w,hc⟩:=I2.cell x c e
  exact BD (AR hc.lt hC)
 ·exact BD (AR (AQ (I2.pin p hp).1) hC)
end
def tTs (K:PySem.W.Frag) (φ:Phi) (x:Exs):TT:=λσv H Q=>∃ι σ μ,Sim K ι H μ/\lh K ι H σ σv/\fj K RB ι H (Ai φ x σ μ) Q
section
variable {X : Cx} {φ : Phi} {scope : Scope} {Nb : List Str} {cap : List Nat} {nl : Nat}
theorem PTs.imp {ifs:List Expr} {t t':TT} (h:PTs X ifs t) (i:∀σ H Q,t' σ H Q->t σ H Q):PTs X ifs t':=λpins s σ H Q I q=>h pins s σ H Q I (i σ H Q q)
theorem Oo:PTs X [] (tTs X.K φ .nil):=PTs.imp Kz λσv H Q ⟨ι,σ,μ,hS,hL,h⟩=>by
 simp![Ai]at h
 exact h.ok hS rfl
theorem K2 {c:Expr} {r:List Expr} {xc:Ex} {xr:Exs} (h1:PT X c (tT X.K φ xc)) (h2:PTs X r (tTs X.K φ xr)):PTs X (c::r) (tTs X.K φ (.cons xc xr)):=PTs.imp (Fp h1 h2) λσv H Q ⟨ι,σ,μ,hS,hL,h⟩=>by
 simp![Ai]at h
 obtain⟨d,μ1,e1,h⟩:=h.bind
 refine⟨ι,σ,μ,hS,hL,?_⟩
 rw[e1]
 cases d with
 | bl k =>
  intro ι1 x H1 p1 x1 s1 d1
  cases d1
  cases k with
  | true=>exact⟨ι1,σ,μ1,s1,hL.mono p1 x1,(show fj _ _ _ _ (Ai φ xr σ μ1) _ from h).mono p1 x1⟩
  | false=>exact h ι1 false H1 p1 x1 s1 rfl
 | _=>exact h.elim
theorem Fq {K:PySem.W.Frag} {ι:List Addr} {H:Hp} {σ:Sl} {σv:St} (hL:lh K ι H σ σv):lh K ι H (cap.map (λi=>(σ[i]?).getD none)++List.replicate nl none) (g8 cap nl σv):=λj d e=>by
 by_cases hj:j<cap.length
 ·rw[AN (by simpa using hj),BM,AA hj]at e
  simp![DR,BV]at e
  have e4:σ[cap[j]]? = some (some d):=by
   cases e5:σ[cap[j]]? with
   | none=>rw[e5]at e;cases e
   | some w=>rw[e5]at e;simp at e;rw[e]
  obtain⟨v,q1,q2⟩:=hL _ _ e4
  refine⟨v,?_,q2⟩
  unfold g8
  rw[AN (by simpa using hj),BM,AA hj]
  simp[q1]
 ·rw[BH (by simpa using hj),DK]at e
  split at e<;>cases e
theorem Fs {σv σv':St} {tg:Tg} (hs:∀j∈slots tg,cap.length<=j) (hl:σv'.length=(g8 cap nl σv).length) (h:∀j,j∉slots tg->σv'[j]? = (g8 cap nl σv)[j]?):Kept (g8 cap nl σv) σv':=by
 refine⟨hl.symm,λi v e=>?_⟩
 have hi:i<cap.length:=by
  by_cases hi:i<cap.length
  ·exact hi
  ·unfold g8 at e
   rw[BH (by simpa using hi),DK]at e
   split at e<;>cases e
 rw[h i λz=>absurd (hs i z) (by lia)]
 exact e
theorem uc {m:Mk} {tg:Tg} {it:It} {cs:Exs} {elt:Ex} {σv:St} {H:Hp} {Q:VK} (hs:∀j∈slots tg,cap.length<=j) (h:tE X.K φ (.comp m cap nl tg it cs elt) σv H Q) :
  K0 (tI X.K φ it) (tG X.K tg) (tTs X.K φ cs) (tE X.K φ elt) (g8 cap nl) σv H (FQ Q):=by
 obtain⟨ι,σ,μ,hS,hL,h⟩:=h
 simp![evE]at h
 obtain⟨⟨ds,g⟩,μ1,e1,h⟩:=h.bind
 refine⟨ι,σ,μ,hS,hL,?_⟩
 rw[e1]
 intro ι1 H1 J p1 x1 s1 wk
 refine⟨λi k H' acc=>k=ds.length-i/\i<=ds.length/\acc.length<=i/\∃ι' μ' ys,ι1 <+: ι'/\Ext H1 H'/\Sim X.K ι' H' μ'/\ai X.K ι' H' ys acc /\
  fj X.K (RD X.K) ι' H' ((mapR g (λd μ=>jf (d7 tg d (cap.map (λi=>(σ[i]?).getD none)++List.replicate nl none)) λσ' =>
    (Ai φ cs σ' μ).bind λb μ=>if b=true then(evE φ elt σ' μ).bind λx μ=>.ok [x] μ else .ok [] μ) (ds.drop i) μ').bind λxs μ=>mkL m (ys++xs) μ) Q,
  ⟨ds.length,by simp,EF _,AK _,ι1,μ1,[],AE _,.refl _,s1,by simp[ai],?_⟩,?_⟩
 ·simpa using h.mono p1 x1
 ·rintro i k H' acc ⟨rfl,hi,hacc,ι',μ',ys,p',x',s',hys,h'⟩
  have wl:=wk.len
  by_cases hlt:i<ds.length
  ·obtain⟨d,ed⟩:∃d,ds[i]? = some d:=⟨ds[i],AA hlt⟩
   have edrop:ds.drop i=d::ds.drop (i+1):=by
    rw[EW hlt]
    rw[AA hlt]at ed
    cases ed;rfl
   rw[edrop]at h'
   simp![mapR]at h'
   split at h'
   ·rename_i hgd
    right
    refine⟨wk.go i ι' H' μ' p' x' s' hgd hlt,by lia,λv H2 hy=>?_⟩
    obtain⟨x2,s2,d',ed',hd'⟩:=wk.yld i ι' H' μ' v H2 p' x' s' hgd hlt hy
    rw[ed]at ed';cases ed'
    rw[Res.bind_assoc]at h'
    cases eb:d7 tg d (cap.map (λi=>(σ[i]?).getD none)++List.replicate nl none)with
    | none=>rw[eb]at h';exact h'.elim
    | some σb =>
     rw[eb]at h'
     simp![j7]at h'
     have hLb:=Fq (cap:=cap) (nl:=nl) ((hL.mono (p1.trans p') (x1.trans x')).mono (AE _) x2)
     refine⟨ι',_,d,σb,hLb,?_,hd',eb,λσv2 l2 z2 z3 k2=>⟨Fs hs z3 k2,ι',σb,μ',s2,l2,?_⟩⟩
     ·simp[g8]
     ·rw[Res.bind_assoc]at h'
      obtain⟨b,μ2,e2,h2⟩:=h'.bind
      rw[e2]
      intro ι3 b' H3 p3 x3 s3 d3
      cases d3
      cases b with
      | false =>
       refine⟨ds.length-(i+1),by lia,rfl,hlt,by lia,ι3,μ2,ys,p'.trans p3,(x'.trans x2).trans x3,s3,ai.mono p3 (x2.trans x3) _ _ hys,?_⟩
       have h3:=h2.mono p3 (x2.trans x3)
       simpa[Res.bind_assoc]using h3
      | true =>
       simp![if_true]at h2 ⊢
       rw[Res.bind_assoc]at h2
       obtain⟨y,μ3,e3,h3⟩:=h2.bind
       refine⟨ι3,σb,μ2,s3,l2.mono p3 x3,?_⟩
       rw[e3]
       intro ι4 w H4 p4 x4 s4 d4
       refine⟨ds.length-(i+1),by lia,rfl,hlt,by simp;lia,ι4,μ3,ys++[y],(p'.trans p3).trans p4,((x'.trans x2).trans x3).trans x4,s4,(ai.mono (p3.trans p4) ((x2.trans x3).trans x4) _ _ hys).append (.one d4),?_⟩
       have h4:=h3.mono (p3.trans p4) ((x2.trans x3).trans x4)
       simpa[Res.bind_assoc]using h4
   ·exact h'.elim
  ·have ei:i=ds.length:=by lia
   subst ei
   simp![FN,mapR]at h'
   split at h'
   ·rename_i hgd
    refine .inl ⟨wk.stop ι' H' μ' p' x' s' hgd,by lia,λp hp=>lp s' hys (by simpa using h') hp⟩
   ·exact h'.elim
theorem Oq {e target iter:Expr} {ifs:List Expr} {pos:Pos} {m:Mk} {tg:Tg} {it:It} {cs:Exs} {elt:Ex} (S:CompScope X.env.scope scope X.N Nb cap nl) (hc:X.calm=true) (hi:PI X target iter (tI X.K φ it))
  (B:vx X scope Nb target ifs e (tG X.K tg) (tTs X.K φ cs) (tE X.K φ elt)) (hf:∀x,foldedSetIterable iter X.env x=pure x) (hs:∀j∈slots tg,cap.length<=j) :
  PE X (.ListComp e [⟨target,iter,ifs,0⟩] scope pos) (tE X.K φ (.comp m cap nl tg it cs elt)) :=
 PE.imp (PE.fq (K1 S hc hi B hf)) λσv H Q h=>uc hs h
theorem B4 {e target iter:Expr} {ifs:List Expr} {pos spos py:Pos} {y:Str} {i:Nat} {m:Mk} {tg:Tg} {it:It} {cs:Exs} {elt:Ex} (S:CompScope X.env.scope scope X.N Nb cap nl) (hc:X.calm=true) (hi:PI X target iter (tI X.K φ it))
  (B:vx X scope Nb target ifs e (tG X.K tg) (tTs X.K φ cs) (tE X.K φ elt)) (hf:∀x,foldedSetIterable iter X.env x=pure x) (hs:∀j∈slots tg,cap.length<=j)
  (hsw:swapsWith (.ListComp e [⟨target,iter,ifs,0⟩] scope pos) (some (.Name y py)) spos.line X.env=pure true) (hN:X.N.Nodup) (hiN:X.N[i]? = some y) (hy:X.env.scope.names.lookup y=some .local) :
  PS X (.Assign [.Name y py] (.ListComp e [⟨target,iter,ifs,0⟩] scope pos) spos) (tS X.K φ (.set i (.comp m cap nl tg it cs elt))) :=
 PS.imp (Ak S hc hi B hf hsw hN hiN hy) λE σv H ⟨ι,σ,μ,hS,hL,hl,h⟩=>by
  refine uc (m:=m) (Q:=λv H1=>E.nx (σv.set i (some v)) H1) hs ?_
  simp![evS]at h
  obtain⟨d,μ1,e1,h⟩:=h.bind
  refine⟨ι,σ,μ,hS,hL,?_⟩
  rw[e1]
  exact λι1 v H1 p1 x1 s1 d1=>h ι1 _ H1 p1 x1 s1 ((hL.mono p1 x1).set hl d1) (by simp[hl])
end
theorem K3 (i:Int) (h:0<=i):Builtin.bitXor i 1=if i % 2=0 then i+1 else i-1:=by
 rw[PyProof.Rows.bitXor_and,PyProof.Rows.bitAnd_m1]
 split<;>lia
section
variable {X : Cx} {φ : Phi}
theorem dq {K:PySem.W.Frag} {ι:List Addr} {H:Hp} {ds:List D} {v:V} (h:IsD K ι H (.tup ds) v):∃a xs,v=.ref a/\SqT K H a xs/\ai K ι H ds xs:=by
 simpa[IsD]using h
theorem tup_is {K:PySem.W.Frag} {ι:List Addr} {H:Hp} {ds:List D} {a:Addr} {xs:List V} (h:SqT K H a xs) (h2:ai K ι H ds xs):IsD K ι H (.tup ds) (.ref a):=by
 simp![IsD]
 exact⟨a,xs,rfl,h,h2⟩
theorem cx {K:PySem.W.Frag} {ι:List Addr} {H:Hp} {i:Int} {v:V} (h:IsD K ι H (.int i) v):v=.int i:=by simpa[IsD]using h
theorem vy {K:PySem.W.Frag} {ι:List Addr} {H:Hp} {i:Bool} {v:V} (h:IsD K ι H (.bl i) v):v=.bl i:=by simpa[IsD]using h
theorem qt {K:PySem.W.Frag} {ι:List Addr} {H:Hp} {μ:Sto} {ds:List D} {xs:List V} {Q:VK} {p:Addr} (hS:Sim K ι H μ) (hd:ai K ι H ds xs) (h:fj K (RD K) ι H (.ok (.tup ds) μ) Q) (hp:H p=none):Q (.ref p) (upd H p (.tup xs)) :=
 h ι (.ref p) _ (AE _) (.new hp) (hS.new hp) (tup_is (.of bf) (ai.mono (AE _) (.new hp) ds xs hd))
theorem B5 {pins:List (Addr×Obj)} {s:Shared} {σ:St} {H:Hp} {l b:Addr} {xs zs:List V} {Q:VK} (I:Inv X pins σ H s) (hl:LsL X.K H l xs) (hb:LsL X.K H b zs) (hz:xs.length+zs.length<=sizeLine)
  (q:∀p,H p=none->Q (.ref p) (upd H p (.lst (xs++zs)))):wpAny (model X.prog X.w) X.A (binaryOp .Add (.ref l) (.ref b)) (EP X pins σ Q) X.xe s:=by
 obtain⟨z,its,n,r,hl,e⟩:=I.ls hl
 obtain⟨z2,its2,n2,r2,hl2,e2⟩:=I.ls hb
 refine PySem.P.add_list e e2 ?_ (by rw[AH,AH];lia)
 have ea:its.toArray++its2.toArray=(its++its2).toArray:=by simp
 rw[ea]
 exact⟨.ref _,_,I.lnew (t':=s.toks) (r.append r2) (by rw[AO];lia),rfl,q _ I.fresh⟩
theorem Ft {pins:List (Addr×Obj)} {s:Shared} {σ:St} {H:Hp} {l:Addr} {k:Int} {t:Tok} {xs:List V} {Q:VK} (I:Inv X pins σ H s) (hH:LsL X.K H l xs) (h1:-(2 ^ 63)<=k) (h2:k<2 ^ 63) (hz:xs.length*k.toNat<=sizeLine)
  (q:∀p,H p=none->Q (.ref p) (upd H p (.lst (List.replicate k.toNat xs).flatten))):wpAny (model X.prog X.w) X.A (binaryOp .Mult (.ref l) (.int k t)) (EP X pins σ Q) X.xe s:=by
 obtain⟨z,its,n,r,hl,e⟩:=I.ls hH
 have hlen:its.toArray.size*k.toNat<=sizeLine:=by rw[AH,<-hl];exact hz
 have hcap:¬its.toArray.size*k.toNat > (2 ^ 63-1) / 8:=by
  have:(sizeLine:Nat)<=(2 ^ 63-1) / 8:=by decide
  lia
 have hfit:¬(!Builtin.List.listFitsIndex k)=true:=by
  rw[fitsIndex_both h1 h2]
  exact BI
 have hlong:¬Builtin.List.listTooLong (its.toArray.size*k.toNat)=true:=by
  rw[yf hlen]
  exact BI
 have hnew:List.foldl (λx1 x2=>x1++x2) #[] (List.replicate (if its.toArray.isEmpty=true then 0 else k.toNat) its.toArray)=(List.replicate k.toNat its).flatten.toArray:=by
  have f0:∀m:Nat,List.foldl (λx1 x2=>x1++x2) #[] (List.replicate m its.toArray)=(List.replicate m its).flatten.toArray:=λm=>by
   have:=foldl_rep its m []
   rw[DS]at this
   exact this
  rw[f0]
  cases its with
  | nil=>simp
  | cons a r'=>rw[if_neg (by simp)]
 refine wpAny_binaryOp_repeat_ref (T:="list") (U:="int") (by decide) ⟨_,e,rfl⟩ (λs'=>typeIs_int s' k t) noFill_list_mul F.fills_int_mul F.slot_int_rmul repeat_list F.slot_int_index.lookup
  (call_meets F.slot_int_rmul (typeIs_int s k t) F.entry_int_rmul (F.args_int_rmul_2 _ _) (int___rmul___int_list k t l its.toArray n)
   ⟨e,rfl,⟨_,e,rfl⟩,call_meets F.slot_list_mul ⟨_,e,rfl⟩ F.entry_list_mul (F.args_list_mul_2 _ _) (AutoListH.list___mul___list_int_3 l its.toArray n k t hfit hcap hlong) ⟨e,?_⟩⟩)
 rw[hnew]
 exact⟨.ref _,_,I.lnew (t':=s.toks) (r.rep k.toNat) (by rw[len_rep,Nat.mul_comm];exact hz),rfl,q _ I.fresh⟩
theorem K4 {pins:List (Addr×Obj)} {s:Shared} {σ:St} {H:Hp} {a b:Addr} {ys:List V} {Q:VK} (I:Inv X pins σ H s) (ha:SqT X.K H a []) (hb:SqT X.K H b ys) (q:Q (.ref b) H) :
  wpAny (model X.prog X.w) X.A (binaryOp .Add (.ref a) (.ref b)) (EP X pins σ Q) X.xe s:=by
 obtain⟨its,r1,p1,_⟩:=I.tuple ha
 obtain⟨its2,r2,p2,_⟩:=I.tuple hb
 have e1:its=[]:=by cases r1;rfl
 subst e1
 obtain⟨⟨cls,dd,data,sl⟩,ho,hc,n,hd⟩:=id p1
 obtain⟨⟨cls2,dd2,data2,sl2⟩,ho2,hc2,n2,hd2⟩:=id p2
 simp only at hc hd hc2 hd2
 subst hc hd hc2 hd2
 exact concat_meets ⟨_,ho,rfl⟩ ⟨_,ho2,rfl⟩ GW seq_tuple_add FJ FG (FA _ _)
   (tuple_addW0 a b ([]:List Value).toArray its2.toArray n n2 dd dd2 sl sl2 (by simp)) ⟨ho,ho2,⟨.ref b,H,I,rfl,q⟩⟩
theorem bin_ok {op:Operator} {m:Mk}:OpR X (binaryOp op) (rOp X.K (opD op m)):=by
 intro pins s σ H x y v u Q I rx ry ⟨ι,d,e,μ,hS,hd,he,h⟩
 unfold opD at h
 split at h
 ·rename_i i j
  cases cx hd
  cases cx he
  unfold opI at h
  split at h
  ·exact op_add pins s σ H _ _ v u Q I rx ry ⟨i,j,rfl,rfl,h.ok hS (by simp[IsD])⟩
  ·exact op_sub pins s σ H _ _ v u Q I rx ry ⟨i,j,rfl,rfl,h.ok hS (by simp[IsD])⟩
  ·split at h
   ·rename_i hc
    exact op_mul pins s σ H _ _ v u Q I rx ry ⟨i,j,rfl,rfl,hc,h.ok hS (by simp[IsD])⟩
   ·exact h.elim
  ·split at h
   ·rename_i hc
    exact J6 pins s σ H _ _ v u Q I rx ry ⟨i,j,rfl,rfl,hc,h.ok hS (by simp[IsD])⟩
   ·exact h.elim
  ·split at h
   ·rename_i hc
    exact op_mod pins s σ H _ _ v u Q I rx ry ⟨i,j,rfl,rfl,hc,h.ok hS (by simp[IsD])⟩
   ·exact h.elim
  ·split at h
   ·rename_i hc
    exact op_pow pins s σ H _ _ v u Q I rx ry ⟨i,j,rfl,rfl,hc,h.ok hS (by simp[IsD])⟩
   ·exact h.elim
  ·split at h
   ·rename_i hc
    exact op_shr pins s σ H _ _ v u Q I rx ry ⟨i,j,rfl,rfl,hc,h.ok hS (by simp[IsD])⟩
   ·exact h.elim
  ·split at h
   ·rename_i hc
    exact Nd pins s σ H _ _ v u Q I rx ry ⟨i,j,rfl,rfl,hc,h.ok hS (by simp[IsD])⟩
   ·exact h.elim
  ·split at h
   ·rename_i hc
    obtain⟨h0,rfl⟩:=hc
    refine Nf pins s σ H _ _ v u Q I rx ry ⟨i,1,rfl,rfl,?_⟩
    show Q (.int (Builtin.bitXor i 1)) H
    rw[K3 i h0]
    exact h.ok hS (by simp[IsD])
   ·exact h.elim
  ·exact h.elim
 ·rename_i xs ys
  split at h
  ·split at h
   ·rename_i hz
    obtain⟨a,vs,rfl,ha,hvs⟩:=dq hd
    obtain⟨b,ws,rfl,hb,hws⟩:=dq he
    cases rx
    cases ry
    rw[fo]at hz
    by_cases hx:vs=[]
    ·subst hx
     have e1:xs=[]:=by have:=hvs.length;simpa using this.symm
     subst e1
     exact K4 I ha hb (h.ok hS he)
    ·refine Kd pins s σ H (.ref a) (.ref b) _ _ Q I rfl rfl ⟨a,b,vs,ws,rfl,rfl,ha,hb,hx,by rw[hvs.length,hws.length];exact hz,λz=>?_,λz p hp=>qt hS (hvs.append hws) h hp⟩
     subst z
     have e1:ys=[]:=by have:=hws.length;simpa using this.symm
     subst e1
     exact h.ok hS (by simpa using hd)
   ·exact h.elim
  ·exact h.elim
 ·rename_i j _
  cases cx he
  split at h
  ·rename_i es
   split at h
   ·rename_i hz
    obtain⟨a,xs,rfl,ha,hxs⟩:=gw hS hd es
    cases rx
    obtain⟨t,rfl⟩:=ry
    rw[fo]at hz
    exact Ho (Ft I ha hz.2.1 hz.2.2 (by rw[hxs.length];exact hz.1) λp hp=>lp hS (hxs.rep _) h hp)
   ·exact h.elim
  ·exact h.elim
 ·split at h
  ·rename_i es1 es2
   split at h
   ·rename_i hz
    obtain⟨a,xs,rfl,ha,hxs⟩:=gw hS hd es1
    obtain⟨b,ys,rfl,hb,hys⟩:=gw hS he es2
    cases rx
    cases ry
    rw[fo]at hz
    exact Ho (B5 I ha hb (by rw[hxs.length,hys.length];exact hz) λp hp=>lp hS (hxs.append hys) h hp)
   ·exact h.elim
  ·exact h.elim
end
section
variable (K : PySem.W.Frag) (H : Hp)
mutual
def IsW:D->V->Prop
 | .non,v=>v=.non
 | .bl b,v=>v=.bl b
 | .int i,v=>v=.int i
 | .str x,v=>v=.str x
 | .tup ds,v=>∃a xs,v=.ref a/\SqT K H a xs/\ig ds xs
 | .lst ds,v=>∃a xs,v=.ref a/\LsL K H a xs/\ig ds xs
 | .loc _,_=>False
def ig:List D->List V->Prop
 | [],xs=>xs=[]
 | d::ds,xs=>∃v r,xs=v::r/\IsW d v/\ig ds r
end
end
section
variable {K : PySem.W.Frag} {H : Hp}
theorem ig.length:∀{ds:List D} {xs:List V},ig K H ds xs->xs.length=ds.length
 | [],xs,h=>by simp![ig]at h;subst h;rfl
 | d::ds,xs,h=>by
  simp![ig]at h
  obtain⟨v,r,rfl,_,t⟩:=h
  simp[ig.length t]
theorem ig.get:∀{ds:List D} {xs:List V} {i:Nat} {d:D},ig K H ds xs->ds[i]? = some d->∃v,xs[i]? = some v/\IsW K H d v
 | [],_,_,_,_,e=>by simp at e
 | d::ds,xs,0,_,h,e=>by
  simp![ig]at h
  obtain⟨v,r,rfl,q,_⟩:=h
  simp at e;subst e
  exact⟨v,rfl,q⟩
 | d::ds,xs,i+1,x,h,e=>by
  simp![ig]at h
  obtain⟨v,r,rfl,_,t⟩:=h
  obtain⟨w,h1,h2⟩:=ig.get (i:=i) (d:=x) t (by simpa using e)
  exact⟨w,by simpa using h1,h2⟩
theorem oo {ds:List D} {v:V} (h:IsW K H (.tup ds) v):∃a xs,v=.ref a/\SqT K H a xs/\ig K H ds xs:=by simpa[IsW]using h
theorem B6 {ι:List Addr} {μ:Sto} (S:Sim K ι H μ) (f:D->Option D) (hf:∀d e v,f d=some e->IsD K ι H d v->IsW K H e v):∀{ds es:List D} {xs:List V},cw (ds.map f)=some es->ai K ι H ds xs->ig K H es xs
 | [],es,xs,h,hd=>by
  simp![CW,cw,BV]at h
  subst h
  simpa[ai,ig]using hd
 | d::ds,es,xs,h,hd=>by
  simp![AL]at h
  cases e1:f d with
  | none=>rw[e1]at h;simp[cw]at h
  | some e =>
   rw[e1]at h
   simp![cw]at h
   cases e2:cw (ds.map f)with
   | none=>rw[e2]at h;cases h
   | some r =>
    rw[e2]at h
    cases h
    simp![ai]at hd
    obtain⟨v,t,rfl,q,hd⟩:=hd
    simp![ig]
    exact⟨v,t,rfl,hf d e v e1 q,B6 S f hf e2 hd⟩
theorem ud {ι:List Addr} {μ:Sto} (S:Sim K ι H μ):∀(k:Nat) (d e:D) (v:V),a7 μ k d=some e->IsD K ι H d v->IsW K H e v
 | 0,d,e,v,h,hd=>by
  cases d<;>simp_all[a7,flat,IsD,IsW]<;>(subst h;simp[IsW])
 | k+1,d,e,v,h,hd=>by
  have ih:=ud S k
  have sub:∀{ι':List Addr} {ds es:List D} {xs:List V},ι' <+: ι->cw (ds.map (a7 μ k))=some es->ai K ι' H ds xs->ig K H es xs:=λp h hd=>B6 S _ ih h (ai.mono p (.refl _) _ _ hd)
  cases d with
  | tup ds =>
   simp![a7]at h
   cases e1:cw (ds.map (a7 μ k))with
   | none=>rw[e1]at h;cases h
   | some es =>
    rw[e1]at h;cases h
    obtain⟨a,xs,rfl,hq,hds⟩:=dq hd
    simp![IsW]
    exact⟨a,xs,rfl,hq,sub (AE _) e1 hds⟩
  | lst ds =>
   simp![a7]at h
   cases e1:cw (ds.map (a7 μ k))with
   | none=>rw[e1]at h;cases h
   | some es =>
    rw[e1]at h;cases h
    obtain⟨a,xs,rfl,hq,hds⟩:∃a xs,v=.ref a/\FzL K H a xs/\ai K ι H ds xs:=by simpa[IsD]using hd
    simp![IsW]
    exact⟨a,xs,rfl,.inr hq,sub (AE _) e1 hds⟩
  | loc n =>
   obtain⟨a,rfl,hn⟩:∃a,v=.ref a/\ι[n]? = some a:=by simpa[IsD]using hd
   simp![a7]at h
   cases em:μ[n]? with
   | none=>rw[em]at h;cases h
   | some o =>
    obtain⟨a',q',ho⟩:=S.at em
    rw[hn]at q';cases q'
    rw[em]at h
    cases o with
    | l ds =>
     simp only at h
     obtain⟨xs,f1,f2⟩:=ho
     cases e1:cw (ds.map (a7 μ k))with
     | none=>rw[e1]at h;cases h
     | some es =>
      rw[e1]at h;cases h
      simp![IsW]
      exact⟨a,xs,rfl,(.inl f1),sub CY e1 f2⟩
    | r ds =>
     simp only at h
     obtain⟨xs,f1,f2⟩:=ho
     cases e1:cw (ds.map (a7 μ k))with
     | none=>rw[e1]at h;cases h
     | some es =>
      rw[e1]at h;cases h
      simp![IsW]
      exact⟨a,xs,rfl,(.inl f1),sub (AE _) e1 f2⟩
    | _=>cases h
  | _=>simp![a7]at h;cases h;simpa[IsD,IsW]using hd
mutual
theorem IsW.ofD:∀{d:D} {v:V},IsD K [] H d v->IsW K H d v
 | .non,v,h=>by simpa[IsD,IsW]using h
 | .bl _,v,h=>by simpa[IsD,IsW]using h
 | .int _,v,h=>by simpa[IsD,IsW]using h
 | .str _,v,h=>by simpa[IsD,IsW]using h
 | .tup ds,v,h=>by
  obtain⟨a,xs,rfl,hq,hds⟩:=dq h
  simp![IsW]
  exact⟨a,xs,rfl,hq,ig.ofD hds⟩
 | .lst ds,v,h=>by
  obtain⟨a,xs,rfl,hq,hds⟩:∃a xs,v=.ref a/\FzL K H a xs/\ai K [] H ds xs:=by simpa[IsD]using h
  simp![IsW]
  exact⟨a,xs,rfl,.inr hq,ig.ofD hds⟩
 | .loc n,v,h=>by simp[IsD]at h
theorem ig.ofD:∀{ds:List D} {xs:List V},ai K [] H ds xs->ig K H ds xs
 | [],xs,h=>by simpa[ai,ig]using h
 | d::ds,xs,h=>by
  simp![ai]at h
  obtain⟨v,r,rfl,q,t⟩:=h
  simp![ig]
  exact⟨v,r,rfl,IsW.ofD q,ig.ofD t⟩
end
theorem oq {μ:Sto} {k:Nat} (ih:∀d e,a7 μ k d=some e->D.pureN k e=true):∀{ds es:List D},cw (ds.map (a7 μ k))=some es->es.all (D.pureN k)=true
 | [],es,h=>by simp![CW,cw,BV]at h;subst h;rfl
 | d::ds,es,h=>by
  simp![AL]at h
  cases e1:a7 μ k d with
  | none=>rw[e1]at h;simp[cw]at h
  | some e =>
   rw[e1]at h
   simp![cw]at h
   cases e2:cw (ds.map (a7 μ k))with
   | none=>rw[e2]at h;cases h
   | some r =>
    rw[e2]at h;cases h
    simp![BO,ih d e e1,oq ih e2,Bool.and_self]
theorem g9 {μ:Sto}:∀(k:Nat) (d e:D),a7 μ k d=some e->D.pureN k e=true
 | 0,d,e,h=>by
  cases d<;>simp_all[a7,flat]<;>(subst h;rfl)
 | k+1,d,e,h=>by
  have ih:=g9 (μ:=μ) k
  have mp:∀{ds:List D} {c:List D->D},(∀es,es.all (D.pureN k)=true->D.pureN (k+1) (c es)=true)->(cw (ds.map (a7 μ k))).map c=some e->D.pureN (k+1) e=true:=λ{ds c} hc h=>by
   cases e1:cw (ds.map (a7 μ k))with
   | none=>rw[e1]at h;cases h
   | some es=>rw[e1]at h;cases h;exact hc es (oq ih e1)
  cases d with
  | tup ds=>simp![a7]at h;exact mp (c:=.tup) (λes h=>h) h
  | lst ds=>simp![a7]at h;exact mp (c:=.lst) (λes h=>h) h
  | loc n =>
   simp![a7]at h
   cases em:μ[n]? with
   | none=>rw[em]at h;cases h
   | some o =>
    rw[em]at h
    cases o with
    | l ds=>exact mp (c:=.lst) (λes h=>h) h
    | r ds=>exact mp (c:=.lst) (λes h=>h) h
    | _=>cases h
  | _=>simp![a7]at h;cases h;rfl
end
open PySem.SeqAt (EqAt RcAt RcNeAt)
section
variable {X : Cx} {φ : Phi} {pins : List (Addr × Obj)} {σ : St} {H : Hp} {s : Shared}
theorem in1_units (A:Around):A.in1.units=A.units+1:=by
 first | rfl | simp[Around.in1]
theorem lu:∀(as bs:List D),as.length=bs.length->lg as bs=(List.range as.length).all λj=>deq (as.getD j .non) (bs.getD j .non)
 | [],[],_=>rfl
 | a::as,b::bs,h=>by
  rw[lg,lu as bs (by simpa using h),BC,List.range_succ_eq_map,BO,DI]
  rfl
 | [],_::_,h=>by simp at h
 | _::_,[],h=>by simp at h
theorem qu:∀(as bs:List D),as.length≠bs.length->lg as bs=false
 | [],[],h=>absurd rfl h
 | a::as,b::bs,h=>by rw[lg,qu as bs (by simpa using h),Bool.and_false]
 | [],_::_,_=>rfl
 | _::_,[],_=>rfl
theorem ot:∀(k:Nat) (a b:D) (v:V),D.pureN k a=true->D.pureN k b=true->IsW X.K H a v->IsW X.K H b v->Inv X pins σ H s->deq a b=true:=by
 intro k
 have list:∀k,(∀(a b:D) (v:V),D.pureN k a=true->D.pureN k b=true->IsW X.K H a v->IsW X.K H b v->Inv X pins σ H s->deq a b=true) ->
   ∀(as bs:List D) (xs:List V),as.all (D.pureN k)=true->bs.all (D.pureN k)=true->ig X.K H as xs->ig X.K H bs xs->Inv X pins σ H s->lg as bs=true:=by
  intro k ih as
  induction as with
  | nil =>
   intro bs xs _ _ ha hb _
   have e:xs=[]:=by simpa[ig]using ha
   subst e
   have:=hb.length
   have e2:bs=[]:=by simpa using this.symm
   subst e2
   rfl
  | cons a as iha =>
   intro bs xs pa pb ha hb I
   cases bs with
   | nil =>
    have e:xs=[]:=by simpa[ig]using hb
    subst e
    have:=ha.length
    simp at this
   | cons b bs =>
    simp![ig]at ha hb
    obtain⟨v,r,e,q,t⟩:=ha
    obtain⟨v',r',e',q',t'⟩:=hb
    rw[e]at e'
    cases e'
    simp![BO,AU]at pa pb
    rw[lg,ih a b v pa.1 pb.1 q q' I,iha bs r pa.2 pb.2 t t' I]
    rfl
 have flat:∀(a b:D) (v:V),(∀ds,a≠.tup ds)->(∀ds,a≠.lst ds)->(∀n,a≠.loc n)->(∀n,b≠.loc n)->IsW X.K H a v->IsW X.K H b v->deq a b=true:=by
  intro a b v h1 h2 h3 h4 ha hb
  cases a with
  | tup ds=>exact absurd rfl (h1 ds)
  | lst ds=>exact absurd rfl (h2 ds)
  | loc n=>exact absurd rfl (h3 n)
  | _=>cases b<;>simp_all[IsW,deq]
 induction k with
 | zero =>
  intro a b v pa pb ha hb I
  refine flat a b v ?_ ?_ ?_ ?_ ha hb
  ·intro z e;subst e;simp[D.pureN]at pa
  ·intro z e;subst e;simp[D.pureN]at pa
  ·intro z e;subst e;simp[D.pureN]at pa
  ·intro z e;subst e;simp[D.pureN]at pb
 | succ k ih =>
  intro a b v pa pb ha hb I
  cases a with
  | loc n=>simp[D.pureN]at pa
  | tup as =>
   simp![IsW]at ha
   obtain⟨p,xs,rfl,hq,hds⟩:=ha
   cases b with
   | tup bs =>
    simp![IsW]at hb
    obtain⟨p',xs',e,hq',hds'⟩:=hb
    cases e
    have:=I.tuple_inj hq hq'
    subst this
    rw[deq]
    exact list k ih as bs xs (by simpa[D.pureN]using pa) (by simpa[D.pureN]using pb) hds hds' I
   | lst bs =>
    simp![IsW]at hb
    obtain⟨p',xs',e,hq',hds'⟩:=hb
    cases e
    exfalso
    obtain⟨its,_,⟨o,e1,c1,_⟩,_⟩:=I.tuple hq
    obtain⟨its',_,⟨o',n',e2,c2,_⟩,_⟩:=I.list hq'.sq
    rw[e1]at e2;cases e2
    rw[c1]at c2
    injection c2 with c3
    exact absurd c3 (by decide)
   | loc n=>simp[D.pureN]at pb
   | _=>simp[IsW]at hb
  | lst as =>
   simp![IsW]at ha
   obtain⟨p,xs,rfl,hq,hds⟩:=ha
   cases b with
   | lst bs =>
    simp![IsW]at hb
    obtain⟨p',xs',e,hq',hds'⟩:=hb
    cases e
    have:=I.list_inj hq.sq hq'.sq
    subst this
    rw[deq]
    exact list k ih as bs xs (by simpa[D.pureN]using pa) (by simpa[D.pureN]using pb) hds hds' I
   | tup bs =>
    simp![IsW]at hb
    obtain⟨p',xs',e,hq',hds'⟩:=hb
    cases e
    exfalso
    obtain⟨its,_,⟨o,e1,c1,_⟩,_⟩:=I.tuple hq'
    obtain⟨its',_,⟨o',n',e2,c2,_⟩,_⟩:=I.list hq.sq
    rw[e1]at e2;cases e2
    rw[c1]at c2
    injection c2 with c3
    exact absurd c3 (by decide)
   | loc n=>simp[D.pureN]at pb
   | _=>simp[IsW]at hb
  | _ =>
   refine flat _ b v (by intro _ z;cases z) (by intro _ z;cases z) (by intro _ z;cases z) ?_ ha hb
   intro z e;subst e;simp[D.pureN]at pb
theorem yl (I:Inv X pins σ H s) {k:Nat} {A:Around} {a b:D} {x y:V} {u v:Value} (pa:D.pureN k a=true) (pb:D.pureN k b=true) (ha:IsW X.K H a x) (hb:IsW X.K H b y) (ru:RelV x u) (rv:RelV y v) (h:RcAt A s u v (deq a b)):EqAt A s u v (deq a b):=by
 intro prog w E Q q
 have fl:∀b t,u≠.float b t:=λb t z=>by
  subst z
  cases a with
  | non=>cases(show x=.non by simpa[IsW]using ha);exact nomatch (show Value.float b t=.none from ru)
  | bl c=>cases(show x=.bl c by simpa[IsW]using ha);exact nomatch (show Value.float b t=.bool c from ru)
  | int c=>cases(show x=.int c by simpa[IsW]using ha);obtain⟨_,z⟩:=ru;cases z
  | str c=>cases(show x=.str c by simpa[IsW]using ha);obtain⟨_,z⟩:=ru;cases z
  | loc n=>simp[IsW]at ha
  | tup _=>obtain⟨c,_,rfl,_⟩:=oo ha;exact nomatch (show Value.float b t=.ref c from ru)
  | lst ds =>
        obtain⟨c,_,rfl,_⟩:∃a xs,x=.ref a/\LsL X.K H a xs/\ig X.K H ds xs:=by simpa[IsW]using ha
        exact nomatch (show Value.float b t=.ref c from ru)
 unfold eqBool
 refine DX ?_
 by_cases e:(u==v)=true
 ·rw[if_pos e]
  have e':u=v:=by simpa using e
  subst e'
  cases ru.inj rv
  rw[ot k _ _ _ pa pb ha hb I]at q
  exact AB (EJ (AM q))
 ·rw[if_neg e]
  have go:wpAny (model prog w) A (do
    let r <-richCompare .Eq u v
    truthOfDropped r) Q E s:=AB (h prog w _ _ (by exact DJ q))
  cases u with
  | float b t=>exact absurd rfl (fl b t)
  | _=>exact go
theorem B7 (A:Around) (a b:D) (x y:V) (u v:Value) (pa:D.pureN 0 a=true) (pb:D.pureN 0 b=true) (ha:IsW X.K H a x) (hb:IsW X.K H b y) (ru:RelV x u) (rv:RelV y v):RcAt A s u v (deq a b)/\RcNeAt A s u v (!deq a b):=by
 have b2:∀(a b:Int),decide (a=b)=(a==b):=λa b=>(ER a b).symm
 cases a with
 | tup _=>simp[D.pureN]at pa
 | lst _=>simp[D.pureN]at pa
 | loc _=>simp[D.pureN]at pa
 | non =>
  have ex:x=.non:=by simpa[IsW]using ha
  subst ex
  cases(show u=Value.none from ru)
  cases b with
  | tup _=>simp[D.pureN]at pb
  | lst _=>simp[D.pureN]at pb
  | loc _=>simp[D.pureN]at pb
  | non=>cases(show y=.non by simpa[IsW]using hb);cases(show v=Value.none from rv);exact⟨RcAt.none_none,RcNeAt.none_none⟩
  | bl c=>cases(show y=.bl c by simpa[IsW]using hb);cases(show v=Value.bool c from rv);exact⟨RcAt.none_bool _,RcNeAt.none_bool _⟩
  | int c=>cases(show y=.int c by simpa[IsW]using hb);obtain⟨t,rfl⟩:=rv;exact⟨RcAt.none_int _ _,RcNeAt.none_int _ _⟩
  | str c=>cases(show y=.str c by simpa[IsW]using hb);obtain⟨t,rfl⟩:=rv;exact⟨RcAt.none_str _ _,RcNeAt.none_str _ _⟩
 | bl d =>
  have ex:x=.bl d:=by simpa[IsW]using ha
  subst ex
  cases(show u=Value.bool d from ru)
  cases b with
  | tup _=>simp[D.pureN]at pb
  | lst _=>simp[D.pureN]at pb
  | loc _=>simp[D.pureN]at pb
  | non=>cases(show y=.non by simpa[IsW]using hb);cases(show v=Value.none from rv);exact⟨RcAt.bool_none _,RcNeAt.bool_none _⟩
  | bl c=>cases(show y=.bl c by simpa[IsW]using hb);cases(show v=Value.bool c from rv);exact⟨RcAt.bool_bool _ _,RcNeAt.bool_bool _ _⟩
  | int c=>cases(show y=.int c by simpa[IsW]using hb);obtain⟨t,rfl⟩:=rv;rw[deq,b2];exact⟨RcAt.bool_int _ _ _,RcNeAt.bool_int _ _ _⟩
  | str c=>cases(show y=.str c by simpa[IsW]using hb);obtain⟨t,rfl⟩:=rv;exact⟨RcAt.bool_str _ _ _,RcNeAt.bool_str _ _ _⟩
 | int d =>
  have ex:x=.int d:=by simpa[IsW]using ha
  subst ex
  obtain⟨t',rfl⟩:=ru
  cases b with
  | tup _=>simp[D.pureN]at pb
  | lst _=>simp[D.pureN]at pb
  | loc _=>simp[D.pureN]at pb
  | non=>cases(show y=.non by simpa[IsW]using hb);cases(show v=Value.none from rv);exact⟨RcAt.int_none _ _,RcNeAt.int_none _ _⟩
  | bl c=>cases(show y=.bl c by simpa[IsW]using hb);cases(show v=Value.bool c from rv);rw[deq,b2];exact⟨RcAt.int_bool _ _ _,RcNeAt.int_bool _ _ _⟩
  | int c=>cases(show y=.int c by simpa[IsW]using hb);obtain⟨t,rfl⟩:=rv;rw[deq,b2];exact⟨RcAt.int_int _ _ _ _,RcNeAt.int_int _ _ _ _⟩
  | str c=>cases(show y=.str c by simpa[IsW]using hb);obtain⟨t,rfl⟩:=rv;exact⟨RcAt.int_str _ _ _ _,RcNeAt.int_str _ _ _ _⟩
 | str d =>
  have ex:x=.str d:=by simpa[IsW]using ha
  subst ex
  obtain⟨t',rfl⟩:=ru
  cases b with
  | tup _=>simp[D.pureN]at pb
  | lst _=>simp[D.pureN]at pb
  | loc _=>simp[D.pureN]at pb
  | non=>cases(show y=.non by simpa[IsW]using hb);cases(show v=Value.none from rv);exact⟨RcAt.str_none _ _,RcNeAt.str_none _ _⟩
  | bl c=>cases(show y=.bl c by simpa[IsW]using hb);cases(show v=Value.bool c from rv);exact⟨RcAt.str_bool _ _ _,RcNeAt.str_bool _ _ _⟩
  | int c=>cases(show y=.int c by simpa[IsW]using hb);obtain⟨t,rfl⟩:=rv;exact⟨RcAt.str_int _ _ _ _,RcNeAt.str_int _ _ _ _⟩
  | str c =>
   cases(show y=.str c by simpa[IsW]using hb);obtain⟨t,rfl⟩:=rv
   have e:deq (.str d) (.str c)=(d==c):=by rw[deq];exact(ER d c).symm
   rw[e];exact⟨RcAt.str_str _ _ _ _,RcNeAt.str_str _ _ _ _⟩
theorem Ot (I:Inv X pins σ H s):∀(k:Nat) (A:Around) (a b:D) (x y:V) (u v:Value),A.units+k<cLine->D.pureN k a=true->D.pureN k b=true->IsW X.K H a x->IsW X.K H b y->RelV x u->RelV y v->RcAt A s u v (deq a b)/\RcNeAt A s u v (!deq a b):=by
 intro k
 induction k with
 | zero=>exact λA a b x y u v _ pa pb ha hb ru rv=>B7 A a b x y u v pa pb ha hb ru rv
 | succ k ih =>
  intro A a b x y u v hu pa pb ha hb ru rv
  have hu0:A.units<cLine:=by lia
  have each:∀(as bs:List D) (xs ys:List V) (is js:List Value),as.all (D.pureN k)=true->bs.all (D.pureN k)=true->ig X.K H as xs->ig X.K H bs ys->bu xs is->bu ys js ->
    ∀j (h1:j<is.toArray.size) (h2:j<js.toArray.size),EqAt A.in1 s is.toArray[j] js.toArray[j] (deq (as.getD j .non) (bs.getD j .non)):=by
   intro as bs xs ys is js pas pbs has hbs hvx hvy j h1 h2
   have l1:as.length=is.length:=by rw[<-has.length,hvx.length]
   have l2:bs.length=js.length:=by rw[<-hbs.length,hvy.length]
   have j1:j<as.length:=by rw[l1];simpa using h1
   have j2:j<bs.length:=by rw[l2];simpa using h2
   obtain⟨p,e1,q1⟩:=has.get (AA j1)
   obtain⟨p',e1',q1'⟩:=hbs.get (AA j2)
   obtain⟨w,e2,q2⟩:=hvx.get e1
   obtain⟨w',e2',q2'⟩:=hvy.get e1'
   have g1:is.toArray[j]=w:=by
    have:is[j]? = some is.toArray[j]:=by simp[AA (show j<is.length by lia)]
    rw[this]at e2;exact CD e2
   have g2:js.toArray[j]=w':=by
    have:js[j]? = some js.toArray[j]:=by simp[AA (show j<js.length by lia)]
    rw[this]at e2';exact CD e2'
   rw[g1,g2,CF,CF,AA j1,AA j2]
   have pa:=AS.mp pas _ (EC j1)
   have pb:=AS.mp pbs _ (EC j2)
   exact yl I pa pb q1 q1' q2 q2' (ih A.in1 _ _ p p' w w' (by rw[in1_units];lia) pa pb q1 q1' q2 q2').1
  have flat0:∀d:D,D.pureN (k+1) d=true->(∀ds,d≠.tup ds)->(∀ds,d≠.lst ds)->D.pureN 0 d=true:=λd h h1 h2=>by
   cases d with
   | tup ds=>exact absurd rfl (h1 ds)
   | lst ds=>exact absurd rfl (h2 ds)
   | loc n=>simp[D.pureN]at h
   | _=>rfl
  cases a with
  | loc n=>simp[D.pureN]at pa
  | tup as =>
   have pas:as.all (D.pureN k)=true:=by simpa[D.pureN]using pa
   obtain⟨p,xs,rfl,hq,hds⟩:=oo ha
   cases(show u=Value.ref p from ru)
   obtain⟨its,hv,ht,hz⟩:=I.tuple hq
   have ht':s.heap.IsTuple p its.toArray:=ht
   cases b with
   | loc n=>simp[D.pureN]at pb
   | tup bs =>
    have pbs:bs.all (D.pureN k)=true:=by simpa[D.pureN]using pb
    obtain⟨p',xs',rfl,hq',hds'⟩:=oo hb
    cases(show v=Value.ref p' from rv)
    obtain⟨its',hv',ht2,hz'⟩:=I.tuple hq'
    ·skip
     have ea:=each as bs xs xs' its its' pas pbs hds hds' hv hv'
     have q:=RcAt.tuples (A:=A) ht' (show s.heap.IsTuple p' its'.toArray from ht2) hu0 ea
     have q':=RcNeAt.tuples (A:=A) ht' (show s.heap.IsTuple p' its'.toArray from ht2) hu0 ea
     have l1:as.length=its.length:=by rw[<-hds.length,hv.length]
     have l2:bs.length=its'.length:=by rw[<-hds'.length,hv'.length]
     have e:((List.range (min its.toArray.size its'.toArray.size)).all (λj=>deq (as.getD j .non) (bs.getD j .non))&&its.toArray.size==its'.toArray.size)=deq (.tup as) (.tup bs):=by
      rw[deq]
      simp![AH,<-l1,<-l2]
      by_cases hl:as.length=bs.length
      ·rw[lu as bs hl,<-hl];simp
      ·rw[qu as bs hl];simp[hl]
     rw[e]at q q'
     exact⟨q,q'⟩
   | lst bs =>
    obtain⟨p',xs',rfl,hq',hds'⟩:∃a xs,y=.ref a/\LsL X.K H a xs/\ig X.K H bs xs:=by simpa[IsW]using hb
    cases(show v=Value.ref p' from rv)
    obtain⟨z,its',n',hv',_,hg⟩:=I.ls hq'
    exact⟨RcAt.tuple_list ht' ⟨_,hg,rfl,n',rfl⟩ hu0,RcNeAt.tuple_list ht' ⟨_,hg,rfl,n',rfl⟩ hu0⟩
   | non=>cases(show y=.non by simpa[IsW]using hb);cases(show v=Value.none from rv);exact⟨RcAt.tuple_none ht' hu0,RcNeAt.tuple_none ht' hu0⟩
   | bl c=>cases(show y=.bl c by simpa[IsW]using hb);cases(show v=Value.bool c from rv);exact⟨RcAt.tuple_bool _ ht' hu0,RcNeAt.tuple_bool _ ht' hu0⟩
   | int c=>cases(show y=.int c by simpa[IsW]using hb);obtain⟨t,rfl⟩:=rv;exact⟨RcAt.tuple_int _ _ ht' hu0,RcNeAt.tuple_int _ _ ht' hu0⟩
   | str c=>cases(show y=.str c by simpa[IsW]using hb);obtain⟨t,rfl⟩:=rv;exact⟨RcAt.tuple_str _ _ ht' hu0,RcNeAt.tuple_str _ _ ht' hu0⟩
  | lst as =>
   have pas:as.all (D.pureN k)=true:=by simpa[D.pureN]using pa
   obtain⟨p,xs,rfl,hq,hds⟩:∃a xs,x=.ref a/\LsL X.K H a xs/\ig X.K H as xs:=by simpa[IsW]using ha
   cases(show u=Value.ref p from ru)
   obtain⟨z,its,n,hv,_,hg⟩:=I.ls hq
   have hl':s.heap.IsList p its.toArray:=⟨_,hg,rfl,n,rfl⟩
   cases b with
   | loc n=>simp[D.pureN]at pb
   | lst bs =>
    have pbs:bs.all (D.pureN k)=true:=by simpa[D.pureN]using pb
    obtain⟨p',xs',rfl,hq',hds'⟩:∃a xs,y=.ref a/\LsL X.K H a xs/\ig X.K H bs xs:=by simpa[IsW]using hb
    cases(show v=Value.ref p' from rv)
    obtain⟨z',its',n',hv',_,hg'⟩:=I.ls hq'
    have hl2:s.heap.IsList p' its'.toArray:=⟨_,hg',rfl,n',rfl⟩
    ·skip
     have l1:as.length=its.length:=by rw[<-hds.length,hv.length]
     have l2:bs.length=its'.length:=by rw[<-hds'.length,hv'.length]
     by_cases hl:as.length=bs.length
     ·have ea:=each as bs xs xs' its its' pas pbs hds hds' hv hv'
      have ez:its.toArray.size=its'.toArray.size:=by simp![AH];lia
      have q:=RcAt.lists (A:=A) hl' hl2 ez hu0 ea
      have q':=RcNeAt.lists (A:=A) hl' hl2 ez hu0 ea
      have e:(List.range its.toArray.size).all (λj=>deq (as.getD j .non) (bs.getD j .non))=deq (.lst as) (.lst bs):=by
       rw[deq,lu as bs hl]
       simp![AH,<-l1]
      rw[e]at q q'
      exact⟨q,q'⟩
     ·rw[deq,qu as bs hl]
      exact⟨RcAt.lists_lengths hl' hl2 (by simp![AH];simp;lia) hu0,RcNeAt.lists_lengths hl' hl2 (by simp![AH];simp;lia) hu0⟩
   | tup bs =>
    obtain⟨p',xs',rfl,hq',hds'⟩:=oo hb
    cases(show v=Value.ref p' from rv)
    obtain⟨its',hv',ht2,hz'⟩:=I.tuple hq'
    exact⟨RcAt.list_tuple hl' (show s.heap.IsTuple p' its'.toArray from ht2) hu0,RcNeAt.list_tuple hl' (show s.heap.IsTuple p' its'.toArray from ht2) hu0⟩
   | non=>cases(show y=.non by simpa[IsW]using hb);cases(show v=Value.none from rv);exact⟨RcAt.list_none hl' hu0,RcNeAt.list_none hl' hu0⟩
   | bl c=>cases(show y=.bl c by simpa[IsW]using hb);cases(show v=Value.bool c from rv);exact⟨RcAt.list_bool _ hl' hu0,RcNeAt.list_bool _ hl' hu0⟩
   | int c=>cases(show y=.int c by simpa[IsW]using hb);obtain⟨t,rfl⟩:=rv;exact⟨RcAt.list_int _ _ hl' hu0,RcNeAt.list_int _ _ hl' hu0⟩
   | str c=>cases(show y=.str c by simpa[IsW]using hb);obtain⟨t,rfl⟩:=rv;exact⟨RcAt.list_str _ _ hl' hu0,RcNeAt.list_str _ _ hl' hu0⟩
  | _ =>
   cases b with
   | loc n=>simp[D.pureN]at pb
   | tup bs =>
    obtain⟨p',xs',rfl,hq',hds'⟩:=oo hb
    cases(show v=Value.ref p' from rv)
    obtain⟨its',hv',ht2,hz'⟩:=I.tuple hq'
    have ht':s.heap.IsTuple p' its'.toArray:=ht2
    first
    | (cases(show x=.non by simpa[IsW]using ha);cases(show u=Value.none from ru);exact⟨RcAt.none_tuple ht' hu0,RcNeAt.none_tuple ht' hu0⟩)
    | (cases(show x=.bl _ by simpa[IsW]using ha);cases(show u=Value.bool _ from ru);exact⟨RcAt.bool_tuple _ ht' hu0,RcNeAt.bool_tuple _ ht' hu0⟩)
    | (cases(show x=.int _ by simpa[IsW]using ha);obtain⟨t,rfl⟩:=ru;exact⟨RcAt.int_tuple _ _ ht' hu0,RcNeAt.int_tuple _ _ ht' hu0⟩)
    | (cases(show x=.str _ by simpa[IsW]using ha);obtain⟨t,rfl⟩:=ru;exact⟨RcAt.str_tuple _ _ ht' hu0,RcNeAt.str_tuple _ _ ht' hu0⟩)
   | lst bs =>
    obtain⟨p',xs',rfl,hq',hds'⟩:∃a xs,y=.ref a/\LsL X.K H a xs/\ig X.K H bs xs:=by simpa[IsW]using hb
    cases(show v=Value.ref p' from rv)
    obtain⟨z',its',n',hv',_,hg'⟩:=I.ls hq'
    have hl':s.heap.IsList p' its'.toArray:=⟨_,hg',rfl,n',rfl⟩
    first
    | (cases(show x=.non by simpa[IsW]using ha);cases(show u=Value.none from ru);exact⟨RcAt.none_list hl' hu0,RcNeAt.none_list hl' hu0⟩)
    | (cases(show x=.bl _ by simpa[IsW]using ha);cases(show u=Value.bool _ from ru);exact⟨RcAt.bool_list _ hl' hu0,RcNeAt.bool_list _ hl' hu0⟩)
    | (cases(show x=.int _ by simpa[IsW]using ha);obtain⟨t,rfl⟩:=ru;exact⟨RcAt.int_list _ _ hl' hu0,RcNeAt.int_list _ _ hl' hu0⟩)
    | (cases(show x=.str _ by simpa[IsW]using ha);obtain⟨t,rfl⟩:=ru;exact⟨RcAt.str_list _ _ hl' hu0,RcNeAt.str_list _ _ hl' hu0⟩)
   | _=>exact B7 A _ _ x y u v rfl rfl ha hb ru rv
theorem B8 (I:Inv X pins σ H s) (k:Nat) (A:Around) (a b:D) (x y:V) (u v:Value) (hu:A.units+k<cLine) (pa:D.pureN k a=true) (pb:D.pureN k b=true) (ha:IsW X.K H a x) (hb:IsW X.K H b y) (ru:RelV x u) (rv:RelV y v):EqAt A s u v (deq a b) :=
 yl I pa pb ha hb ru rv (Ot I k A a b x y u v hu pa pb ha hb ru rv).1
end
open PySem.SeqAt (EqAt RcAt)
section
variable {X : Cx} {φ : Phi} {pins : List (Addr × Obj)} {σ : St} {H : Hp} {s : Shared}
theorem Ou (hu:X.A.units+8<cLine):OpR X (compareOp .Eq) (rOp X.K (cpD .eq)):=by
 intro pins s σ H x y v u Q I rx ry ⟨ι,a,b,μ,hS,ha,hb,h⟩
 unfold cpD at h
 simp only at h
 split at h
 ·rename_i hp
  exact(Ot I 8 X.A a b x y v u hu hp.1 hp.2 (IsW.ofD (IsD.pur hp.1 ha)) (IsW.ofD (IsD.pur hp.2 hb)) rx ry).1 _ _ _ _ ⟨.bl (deq a b),H,I,rfl,h.ok hS (by simp[IsD])⟩
 ·exact h.elim
end
open PySem.SeqAt (EqAt RcNeAt)
section
variable {X : Cx} {φ : Phi} {pins : List (Addr × Obj)} {σ : St} {H : Hp} {s : Shared}
theorem Ov (hu:X.A.units+8<cLine):OpR X (compareOp .NotEq) (rOp X.K (cpD .ne)):=by
 intro pins s σ H x y v u Q I rx ry ⟨ι,a,b,μ,hS,ha,hb,h⟩
 unfold cpD at h
 simp only at h
 split at h
 ·rename_i hp
  exact(Ot I 8 X.A a b x y v u hu hp.1 hp.2 (IsW.ofD (IsD.pur hp.1 ha)) (IsW.ofD (IsD.pur hp.2 hb)) rx ry).2 _ _ _ _ ⟨.bl (!deq a b),H,I,rfl,h.ok hS (by simp[IsD])⟩
 ·exact h.elim
end
end Lp
namespace LT
open PySem PySem.Spec PyProof.Rows HT
open PySem.SeqAt
open PySem.AutoSeq1 (wpAny_loadPart')
open PySem.MeetsSeq PySem.MeetsSeq2 PySem.MeetsSeq3
theorem Wq (A:Around) (s:Shared) (a:Int) (t:Tok) (c:Int) (u:Tok) (prog:Program) (w:World) (E:Value->Shared->Prop) (Q:Value->Shared->Prop) (h:Q (.bool (decide (a<=c))) s) :
  wpAny (model prog w) A (richCompare .LtE (.int a t) (.int c u)) Q E s :=
 (PyProof.Rows.le_int h:wpAny (model prog w) A (compareOp .LtE (.int a t) (.int c u)) Q E s)
theorem Fu (l b:Addr) (items items2:Array Value) (n n2:Nat) (dd dd2:Option Addr) (sl sl2:Array (Option Value)) (ns ms:List Int) (ii:IntsAre items.toList ns) (jj:IntsAre items2.toList ms) :
  Meets (Builtin.«tuple.__le__» ⟨[.ref l,.ref b],[]⟩) (λ_ R s=>s.heap.get? l=some {cls:=.type "tuple",dict:=dd,data:=.seq items n,slots:=sl}/\s.heap.get? b=some {cls:=.type "tuple",dict:=dd2,data:=.seq items2 n2,slots:=sl2}/\R (.ok (.ret (.bool (!lexLt ms ns)))) s) :=
 .of_wp λprog w A R s h=>by
  obtain⟨hh0,g,d,tk0,os0⟩:=s;obtain⟨ql,hb,h⟩:=h
  have sub0:=DY
  have n1:ns.length=items.size:=by rw[<-ii.length,BS]
  have n2e:ms.length=items2.size:=by rw[<-jj.length,BS]
  wp_walk using CI ql,CI hb,FL _ (λrest b s'=>b.1=none/\s'=⟨hh0,g,d,tk0,os0⟩/\∃(us1 us2:List Value) (ms1 ms2:List Int),rest=us1.zip us2 /\
   IntsAre us1 ms1/\IntsAre us2 ms2/\ms1.length+items2.size=ms2.length+items.size/\R (.ok (.ret (.bool (!lexLt ms2 ms1)))) ⟨hh0,g,d,tk0,os0⟩) _
  case turn =>
   rintro⟨y,x⟩ rest b s' ⟨p0,rfl,us1,us2,ms1,ms2,pz,pv,pw,pl,fin0⟩
   cases pv with
   | nil=>rw[FI]at pz;cases pz
   | cons a t pv1 =>
    cases pw with
    | nil=>rw[EH]at pz;cases pz
    | cons c u pw1 =>
     rw[CL]at pz
     injection pz with pyx pr
     injection pyx with py px
     subst py px
     rw[fw]at fin0
     simp![BC]at pl
     obtain⟨same,eq0,eqi⟩:=nj A.in1 ⟨hh0,g,d,tk0,os0⟩ a t c u
     refine AB (eq0 prog w _ _ ?_)
     cases same with
     | true =>
      rw[if_pos (eqi.mp rfl).symm]at fin0
      wp_walk
      exact⟨rfl,rfl,_,_,_,_,pr,pv1,pw1,by lia,fin0⟩
     | false =>
      have hne:¬c=a:=λq=>absurd (eqi.mpr q.symm) BI
      rw[if_neg hne]at fin0
      have ed:(!decide (c<a))=decide (a<=c):=by
       by_cases hc:c<a
       ·rw[decide_eq_true hc,decide_eq_false (by lia)];rfl
       ·rw[decide_eq_false hc,decide_eq_true (by lia)];rfl
      rw[ed]at fin0
      have low:=Wq A.in1 ⟨hh0,g,d,tk0,os0⟩ a t c u prog w
      wp_walk using low
      exact⟨_,rfl,by simpa using fin0⟩
  case fin =>
   rintro⟨c1,c2⟩ s' ⟨p0,rfl,us1,us2,ms1,ms2,pz,pv,pw,pl,fin0⟩
   simp only at p0
   subst p0
   have hv:(!lexLt ms2 ms1)=decide (items.size<=items2.size):=by
    cases pv with
    | nil =>
     cases pw with
     | nil =>
      simp![BU]at pl
      rw[ik,decide_eq_true (by lia)];rfl
     | cons c u hw =>
      simp![BU,BC]at pl
      rw[gu,decide_eq_true (by lia)];rfl
    | cons a t hv =>
     cases pw with
     | nil =>
      simp![BU,BC]at pl
      rw[gs,decide_eq_false (by lia)];rfl
     | cons c u hw =>
      rw[CL]at pz
      cases pz
   rw[hv]at fin0
   wp_walk
   exact⟨_,rfl,by simpa[Builtin.Tuple.tupleCompareSizes]using fin0⟩
  case h =>
   exact⟨rfl,rfl,items.toList,items2.toList,ns,ms,rfl,ii,jj,by lia,h⟩
theorem Ow {prog:Program} {w:World} {A:Around} {E:Value->Shared->Prop} {s:Shared} {l b:Addr} {items items2:Array Value} {ns ms:List Int} {Q:Value->Shared->Prop} (hl:IsTup s.heap l items) (hb:IsTup s.heap b items2) (hi:IntsAre items.toList ns) (hj:IntsAre items2.toList ms)
  (hu:A.units<cLine) (h:Q (.bool (!lexLt ms ns)) s):wpAny (model prog w) A (compareOp .LtE (.ref l) (.ref b)) Q E s:=by
 obtain⟨⟨_,dd,_,sl⟩,ho,rfl,n,rfl⟩:=id hl
 obtain⟨⟨_,dd2,_,sl2⟩,ho2,rfl,n2,rfl⟩:=id hb
 exact EI (op:=.LtE) ⟨_,ho,rfl⟩ ⟨_,ho2,rfl⟩ PySem.F.slot_tuple_le PySem.F.entry_tuple_le (PySem.F.args_tuple_le_2 _ _) (Fu l b items items2 n n2 dd dd2 sl sl2 ns ms hi hj)
  ⟨ho,ho2,show Value.bool (!lexLt ms ns)≠Value.notImplemented/\Q (.bool (!lexLt ms ns)) s from⟨(λx=>nomatch x),h⟩⟩ hu
theorem Wr (A:Around) (s:Shared) (a:Int) (t:Tok) (c:Int) (u:Tok) (prog:Program) (w:World) (E:Value->Shared->Prop) (Q:Value->Shared->Prop) (h:Q (.bool (decide (c<=a))) s) :
  wpAny (model prog w) A (richCompare .GtE (.int a t) (.int c u)) Q E s :=
 (PyProof.Rows.ge_int h:wpAny (model prog w) A (compareOp .GtE (.int a t) (.int c u)) Q E s)
theorem Fv (l b:Addr) (items items2:Array Value) (n n2:Nat) (dd dd2:Option Addr) (sl sl2:Array (Option Value)) (ns ms:List Int) (ii:IntsAre items.toList ns) (jj:IntsAre items2.toList ms) :
  Meets (Builtin.«tuple.__ge__» ⟨[.ref l,.ref b],[]⟩) (λ_ R s=>s.heap.get? l=some {cls:=.type "tuple",dict:=dd,data:=.seq items n,slots:=sl}/\s.heap.get? b=some {cls:=.type "tuple",dict:=dd2,data:=.seq items2 n2,slots:=sl2}/\R (.ok (.ret (.bool (!lexLt ns ms)))) s) :=
 .of_wp λprog w A R s h=>by
  obtain⟨hh0,g,d,tk0,os0⟩:=s;obtain⟨ql,hb,h⟩:=h
  have sub0:=DY
  have n1:ns.length=items.size:=by rw[<-ii.length,BS]
  have n2e:ms.length=items2.size:=by rw[<-jj.length,BS]
  wp_walk using CI ql,CI hb,FL _ (λrest b s'=>b.1=none/\s'=⟨hh0,g,d,tk0,os0⟩/\∃(us1 us2:List Value) (ms1 ms2:List Int),rest=us1.zip us2 /\
   IntsAre us1 ms1/\IntsAre us2 ms2/\ms1.length+items2.size=ms2.length+items.size/\R (.ok (.ret (.bool (!lexLt ms1 ms2)))) ⟨hh0,g,d,tk0,os0⟩) _
  case turn =>
   rintro⟨y,x⟩ rest b s' ⟨p0,rfl,us1,us2,ms1,ms2,pz,pv,pw,pl,fin0⟩
   cases pv with
   | nil=>rw[FI]at pz;cases pz
   | cons a t pv1 =>
    cases pw with
    | nil=>rw[EH]at pz;cases pz
    | cons c u pw1 =>
     rw[CL]at pz
     injection pz with pyx pr
     injection pyx with py px
     subst py px
     rw[fw]at fin0
     simp![BC]at pl
     obtain⟨same,eq0,eqi⟩:=nj A.in1 ⟨hh0,g,d,tk0,os0⟩ a t c u
     refine AB (eq0 prog w _ _ ?_)
     cases same with
     | true =>
      rw[if_pos (eqi.mp rfl)]at fin0
      wp_walk
      exact⟨rfl,rfl,_,_,_,_,pr,pv1,pw1,by lia,fin0⟩
     | false =>
      have hne:¬a=c:=λq=>absurd (eqi.mpr q) BI
      rw[if_neg hne]at fin0
      have ed:(!decide (a<c))=decide (c<=a):=by
       by_cases hc:a<c
       ·rw[decide_eq_true hc,decide_eq_false (by lia)];rfl
       ·rw[decide_eq_false hc,decide_eq_true (by lia)];rfl
      rw[ed]at fin0
      have low:=Wr A.in1 ⟨hh0,g,d,tk0,os0⟩ a t c u prog w
      wp_walk using low
      exact⟨_,rfl,by simpa using fin0⟩
  case fin =>
   rintro⟨c1,c2⟩ s' ⟨p0,rfl,us1,us2,ms1,ms2,pz,pv,pw,pl,fin0⟩
   simp only at p0
   subst p0
   have hv:(!lexLt ms1 ms2)=decide (items2.size<=items.size):=by
    cases pv with
    | nil =>
     cases pw with
     | nil =>
      simp![BU]at pl
      rw[ik,decide_eq_true (by lia)];rfl
     | cons c u hw =>
      simp![BU,BC]at pl
      rw[gs,decide_eq_false (by lia)];rfl
    | cons a t hv =>
     cases pw with
     | nil =>
      simp![BU,BC]at pl
      rw[gu,decide_eq_true (by lia)];rfl
     | cons c u hw =>
      rw[CL]at pz
      cases pz
   rw[hv]at fin0
   wp_walk
   exact⟨_,rfl,by simpa[Builtin.Tuple.tupleCompareSizes]using fin0⟩
  case h =>
   exact⟨rfl,rfl,items.toList,items2.toList,ns,ms,rfl,ii,jj,by lia,h⟩
theorem Ox {prog:Program} {w:World} {A:Around} {E:Value->Shared->Prop} {s:Shared} {l b:Addr} {items items2:Array Value} {ns ms:List Int} {Q:Value->Shared->Prop} (hl:IsTup s.heap l items) (hb:IsTup s.heap b items2) (hi:IntsAre items.toList ns) (hj:IntsAre items2.toList ms)
  (hu:A.units<cLine) (h:Q (.bool (!lexLt ns ms)) s):wpAny (model prog w) A (compareOp .GtE (.ref l) (.ref b)) Q E s:=by
 obtain⟨⟨_,dd,_,sl⟩,ho,rfl,n,rfl⟩:=id hl
 obtain⟨⟨_,dd2,_,sl2⟩,ho2,rfl,n2,rfl⟩:=id hb
 exact EI (op:=.GtE) ⟨_,ho,rfl⟩ ⟨_,ho2,rfl⟩ PySem.F.slot_tuple_ge PySem.F.entry_tuple_ge (PySem.F.args_tuple_ge_2 _ _) (Fv l b items items2 n n2 dd dd2 sl sl2 ns ms hi hj)
  ⟨ho,ho2,show Value.bool (!lexLt ns ms)≠Value.notImplemented/\Q (.bool (!lexLt ns ms)) s from⟨(λx=>nomatch x),h⟩⟩ hu
end LT
namespace L2
open PySem PySem.Spec PyProof.Rows
variable {X : Cx}
theorem Oy (hu:X.A.units<cLine) {pins s σ H x y v u Q} (I:Inv X pins σ H s) (rx:RelV x v) (ry:RelV y u) (h:∃a b ns ms,x=.ref a/\y=.ref b/\SqT X.K H a (ns.map V.int)/\SqT X.K H b (ms.map V.int)/\Q (.bl (!HT.lexLt ms ns)) H) :
  wpAny (model X.prog X.w) X.A (compareOp .LtE v u) (EP X pins σ Q) X.xe s:=by
 obtain⟨c,d,ns,ms,rfl,rfl,hc,hd,q⟩:=h
 cases rx
 cases ry
 obtain⟨us,r1,p1,_⟩:=I.tuple hc
 obtain⟨us2,r2,p2,_⟩:=I.tuple hd
 exact LT.Ow p1 p2 (intsAre_of r1) (intsAre_of r2) hu ⟨.bl (!HT.lexLt ms ns),H,I,rfl,q⟩
theorem Oz (hu:X.A.units<cLine) {pins s σ H x y v u Q} (I:Inv X pins σ H s) (rx:RelV x v) (ry:RelV y u) (h:∃a b ns ms,x=.ref a/\y=.ref b/\SqT X.K H a (ns.map V.int)/\SqT X.K H b (ms.map V.int)/\Q (.bl (!HT.lexLt ns ms)) H) :
  wpAny (model X.prog X.w) X.A (compareOp .GtE v u) (EP X pins σ Q) X.xe s:=by
 obtain⟨c,d,ns,ms,rfl,rfl,hc,hd,q⟩:=h
 cases rx
 cases ry
 obtain⟨us,r1,p1,_⟩:=I.tuple hc
 obtain⟨us2,r2,p2,_⟩:=I.tuple hd
 exact LT.Ox p1 p2 (intsAre_of r1) (intsAre_of r2) hu ⟨.bl (!HT.lexLt ns ms),H,I,rfl,q⟩
end L2
namespace Lp
open PySem PySem.Spec PyProof.Rows L2
open PySem.SeqAt (EqAt RcAt)
def K5:Cp->CmpOp
 | .eq=>.Eq
 | .ne=>.NotEq
 | .eqM=>.Eq
 | .neM=>.NotEq
 | .lt=>.Lt
 | .le=>.LtE
 | .gt=>.Gt
 | .ge=>.GtE
 | .is=>.Is
 | .isnot=>.IsNot
 | .in_=>.In
 | .notin=>.NotIn
section
variable {X : Cx} {φ : Phi} {pins : List (Addr × Obj)} {σ : St} {H : Hp} {s : Shared}
theorem ints_of {K:PySem.W.Frag} {ι:List Addr}:∀{ds:List D} {xs:List V} {ns:List Int},ai K ι H ds xs->cv ds=some ns->xs=ns.map V.int
 | [],xs,ns,h,e=>by
  simp![cv,BV]at e
  subst e
  simpa[ai]using h
 | d::ds,xs,ns,h,e=>by
  simp![ai]at h
  obtain⟨v,r,rfl,q,t⟩:=h
  cases d with
  | int i =>
   simp![cv,Option.map_eq_some_iff]at e
   obtain⟨ms,e1,rfl⟩:=e
   cases cx q
   rw[ints_of t e1]
   rfl
  | _=>simp[cv]at e
theorem vz {K:PySem.W.Frag} {ι:List Addr} {d:D} {v:V} (h:IsD K ι H d v) (hf:flat d=true):p5 v=true:=by
 cases d with
 | tup _=>simp[flat]at hf
 | lst _=>simp[flat]at hf
 | loc _=>simp[flat]at hf
 | _=>have e:=h;simp![IsD]at e;subst e;rfl
theorem qw {K:PySem.W.Frag} {ι:List Addr}:∀{ds:List D} {xs:List V},ai K ι H ds xs->ds.all flat=true->xs.all p5=true
 | [],xs,h,_=>by
  have e:xs=[]:=by simpa[ai]using h
  subst e
  rfl
 | d::ds,xs,h,hf=>by
  simp![ai]at h
  obtain⟨v,r,rfl,q,t⟩:=h
  simp![BO,AU]at hf ⊢
  exact⟨vz q hf.1,qw t hf.2⟩
theorem O0 {K:PySem.W.Frag} {ι:List Addr} {d e:D} {v w:V} (hd:IsD K ι H d v) (he:IsD K ι H e w) (fd:flat d=true) (fe:flat e=true):eqV v w=deq d e:=by
 have b2:∀(a b:Int),decide (a=b)=(a==b):=λa b=>(ER a b).symm
 have b3:∀(a b:Str),decide (a=b)=(a==b):=λa b=>(ER a b).symm
 cases d with
 | tup _=>simp[flat]at fd
 | lst _=>simp[flat]at fd
 | loc _=>simp[flat]at fd
 | _ =>
  cases e with
  | tup _=>simp[flat]at fe
  | lst _=>simp[flat]at fe
  | loc _=>simp[flat]at fe
  | _ =>
   simp![IsD]at hd he
   subst hd he
   simp![eqV,deq,b2,b3]
theorem B9 {K:PySem.W.Frag} {ι:List Addr} {e:D} {w:V} (he:IsD K ι H e w) (fe:flat e=true):∀{ds:List D} {xs:List V},ai K ι H ds xs->ds.all flat=true->inV w xs=ds.any λy=>deq y e
 | [],xs,h,_=>by
  have e:xs=[]:=by simpa[ai]using h
  subst e
  rfl
 | d::ds,xs,h,hf=>by
  simp![ai]at h
  obtain⟨v,r,rfl,q,t⟩:=h
  simp![BO,AU]at hf
  have ih:=B9 he fe t hf.2
  unfold inV at ih ⊢
  rw[DH,DH,O0 q he hf.1 fe,ih]
theorem is_bool {u:Bool} {v:Bool} {Q:VK} (I:Inv X pins σ H s) (q:Q (.bl (u==v)) H):wpAny (model X.prog X.w) X.A (compareOp .Is (.bool u) (.bool v)) (EP X pins σ Q) X.xe s:=by
 cases u<;>cases v<;>exact AM ⟨.bl _,H,I,rfl,q⟩
theorem isnot_bool {u:Bool} {v:Bool} {Q:VK} (I:Inv X pins σ H s) (q:Q (.bl (!(u==v))) H):wpAny (model X.prog X.w) X.A (compareOp .IsNot (.bool u) (.bool v)) (EP X pins σ Q) X.xe s:=by
 cases u<;>cases v<;>exact AM ⟨.bl _,H,I,rfl,q⟩
theorem ue {v:Bool} {Q:VK} (I:Inv X pins σ H s) (q:Q (.bl false) H):wpAny (model X.prog X.w) X.A (compareOp .Is .none (.bool v)) (EP X pins σ Q) X.xe s:=by
 cases v<;>exact AM ⟨.bl _,H,I,rfl,q⟩
theorem ou {v:Bool} {Q:VK} (I:Inv X pins σ H s) (q:Q (.bl true) H):wpAny (model X.prog X.w) X.A (compareOp .IsNot .none (.bool v)) (EP X pins σ Q) X.xe s:=by
 cases v<;>exact AM ⟨.bl _,H,I,rfl,q⟩
def kD:Key->D
 | .inl i=>.int i
 | .inr x=>.str x
theorem wa {K:PySem.W.Frag} {ι:List Addr} {d:D} {x:V} (hk:A7 d=true) (h:IsD K ι H d x):∃k,d=kD k/\x=kV k:=by
 cases d with
 | int i=>exact⟨.inl i,rfl,by simpa[IsD,kV]using h⟩
 | str i=>exact⟨.inr i,rfl,by simpa[IsD,kV]using h⟩
 | _=>simp[A7]at hk
theorem wb {K:PySem.W.Frag} {ι:List Addr} {d:D} {k:Key} (h:IsD K ι H d (kV k)):d=kD k:=by
 cases k with
 | inl i=>cases d<;>simp_all[IsD,kV,kD]
 | inr i=>cases d<;>simp_all[IsD,kV,kD]
theorem uf (a b:Key):deq (kD a) (kD b)=decide (a=b):=by
 cases a<;>cases b<;>simp[kD,deq]
def OR (K:PySem.W.Frag) (ι:List Addr) (H:Hp):Option D->Option V->Prop
 | some d,some v=>IsD K ι H d v
 | none,none=>True
 | _,_=>False
theorem OR.isSome {K:PySem.W.Frag} {ι:List Addr} {o:Option D} {p:Option V} (h:OR K ι H o p):p.isSome=o.isSome:=by
 cases o<;>cases p<;>first | rfl | exact h.elim
theorem qx {K:PySem.W.Frag} {ι:List Addr} {k:Key}:∀{kvs:List (D×D)} {xs:List (Key×V)},vt K ι H kvs xs->OR K ι H (Fk (kD k) kvs) (Ah xs k)
 | _,_,.nil=>True.intro
 | p::kvs,q::xs,.cons h t=>by
  obtain⟨d,e⟩:=p
  have hk:=wb h.1
  dsimp only at hk
  subst hk
  have ih:=qx (k:=k) (kvs:=kvs) (xs:=xs) t
  by_cases z:q.1=k
  ·rw[nk z,Fk,uf,if_pos (by simpa using z)]
   exact h.2
  ·rw[nq z,Fk,uf,if_neg (by simpa using z)]
   exact ih
theorem Ca {K:PySem.W.Frag} {ι:List Addr} {k:Key}:∀{kvs:List (D×D)} {xs:List (Key×V)},vt K ι H kvs xs->(kvs.any λp=>deq p.1 (kD k))=xs.any λkv=>decide (kv.1=k)
 | _,_,.nil=>rfl
 | p::kvs,q::xs,.cons h t=>by
  obtain⟨d,e⟩:=p
  have hk:=wb h.1
  dsimp only at hk
  subst hk
  rw[DH,DH,Ca t,uf]
theorem ym {K:PySem.W.Frag} {ι:List Addr} {k:Key} {d:D} {v:V} (hv:IsD K ι H d v):∀{kvs:List (D×D)} {xs:List (Key×V)},vt K ι H kvs xs ->
  vt K ι H (kvs.map λp=>if deq p.1 (kD k)=true then(p.1,d)else p) (xs.map λkv=>if kv.1=k then(kv.1,v)else kv)
 | _,_,.nil=>.nil
 | p::kvs,q::xs,.cons h t=>by
  obtain⟨e,w⟩:=p
  have hk:=wb h.1
  dsimp only at hk
  subst hk
  rw[AL,AL]
  refine .cons ?_ (ym hv t)
  by_cases z:q.1=k
  ·rw[if_pos z,uf,if_pos (by simpa using z)]
   exact⟨h.1,hv⟩
  ·rw[if_neg z,uf,if_neg (by simpa using z)]
   exact h
theorem ow {α β:Type} {F:α->β->Prop}:∀{xs:List α} {ys:List β} {x:α} {y:β},Paired F xs ys->F x y->Paired F (xs++[x]) (ys++[y])
 | _,_,_,_,.nil,h=>.cons h .nil
 | _,_,_,_,.cons a t,h=>.cons a (ow t h)
theorem yn {K:PySem.W.Frag} {ι:List Addr} {k:Key} {d:D} {v:V} (hv:IsD K ι H d v) {kvs:List (D×D)} {xs:List (Key×V)} (h:vt K ι H kvs xs):vt K ι H (dput (kD k) d kvs) (putK xs k v):=by
 unfold dput putK
 rw[Ca h]
 split
 ·exact ym hv h
 ·refine ow h ⟨?_,hv⟩
  cases k<;>simp[kD,kV,IsD]
theorem Cb {K:PySem.W.Frag} {ι:List Addr} {μ:Sto} {o k:D} {x y:V} {kvs:List (D×D)} (hS:Sim K ι H μ) (ho:IsD K ι H o x) (hk:IsD K ι H k y) (h:dictAt μ o k=some kvs) :
  ∃p q xs,x=.ref p/\y=kV q/\k=kD q/\Rd H p (.dK xs)/\vt K ι H kvs xs:=by
 cases o with
 | loc n =>
  obtain⟨p,rfl,hp⟩:∃p,x=.ref p/\ι[n]? = some p:=by simpa[IsD]using ho
  simp![dictAt]at h
  have up:∀{xs:List (Key×V)},vt K [] H kvs xs->vt K ι H kvs xs:=λz=>Paired.mapP z λp r z=>⟨z.1,IsD.mono CY (.refl _) _ _ z.2⟩
  have fin:∀{ob:O} {kvs':List (D×D)},μ[n]? = some ob->(if A7 k=true then some kvs' else none)=some kvs->(OIs K ι H p ob->∃xs,Rd H p (.dK xs)/\(kvs'=kvs->vt K ι H kvs xs)) ->
    ∃p' q xs,V.ref p=.ref p'/\y=kV q/\k=kD q/\Rd H p' (.dK xs)/\vt K ι H kvs xs:=by
   intro ob kvs' em h f
   split at h
   ·rename_i hkey
    cases h
    obtain⟨a',q',ob⟩:=hS.at em
    rw[hp]at q';cases q'
    obtain⟨xs,e1,e2⟩:=f ob
    obtain⟨q,rfl,rfl⟩:=wa hkey hk
    exact⟨p,q,xs,rfl,rfl,rfl,e1,e2 rfl⟩
   ·cases h
  split at h
  ·rename_i kvs' em
   exact fin em h fun⟨xs,e1,e2⟩=>⟨xs,.inl e1,λz=>by subst z;exact up e2⟩
  ·rename_i kvs' em
   exact fin em h fun⟨xs,e1,e2⟩=>⟨xs,.inl e1,λz=>by subst z;exact e2⟩
  ·rename_i kvs' em
   exact fin em h fun⟨o,xs,e1,e2⟩=>⟨xs,.inr ⟨o,e1⟩,λz=>by subst z;exact up e2⟩
  ·cases h
 | _=>simp[dictAt]at h
theorem Hr (cp:Cp) (hu:X.A.units+8<cLine):OpR X (compareOp (K5 cp)) (rOp X.K (cpD cp)):=by
 have hu0:X.A.units<cLine:=by lia
 cases cp with
 | eq=>exact Ou hu
 | ne=>exact Ov hu
 | eqM =>
  intro pins s σ H x y v u Q I rx ry ⟨ι,a,b,μ,hS,ha,hb,h⟩
  simp![cpD]at h
  cases e1:a7 μ 8 a with
  | none=>simp![e1]at h;exact h.elim
  | some a1 =>
   cases e2:a7 μ 8 b with
   | none=>simp![e1,e2]at h;exact h.elim
   | some b1 =>
    simp![e1,e2]at h
    exact(Ot I 8 X.A a1 b1 x y v u hu (g9 8 _ _ e1) (g9 8 _ _ e2) (ud hS 8 _ _ _ e1 ha) (ud hS 8 _ _ _ e2 hb) rx ry).1 _ _ _ _ ⟨.bl (deq a1 b1),H,I,rfl,h.ok hS (by simp[IsD])⟩
 | neM =>
  intro pins s σ H x y v u Q I rx ry ⟨ι,a,b,μ,hS,ha,hb,h⟩
  simp![cpD]at h
  cases e1:a7 μ 8 a with
  | none=>simp![e1]at h;exact h.elim
  | some a1 =>
   cases e2:a7 μ 8 b with
   | none=>simp![e1,e2]at h;exact h.elim
   | some b1 =>
    simp![e1,e2]at h
    exact(Ot I 8 X.A a1 b1 x y v u hu (g9 8 _ _ e1) (g9 8 _ _ e2) (ud hS 8 _ _ _ e1 ha) (ud hS 8 _ _ _ e2 hb) rx ry).2 _ _ _ _ ⟨.bl (!deq a1 b1),H,I,rfl,h.ok hS (by simp[IsD])⟩
 | lt =>
  intro pins s σ H x y v u Q I rx ry ⟨ι,a,b,μ,hS,ha,hb,h⟩
  simp![cpD]at h
  split at h
  ·cases cx ha;cases cx hb
   exact R3 pins s σ H _ _ v u Q I rx ry ⟨_,_,rfl,rfl,h.ok hS (by simp[IsD])⟩
  ·obtain⟨p,xs,rfl,hq,hds⟩:=dq ha
   obtain⟨p',xs',rfl,hq',hds'⟩:=dq hb
   split at h
   ·rename_i ns ms e1 e2
    have:=ints_of hds e1
    subst this
    have:=ints_of hds' e2
    subst this
    refine Nn hu0 pins s σ H _ _ v u Q I rx ry ⟨p,p',ns,ms,rfl,rfl,hq,hq',?_⟩
    have el:∀(a b:List Int),HT.lexLt a b=Lp.lexLt a b:=by
     intro a
     induction a with
     | nil=>intro b;cases b<;>rfl
     | cons x r ih=>intro b;cases b with
      | nil=>rfl
      | cons y q=>rw[HT.fw,Lp.lexLt,ih]
    rw[el]
    exact h.ok hS (by simp[IsD])
   ·exact h.elim
  ·exact h.elim
 | le =>
  intro pins s σ H x y v u Q I rx ry ⟨ι,a,b,μ,hS,ha,hb,h⟩
  simp![cpD]at h
  split at h
  ·cases cx ha;cases cx hb
   exact R4 pins s σ H _ _ v u Q I rx ry ⟨_,_,rfl,rfl,h.ok hS (by simp[IsD])⟩
  ·obtain⟨p,xs,rfl,hq,hds⟩:=dq ha
   obtain⟨p',xs',rfl,hq',hds'⟩:=dq hb
   split at h
   ·rename_i ns ms e1 e2
    have:=ints_of hds e1
    subst this
    have:=ints_of hds' e2
    subst this
    refine Oy hu0 I rx ry ⟨p,p',ns,ms,rfl,rfl,hq,hq',?_⟩
    have el:∀(a b:List Int),HT.lexLt a b=Lp.lexLt a b:=by
     intro a
     induction a with
     | nil=>intro b;cases b<;>rfl
     | cons x r ih=>intro b;cases b with
      | nil=>rfl
      | cons y q=>rw[HT.fw,Lp.lexLt,ih]
    rw[el]
    exact h.ok hS (by simp[IsD])
   ·exact h.elim
  ·exact h.elim
 | gt =>
  refine OpR.imp R5 λx y H Q ⟨ι,a,b,μ,hS,ha,hb,h⟩=>?_
  simp![cpD]at h
  split at h
  ·cases cx ha;cases cx hb
   exact⟨_,_,rfl,rfl,h.ok hS (by simp[IsD])⟩
  ·exact h.elim
 | ge =>
  intro pins s σ H x y v u Q I rx ry ⟨ι,a,b,μ,hS,ha,hb,h⟩
  simp![cpD]at h
  split at h
  ·cases cx ha;cases cx hb
   exact R6 pins s σ H _ _ v u Q I rx ry ⟨_,_,rfl,rfl,h.ok hS (by simp[IsD])⟩
  ·obtain⟨p,xs,rfl,hq,hds⟩:=dq ha
   obtain⟨p',xs',rfl,hq',hds'⟩:=dq hb
   split at h
   ·rename_i ns ms e1 e2
    have:=ints_of hds e1
    subst this
    have:=ints_of hds' e2
    subst this
    refine Oz hu0 I rx ry ⟨p,p',ns,ms,rfl,rfl,hq,hq',?_⟩
    have el:∀(a b:List Int),HT.lexLt a b=Lp.lexLt a b:=by
     intro a
     induction a with
     | nil=>intro b;cases b<;>rfl
     | cons x r ih=>intro b;cases b with
      | nil=>rfl
      | cons y q=>rw[HT.fw,Lp.lexLt,ih]
    rw[el]
    exact h.ok hS (by simp[IsD])
   ·exact h.elim
  ·exact h.elim
 | is =>
  intro pins s σ H x y v u Q I rx ry ⟨ι,a,b,μ,hS,ha,hb,h⟩
  simp![cpD]at h
  split at h
  ·refine Ng pins s σ H x y v u Q I rx ry ⟨by simpa[IsD]using hb,?_⟩
   cases a with
   | tup ds=>obtain⟨p,xs,rfl,_⟩:=dq ha;exact h.ok hS (by simp[IsD])
   | lst ds =>
         obtain⟨p,xs,rfl,_⟩:∃p xs,x=V.ref p/\FzL X.K H p xs/\ai X.K ι H ds xs:=by simpa[IsD]using ha
         exact h.ok hS (by simp[IsD])
   | loc n =>
        obtain⟨p,rfl,_⟩:∃p,x=V.ref p/\ι[n]? = some p:=by simpa[IsD]using ha
        exact h.ok hS (by simp[IsD])
   | _=>have e:=ha;simp![IsD]at e;subst e;exact h.ok hS (by simp[IsD])
  ·cases vy hb
   cases(show u=Value.bool _ from ry)
   split at h
   ·cases vy ha
    cases(show v=Value.bool _ from rx)
    exact is_bool I (h.ok hS (by simp[IsD]))
   ·cases(show x=.non by simpa[IsD]using ha)
    cases(show v=Value.none from rx)
    exact ue I (h.ok hS (by simp[IsD]))
   ·exact h.elim
  ·exact h.elim
 | isnot =>
  intro pins s σ H x y v u Q I rx ry ⟨ι,a,b,μ,hS,ha,hb,h⟩
  simp![cpD]at h
  split at h
  ·refine J7 pins s σ H x y v u Q I rx ry ⟨by simpa[IsD]using hb,?_⟩
   cases a with
   | tup ds=>obtain⟨p,xs,rfl,_⟩:=dq ha;exact h.ok hS (by simp[IsD])
   | lst ds =>
         obtain⟨p,xs,rfl,_⟩:∃p xs,x=V.ref p/\FzL X.K H p xs/\ai X.K ι H ds xs:=by simpa[IsD]using ha
         exact h.ok hS (by simp[IsD])
   | loc n =>
        obtain⟨p,rfl,_⟩:∃p,x=V.ref p/\ι[n]? = some p:=by simpa[IsD]using ha
        exact h.ok hS (by simp[IsD])
   | _=>have e:=ha;simp![IsD]at e;subst e;exact h.ok hS (by simp[IsD])
  ·cases vy hb
   cases(show u=Value.bool _ from ry)
   split at h
   ·cases vy ha
    cases(show v=Value.bool _ from rx)
    exact isnot_bool I (h.ok hS (by simp[IsD]))
   ·cases(show x=.non by simpa[IsD]using ha)
    cases(show v=Value.none from rx)
    exact ou I (h.ok hS (by simp[IsD]))
   ·exact h.elim
  ·exact h.elim
 | in_ =>
  intro pins s σ H x y v u Q I rx ry ⟨ι,a,b,μ,hS,ha,hb,h⟩
  simp![cpD]at h
  split at h
  ·rename_i ds e
   obtain⟨p,xs,rfl,hq,hds⟩:=t9 hS hb e
   split at h
   ·rename_i hf
    refine Br pins s σ H _ _ v u Q I rx ry ⟨p,xs,rfl,hq.imp (·.sq) id,vz ha hf.1,qw hds hf.2,?_⟩
    simp![BB,if_false]
    rw[B9 ha hf.1 hds hf.2]
    exact h.ok hS (by simp[IsD])
   ·exact h.elim
  ·split at h
   ·rename_i kvs e
    obtain⟨p,q,xs,rfl,rfl,rfl,hp,hk⟩:=Cb hS hb ha e
    cases(show u=Value.ref p from ry)
    refine Wa (by lia) I (.inl ⟨_,_,hp,rfl,rfl⟩) rx λs' I'=>⟨.bl (Ah xs q).isSome,H,I',rfl,?_⟩
    rw[(qx hk).isSome]
    exact h.ok hS (by simp[IsD])
   ·exact h.elim
 | notin =>
  intro pins s σ H x y v u Q I rx ry ⟨ι,a,b,μ,hS,ha,hb,h⟩
  simp![cpD]at h
  split at h
  ·rename_i ds e
   obtain⟨p,xs,rfl,hq,hds⟩:=t9 hS hb e
   split at h
   ·rename_i hf
    refine tq pins s σ H _ _ v u Q I rx ry ⟨p,xs,rfl,hq.imp (·.sq) id,vz ha hf.1,qw hds hf.2,?_⟩
    simp![if_true]
    rw[B9 ha hf.1 hds hf.2]
    exact h.ok hS (by simp[IsD])
   ·exact h.elim
  ·split at h
   ·rename_i kvs e
    obtain⟨p,q,xs,rfl,rfl,rfl,hp,hk⟩:=Cb hS hb ha e
    cases(show u=Value.ref p from ry)
    refine Ki (by lia) I (.inl ⟨_,_,hp,rfl,rfl⟩) rx λs' I'=>⟨.bl (!(Ah xs q).isSome),H,I',rfl,?_⟩
    rw[(qx hk).isSome]
    exact h.ok hS (by simp[IsD])
   ·exact h.elim
end
open PySem.SeqAt (EqAt RcAt)
section
variable {X : Cx} {φ : Phi} {pins : List (Addr × Obj)} {σ : St} {H : Hp} {s : Shared}
def PCh (X:Cx) (ops:List CmpOp) (es:List Expr) (t:V->TE):Prop :=
 ∀(pos:Pos) (pins:List (Addr×Obj)) (s:Shared) (σ:St) (H:Hp) (Q:VK) (x:V) (v:Value),Inv X pins σ H s->RelV x v->t x σ H Q ->
  wpAny (model X.prog X.w) X.A (compareChain pos v ops (evalEach es X.env)) (EP X pins σ Q) X.xe s
def PTh (X:Cx) (ops:List CmpOp) (es:List Expr) (t:V->TT):Prop :=
 ∀(pos:Pos) (pins:List (Addr×Obj)) (s:Shared) (σ:St) (H:Hp) (Q:Bool->Hp->Prop) (x:V) (v:Value),Inv X pins σ H s->RelV x v->t x σ H Q ->
  wpAny (model X.prog X.w) X.A (testChain pos v ops (evalEach es X.env)) (TP X pins σ Q) X.xe s
def tCh (K:PySem.W.Frag) (φ:Phi) (r:Cps):V->TE:=λx σv H Q=>∃ι σ μ d,Sim K ι H μ/\lh K ι H σ σv/\IsD K ι H d x/\fj K (RD K) ι H (evC φ r d σ μ) Q
def tTh (K:PySem.W.Frag) (φ:Phi) (r:Cps):V->TT:=λx σv H Q=>∃ι σ μ d,Sim K ι H μ/\lh K ι H σ σv/\IsD K ι H d x/\fj K RB ι H ((evC φ r d σ μ).bind λz μ=>Ob z μ) Q
theorem Cc {op:Cp} {xe:Ex} {d:D} {σ:Sl} {μ:Sto}:evC φ (.cons op xe .nil) d σ μ=(evE φ xe σ μ).bind λy μ=>cpD op d y μ:=by
 simp![evC]
 cases evE φ xe σ μ with
 | ok y μ1 =>
  simp![Res.cq]
  cases cpD op d y μ1<;>rfl
 | exc _ _ _=>rfl
 | stuck=>rfl
theorem K6 {op:Cp} {e:Expr} {xe:Ex} (ho:OpR X (compareOp (K5 op)) (rOp X.K (cpD op))) (he:PE X e (tE X.K φ xe)):PCh X [K5 op] [e] (tCh X.K φ (.cons op xe .nil)):=by
 intro pos pins s σv H Q x v I rx ⟨ι,σ,μ,d,hS,hL,hd,h⟩
 rw[Cc]at h
 obtain⟨y,μ1,e1,h⟩:=h.bind
 refine chain_last (thn (he pins s σv H (λw H1=>rOp X.K (cpD op) x w H1 Q) I ⟨ι,σ,μ,hS,hL,?_⟩) λu s1 ⟨w,H1,I1,r1,q1⟩=>ho pins s1 σv H1 x w v u Q I1 rx r1 q1)
 rw[e1]
 exact λι1 w H1 p1 x1 s1 d1=>⟨ι1,d,y,μ1,s1,IsD.mono p1 x1 _ _ hd,d1,h.mono p1 x1⟩
theorem K7 {op:Cp} {e:Expr} {xe:Ex} (ho:OpR X (compareOp (K5 op)) (rOp X.K (cpD op))) (he:PE X e (tE X.K φ xe)):PTh X [K5 op] [e] (tTh X.K φ (.cons op xe .nil)):=by
 intro pos pins s σv H Q x v I rx ⟨ι,σ,μ,d,hS,hL,hd,h⟩
 rw[Cc,Res.bind_assoc]at h
 obtain⟨y,μ1,e1,h⟩:=h.bind
 refine test_last (thn (he pins s σv H (λw H1=>rOp X.K (cpD op) x w H1 (λz H2=>∃k,z=.bl k/\Q k H2)) I ⟨ι,σ,μ,hS,hL,?_⟩) λu s1 ⟨w,H1,I1,r1,q1⟩=>thn (ho pins s1 σv H1 x w v u _ I1 rx r1 q1) λc s2 ⟨z,H2,I2,r2,k,ek,q2⟩=>?_)
 ·rw[e1]
  intro ι1 w H1 p1 x1 s1 d1
  obtain⟨z,μ2,e2,h⟩:=h.bind
  refine⟨ι1,d,y,μ1,s1,IsD.mono p1 x1 _ _ hd,d1,?_⟩
  rw[e2]
  intro ι2 z' H2 p2 x2 s2 d2
  cases z with
  | bl k=>exact⟨k,vy d2,h ι2 k H2 (p1.trans p2) (x1.trans x2) s2 rfl⟩
  | _=>exact h.elim
 ·subst ek
  cases r2
  exact DJ ⟨H2,I2,q2⟩
theorem Th {a:Expr} {xa:Ex} {ops:List CmpOp} {es:List Expr} {r:Cps} {pos:Pos} (ha:PE X a (tE X.K φ xa)) (hr:PCh X ops es (tCh X.K φ r)) (hm:lastMarks ops es=false):PE X (.Compare a ops es pos) (tE X.K φ (.cmp xa r)):=by
 intro pins s σv H Q I ⟨ι,σ,μ,hS,hL,h⟩
 simp![evE]at h
 obtain⟨d,μ1,e1,h⟩:=h.bind
 show wpAny _ _ (do compareChain pos (<-eval a X.env) ops (markedEach ops es (evalEach es X.env))) _ _ _
 rw[markedEach_of_false _ _ _ hm]
 refine AB (thn (ha pins s σv H (λx H1=>tCh X.K φ r x σv H1 Q) I ⟨ι,σ,μ,hS,hL,?_⟩) λv s1 ⟨x,H1,I1,r1,q1⟩=>hr pos pins s1 σv H1 Q x v I1 r1 q1)
 rw[e1]
 exact λι1 x H1 p1 x1 s1 d1=>⟨ι1,σ,μ1,d,s1,hL.mono p1 x1,d1,h.mono p1 x1⟩
theorem O1 {a:Expr} {xa:Ex} {ops:List CmpOp} {es:List Expr} {r:Cps} {pos:Pos} (ha:PE X a (tE X.K φ xa)) (hr:PTh X ops es (tTh X.K φ r)) (hm:lastMarks ops es=false):PT X (.Compare a ops es pos) (tT X.K φ (.cmp xa r)):=by
 intro pins s σv H Q I ⟨ι,σ,μ,hS,hL,h⟩
 simp![evE]at h
 rw[Res.bind_assoc]at h
 obtain⟨d,μ1,e1,h⟩:=h.bind
 show wpAny _ _ (do testChain pos (<-eval a X.env) ops (markedEach ops es (evalEach es X.env))) _ _ _
 rw[markedEach_of_false _ _ _ hm]
 refine AB (thn (ha pins s σv H (λx H1=>tTh X.K φ r x σv H1 Q) I ⟨ι,σ,μ,hS,hL,?_⟩) λv s1 ⟨x,H1,I1,r1,q1⟩=>hr pos pins s1 σv H1 Q x v I1 r1 q1)
 rw[e1]
 exact λι1 x H1 p1 x1 s1 d1=>⟨ι1,σ,μ1,d,s1,hL.mono p1 x1,d1,h.mono p1 x1⟩
theorem O2 {l:Expr} {xl:Ex} {tg:Expr} (hl:PE X l (tE X.K φ xl)):PI X tg l (tI X.K φ (.seq xl)):=by
 intro pins s σv H R I ⟨ι,σ,μ,hS,hL,h⟩
 simp![evI]at h
 cases e1:evE φ xl σ μ with
 | exc _ _ _=>rw[e1]at h;exact h.elim
 | stuck=>rw[e1]at h;exact h.elim
 | ok d μ1 =>
 rw[e1]at h
 simp![Res.cq]at h
 have hq:tE X.K φ xl σv H (λv H1=>∃ι1,ι <+: ι1/\Ext H H1/\Sim X.K ι1 H1 μ1/\IsD X.K ι1 H1 d v):=⟨ι,σ,μ,hS,hL,by rw[e1];exact λι1 v H1 p1 x1 s1 d1=>⟨ι1,p1,x1,s1,d1⟩⟩
 refine thn (hl pins s σv H _ I hq) λu s1 ⟨v,H1,I1,r1,ι1,p1,x1,S1,d1⟩=>?_
 -- a list,at a,whatever its items
 have lst:∀(a:Addr) (xs:List V) (ds:List D) (g:Gd),v=.ref a->LsL X.K H1 a xs->ai X.K ι1 H1 ds xs->(∀ι2 H2 μ2,ι1 <+: ι2->Ext H1 H2->Sim X.K ι2 H2 μ2->gd g μ2->∃ys,LsL X.K H2 a ys/\ai X.K ι2 H2 ds ys) ->
   (∀ι' H' J,ι <+: ι'->Ext H H'->Sim X.K ι' H' μ1->Walk X.K ι' H' J ds g->R J H')->wpAny (model X.prog X.w) X.A (pyIter u) (PIE X pins σv tg R) X.xe s1:=by
  intro a xs ds g ev hls hds stay hR
  subst ev
  cases(show u=Value.ref a from r1)
  obtain⟨its,rv,p,hz⟩:=I1.list hls.sq
  refine wpAny_pyIter_list p.isList ?_
  refine⟨s1.heap.objs.size,[s1.heap.objs.size],_,_,H1,rfl,I1.kept (t':=s1.toks) λb o e=>AF _ e,Bf a _,⟨_,AX _ rfl,rfl,rfl⟩,λb hb=>?_,hR ι1 H1 _ p1 x1 S1 ?_⟩
  ·have e:b=s1.heap.objs.size:=by simpa using hb
   subst e
   exact I1.fpOk (AK _) (I1.hok.fresh (AK _))
  ·refine⟨by rw[<-hds.length];exact hz,λi ι2 H2 μ2 q1 q2 q3 q4 hi=>?_,λi ι2 H2 μ2 w H3 q1 q2 q3 q4 hi hy=>?_,λι2 H2 μ2 q1 q2 q3 q4=>?_⟩
   ·obtain⟨ys,y1,y2⟩:=stay ι2 H2 μ2 q1 q2 q3 q4
    obtain⟨w,e,_⟩:=y2.get (AA hi)
    exact⟨ys,w,y1.sq,e⟩
   ·obtain⟨ys,y1,y2⟩:=stay ι2 H2 μ2 q1 q2 q3 q4
    obtain⟨e,hy⟩:=hy
    subst e
    obtain⟨w',e',q'⟩:=y2.get (AA hi)
    have:=hy ys y1.sq
    rw[e']at this;cases this
    exact⟨.refl _,q3,_,AA hi,q'⟩
   ·obtain⟨ys,y1,y2⟩:=stay ι2 H2 μ2 q1 q2 q3 q4
    exact⟨ys,y1.sq,by rw[y2.length];exact AK _⟩
 cases d with
 | tup ds =>
  simp![bw]at h
  obtain⟨a,xs,rfl,hq,hds⟩:=dq d1
  cases(show u=Value.ref a from r1)
  obtain⟨its,rv,p,hz⟩:=I1.tuple hq
  refine EK (show s1.heap.IsTuple a its.toArray from p) ?_
  refine⟨s1.heap.objs.size,[s1.heap.objs.size],_,_,H1,rfl,I1.kept (t':=s1.toks) λb o e=>AF _ e,z7 a _,⟨_,AX _ rfl,rfl,rfl⟩,λb hb=>?_,h ι1 H1 _ p1 x1 S1 ?_⟩
  ·have e:b=s1.heap.objs.size:=by simpa using hb
   subst e
   exact I1.fpOk (AK _) (I1.hok.fresh (AK _))
  ·refine⟨by rw[<-hds.length];exact hz,λi ι2 H2 μ2 q1 q2 q3 q4 hi=>?_,λi ι2 H2 μ2 w H3 q1 q2 q3 q4 hi hy=>?_,λι2 H2 μ2 q1 q2 q3 q4=>?_⟩
   ·obtain⟨w,e,_⟩:=hds.get (AA hi)
    exact⟨xs,w,hq.ext q2,e⟩
   ·obtain⟨e,hy⟩:=hy
    subst e
    obtain⟨w',e',q'⟩:=hds.get (AA hi)
    have:=hy xs (hq.ext q2)
    rw[e']at this;cases this
    exact⟨.refl _,q3,_,AA hi,IsD.mono q1 q2 _ _ q'⟩
   ·exact⟨xs,hq.ext q2,by rw[hds.length];exact AK _⟩
 | lst ds =>
  simp![bw]at h
  obtain⟨a,xs,rfl,hq,hds⟩:∃a xs,v=.ref a/\FzL X.K H1 a xs/\ai X.K ι1 H1 ds xs:=by simpa[IsD]using d1
  exact lst a xs ds none rfl (.inr hq) hds (λι2 H2 μ2 q1 q2 q3 q4=>⟨xs,.inr (hq.ext q2),ai.mono q1 q2 _ _ hds⟩) h
 | loc n =>
  obtain⟨a,rfl,hn⟩:∃a,v=.ref a/\ι1[n]? = some a:=by simpa[IsD]using d1
  have pre:∀{ι2:List Addr},ι1 <+: ι2->ι2[n]? = some a:=λhp=>by
   obtain⟨t,rfl⟩:=hp
   rw[AN (AI.mp hn).1];exact hn
  cases em:μ1[n]? with
  | none=>simp![bw,em]at h
  | some o =>
   simp![bw,em]at h
   cases o with
   | l ds =>
    simp only at h
    obtain⟨a',q',ho⟩:=S1.at em
    rw[hn]at q';cases q'
    obtain⟨xs,f1,f2⟩:=ho
    refine lst a xs ds (some (n,.l ds)) rfl (.inl f1) (ai.mono (CY) (.refl _) _ _ f2) (λι2 H2 μ2 q1 q2 q3 q4=>?_) h
    obtain⟨a2,e2,o2⟩:=q3.at (show μ2[n]? = some (.l ds)from q4)
    rw[pre q1]at e2;cases e2
    obtain⟨ys,g1,g2⟩:=o2
    exact⟨ys,.inl g1,ai.mono (CY) (.refl _) _ _ g2⟩
   | r ds =>
    simp only at h
    obtain⟨a',q',ho⟩:=S1.at em
    rw[hn]at q';cases q'
    obtain⟨xs,f1,f2⟩:=ho
    refine lst a xs ds (some (n,.r ds)) rfl (.inl f1) f2 (λι2 H2 μ2 q1 q2 q3 q4=>?_) h
    obtain⟨a2,e2,o2⟩:=q3.at (show μ2[n]? = some (.r ds)from q4)
    rw[pre q1]at e2;cases e2
    obtain⟨ys,g1,g2⟩:=o2
    exact⟨ys,.inl g1,g2⟩
   | d kvs=>simp only at h
   | dt kvs=>simp only at h
   | x _=>simp only at h
   | o _ _=>simp only at h
   | dr _=>simp only at h
   | fd _=>simp only at h
   | dead=>simp only at h
 | _=>simp![bw]at h
theorem qb {K:PySem.W.Frag} {ι:List Addr} {H:Hp} (lo:Int) (n:Nat) (hn:n<=sizeLine):Walk K ι H (Itr lo n) ((List.range n).map fun(k:Nat)=>D.int (lo+k)) none:=by
 refine⟨by simpa using hn,λi ι2 H2 μ2 q1 q2 q3 q4 hi=>by simpa[Itr]using hi,λi ι2 H2 μ2 w H3 q1 q2 q3 q4 hi hy=>?_,λι2 H2 μ2 q1 q2 q3 q4=>by simp[Itr]⟩
 obtain⟨e,hy⟩:=hy
 subst e
 have hi':i<n:=by simpa using hi
 exact⟨.refl _,q3,.int (lo+i),by simp[hi'],by simp[IsD,hy]⟩
theorem O3 {a:Expr} {xa:Ex} {tg:Expr} {p pos:Pos} (hg:Gl X "range") (hm:X.mg "range"=none) (ha:PE X a (tE X.K φ xa)) (hs:starEach [a] X.env=[(false,eval a X.env)]):PI X tg (.Call (.Name "range" p) [a] [] pos) (tI X.K φ (.rng xa)) :=
 PI.imp (Bg hg hm (t8 ha Fn hs) hs) λσv H R ⟨ι,σ,μ,hS,hL,h⟩=>by
  simp![evI]at h
  refine⟨ι,σ,μ,hS,hL,?_⟩
  simp![fi]
  cases e1:evE φ xa σ μ with
  | exc _ _ _=>rw[e1]at h;exact h.elim
  | stuck=>rw[e1]at h;exact h.elim
  | ok d μ1 =>
   rw[e1]at h
   simp![Res.cq]at h ⊢
   cases d with
   | int j =>
    simp only at h
    by_cases hj:-(lim:Int)<=j/\j<=lim
    ·rw[if_pos hj]at h
     rw[fo]at hj
     have h24:sizeLine=16777216:=FS
     rw[h24]at hj
     intro ι1 vs H1 p1 x1 s1 d1
     have e:vs=[.int j]:=by
      have q:ai X.K ι1 H1 [.int j] vs:=d1
      simp![ai]at q
      obtain⟨v,r,rfl,q1,rfl⟩:=q
      cases cx q1
      rfl
     refine⟨j,e,by lia,by lia,h ι1 H1 _ p1 x1 s1 ?_⟩
     have w:=qb (K:=X.K) (ι:=ι1) (H:=H1) 0 j.toNat (by lia)
     simpa using w
    ·rw[if_neg hj]at h
     exact h.elim
   | _=>exact h.elim
theorem K8 {a b:Expr} {xa xb:Ex} {tg:Expr} {p pos:Pos} (hg:Gl X "range") (hm:X.mg "range"=none) (ha:PE X a (tE X.K φ xa)) (hb:PE X b (tE X.K φ xb)) (hs:starEach [a,b] X.env=[(false,eval a X.env),(false,eval b X.env)])
  (hs2:starEach [b] X.env=[(false,eval b X.env)]):PI X tg (.Call (.Name "range" p) [a,b] [] pos) (tI X.K φ (.rng2 xa xb)) :=
 PI.imp (Bh hg hm (t8 ha (t8 hb Fn hs2) (by rw[hs,hs2])) hs hs2) λσv H R ⟨ι,σ,μ,hS,hL,h⟩=>by
  simp![evI]at h
  refine⟨ι,σ,μ,hS,hL,?_⟩
  simp![fi]
  cases e1:evE φ xa σ μ with
  | exc _ _ _=>rw[e1]at h;exact h.elim
  | stuck=>rw[e1]at h;exact h.elim
  | ok d μ1 =>
   rw[e1]at h
   simp![Res.cq]at h ⊢
   cases e2:evE φ xb σ μ1 with
   | exc _ _ _=>rw[e2]at h;exact h.elim
   | stuck=>rw[e2]at h;exact h.elim
   | ok d2 μ2 =>
    rw[e2]at h
    simp![Res.cq]at h ⊢
    cases d with
    | int i =>
     cases d2 with
     | int j =>
      simp only at h
      by_cases hj:-(lim:Int)<=i/\i<=lim/\j<=lim /\ -(lim:Int)<=j/\(j-i)<=lim
      ·rw[if_pos hj]at h
       rw[fo]at hj
       have h24:sizeLine=16777216:=FS
       rw[h24]at hj
       intro ι1 vs H1 p1 x1 s1 d1
       have e:vs=[.int i,.int j]:=by
        have q:ai X.K ι1 H1 [.int i,.int j] vs:=d1
        simp![ai]at q
        obtain⟨v,r,rfl,q1,w,r2,rfl,q2,rfl⟩:=q
        cases cx q1
        cases cx q2
        rfl
       refine⟨i,j,e,⟨by lia,by lia,by lia,by lia⟩,h ι1 H1 _ p1 x1 s1 ?_⟩
       exact qb (K:=X.K) (ι:=ι1) (H:=H1) i (j-i).toNat (by lia)
      ·rw[if_neg hj]at h
       exact h.elim
     | _=>exact h.elim
    | _=>exact h.elim
def qy (K:PySem.W.Frag) (f:List D->Sto->Res D):List V->Hp->VK->Prop:=λxs H Q=>∃ι ds μ,Sim K ι H μ/\ai K ι H ds xs/\fj K (RD K) ι H (f ds μ) Q
theorem O4 {K:PySem.W.Frag} {ι:List Addr} {d:D} {xs:List V} (h:ai K ι H [d] xs):∃v,xs=[v]/\IsD K ι H d v:=by
 simp![ai]at h
 obtain⟨v,r,rfl,q,rfl⟩:=h
 exact⟨v,rfl,q⟩
theorem Hs {K:PySem.W.Frag} {ι:List Addr} {d e:D} {xs:List V} (h:ai K ι H [d,e] xs):∃v w,xs=[v,w]/\IsD K ι H d v/\IsD K ι H e w:=by
 simp![ai]at h
 obtain⟨v,r,rfl,q,w,r2,rfl,q2,rfl⟩:=h
 exact⟨v,w,rfl,q,q2⟩
theorem jg {K:PySem.W.Frag} {ι:List Addr} {ds:List D} {xs:List V} {μ:Sto} {f:D->Sto->Res D} {Q:VK} (hds:ai K ι H ds xs) (h:fj K (RD K) ι H (kh f ds μ) Q) :
  ∃d v,xs=[v]/\IsD K ι H d v/\fj K (RD K) ι H (f d μ) Q:=by
 unfold kh at h
 split at h
 ·rename_i d
  obtain⟨v,rfl,hv⟩:=O4 hds
  exact⟨d,v,rfl,hv,h⟩
 ·exact h.elim
theorem Cd {K:PySem.W.Frag} {ι:List Addr} {d:D} {v:V} {μ:Sto} {f:List D->Sto->Res D} {Q:VK} (hS:Sim K ι H μ) (hd:IsD K ι H d v) (h:fj K (RD K) ι H (seq1 f d μ) Q) :
  ∃a xs ds,v=.ref a/\(LsL K H a xs\/SqT K H a xs)/\ai K ι H ds xs/\fj K (RD K) ι H (f ds μ) Q:=by
 unfold seq1 at h
 split at h
 ·rename_i ds e
  obtain⟨a,xs,rfl,hq,hxs⟩:=t9 hS hd e
  exact⟨a,xs,ds,rfl,hq,hxs,h⟩
 ·exact h.elim
theorem K9 {K:PySem.W.Frag} {ι:List Addr} {d:D} {v:V} {μ:Sto} {f:List Int->Sto->Res D} {Q:VK} (hS:Sim K ι H μ) (hd:IsD K ι H d v) (h:fj K (RD K) ι H (Kn f d μ) Q) :
  ∃a ns,v=.ref a/\(LsL K H a (ns.map V.int)\/SqT K H a (ns.map V.int))/\fj K (RD K) ι H (f ns μ) Q:=by
 unfold Kn at h
 cases e:gv μ d with
 | none=>rw[e]at h;exact h.elim
 | some ds =>
  rw[e]at h
  simp![CO]at h
  split at h
  ·rename_i ns e2
   obtain⟨a,xs,rfl,hq,hxs⟩:=t9 hS hd e
   rw[ints_of hxs e2]at hq
   exact⟨a,ns,rfl,hq,h⟩
  ·exact h.elim
theorem bt_len {m:Mk}:fk X (.builtin "len") (qy X.K (btD .len m)):=fk.imp tu λxs H Q ⟨ι,ds,μ,hS,hds,h⟩=>by
 obtain⟨d,v,rfl,hv,h⟩:=jg hds h
 obtain⟨a,xs,es,rfl,hq,hxs,h⟩:=Cd hS hv h
 exact⟨a,xs,rfl,hq.imp (·.sq) id,by rw[hxs.length];exact h.ok hS (by simp[IsD])⟩
theorem bt_tuple {m:Mk}:fk X (.type "tuple") (qy X.K (btD .tuple m)):=fk.imp qq λxs H Q ⟨ι,ds,μ,hS,hds,h⟩=>by
 obtain⟨d,v,rfl,hv,h⟩:=jg hds h
 obtain⟨a,xs,es,rfl,hq,hxs,h⟩:=Cd hS hv h
 refine⟨a,xs,rfl,?_⟩
 rcases hq with hq | hq
 ·exact .inl ⟨hq.sq,λl hl=>qt hS hxs h hl⟩
 ·exact .inr ⟨hq,h.ok hS (tup_is hq hxs)⟩
theorem bt_min {m:Mk} (hc:X.calm=true):fk X (.builtin "min") (qy X.K (btD .min m)):=fk.imp (Bk hc) λxs H Q ⟨ι,ds,μ,hS,hds,h⟩=>by
 simp![btD,minD]at h
 split at h
 ·rename_i i j
  obtain⟨v,w,rfl,hv,hw⟩:=Hs hds
  cases cx hv
  cases cx hw
  exact⟨i,j,rfl,h.ok hS (by simp[IsD])⟩
 ·exact h.elim
theorem bt_max {m:Mk} (hc:X.calm=true):fk X (.builtin "max") (qy X.K (btD .max m)):=fk.imp (Bj hc) λxs H Q ⟨ι,ds,μ,hS,hds,h⟩=>by
 simp![btD,maxD]at h
 split at h
 ·rename_i i j
  obtain⟨v,w,rfl,hv,hw⟩:=Hs hds
  cases cx hv
  cases cx hw
  exact⟨i,j,rfl,h.ok hS (by simp[IsD])⟩
 ·exact h.elim
theorem O5 {m:Mk}:fk X (.type "int") (qy X.K (btD .int m)):=fk.imp Bl λxs H Q ⟨ι,ds,μ,hS,hds,h⟩=>by
 obtain⟨d,v,rfl,hv,h⟩:=jg hds h
 unfold Hl at h
 split at h
 ·rename_i b
  cases vy hv
  exact .inr ⟨b,rfl,h.ok hS (by simp[IsD])⟩
 ·rename_i i
  cases cx hv
  exact .inl ⟨i,rfl,h.ok hS (by simp[IsD])⟩
 ·exact h.elim
theorem Fw {A:Around} {E:Value->Shared->Prop} {a:Addr} {xs:List V} (I:Inv X pins σ H s) (hq:LsL X.K H a xs\/SqT X.K H a xs) (hh:A.handled=none) {Q:Value->Shared->Prop}
  (h:∀(it:Addr) (fp:List Addr) (its:List Value) St s2,bu xs its->Walks X.prog X.w A it fp [it] its.length (λi v=>its[i]? = some v) St->St 0 s2.heap->(∀b∈fp,b<s2.heap.objs.size) ->
   (∀h' tk,(∀b o,b∉[it]->s2.heap.get? b=some o->h'.get? b=some o)->Inv X pins σ H {s2 with heap:=h',toks:=tk})->Q (.ref it) s2) :
  wpAny (model X.prog X.w) A (pyIter (.ref a)) Q E s:=by
 have fin:∀(ob:Obj) (h':Heap) (tk:Nat),(∀b o,b∉[s.heap.objs.size]->(s.heap.push ob).get? b=some o->h'.get? b=some o)->Inv X pins σ H {s with heap:=h',toks:=tk}:=λob h' tk hk =>
  I.kept λb u e=>hk b u (by simp;exact BD (AQ e)) (AF _ e)
 rcases hq with hq | hq
 ·obtain⟨z,its,n,hv,hl,hg⟩:=I.ls hq
  have hil:s.heap.IsList a its.toArray:=⟨_,hg,rfl,n,rfl⟩
  refine wpAny_pyIter_list hil ?_
  have hne:a≠s.heap.objs.size:=BD (AQ hg)
  have W:=Walks.list (prog:=X.prog) (w:=X.w) (A:=A) hh s.heap.objs.size a hne its.toArray
  simp![AH,HU]at W
  refine h s.heap.objs.size _ its _ _ hv W ⟨⟨_,AX _ rfl,rfl,rfl⟩,hil.at λo e=>AF _ e⟩ (λb hb=>?_) (λh' tk hk=>fin _ h' tk hk)
  simp![AV,CP,or_false]at hb
  rw[EB]
  rcases hb with rfl | rfl
  ·exact GZ _
  ·exact GO (AQ hg)
 ·obtain⟨its,hv,ht,hz⟩:=I.tuple hq
  have hit:s.heap.IsTuple a its.toArray:=ht
  refine EK hit ?_
  obtain⟨o,ho,_⟩:=id hit
  have hne:a≠s.heap.objs.size:=BD (AQ ho)
  have W:=Walks.tuple (prog:=X.prog) (w:=X.w) (A:=A) hh s.heap.objs.size a hne its.toArray
  simp![AH,HU]at W
  refine h s.heap.objs.size _ its _ _ hv W ⟨⟨_,AX _ rfl,rfl,rfl⟩,hit.at λo e=>AF _ e⟩ (λb hb=>?_) (λh' tk hk=>fin _ h' tk hk)
  simp![AV,CP,or_false]at hb
  rw[EB]
  rcases hb with rfl | rfl
  ·exact GZ _
  ·exact GO (AQ ho)
theorem ug (ns:List Int):∀k,k<=ns.length->preSum (λi=>ns.getD i 0) k=(ns.take k).sum
 | 0,_=>by simp[preSum]
 | k+1,h=>by
  rw[preSum,ug ns k (by lia),List.take_succ,List.sum_append,CF,AA (by lia)]
  simp
theorem bt_sum {m:Mk} (hc:X.calm=true):fk X (.builtin "sum") (qy X.K (btD .sum m)):=by
 intro pins s σ H xs us Q I r ⟨ι,ds,μ,hS,hds,h⟩
 obtain⟨d,v,rfl,hv,h⟩:=jg hds h
 obtain⟨a,ns,rfl,hq,h⟩:=K9 hS hv h
 obtain⟨u,rfl,ru⟩:=vals1 r
 cases(show u=Value.ref a from ru)
 refine call_sum_walkG (Fw I hq (show X.A.in1.handled=none from I.ok.hd hc) λit fp its St s2 hvs W st hfp hI=>?_)
 have hl:ns.length=its.length:=by have:=hvs.length;simpa using this
 refine⟨it,fp,[it],its.length,_,St,λi=>ns.getD i 0,rfl,W,st,hfp,λi w e=>?_,λh' tk t' hk=>?_⟩
 ·have hi:i<ns.length:=by rw[hl];exact(AI.mp e).1
  obtain⟨u',e1,⟨t,e2⟩⟩:=hvs.get (i:=i) (x:=.int ns[i]) (by simp[AA hi])
  rw[e]at e1;cases e1
  exact⟨t,by rw[e2];simp[CF,AA hi]⟩
 ·refine⟨.int ns.sum,H,hI h' tk hk,⟨t',?_⟩,h.ok hS (by simp[IsD])⟩
  rw[<-hl,ug ns ns.length (AK _),BN]
end
theorem wc {prog:Program} {w:World} {A:Around} {E:Value->Shared->Prop} {s:Shared} {t sl:Addr} {items:Array Value} {vl vu:Value} {lo hi:Option Int} {Q:Value->Shared->Prop} (ht:IsTup s.heap t items) (hs:s.heap.IsSliceOf sl vl vu .none) (pl:IsPart vl lo) (pu:IsPart vu hi)
  (hw:HT.sIx items.size 0 lo=0/\HT.sIx items.size items.size hi=items.size) (h:Q (.ref t) s):wpAny (model prog w) A (getItem (.ref t) (.ref sl)) Q E s:=by
 obtain⟨os,hos,hcs,hds⟩:=id hs
 have hTs:s.TypeIs (.ref sl) "slice":=⟨os,hos,hcs⟩
 unfold getItem
 try with_reducible refine DX ?_
 first | refine AB (AM ?_) | skip
 refine AB (wpAny_sequenceKey ht.typeIs (by decide) ?_)
 refine AB (Da (name:=Str.ofString "__getitem__") ht.typeIs CA
  (DG CA ht.typeIs entry_tuple_getitem ?_ (args_tuple_getitem _ _)))
 show wpAny _ _ (Builtin.Tuple.tupleItemsOf (.ref t)>>=_) _ _ s
 refine AB (tupleItemsOf_ ht ?_)
 refine AB (HI hTs ?_)
 rw[if_pos (by decide)]
 refine AB (HT.jb hs pl pu ?_)
 have hyes:(((HT.sIx items.size 0 lo:Nat):Int)==0&&(1:Int)==1&&(HT.sIx items.size items.size hi-HT.sIx items.size 0 lo)==items.size)=true:=by
  rw[hw.1,hw.2];simp
 show wpAny _ _ (if(((HT.sIx items.size 0 lo:Nat):Int)==0&&(1:Int)==1&&(HT.sIx items.size items.size hi-HT.sIx items.size 0 lo)==items.size)=true then _ else _) _ _ s
 rw[if_pos hyes]
 refine AB ?_
 unfold Builtin.Tuple.tupleIsExact
 refine AB (HI ht.typeIs (AM ?_))
 rw[if_pos (by decide)]
 exact AB (EJ (AM ⟨_,rfl,AM h⟩))
section
variable {X : Cx} {φ : Phi} {pins : List (Addr × Obj)} {σ : St} {H : Hp} {s : Shared}
theorem Ti {m:Mk}:SlR X (λx lo hi H Q=>∃ι d μ,Sim X.K ι H μ/\IsD X.K ι H d x/\fj X.K (RD X.K) ι H (slD m d lo hi μ) Q):=by
 intro pins s σ H x v vl vu lo hi sl Q I rx hs pl pu ⟨ι,d,μ,hS,hd,h⟩
 unfold slD at h
 split at h
 ·rename_i ds
  obtain⟨a,xs,rfl,hq,hxs⟩:=dq hd
  by_cases hw:HT.sIx xs.length 0 lo=0/\HT.sIx xs.length xs.length hi=xs.length
  ·cases(show v=Value.ref a from rx)
   obtain⟨its,r,ht,hz⟩:=I.tuple hq
   have hlen:its.toArray.size=xs.length:=by rw[AH];exact r.length.symm
   refine⟨"tuple",_,CA.lookup,ht.typeIs,wc ht hs pl pu (by rw[hlen];exact hw) ⟨.ref a,H,I,rfl,h.ok hS ?_⟩⟩
   have e1:∀n d o,Lp.sIx n d o=HT.sIx n d o:=λn d o=>by cases o<;>rfl
   have ec:cut ds lo hi=ds:=by
    unfold cut
    rw[e1,e1,<-hxs.length,hw.1,hw.2]
    simp[hxs.length]
   rw[ec]
   exact hd
  ·exact Nm pins s σ H _ v vl vu lo hi sl Q I rx hs pl pu ⟨a,xs,rfl,hq,hw,λp hp=>qt hS (Hq hxs lo hi) h hp⟩
 ·split at h
  ·rename_i es
   obtain⟨a,xs,rfl,ha,hxs⟩:=gw hS hd es
   exact SlR.fq Kf pins s σ H _ v vl vu lo hi sl Q I rx hs pl pu ⟨a,xs,rfl,ha.sq,λp hp=>lp hS (Hq hxs lo hi) h hp⟩
  ·exact h.elim
theorem PO.imp {e:Option Expr} {t t':TO} (h:PO X e t) (i:∀σ H Q,t' σ H Q->t σ H Q):PO X e t':=by
 intro pins s σ H Q I q
 exact h pins s σ H Q I (i _ _ _ q)
theorem Ws:PO X none (tEo X.K φ .no):=PO.imp Kb λσv H Q ⟨ι,σ,μ,hS,hL,h⟩=>by
 simp![evO]at h
 exact h.ok hS rfl
theorem Wt {e:Expr} {x:Ex} (he:PE X e (tE X.K φ x)):PO X (some e) (tEo X.K φ (.so x)):=PO.imp (Kc he) λσv H Q ⟨ι,σ,μ,hS,hL,h⟩=>by
 simp![evO]at h
 obtain⟨d,μ1,e1,h⟩:=h.bind
 refine⟨ι,σ,μ,hS,hL,?_⟩
 rw[e1]
 intro ι1 v H1 p1 x1 s1 d1
 cases d with
 | int i=>exact⟨i,cx d1,h ι1 (some i) H1 p1 x1 s1 rfl⟩
 | _=>exact h.elim
theorem Wu {e:Expr} {lo hi:Option Expr} {x:Ex} {xl xh:ExO} {m:Mk} {p2 pos:Pos} (he:PE X e (tE X.K φ x)) (hl:PO X lo (tEo X.K φ xl)) (hh:PO X hi (tEo X.K φ xh)):PE X (.Subscript e (.Slice lo hi none p2) pos) (tE X.K φ (.sl m x xl xh)) :=
 PE.imp (Fh Ti he hl hh) λσv H Q ⟨ι,σ,μ,hS,hL,h⟩=>by
  simp![evE]at h
  obtain⟨d,μ1,e1,h⟩:=h.bind
  refine⟨ι,σ,μ,hS,hL,?_⟩
  rw[e1]
  intro ι1 v H1 p1 x1 s1 d1
  obtain⟨l,μ2,e2,h⟩:=h.bind
  refine⟨ι1,σ,μ1,s1,hL.mono p1 x1,?_⟩
  rw[e2]
  intro ι2 l' H2 p2 x2 s2 d2
  cases d2
  obtain⟨u,μ3,e3,h⟩:=h.bind
  refine⟨ι2,σ,μ2,s2,(hL.mono p1 x1).mono p2 x2,?_⟩
  rw[e3]
  intro ι3 u' H3 p3 x3 s3 d3
  cases d3
  exact⟨ι3,d,μ3,s3,IsD.mono p3 x3 _ _ (IsD.mono p2 x2 _ _ d1),h.mono ((p1.trans p2).trans p3) ((x1.trans x2).trans x3)⟩
def mq:Cl->String
 | .int=>"int"
 | .bool=>"bool"
 | .tuple=>"tuple"
 | .list=>"list"
 | .str=>"str"
 | .own _=>""
def qz:String->Cl->Bool
 | "bool",.int=>true
 | "bool",.bool=>true
 | "int",.int=>true
 | "str",.str=>true
 | "tuple",.tuple=>true
 | "list",.list=>true
 | _,_=>false
theorem ox (K:PySem.W.Frag) (t:String) (c:Cl) (hc:∀n,c≠.own n) (ht:t∈["NoneType","bool","int","str","tuple","list"]):PySem.W.kitOne K (.type t) (.type (mq c))=some (qz t c):=by
 simp![AV,CP,or_false]at ht
 rcases ht with rfl | rfl | rfl | rfl | rfl | rfl<;>cases c<;>first | rfl | exact absurd rfl (hc _)
theorem O6 {c:Cl} (hc:∀n,c≠.own n):fk X (.builtin "isinstance") (λxs H Q=>∃ι d μ v,xs=[v,.ty (mq c)]/\Sim X.K ι H μ/\IsD X.K ι H d v/\fj X.K (RD X.K) ι H (Ks c d μ) Q):=by
 intro pins s σ H xs us Q I r ⟨ι,d,μ,v,e,hS,hd,h⟩
 subst e
 obtain⟨u,w,rfl,ru,rw'⟩:=vals2 r
 cases(show w=Value.type (mq c)from rw')
 have key:∀(t:String),t∈["NoneType","bool","int","str","tuple","list"]->(∀tk,EP X pins σ Q (.bool (qz t c)) {s with toks:=tk})->PySem.W.kitOne X.K (.type t) (.type (mq c))=some (qz t c)/\∀tk,EP X pins σ Q (.bool (qz t c)) {s with toks:=tk}:=λt ht hq=>⟨ox X.K t c hc ht,hq⟩
 have lst:∀a xs,v=.ref a->LsL X.K H a xs->Q (.bl (qz "list" c)) H->wpAny (model X.prog X.w) X.A (call (.builtin "isinstance") [u,.type (mq c)]) (EP X pins σ Q) X.xe s:=λa xs e hq q=>by
  subst e
  cases(show u=Value.ref a from ru)
  obtain⟨z,its,n,hv,_,hg⟩:=I.ls hq
  exact EO PySem.W.kitx_list I.kIn ⟨_,hg,rfl⟩ (ox X.K "list" c hc (by decide)) (λz=>nomatch z) λtk=>⟨.bl (qz "list" c),H,I.tok tk,rfl,q⟩
 cases d with
 | non =>
  cases(show v=.non by simpa[IsD]using hd)
  cases(show u=Value.none from ru)
  refine EO PySem.W.kitx_none I.kIn True.intro (ox X.K "NoneType" c hc (by decide)) (λz=>nomatch z) λtk=>⟨.bl (qz "NoneType" c),H,I.tok tk,rfl,?_⟩
  cases c<;>first | exact absurd rfl (hc _) | exact h.ok hS (by simp[IsD,qz])
 | bl b =>
  cases vy hd
  cases(show u=Value.bool b from ru)
  refine EO PySem.W.kitx_bool I.kIn True.intro (ox X.K "bool" c hc (by decide)) (λz=>nomatch z) λtk=>⟨.bl (qz "bool" c),H,I.tok tk,rfl,?_⟩
  cases c<;>first | exact absurd rfl (hc _) | exact h.ok hS (by simp[IsD,qz])
 | int i =>
  cases cx hd
  obtain⟨t,rfl⟩:=(show ∃t,u=Value.int i t from ru)
  refine EO PySem.W.kitx_int I.kIn True.intro (ox X.K "int" c hc (by decide)) (λz=>nomatch z) λtk=>⟨.bl (qz "int" c),H,I.tok tk,rfl,?_⟩
  cases c<;>first | exact absurd rfl (hc _) | exact h.ok hS (by simp[IsD,qz])
 | str x =>
  cases(show v=.str x by simpa[IsD]using hd)
  obtain⟨t,rfl⟩:=(show ∃t,u=Value.str x t from ru)
  refine EO PySem.W.kitx_str I.kIn True.intro (ox X.K "str" c hc (by decide)) (λz=>nomatch z) λtk=>⟨.bl (qz "str" c),H,I.tok tk,rfl,?_⟩
  cases c<;>first | exact absurd rfl (hc _) | exact h.ok hS (by simp[IsD,qz])
 | tup ds =>
  obtain⟨a,xs,rfl,hq,hxs⟩:=dq hd
  cases(show u=Value.ref a from ru)
  obtain⟨its,hv,⟨o,h1,h2,_⟩,hz⟩:=I.tuple hq
  refine EO PySem.W.kitx_tuple I.kIn ⟨o,h1,h2⟩ (ox X.K "tuple" c hc (by decide)) (λz=>nomatch z) λtk=>⟨.bl (qz "tuple" c),H,I.tok tk,rfl,?_⟩
  cases c<;>first | exact absurd rfl (hc _) | exact h.ok hS (by simp[IsD,qz])
 | lst ds =>
  obtain⟨a,xs,rfl,hq,hxs⟩:∃a xs,v=.ref a/\FzL X.K H a xs/\ai X.K ι H ds xs:=by simpa[IsD]using hd
  refine lst a xs rfl (.inr hq) ?_
  cases c<;>first | exact absurd rfl (hc _) | exact h.ok hS (by simp[IsD,qz])
 | loc n =>
  cases c with
  | list =>
   simp![Ks]at h
   split at h
   ·rename_i ds em
    obtain⟨a,xs,rfl,hq,hxs⟩:=gw (ds:=ds) hS hd (by simp[listOf,em])
    exact lst a xs rfl hq (h.ok hS (by simp[IsD,qz]))
   ·rename_i ds em
    obtain⟨a,xs,rfl,hq,hxs⟩:=gw (ds:=ds) hS hd (by simp[listOf,em])
    exact lst a xs rfl hq (h.ok hS (by simp[IsD,qz]))
   ·exact h.elim
  | own k=>exact absurd rfl (hc k)
  | _=>exact h.elim
theorem Tj {a:Expr} {xa:Ex} {c:Cl} {cn:Str} {p cp pos:Pos} (hc:∀n,c≠.own n) (ha:PE X a (tE X.K φ xa)) (hgi:Gl X "isinstance") (hmi:X.mg "isinstance"=none) (hgc:Gl X cn) (hmc:X.mg cn=none) (hbc:bootBuiltins cn=some (.type (mq c)))
  (hn:cn≠"__name__") (hd:(cn==("__debug__":Str))=false) (hs:starEach [a,.Name cn cp] X.env=(false,eval a X.env)::starEach [.Name cn cp] X.env) :
  PE X (.Call (.Name "isinstance" p) [a,.Name cn cp] [] pos) (tE X.K φ (.isi xa c)):=by
 have hb:PE X (.Name cn cp) (tC (.ty (mq c))):=Jz hgc hmc hbc rfl hn hd
 refine PE.imp (ij (O6 hc) hgi hmi boot_isinstance (vm ha (vm hb Hf) hs) (by decide) (by decide) hs) λσv H Q ⟨ι,σ,μ,hS,hL,h⟩=>?_
 simp![evE]at h
 obtain⟨d,μ1,e1,h⟩:=h.bind
 refine⟨ι,σ,μ,hS,hL,?_⟩
 rw[e1]
 exact λι1 v H1 p1 x1 s1 d1=>⟨ι1,d,μ1,v,rfl,s1,d1,h.mono p1 x1⟩
theorem Ht {K:PySem.W.Frag} {ι:List Addr} {μ:Sto} {n:Nat} {v:V} {ob:O} {xs:List D} (hS:Sim K ι H μ) (hd:IsD K ι H (.loc n) v) (e:μ[n]? = some ob) (hi:g7 ob=some xs) :
  ∃a vs,v=.ref a/\ι[n]? = some a/\H a=some (.lst vs)/\ai K ι H xs vs/\(∀ds,ob=.l ds->ai K [] H xs vs):=by
 obtain⟨a,rfl,ha⟩:∃a,v=.ref a/\ι[n]? = some a:=by simpa[IsD]using hd
 obtain⟨a',ea,ho⟩:=hS.at e
 rw[ha]at ea;cases ea
 cases ob with
 | l ds =>
  cases hi
  obtain⟨vs,e1,e2⟩:=ho
  exact⟨a,vs,rfl,ha,e1,ai.mono (CY) (.refl _) _ _ e2,λ_ _=>e2⟩
 | r ds =>
  cases hi
  obtain⟨vs,e1,e2⟩:=ho
  exact⟨a,vs,rfl,ha,e1,e2,λ_ z=>by cases z⟩
 | d _=>cases hi
 | dt _=>cases hi
 | x _=>cases hi
 | o _ _=>cases hi
 | dr _=>cases hi
 | fd _=>cases hi
 | dead=>cases hi
theorem rd {K:PySem.W.Frag} {ι:List Addr} {μ:Sto} {n:Nat} {ob:O} {ys:List D} {vs ws:List V} {d:D} {v:V} {a:Addr} {Q:VK} (hS:Sim K ι H μ) (ha:ι[n]? = some a) (hH:H a=some (.lst vs))
  (hw:ai K ι H ys ws) (hw0:∀ds,ob=.l ds->ai K [] H ys ws) (hd:IsD K ι H d v) (h:fj K (RD K) ι H (putL n ob ys d μ) Q):Q v (upd H a (.lst ws)):=by
 cases ob with
 | l ds =>
  exact h ι v _ (AE _) (.lst hH) (hS.put ha (.lst hH) ⟨ws,bf,ai.mono (AE _) (.lst hH) _ _ (hw0 ds rfl)⟩) (IsD.mono (AE _) (.lst hH) _ _ hd)
 | r ds =>
  exact h ι v _ (AE _) (.lst hH) (hS.put ha (.lst hH) ⟨ws,bf,ai.mono (AE _) (.lst hH) _ _ hw⟩) (IsD.mono (AE _) (.lst hH) _ _ hd)
 | d _=>exact h.elim
 | dt _=>exact h.elim
 | x _=>exact h.elim
 | o _ _=>exact h.elim
 | dr _=>exact h.elim
 | fd _=>exact h.elim
 | dead=>exact h.elim
theorem uh {K:PySem.W.Frag} {ι:List Addr} {ob:O} {d:D} {v:V} (hf:fits ob d=true) (hd:IsD K ι H d v):∀ds,ob=.l ds->IsD K [] H d v:=λds e=>by
 subst e
 exact IsD.pur hf hd
def rMt (K:PySem.W.Frag) (mt:Mt):V->List V->Hp->VK->Prop:=λx vs H Q=>∃ι d ds μ,Sim K ι H μ/\IsD K ι H d x/\ai K ι H ds vs/\fj K (RD K) ι H (mtD mt d ds μ) Q
theorem O7 {mt:Mt} (hne:mt≠.count/\mt≠.countL/\mt≠.get) {x:V} {vs:List V} {Q:VK} (h:rMt X.K mt x vs H Q):∃ι n ob xs ds μ a ws,Sim X.K ι H μ/\ai X.K ι H ds vs/\x=.ref a/\ι[n]? = some a/\H a=some (.lst ws)/\ai X.K ι H xs ws /\
  (∀es,ob=.l es->ai X.K [] H xs ws)/\fj X.K (RD X.K) ι H (mtL mt n ob xs ds μ) Q:=by
 obtain⟨ι,d,ds,μ,hS,hd,hds,h⟩:=h
 have e0:mtD mt d ds μ=Bz mt d ds μ:=by
  cases mt<;>first | exact absurd rfl hne.1 | exact absurd rfl hne.2.1 | exact absurd rfl hne.2.2 | rfl
 rw[e0]at h
 cases d with
 | loc n =>
  simp![Bz]at h
  cases em:μ[n]? with
  | none=>rw[em]at h;exact h.elim
  | some ob =>
   rw[em]at h
   simp only at h
   cases ei:g7 ob with
   | none=>rw[ei]at h;exact h.elim
   | some xs =>
    rw[ei]at h
    obtain⟨a,ws,ex,ha,hH,h1,h2⟩:=Ht hS hd em ei
    exact⟨ι,n,ob,xs,ds,μ,a,ws,hS,hds,ex,ha,hH,h1,h2,h⟩
 | _=>exact h.elim
theorem Fy:MtR X "list.append" (rMt X.K .append):=MtR.imp Bs λx vs H Q h0=>by
 obtain⟨ι,n,ob,xs,ds,μ,a,ws,hS,hds,rfl,ha,hH,h1,h2,h⟩:=O7 (by decide) h0
 clear h0
 simp![mtL]at h
 obtain⟨d,v,rfl,hv,h⟩:=jg hds h
 split at h
 ·rename_i hf
  rw[fo]at hf
  refine⟨a,ws,v,rfl,rfl,hH,by rw[h1.length];exact hf.2,rd hS ha hH (h1.append (.one hv)) (λes e=>(h2 es e).append (.one (uh hf.1 hv es e))) (by simp[IsD]) h⟩
 ·exact h.elim
theorem Fz:MtR X "list.extend" (rMt X.K .extend):=by
 intro pins s σ H x vs v us Q I rx rv h0
 obtain⟨ι,n,ob,xs,ds,μ,a,ws,hS,hds,rfl,ha,hH,h1,h2,h⟩:=O7 (by decide) h0
 clear h0
 simp![mtL]at h
 obtain⟨d,w0,rfl,hv,h⟩:=jg hds h
 split at h
 ·rename_i ys ey
  split at h
  ·rename_i hf
   rw[fo]at hf
   obtain⟨b,zs,rfl,hb,hzs⟩:=gw hS hv ey
   cases(show v=Value.ref a from rx)
   obtain⟨u,rfl,ru⟩:=rv.one
   cases(show u=Value.ref b from ru)
   obtain⟨z,its,n1,r,hl,e⟩:=I.lstM hH
   obtain⟨z2,its2,n2,r2,hl2,e2⟩:=I.ls hb
   have l1:=h1.length
   have l2:=hzs.length
   have hsz:its.toArray.size+its2.toArray.size<=sizeLine:=by rw[AH,AH];lia
   have hlong:¬(!its.toArray.isEmpty&&Builtin.List.listTooLong (its.toArray.size+its2.toArray.size))=true:=by
    rw[yf hsz,Bool.and_false]
    exact BI
   refine call_meets F.slot_list_extend ⟨_,e,rfl⟩ F.entry_list_extend (F.args_list_extend_2 _ _)
    (AutoSeq1.list_extend_list_list_0 a its.toArray n1 b its2.toArray n2 hlong (by rw[AH];lia) (by lia)) ⟨e,e2,?_⟩
   refine⟨.non,_,I.lset (its':=its++its2) hH e (by simp) (r.append r2) ?_,rfl,rd hS ha hH (h1.append hzs) (λes ee=>(h2 es ee).append ?_) (by simp[IsD]) h⟩
   ·rw[AO]
    lia
   ·subst ee
    exact ai.pur (by simpa[fits]using hf.1) hzs
  ·exact h.elim
 ·exact h.elim
end
theorem IsD.belowN {K:PySem.W.Frag} {ι ι':List Addr} {H:Hp} (hp:ι <+: ι'):∀(k:Nat) (d:D) (v:V),D.belowN ι.length k d=true->IsD K ι' H d v->IsD K ι H d v:=by
 have list:∀(k:Nat),(∀(d:D) (v:V),D.belowN ι.length k d=true->IsD K ι' H d v->IsD K ι H d v) ->
   ∀(ds:List D) (xs:List V),ds.all (D.belowN ι.length k)=true->ai K ι' H ds xs->ai K ι H ds xs:=by
  intro k ih ds
  induction ds with
  | nil=>intro xs _ h;simpa[ai]using h
  | cons d ds ihd =>
   intro xs hp h
   simp![ai]at h ⊢
   simp![BO,AU]at hp
   obtain⟨v,r,e,q,t⟩:=h
   exact⟨v,r,e,ih d v hp.1 q,ihd r hp.2 t⟩
 have loc:∀(n:Nat) (v:V),n<ι.length->IsD K ι' H (.loc n) v->IsD K ι H (.loc n) v:=λn v hn h=>by
  simp![IsD]at h ⊢
  obtain⟨a,e,q⟩:=h
  obtain⟨t,rfl⟩:=hp
  rw[AN hn]at q
  exact⟨a,e,q⟩
 intro k
 induction k with
 | zero =>
  intro d v hb h
  cases d with
  | loc n=>exact loc n v (by simpa[D.belowN]using hb) h
  | tup ds=>simp[D.belowN]at hb
  | lst ds=>simp[D.belowN]at hb
  | _=>simpa[IsD]using h
 | succ k ih =>
  intro d v hb h
  cases d with
  | tup ds =>
   simp![D.belowN]at hb
   simp![IsD]at h ⊢
   obtain⟨a,xs,e,q,r⟩:=h
   exact⟨a,xs,e,q,list k ih ds xs hb r⟩
  | lst ds =>
   simp![D.belowN]at hb
   simp![IsD]at h ⊢
   obtain⟨a,xs,e,q,r⟩:=h
   exact⟨a,xs,e,q,list k ih ds xs hb r⟩
  | loc n=>exact loc n v (by simpa[D.belowN]using hb) h
  | _=>simpa[IsD]using h
theorem ai.belowN {K:PySem.W.Frag} {ι ι':List Addr} {H:Hp} (hp:ι <+: ι') {k:Nat}:∀(ds:List D) (xs:List V),ds.all (D.belowN ι.length k)=true->ai K ι' H ds xs->ai K ι H ds xs
 | [],xs,_,h=>by simpa[ai]using h
 | d::ds,xs,hb,h=>by
  simp![ai]at h ⊢
  simp![BO,AU]at hb
  obtain⟨v,r,e,q,t⟩:=h
  exact⟨v,r,e,IsD.belowN hp k d v hb.1 q,ai.belowN hp ds r hb.2 t⟩
theorem Ce {K:PySem.W.Frag} {ι ι':List Addr} {H:Hp} (hp:ι <+: ι'):∀{fs:List (Str×D)} {xs:List (Str×V)},(fs.all λp=>D.belowN ι.length 8 p.2)=true->FsD K ι' H fs xs->FsD K ι H fs xs
 | _,_,_,.nil=>.nil
 | (f,d)::r,(g,v)::q,h,.cons z t=>by
  simp![BO,AU]at h
  exact .cons ⟨z.1,IsD.belowN hp 8 d v h.1 z.2⟩ (Ce hp h.2 t)
theorem Cf {K:PySem.W.Frag} {ι ι':List Addr} {H:Hp} (hp:ι <+: ι'):∀{fs:List (D×D)} {xs:List (Key×V)},(fs.all λp=>D.belowN ι.length 8 p.2)=true->vt K ι' H fs xs->vt K ι H fs xs
 | _,_,_,.nil=>.nil
 | (f,d)::r,(g,v)::q,h,.cons z t=>by
  simp![BO,AU]at h
  exact .cons ⟨z.1,IsD.belowN hp 8 d v h.1 z.2⟩ (Cf hp h.2 t)
theorem Sim.cut {K:PySem.W.Frag} {ι ι':List Addr} {H:Hp} {μ:Sto} (h:Sim K ι' H μ) (hp:ι <+: ι') (hc:(μ.take ι.length).all (fh ι.length)=true):Sim K ι H (μ.take ι.length):=by
 have hl:ι.length<=μ.length:=by rw[<-h.len];exact hp.length_le
 refine⟨by rw[BJ];lia,hp.sublist.nodup h.nd,λn a o e1 e2=>?_⟩
 have hn:n<ι.length:=(AI.mp e1).1
 have e1':ι'[n]? = some a:=by
  obtain⟨t,rfl⟩:=hp
  rw[AN hn];exact e1
 have e2':μ[n]? = some o:=by
  rw[BY hn]at e2;exact e2
 have q:=h.obj n a o e1' e2'
 have c:fh ι.length o=true:=AS.mp hc o (CK e2)
 cases o with
 | l ds=>exact q
 | r ds =>
  obtain⟨xs,e,r⟩:=q
  exact⟨xs,e,ai.belowN hp ds xs c r⟩
 | d kvs=>exact q
 | dt kvs=>exact q
 | x c=>exact q
 | o c' fs =>
  obtain⟨C,dx,xs,n,e,r⟩:=q
  exact⟨C,dx,xs,n,e,Ce hp c r⟩
 | dr kvs =>
  obtain⟨xs,e,r⟩:=q
  exact⟨xs,e,Cf hp c r⟩
 | fd kvs=>exact q
 | dead=>exact q
theorem Cg {K:PySem.W.Frag} {ι:List Addr} {H:Hp} {μ:Sto} {keep:Bool} {r:Res D} {Q:VK} (hS:Sim K ι H μ) (h:fj K (RD K) ι H (ll keep μ.length r) Q):fj K (RD K) ι H r Q:=by
 cases r with
 | exc c ds μ'=>exact h
 | stuck=>exact h
 | ok d μ' =>
  cases keep with
  | true=>simpa[ll]using h
  | false =>
   simp![ll,BB,if_false]at h
   split at h
   ·rename_i hc
    rw[<-hS.len]at hc h
    exact λι' v H' p e s q=>h ι v H' (AE _) e (s.cut p hc.2) (IsD.belowN p 8 d v hc.1 q)
   ·exact h.elim
def spD (K:PySem.W.Frag) (φ:Phi) (f:Nat):Sp:=λvs H Q _=>∃ι ds μ,Sim K ι H μ/\ai K ι H ds vs/\fj K (RD K) ι H (φ f ds μ) Q
def Callee (P:Program) (w:World) (K:PySem.W.Frag) (mg:Str->Option Value) (base:Heap) (A:Around) (φ:Phi) (f:Nat) (x:Str):Prop :=
 ∃(k:Nat) (fa:Addr) (fd:FuncData) (ps:List Str),FnOk P w K mg base CX0 k fa fd ps (spD K φ f)/\Bm k A/\mg x=some (.ref fa)/\PySem.W.keepIn K (.ref fa)=true/\Binds K fd ps []
section
variable {X : Cx} {φ : Phi} {x : Str} {p pos : Pos} {e : Expr} {es : List Expr} {xs : Exs} {f : Nat} {keep : Bool}
theorem s_call (C:Callee X.prog X.w X.K X.mg X.base X.A φ f x) (hg:Gl X x) (ha:PA X (e::es) (tEs X.K φ xs)) (hdb:(x==("__debug__":Str))=false)
  (he:starEach (e::es) X.env=(false,eval e X.env)::starEach es X.env) (hpl:(backTo pos (starEach es X.env)).any (·.1)=false):PE X (.Call (.Name x p) (e::es) [] pos) (tE X.K φ (.call keep f xs)):=by
 obtain⟨k,fa,fd,ps,F,hr,hm,hk,hb⟩:=C
 refine PE.imp (J8 F hr.1 hg hm hk hb .nil Sh ha hdb he hpl) λσv H Q ⟨ι,σ,μ,hS,hL,h⟩=>?_
 simp![evE]at h
 obtain⟨ds,μ1,e1,h⟩:=h.bind
 refine⟨ι,σ,μ,hS,hL,?_⟩
 rw[e1]
 intro ι1 vs H1 p1 x1 s1 d1
 exact⟨ι1,ds,μ1,s1,by rw[DN];exact d1,Cg s1 (h.mono p1 x1)⟩
end
theorem La {P:Program} {w:World} {K:PySem.W.Frag} {mg:Str->Option Value} {base:Heap} {x qual:Str} {st:Stmt} {fa:Addr} {fd:FuncData} {N ps:List Str} {n f:Nat} {T:List Df} {df:Df} (F:Fun K x qual st fa fd) (S:FnScope N ps (bg st))
  (hd:T[f]? = some df) (hnp:df.np=ps.length) (hnn:df.nn=N.length)
  (hb:∀(cdv:Value) (A:Around) (outer:List Env) (s:Shared) (H:Hp) (E:XK),Bm n (A.deeper (envOfC qual (bg st) s.heap.objs.size fa cdv)) ->
   PSs (Fe CX0 P w K mg base N qual (bg st) fa cdv A outer s H E).nox (il st) (tSs K (ak T n) df.body)):FnOk P w K mg base CX0 (n+1) fa fd ps (spD K (ak T (n+1)) f):=by
 have len:∀{vs:List V} {H:Hp} {ds:List D} {ι:List Addr} {μ:Sto} {Q:VK},ai K ι H ds vs->fj K (RD K) ι H (ak T (n+1) f ds μ) Q->ds.length=df.np:=λ{vs H ds ι μ Q} hds h=>by
  simp![ak,hd,Mq]at h
  split at h
  ·assumption
  ·exact h.elim
 refine F.ok S (λvs H Q E ⟨ι,ds,μ,hS,hds,h⟩=>?_) λcdv A outer s H vs Q E hr ⟨ι,ds,μ,hS,hds,h⟩=>⟨_,hb cdv A outer s H E hr,?_⟩
 ·rw[hds.length,len hds h,hnp]
 ·have hl:=len hds h
  refine⟨ι,ds.map some++List.replicate (df.nn-df.np) none,μ,hS,λi d e=>?_,?_,?_⟩
  ·by_cases hi:i<ds.length
   ·rw[AN (by simpa using hi),BM]at e
    cases ed:ds[i]? with
    | none=>rw[ed]at e;cases e
    | some d' =>
     rw[ed]at e
     simp![DR,BV]at e
     subst e
     obtain⟨v,ev,hv⟩:=hds.get ed
     refine⟨v,?_,hv⟩
     unfold L2.start
     rw[AN (by rw[AD,hds.length];exact hi),BM,ev]
     rfl
   ·rw[BH (by simpa using hi),DK]at e
    split at e<;>cases e
  ·unfold L2.start
   simp![AO,AD,HQ,hds.length]
   lia
  ·simp![ak,hd,Mq,if_pos hl]at h
   cases er:kj (ak T n) df.body (ds.map some++List.replicate (df.nn-df.np) none) μ with
   | exc c es μ'=>rw[er]at h;exact h.elim
   | stuck=>rw[er]at h;exact h.elim
   | ok fl μ' =>
    rw[er]at h
    simp![Res.cq]at h
    cases fl with
    | nx σ'=>exact λι' σv H' p e s' l z=>h ι' .non H' p e s' (by simp[IsD])
    | rt d=>exact λι' v H' p e s' q=>h ι' v H' p e s' q
    | bk σ'=>exact h.elim
    | ct σ'=>exact h.elim
theorem Lb {P:Program} {w:World} {K:PySem.W.Frag} {mg:Str->Option Value} {base:Heap} {fa:Addr} {fd:FuncData} {ps:List Str} {f:Nat} {T:List Df}:FnOk P w K mg base CX0 0 fa fd ps (spD K (ak T 0) f) :=
 ⟨λvs H Q E ⟨ι,ds,μ,hS,hds,h⟩=>h.elim,λA outer s H args us vs Q E hr he hb hv ⟨ι,ds,μ,hS,hds,h⟩=>h.elim⟩
structure Ent where
 id:Nat
 name:Str
 st:Stmt
 N:List Str
 ps:List Str
 df:Df
structure ModOf (K:PySem.W.Frag) (mg:Str->Option Value) (e:Ent):Prop where
 ex:∃(fa:Addr) (fd:FuncData),mg e.name=some (.ref fa)/\Fun K e.name e.name e.st fa fd/\∀us:List Value,us.length=e.ps.length->bindArgs fd ⟨us,[]⟩=pure (e.ps.zip us)
theorem bt {K:PySem.W.Frag} {h:Heap} {mg:Str->Option Value} {e:Ent} {f:Addr} {oc:Value} {od an:Option Addr} {sl:Array (Option Value)} {kV dc pm cd ct:Value} (X:K.In h) (G:h.Ns mainGlobals mg) (a:PySem.W.nsIn K mainGlobals e.name=some (some (.ref f)))
  (l:K.lookup f=some ⟨oc,od,.func (PySem.W.fnOf e.name e.name (oh e.st) (il e.st) (bg e.st) .none kV dc pm an cd ct),sl⟩) (c:PySem.W.codeIn K cd e.name=true) (k:PySem.W.keepIn K (.ref f)=true)
  (hb:∀(kV doc pm:Value) (an:Option Addr) (cdv ct:Value) (us:List Value),us.length=e.ps.length->bindArgs (PySem.W.fnOf e.name e.name (oh e.st) (il e.st) (bg e.st) .none kV doc pm an cdv ct) ⟨us,[]⟩=pure (e.ps.zip us)):ModOf K mg e :=
 ⟨f,_,Ix X G a,Nz l c k,hb kV dc pm an cd ct⟩
structure Derived (T:List Df) (P:Program) (w:World) (K:PySem.W.Frag) (mg:Str->Option Value) (base:Heap) (es:List Ent) (e:Ent):Prop where
 sc:FnScope e.N e.ps (bg e.st)
 tb:T[e.id]? = some e.df
 np:e.df.np=e.ps.length
 nn:e.df.nn=e.N.length
 dv:∀(n:Nat) (fa:Addr) (cdv:Value) (A:Around) (outer:List Env) (s:Shared) (H:Hp) (E:XK),(A.deeper (envOfC e.name (bg e.st) s.heap.objs.size fa cdv)).units+64<cLine ->
  (∀(j:Nat) e',es[j]? = some e'->Callee P w K mg base (A.deeper (envOfC e.name (bg e.st) s.heap.objs.size fa cdv)) (ak T n) e'.id e'.name) ->
  PSs (Fe CX0 P w K mg base e.N e.name (bg e.st) fa cdv A outer s H E).nox (il e.st) (tSs K (ak T n) e.df.body)
theorem Hu {T:List Df} {P:Program} {w:World} {K:PySem.W.Frag} {mg:Str->Option Value} {base:Heap} {es:List Ent} (M:∀(j:Nat) e,es[j]? = some e->ModOf K mg e) (Dv:∀(j:Nat) e,es[j]? = some e->Derived T P w K mg base es e) :
  ∀(n:Nat) (j:Nat) e,es[j]? = some e->∀(fa:Addr) (fd:FuncData),mg e.name=some (.ref fa)->Fun K e.name e.name e.st fa fd->FnOk P w K mg base CX0 n fa fd e.ps (spD K (ak T n) e.id)
 | 0,j,e,_,fa,fd,_,_=>Lb
 | n+1,j,e,he,fa,fd,hm,hF=>by
  have d:=Dv j e he
  refine La hF d.sc d.tb d.np d.nn λcdv A outer s H E hr=>d.dv n fa cdv A outer s H E hr.1.units λi e' he'=>?_
  obtain⟨fa',fd',hm',hF',hb'⟩:=(M i e' he').ex
  exact⟨n,fa',fd',e'.ps,Hu M Dv n i e' he' fa' fd' hm' hF',hr,hm',hF'.kp,.all hb'⟩
def F0 (K:PySem.W.Frag):Sp:=λvs H Q _=>∃(a:Addr) (ns:List Int),vs=[.ref a]/\FzL K H a (ns.map V.int)/\ns.length<=63/\∀H',Q (.bl true) H'
theorem O8 {T:List Df} {P:Program} {w:World} {K:PySem.W.Frag} {mg:Str->Option Value} {base:Heap} {es:List Ent} {n j:Nat} {e:Ent} {fa:Addr} {fd:FuncData} (M:∀(j:Nat) e,es[j]? = some e->ModOf K mg e) (Dv:∀(j:Nat) e,es[j]? = some e->Derived T P w K mg base es e)
  (he:es[j]? = some e) (hm:mg e.name=some (.ref fa)) (hF:Fun K e.name e.name e.st fa fd) (hps:e.ps.length=1)
  (hlaw:∀ns:List Int,ns.length<=63->∃μ',ak T n e.id [.lst (ns.map D.int)] []=.ok (.bl true) μ'):FnOk P w K mg base CX0 n fa fd e.ps (F0 K):=by
 refine(Hu M Dv n j e he fa fd hm hF).imp λvs H Q E ⟨a,ns,ev,hS,hl,q⟩=>?_
 subst ev
 obtain⟨μ',el⟩:=hlaw ns hl
 refine⟨[],[.lst (ns.map D.int)],[],⟨rfl,List.nodup_nil,λn a o e1 e2=>by simp at e1⟩,?_,?_⟩
 ·simp![ai,IsD]
  exact⟨.ref a,[],rfl,⟨a,_,rfl,hS,ai.ints ns⟩,rfl⟩
 ·rw[el]
  intro ι' v H' p x s' d
  have ev:v=.bl true:=by simpa[IsD]using d
  subst ev
  exact q H'
theorem Lc {T:List Df} {P:Program} {w:World} {K:PySem.W.Frag} {mg:Str->Option Value} {es:List Ent} {n j:Nat} {e:Ent} {fa:Addr} (M:∀(j:Nat) e,es[j]? = some e->ModOf K mg e) (Dv:∀(base:Heap) (j:Nat) e,es[j]? = some e->Derived T P w K mg base es e)
  (he:es[j]? = some e) (hfa:mg e.name=some (.ref fa)) (hps:e.ps=[("script":Str)])
  (hlaw:∀ns:List Int,ns.length<=63->∃μ',ak T n e.id [.lst (ns.map D.int)] []=.ok (.bl true) μ') :
  ∃fd:FuncData,(∀(s:Shared) (v:Value),BindsTo s fd ⟨[v],[]⟩ [("script",v)])/\∀base:Heap,K.In base->base.Ns mainGlobals mg->FnOk P w K mg base CX0 n fa fd ["script"] (F0 K):=by
 obtain⟨fa',fd,hm,hF,hb⟩:=(M j e he).ex
 have z:=hfa.symm.trans hm
 cases z
 rw[hps]at hb
 refine⟨fd,λs v=>.of_eq (hb [v] rfl),λbase _ _=>?_⟩
 have q:=O8 M (Dv base) he hm hF (by rw[hps];rfl) hlaw
 rw[hps]at q
 exact q
theorem F6 {l:PySem.W.OpenLaw} {n:Nat} {q:Program} {loose:List Str} {XP:(Str->Option Value)->Heap->Prop} {YP:World->Heap->Prop} {d:DefRec} {K:Params->PySem.W.Frag} (hr:Room n callerA) (hn:l.most=some 63) (hdf:d.params.defaults=[])
  (hY:∀(w:World) (h:Heap),YP w h->(K w.params).In h)
  (F:∀(w:World) (mg:Str->Option Value) (fa:Addr) (h:Heap),(K w.params).In h->h.Ns mainGlobals mg->mg d.name=some (.ref fa) ->
   ∃fd:FuncData,(∀(s:Shared) (u:Value),BindsTo s fd ⟨[u],[]⟩ [("script",u)])/\∀base:Heap,(K w.params).In base->base.Ns mainGlobals mg->FnOk l.prog w (K w.params) mg base CX0 n fa fd ["script"] (F0 (K w.params))) :
  PySem.W.WalkO q loose XP YP l.row.toRowW d [] (λf vs=>PySem.call f vs) :=
 L2.Kj (n:=63) (k:=n) (x:="script") (CX:=λ_=>CX0) (sp:=λw=>F0 (K w.params)) hn (by decide) hdf hr hY F (λ_ _ a ns hl _ hS=>⟨a,ns,rfl,hS,hl,λ_=>rfl⟩) λ_ _ _ _ _ z=>z
def Exs.len:Exs->Nat
 | .nil=>0
 | .cons _ r=>r.len+1
theorem rf {φ:Phi}:∀{xs:Exs} {σ:Sl} {μ:Sto} {ds:List D} {μ':Sto},fi φ xs σ μ=.ok ds μ'->ds.length=xs.len
 | .nil,σ,μ,ds,μ',h=>by
  simp![fi]at h
  cases h;rfl
 | .cons e r,σ,μ,ds,μ',h=>by
  simp![fi]at h
  cases e1:evE φ e σ μ with
  | exc _ _ _=>rw[e1]at h;cases h
  | stuck=>rw[e1]at h;cases h
  | ok d μ1 =>
   rw[e1]at h
   simp![Res.cq]at h
   cases e2:fi φ r σ μ1 with
   | exc _ _ _=>rw[e2]at h;cases h
   | stuck=>rw[e2]at h;cases h
   | ok es μ2 =>
    rw[e2]at h
    cases h
    simp[Exs.len,rf e2]
def yo (sc scope:Scope) (N Nb:List Str) (cap:List Nat) (nl:Nat):Bool :=
 decide (scope.kind=.function)&&scope.names.all (λy=>decide (scope.names.lookup y.1=some y.2)
  && (!decide (y.2=.free) || decide (sc.names.lookup y.1=some .cell) || decide (sc.names.lookup y.1=some .free)))
 && decide Nb.Nodup&&decide (Nb.length=cap.length+nl)
 && (List.range cap.length).all (λj=>match cap[j]?,Nb[j]? with
  | some i,some x=>decide (N[i]? = some x)&&scope.names.any λy=>decide (y.1=x)&&decide (y.2=.free)
  | _,_=>false)
theorem lookup_mem {l:List (Str×NameKind)} {n:Str} {k:NameKind} (h:l.lookup n=some k):(n,k)∈l:=by
 induction l with
 | nil=>cases h
 | cons a r ih =>
  obtain⟨m,j⟩:=a
  rw[EA]at h
  cases hb:n==m with
  | true =>
   rw[hb]at h
   cases h
   have:n=m:=by simpa using hb
   subst this
   exact BF
  | false =>
   rw[hb]at h
   exact AT _ (ih h)
theorem oy {scope:Scope} {env:Env} {n:Str} {k:NameKind} (h:(n,k)∈(relabel scope env).names):(n,k)∈scope.names\/(k=.cell/\(n,NameKind.free)∈scope.names):=by
 have h2:(n,k)∈scope.names.map (fun(n,k)=>if(k==NameKind.free&&env.scope.kind==.function&&env.kindOf n==some .cell)then(n,NameKind.cell)else(n,k)):=h
 obtain⟨⟨m,j⟩,hm,e⟩:=CZ.mp h2
 dsimp only at e
 split at e
 ·rename_i hc
  cases e
  simp![AU,beq_iff_eq]at hc
  obtain⟨⟨rfl,_⟩,_⟩:=hc
  exact .inr ⟨rfl,hm⟩
 ·cases e
  exact .inl hm
theorem qc {sc scope:Scope} {N Nb:List Str} {cap:List Nat} {nl:Nat} (h:yo sc scope N Nb cap nl=true):CompScope sc scope N Nb cap nl:=by
 simp![yo,AU,AS,decide_eq_true_eq,Bool.or_eq_true,GP,decide_eq_false_iff_not]at h
 obtain⟨⟨⟨⟨h1,h2⟩,h3⟩,h4⟩,h5⟩:=h
 refine⟨h1,λy hy=>(h2 y hy).1,λn hn=>?_,λn hn=>?_,h3,h4,λj i e=>?_⟩
 ·rcases(h2 (n,.free) hn).2 with(z | z) | z
  ·exact absurd rfl z
  ·exact .inl z
  ·exact .inr z
 ·rcases hn with hn | hn
  ·rcases oy (lookup_mem hn)with z | z
   ·exact .inr z
   ·exact .inl z.2
  ·rcases oy (lookup_mem hn)with z | z
   ·exact .inl z
   ·exact .inl z.2
 ·have hj:j<cap.length:=(AI.mp e).1
  have q:=h5 j (HW.mpr hj)
  rw[e]at q
  cases ex:Nb[j]? with
  | none=>rw[ex]at q;simp at q
  | some x =>
   rw[ex]at q
   simp![AU,decide_eq_true_eq,List.any_eq_true]at q
   obtain⟨q1,⟨y,k⟩,hy,e1,e2⟩:=q
   dsimp only at e1 e2
   subst e1;subst e2
   exact⟨y,rfl,q1,hy⟩
def ndB (l:List Str):Bool:=decide l.Nodup
theorem yp {l:List Str} (h:ndB l=true):l.Nodup:=of_decide_eq_true h
section
variable {X : Cx} {φ : Phi} {a b c e : Expr} {es : List Expr} {xa xb xc xe : Ex} {xs : Exs} {pos : Pos}
theorem ae (i:Nat) {x:Str} (hN:X.N[i]? = some x:=by rfl) (hv:Vis X.env.scope x:=by first | exact Or.inl rfl | exact Or.inr (Or.inl rfl) | exact Or.inr (Or.inr rfl)) (hd:(x==("__debug__":Str))=false:=by decide)
  (hcd:(x==("__classdict__":Str))=false:=by decide):PE X (.Name x pos) (tE X.K φ (.var i)):=Sw hN hv hd hcd
theorem O9 (i:Nat) {x:Str} (hN:X.N[i]? = some x:=by rfl) (hv:Vis X.env.scope x:=by first | exact Or.inl rfl | exact Or.inr (Or.inl rfl) | exact Or.inr (Or.inr rfl)) (hd:(x==("__debug__":Str))=false:=by decide)
  (hcd:(x==("__classdict__":Str))=false:=by decide):PE X (.Name x pos) (tE X.K φ (.frz i)):=Te hN hv hd hcd
theorem af {i:Int} {j:Nat}:PE X (.Constant (.int i) j pos) (tE X.K φ (.cst (.int i))):=Sx
theorem Tn {i:Bool} {j:Nat}:PE X (.Constant (.bool i) j pos) (tE X.K φ (.cst (.bl i))):=Wn
theorem oz {i:Str} {j:Nat}:PE X (.Constant (.str i) j pos) (tE X.K φ (.cst (.str i))):=Sy
theorem ag:PA X [] (tEs X.K φ .nil):=Fn
theorem aa (ha:PE X a (tE X.K φ xa)) (hb:PA X es (tEs X.K φ xs)) (hs:starEach (a::es) X.env=(false,eval a X.env)::starEach es X.env:=by rfl):PA X (a::es) (tEs X.K φ (.cons xa xs)):=t8 ha hb hs
theorem ah {op:Operator} {m:Mk} (ha:PE X a (tE X.K φ xa)) (hb:PE X b (tE X.K φ xb)):PE X (.BinOp a op b pos) (tE X.K φ (.bin op m xa xb)):=Sz bin_ok ha hb
theorem To (ha:PE X a (tE X.K φ xa)):PE X (.UnaryOp .Not a pos) (tE X.K φ (.not xa)):=Od ha
theorem Tp {rest:List Expr} (ha:PE X a (tE X.K φ xa)) (hb:PE X (.BoolOp .And (b::rest) pos) (tE X.K φ xb)):PE X (.BoolOp .And (a::b::rest) pos) (tE X.K φ (.and xa xb)):=Oe ha hb
theorem Pa {t:TE} (h:PE X a t):PE X (.BoolOp .And [a] pos) t:=M4 h
theorem Pb (hc:PT X c (tT X.K φ xc)) (ha:PE X a (tE X.K φ xa)) (hb:PE X b (tE X.K φ xb)):PE X (.IfExp c a b pos) (tE X.K φ (.ite xc xa xb)):=S6 hc ha hb
theorem bo {k:Nat} (h:PA X es (tEs X.K φ xs)) (hl:xs.len<=1000:=by decide):PE X (.Tuple es k pos) (tE X.K φ (.tup xs)):=S0 h λσ μ ds μ' e=>by
 rw[rf e];exact CN (t6 hl)
theorem ui {m:Mk} (h:PA X es (tEs X.K φ xs)) (hl:xs.len<=1000:=by decide):PE X (.List es pos) (tE X.K φ (.lst m xs)):=Td h λσ μ ds μ' e=>by
 rw[rf e];exact CN (t6 hl)
theorem dg (ha:PE X a (tE X.K φ xa)) (hb:PE X b (tE X.K φ xb)) (hs:vo b:=by intro _ _;rfl):PE X (.Subscript a b pos) (tE X.K φ (.ix xa xb)):=Wo Tf ha hb hs
theorem Wv:PO X none (tEo X.K φ .no):=Ws
theorem Ld (he:PE X e (tE X.K φ xe)):PO X (some e) (tEo X.K φ (.so xe)):=Wt he
theorem Rh {lo hi:Option Expr} {xl xh:ExO} {m:Mk} {p2:Pos} (he:PE X e (tE X.K φ xe)) (hl:PO X lo (tEo X.K φ xl)) (hh:PO X hi (tEo X.K φ xh)):PE X (.Subscript e (.Slice lo hi none p2) pos) (tE X.K φ (.sl m xe xl xh)):=Wu he hl hh
theorem Pc (hu:X.A.units+64<cLine) (op:Cp) (he:PE X e (tE X.K φ xe)):PCh X [K5 op] [e] (tCh X.K φ (.cons op xe .nil)):=K6 (Hr op (by lia)) he
theorem j9 (hu:X.A.units+64<cLine) (op:Cp) (he:PE X e (tE X.K φ xe)):PTh X [K5 op] [e] (tTh X.K φ (.cons op xe .nil)):=K7 (Hr op (by lia)) he
theorem Pe {ops:List CmpOp} {r:Cps} (ha:PE X a (tE X.K φ xa)) (hr:PCh X ops es (tCh X.K φ r)) (hm:lastMarks ops es=false:=by rfl):PE X (.Compare a ops es pos) (tE X.K φ (.cmp xa r)):=Th ha hr hm
theorem fz {ops:List CmpOp} {r:Cps} (ha:PE X a (tE X.K φ xa)) (hr:PTh X ops es (tTh X.K φ r)) (hm:lastMarks ops es=false:=by rfl):PT X (.Compare a ops es pos) (tT X.K φ (.cmp xa r)):=O1 ha hr hm
theorem o4 (ha:PE X a (tE X.K φ xa)) (he:∀whole,isTrue a X.env whole=(do let v <-whole;standAt a.pos;holding [v] (truthy v)):=by intro _;rfl):PT X a (tT X.K φ xa):=Kv ha he
theorem yq (ha:PT X a (tT X.K φ xa)):PT X (.UnaryOp .Not a pos) (tT X.K φ (.not xa)):=Oc ha
theorem Ci (ha:PT X a (tT X.K φ xa)):PW X (.BoolOp .And [a] pos) (tT X.K φ xa):=J0 ha
theorem Hv (ha:PT X a (tT X.K φ xa)):PW X (.BoolOp .Or [a] pos) (tT X.K φ xa):=M0 ha
theorem Cj {rest:List Expr} (ha:PT X a (tT X.K φ xa)) (hb:PW X (.BoolOp .And (b::rest) pos) (tT X.K φ xb)):PW X (.BoolOp .And (a::b::rest) pos) (tT X.K φ (.and xa xb)):=Of ha hb
theorem Le {rest:List Expr} (ha:PT X a (tT X.K φ xa)) (hb:PW X (.BoolOp .Or (b::rest) pos) (tT X.K φ xb)):PW X (.BoolOp .Or (a::b::rest) pos) (tT X.K φ (.or xa xb)):=S5 ha hb
theorem Ri {t:TT} (h:PW X a t):PT X a t:=h.pt
theorem ao {x:Str} {p:Pos} {f:Nat} {keep:Bool} (C:Callee X.prog X.w X.K X.mg X.base X.A φ f x) (ha:PA X (e::es) (tEs X.K φ xs)) (hg:Gl X x:=by rfl) (hdb:(x==("__debug__":Str))=false:=by decide)
  (he:starEach (e::es) X.env=(false,eval e X.env)::starEach es X.env:=by rfl) (hpl:(backTo pos (starEach es X.env)).any (·.1)=false:=by rfl):PE X (.Call (.Name x p) (e::es) [] pos) (tE X.K φ (.call keep f xs)):=s_call C hg ha hdb he hpl
theorem jh {r:List V->Hp->VK->Prop} {b:Bt} {m:Mk} {es:List Expr} (h:PE X e (tCB (qy X.K (btD b m)) (tEs X.K φ xs))):PE X e (tE X.K φ (.blt b m xs)) :=
 PE.imp h λσv H Q ⟨ι,σ,μ,hS,hL,h⟩=>by
  simp![evE]at h
  obtain⟨ds,μ1,e1,h⟩:=h.bind
  refine⟨ι,σ,μ,hS,hL,?_⟩
  rw[e1]
  exact λι1 vs H1 p1 x1 s1 d1=>⟨ι1,ds,μ1,s1,d1,h.mono p1 x1⟩
theorem cu {m:Mk} {p:Pos} (hm:X.mg "len"=none) (ha:PA X (e::es) (tEs X.K φ xs)) (hg:Gl X "len":=by rfl) (he:starEach (e::es) X.env=(false,eval e X.env)::starEach es X.env:=by rfl) (hpl:(backTo pos (starEach es X.env)).any (·.1)=false:=by rfl) :
  PE X (.Call (.Name "len" p) (e::es) [] pos) (tE X.K φ (.blt .len m xs)):=jh (r:=λ_ _ _=>True) (es:=es) (ij bt_len hg hm PySem.boot_len ha (by decide) (by decide) he hpl)
theorem h7 {m:Mk} {p:Pos} (hm:X.mg "tuple"=none) (ha:PA X (e::es) (tEs X.K φ xs)) (hg:Gl X "tuple":=by rfl) (he:starEach (e::es) X.env=(false,eval e X.env)::starEach es X.env:=by rfl) (hpl:(backTo pos (starEach es X.env)).any (·.1)=false:=by rfl) :
  PE X (.Call (.Name "tuple" p) (e::es) [] pos) (tE X.K φ (.blt .tuple m xs)):=jh (r:=λ_ _ _=>True) (es:=es) (tj bt_tuple hg hm (by first | exact PyProof.Rows.boot_tuple | decide +kernel) ha (by decide) (by decide) he hpl)
theorem Lg {m:Mk} {p:Pos} (hm:X.mg "int"=none) (ha:PA X (e::es) (tEs X.K φ xs)) (hg:Gl X "int":=by rfl) (he:starEach (e::es) X.env=(false,eval e X.env)::starEach es X.env:=by rfl) (hpl:(backTo pos (starEach es X.env)).any (·.1)=false:=by rfl) :
  PE X (.Call (.Name "int" p) (e::es) [] pos) (tE X.K φ (.blt .int m xs)):=jh (r:=λ_ _ _=>True) (es:=es) (tj O5 hg hm (by first | exact PyProof.Rows.boot_int | decide +kernel) ha (by decide) (by decide) he hpl)
theorem wd {m:Mk} {p:Pos} (hm:X.mg "min"=none) (ha:PA X (e::es) (tEs X.K φ xs)) (hc:X.calm=true:=by rfl) (hg:Gl X "min":=by rfl) (he:starEach (e::es) X.env=(false,eval e X.env)::starEach es X.env:=by rfl) (hpl:(backTo pos (starEach es X.env)).any (·.1)=false:=by rfl) :
  PE X (.Call (.Name "min" p) (e::es) [] pos) (tE X.K φ (.blt .min m xs)):=jh (r:=λ_ _ _=>True) (es:=es) (ij (bt_min hc) hg hm (by first | exact PyProof.Rows.boot_min | decide +kernel) ha (by decide) (by decide) he hpl)
theorem Lh {m:Mk} {p:Pos} (hm:X.mg "max"=none) (ha:PA X (e::es) (tEs X.K φ xs)) (hc:X.calm=true:=by rfl) (hg:Gl X "max":=by rfl) (he:starEach (e::es) X.env=(false,eval e X.env)::starEach es X.env:=by rfl) (hpl:(backTo pos (starEach es X.env)).any (·.1)=false:=by rfl) :
  PE X (.Call (.Name "max" p) (e::es) [] pos) (tE X.K φ (.blt .max m xs)):=jh (r:=λ_ _ _=>True) (es:=es) (ij (bt_max hc) hg hm (by first | exact PyProof.Rows.boot_max | decide +kernel) ha (by decide) (by decide) he hpl)
theorem Ck {m:Mk} {p:Pos} (hm:X.mg "sum"=none) (ha:PA X (e::es) (tEs X.K φ xs)) (hc:X.calm=true:=by rfl) (hg:Gl X "sum":=by rfl) (he:starEach (e::es) X.env=(false,eval e X.env)::starEach es X.env:=by rfl) (hpl:(backTo pos (starEach es X.env)).any (·.1)=false:=by rfl) :
  PE X (.Call (.Name "sum" p) (e::es) [] pos) (tE X.K φ (.blt .sum m xs)):=jh (r:=λ_ _ _=>True) (es:=es) (ij (bt_sum hc) hg hm (by first | exact PyProof.Rows.boot_sum | decide +kernel) ha (by decide) (by decide) he hpl)
theorem Cm {c:Cl} {cn:Str} {p cp:Pos} (ha:PE X a (tE X.K φ xa)) (hmi:X.mg "isinstance"=none) (hmc:X.mg cn=none) (hc:∀n,c≠.own n:=by intro _ h;cases h) (hgi:Gl X "isinstance":=by rfl) (hgc:Gl X cn:=by rfl)
  (hbc:bootBuiltins cn=some (.type (mq c)):=by first | boot_by_name | rfl | kernel_rfl) (hn:cn≠"__name__":=by decide) (hd:(cn==("__debug__":Str))=false:=by decide) (hs:starEach [a,.Name cn cp] X.env=(false,eval a X.env)::starEach [.Name cn cp] X.env:=by rfl) :
  PE X (.Call (.Name "isinstance" p) [a,.Name cn cp] [] pos) (tE X.K φ (.isi xa c)):=Tj hc ha hgi hmi hgc hmc hbc hn hd hs
theorem qd {tg:Expr} (hl:PE X e (tE X.K φ xe)):PI X tg e (tI X.K φ (.seq xe)):=O2 hl
theorem ji {tg:Expr} {p:Pos} (hm:X.mg "range"=none) (ha:PE X a (tE X.K φ xa)) (hg:Gl X "range":=by rfl) (hs:starEach [a] X.env=[(false,eval a X.env)]:=by rfl):PI X tg (.Call (.Name "range" p) [a] [] pos) (tI X.K φ (.rng xa)):=O3 hg hm ha hs
theorem dh (i:Nat) {y:Str} (hi:X.N[i]? = some y:=by rfl) (hN:ndB X.N=true:=by first | rfl | kernel_rfl) (hx:Loc X.env.scope y:=by first | exact Or.inl rfl | exact Or.inr rfl) (hf:X.fn y=true\/X.env.scope.names.lookup y=some .local:=by first | exact Or.inl rfl | exact Or.inr rfl) :
  PG X (.Name y pos) (tG X.K (.one i)):=Oi (yp hN) hi hx hf
theorem j3:PGs X [] (tGs X.K []):=Oj
theorem au (i:Nat) {is:List Nat} {y:Str} (h2:PGs X es (tGs X.K is)) (hi:X.N[i]? = some y:=by rfl) (hN:ndB X.N=true:=by first | rfl | kernel_rfl) (hx:Loc X.env.scope y:=by first | exact Or.inl rfl | exact Or.inr rfl) (hf:X.fn y=true\/X.env.scope.names.lookup y=some .local:=by first | exact Or.inl rfl | exact Or.inr rfl)
  (hs:(assignEach (.Name y pos::es) X.env).map (·.2)=assign (.Name y pos) X.env::(assignEach es X.env).map (·.2):=by rfl):PGs X (.Name y pos::es) (tGs X.K (i::is)):=Kw (Be (yp hN) hi hx hf) h2 hs
theorem j5 {is:List Nat} {k:Nat} (h:PGs X es (tGs X.K is)) (hc:X.calm=true:=by rfl) (hn:(assignEach es X.env).length=is.length:=by rfl) (hst:(assignEach es X.env).findIdx? (·.1)=none:=by rfl):PG X (.Tuple es k pos) (tG X.K (.many is)):=S9 hc h hn hst
theorem ka:PTs X [] (tTs X.K φ .nil):=Oo
theorem yr {r:List Expr} {xr:Exs} (h1:PT X c (tT X.K φ xc)) (h2:PTs X r (tTs X.K φ xr)):PTs X (c::r) (tTs X.K φ (.cons xc xr)):=K2 h1 h2
theorem yt (Nb:List Str) {target iter:Expr} {ifs:List Expr} {scope:Scope} {cap:List Nat} {nl:Nat} {m:Mk} {tg:Tg} {it:It} {cs:Exs} {elt:Ex} (hi:PI X target iter (tI X.K φ it))
  (B:vx X scope Nb target ifs e (tG X.K tg) (tTs X.K φ cs) (tE X.K φ elt)) (S:yo X.env.scope scope X.N Nb cap nl=true:=by first | rfl | kernel_rfl) (hc:X.calm=true:=by rfl) (hf:∀x,foldedSetIterable iter X.env x=pure x:=by intro _;rfl) (hs:∀j∈slots tg,cap.length<=j:=by decide) :
  PE X (.ListComp e [⟨target,iter,ifs,0⟩] scope pos) (tE X.K φ (.comp m cap nl tg it cs elt)):=Oq (qc S) hc hi B hf hs
theorem o5 (i:Nat) (Nb:List Str) {target iter:Expr} {ifs:List Expr} {scope:Scope} {cap:List Nat} {nl:Nat} {m:Mk} {tg:Tg} {it:It} {cs:Exs} {elt:Ex} {spos py:Pos} {y:Str} (hi:PI X target iter (tI X.K φ it))
  (B:vx X scope Nb target ifs e (tG X.K tg) (tTs X.K φ cs) (tE X.K φ elt)) (S:yo X.env.scope scope X.N Nb cap nl=true:=by first | rfl | kernel_rfl) (hc:X.calm=true:=by rfl) (hf:∀x,foldedSetIterable iter X.env x=pure x:=by intro _;rfl) (hs:∀j∈slots tg,cap.length<=j:=by decide)
  (hsw:swapsWith (.ListComp e [⟨target,iter,ifs,0⟩] scope pos) (some (.Name y py)) spos.line X.env=pure true:=by rfl) (hiN:X.N[i]? = some y:=by rfl) (hN:ndB X.N=true:=by first | rfl | kernel_rfl) (hy:X.env.scope.names.lookup y=some .local:=by rfl) :
  PS X (.Assign [.Name y py] (.ListComp e [⟨target,iter,ifs,0⟩] scope pos) spos) (tS X.K φ (.set i (.comp m cap nl tg it cs elt))):=B4 (qc S) hc hi B hf hs hsw (yp hN) hiN hy
theorem du:PSs X [] (tSs X.K φ .nil):=S7
theorem az {s:Stmt} {ss:List Stmt} {x:Sm} {xss:Sms} (h1:PS X s (tS X.K φ x)) (h2:PSs X ss (tSs X.K φ xss)):PSs X (s::ss) (tSs X.K φ (.cons x xss)):=Og h1 h2
theorem we (he:PE X e (tE X.K φ xe)) (hs:swapsWith e none pos.line X.env=pure false:=by rfl):PS X (.Expr e pos) (tS X.K φ (.ex xe)):=Oh he hs
theorem c7 (he:PE X e (tE X.K φ xe)):PS X (.Return (some e) pos) (tS X.K φ (.ret xe)):=S8 he
theorem Co {x y:List Stmt} {xx xy:Sms} (hc:PT X c (tT X.K φ xc)) (ha:PSs X x (tSs X.K φ xx)) (hb:PSs X y (tSs X.K φ xy)):PS X (.If c x y pos) (tS X.K φ (.ite xc xx xy)):=Wp hc ha hb
theorem c8 (i:Nat) {y:Str} {pos':Pos} (he:PE X e (tE X.K φ xe)) (hi:X.N[i]? = some y:=by rfl) (hN:ndB X.N=true:=by first | rfl | kernel_rfl) (hx:Loc X.env.scope y:=by first | exact Or.inl rfl | exact Or.inr rfl) (hf:X.fn y=true\/X.env.scope.names.lookup y=some .local:=by first | exact Or.inl rfl | exact Or.inr rfl)
  (hs:swapsWith e (some (.Name y pos')) pos.line X.env=pure false:=by rfl):PS X (.Assign [.Name y pos'] e pos) (tS X.K φ (.set i xe)):=Ta (yp hN) hi hx hf he hs
theorem wj {is:List Nat} {tg:Expr} (hg:PG X tg (tG X.K (.many is))) (he:PE X e (tE X.K φ xe)) (hs:swapsWithSole [tg] e pos.line X.env=pure false:=by rfl) (hw:swappedStores [tg] e X.env=pure none:=by rfl)
  (h1:(assignEach [tg] X.env).map (·.2)=[assign tg X.env]:=by rfl):PS X (.Assign [tg] e pos) (tS X.K φ (.unp is xe)):=Tb hg he hs hw h1
theorem nc {tg it:Expr} {body:List Stmt} {xt:Tg} {xi:It} {xb:Sms} (hi:PI X tg it (tI X.K φ xi)) (hg:PG X tg (tG X.K xt)) (hb:PSs X body (tSs X.K φ xb)) (hp:PassesOwn (model X.prog X.w) X.A X.env X.xe:=by exact PassesOwn.never) (hc:X.calm=true:=by rfl)
  (hs:∀x,foldedSetIterable it X.env x=pure x:=by intro _;rfl):PS X (.For tg it body [] pos) (tS X.K φ (.loop xt xi xb)):=Tc hp hc hi hg hb hs
end
structure Ma (X:Cx) (o:Expr) (nm:Str) (e:Expr) (es:List Expr) (apos cpos:Pos):Prop where
 b:attributeBase o nm X.env (eval o X.env)=eval o X.env
 f:((backTo cpos (starEach (e::es) X.env)).all (λx=>!x.1)&&(backToKw cpos (keywordEach [] X.env)).all (λx=>x.1.isSome)&&decide ((e::es).length+([]:List Keyword).length+(if([]:List Keyword).isEmpty then 0 else 1)<30))=true
 l:(apos.endLine==cpos.line)=true
 s:starEach (e::es) X.env=(false,eval e X.env)::starEach es X.env
 p:(backTo cpos (starEach es X.env)).any (·.1)=false
section
variable {X : Cx} {φ : Phi} {o e : Expr} {es : List Expr} {xo : Ex} {xs : Exs} {apos cpos : Pos} {T id : String} {name : Str} {mt : Mt}
theorem Hw (hT:∀(ι:List Addr) (H:Hp) (μ:Sto) (d:D) (x:V),Sim X.K ι H μ->IsD X.K ι H d x->oj mt d μ=true->tyV X.K T x H) (h:PE X e (tBM X.K T (rMt X.K mt) (tE X.K φ xo) (tEs X.K φ xs))):PE X e (tE X.K φ (.meth mt xo xs)) :=
 PE.imp h λσv H Q ⟨ι,σ,μ,hS,hL,h⟩=>by
  simp![evE]at h
  obtain⟨d,μ1,e1,h⟩:=h.bind
  refine⟨ι,σ,μ,hS,hL,?_⟩
  rw[e1]
  intro ι1 x H1 p1 x1 s1 d1
  split at h
  ·rename_i hm
   refine⟨hT ι1 H1 μ1 d x s1 d1 hm,ι1,σ,μ1,s1,hL.mono p1 x1,?_⟩
   obtain⟨ds,μ2,e2,h⟩:=h.bind
   rw[e2]
   exact λι2 vs H2 p2 x2 s2 d2=>⟨ι2,d,ds,μ2,s2,IsD.mono p2 x2 _ _ d1,d2,h.mono (p1.trans p2) (x1.trans x2)⟩
  ·exact h.elim
theorem qe (hmt:∀d μ,oj mt d μ=(listOf μ d).isSome) (ι:List Addr) (H:Hp) (μ:Sto) (d:D) (x:V) (hS:Sim X.K ι H μ) (hd:IsD X.K ι H d x) (hm:oj mt d μ=true):tyV X.K "list" x H:=by
 rw[hmt]at hm
 obtain⟨ds,e⟩:=GR.mp hm
 obtain⟨a,xs,rfl,hls,_⟩:=gw hS hd e
 exact .inl ⟨rfl,_,hls.sq⟩
theorem ba (ho:PE X o (tE X.K φ xo)) (ha:PA X (e::es) (tEs X.K φ xs)) (h5:Ma X o "append" e es apos cpos:=by exact⟨rfl,rfl,rfl,rfl,rfl⟩):PE X (.Call (.Attribute o "append" apos) (e::es) [] cpos) (tE X.K φ (.meth .append xo xs)) :=
 Hw (qe λ_ _=>rfl) (Nv F.plainAttrs_list F.slot_list_append F.type_list_append Fy ho ha h5.b h5.f h5.l h5.s h5.p)
theorem kf (ho:PE X o (tE X.K φ xo)) (ha:PA X (e::es) (tEs X.K φ xs)) (h5:Ma X o "extend" e es apos cpos:=by exact⟨rfl,rfl,rfl,rfl,rfl⟩):PE X (.Call (.Attribute o "extend" apos) (e::es) [] cpos) (tE X.K φ (.meth .extend xo xs)) :=
 Hw (qe λ_ _=>rfl) (Nv F.plainAttrs_list F.slot_list_extend F.type_list_extend Fz ho ha h5.b h5.f h5.l h5.s h5.p)
end
section
variable {X : Cx} {φ : Phi} {a : Expr} {xa : Ex} {p p2 pos pos2 : Pos} {m : Mk}
theorem Pf (hu:X.A.units+64<cLine):Rb X (U4 X.K):=by
 intro pins s σ H o i v ov iv u Q I ro ri rv ⟨ι,a,b,d,μ,hS,ha,hb,hd,h⟩
 cases a with
 | loc n =>
  simp![E5]at h
  cases em:μ[n]? with
  | none=>rw[em]at h;exact h.elim
  | some ob =>
   rw[em]at h
   obtain⟨q,rfl,hq⟩:∃q,o=.ref q/\ι[n]? = some q:=by simpa[IsD]using ha
   obtain⟨q',eq',hob⟩:=hS.at em
   rw[hq]at eq';cases eq'
   have lst:∀(ob:O) (xs:List D),g7 ob=some xs->μ[n]? = some ob->OIs X.K ι H q ob->fj X.K (λ_ _ _ (_:Unit)=>True) ι H (match some xs,b with
     | some xs,.int i=>match ixN xs.length i with
      | some j=>if fits ob d=true then(putL n ob (xs.set j d) .non μ).bind λ_ μ=>.ok () μ else .stuck
      | none=>.stuck
     | _,_=>.stuck) (λ_ H'=>Q H')->wpAny (model X.prog X.w) X.A (setItem ov iv u) (λ_ s'=>∃H',Inv X pins σ H' s'/\Q H') X.xe s:=by
    intro ob xs ei em ho h
    cases b with
    | int k =>
     simp only at h
     split at h
     ·rename_i j ej
      split at h
      ·rename_i hf
       obtain⟨a',vs,ea,hι,hH,h1,h2⟩:=Ht hS ha em ei
       cases ea
       cases cx hb
       refine set_list pins s σ H _ _ v ov iv u Q I ro ri rv ⟨_,vs,k,j,rfl,rfl,hH,by rw[h1.length];exact ej,?_⟩
       have h':fj X.K (RD X.K) ι H (putL n ob (xs.set j d) .non μ) λ_ H'=>Q H':=by
        cases ob with
        | l _=>exact λι' v' H' p e s' _=>h ι' () H' p e s' trivial
        | r _=>exact λι' v' H' p e s' _=>h ι' () H' p e s' trivial
        | d _=>exact h.elim
        | dt _=>exact h.elim
        | x _=>exact h.elim
        | o _ _=>exact h.elim
        | dr _=>exact h.elim
        | fd _=>exact h.elim
        | dead=>exact h.elim
       exact rd (v:=.non) hS hι hH (h1.set hd j) (λes e=>(h2 es e).set (uh hf hd es e) j) (by simp[IsD]) h'
      ·exact h.elim
     ·exact h.elim
    | _=>exact h.elim
   cases ob with
   | l xs=>exact lst (.l xs) xs rfl em hob h
   | r xs=>exact lst (.r xs) xs rfl em hob h
   | d kvs =>
    simp only at h
    split at h
    ·rename_i hc
     obtain⟨hk,hv,hl⟩:=hc
     obtain⟨xs,hH,hkv⟩:=hob
     obtain⟨k,rfl,rfl⟩:=wa hk hb
     cases(show ov=Value.ref q from ro)
     have hlen:xs.length=kvs.length:=(EZ hkv).symm
     refine tw (by lia) I (Nx.k (k:=k) (v:=v) hH (by rw[hlen,<-fo];exact hl)) ri rv λs' I'=>⟨_,I',?_⟩
     exact h ι () _ (AE _) (.dK hH) (hS.put hq (.dK hH) ⟨_,bf,Paired.mapP (yn (IsD.pur hv hd) hkv) λp r z=>⟨IsD.mono (AE _) (.dK hH) _ _ z.1,IsD.mono (AE _) (.dK hH) _ _ z.2⟩⟩) trivial
    ·exact h.elim
   | dr kvs =>
    simp only at h
    split at h
    ·rename_i hc
     obtain⟨hk,hl⟩:=hc
     obtain⟨xs,hH,hkv⟩:=hob
     obtain⟨k,rfl,rfl⟩:=wa hk hb
     cases(show ov=Value.ref q from ro)
     have hlen:xs.length=kvs.length:=(EZ hkv).symm
     refine tw (by lia) I (Nx.k (k:=k) (v:=v) hH (by rw[hlen,<-fo];exact hl)) ri rv λs' I'=>⟨_,I',?_⟩
     exact h ι () _ (AE _) (.dK hH) (hS.put hq (.dK hH) ⟨_,bf,Paired.mapP (yn hd hkv) λp r z=>⟨IsD.mono (AE _) (.dK hH) _ _ z.1,IsD.mono (AE _) (.dK hH) _ _ z.2⟩⟩) trivial
    ·exact h.elim
   | dt kvs=>simp![g7]at h;exact h.elim
   | x _=>simp![g7]at h;exact h.elim
   | o _ _=>simp![g7]at h;exact h.elim
   | fd _=>simp![g7]at h;exact h.elim
   | dead=>simp![g7]at h;exact h.elim
 | _=>exact h.elim
theorem Pg (hu:X.A.units+64<cLine) {o i e:Expr} {xo xi x:Ex} {tp:Pos} (ho:PE X o (tE X.K φ xo)) (hi:PE X i (tE X.K φ xi)) (he:PE X e (tE X.K φ x))
  (ha:∀v,assign (.Subscript o i tp) X.env v=(do
   let ov <-holding [v] (eval o X.env)
   let iv <-holding [v,ov] (eval i X.env)
   standAt tp
   holding [v,ov,iv] (setItem ov iv v)
   release [v,ov,iv] []):=by intro _;rfl) (hs:swapsWithSole [.Subscript o i tp] e pos.line X.env=pure false:=by rfl) (hw:swappedStores [.Subscript o i tp] e X.env=pure none:=by rfl)
  (h1:(assignEach [.Subscript o i tp] X.env).map (·.2)=[assign (.Subscript o i tp) X.env]:=by rfl):PS X (.Assign [.Subscript o i tp] e pos) (tS X.K φ (.setx xo xi x)):=Ol (Pf hu) ho hi he ha hs hw h1
theorem Li {a b tg:Expr} {xa xb:Ex} {p:Pos} (hm:X.mg "range"=none) (ha:PE X a (tE X.K φ xa)) (hb:PE X b (tE X.K φ xb)) (hg:Gl X "range":=by rfl) (hs:starEach [a,b] X.env=[(false,eval a X.env),(false,eval b X.env)]:=by rfl) (hs2:starEach [b] X.env=[(false,eval b X.env)]:=by rfl) :
  PI X tg (.Call (.Name "range" p) [a,b] [] pos) (tI X.K φ (.rng2 xa xb)):=K8 hg hm ha hb hs hs2
end
def SI (b:Bool) (h:Heap) (it l:Addr) (i:Nat):Prop:=match b with
 | true=>h.IsListIter it l i
 | false=>h.IsTupleIter it l i
def SQ (b:Bool) (h:Heap) (l:Addr) (xs:Array Value):Prop:=match b with
 | true=>h.IsList l xs
 | false=>h.IsTuple l xs
def Ww:Bool->String
 | true=>"list_iterator"
 | false=>"tuple_iterator"
theorem SI.keep {b:Bool} {h h':Heap} {it l:Addr} {i:Nat} (x:SI b h it l i) (e:∀o,h.get? it=some o->h'.get? it=some o):SI b h' it l i:=by
 cases b
 ·exact Heap.IsTupleIter.at x e
 ·exact Heap.IsListIter.at x e
theorem SI.but {b:Bool} {h h':Heap} {it l c:Addr} {i:Nat} (x:SI b h it l i) (e:Heap.ExtBut c h h') (n:it≠c):SI b h' it l i:=x.keep λo q=>e it o n q
theorem SI.obj {b:Bool} {h:Heap} {it l:Addr} {i:Nat} (x:SI b h it l i):∃o,h.get? it=some o/\o.cls=.type (Ww b)/\o.data=.fields #[.ref l,.int i 0]:=by
 cases b<;>exact x
section
variable {prog : Program} {w : World} {A : Around} {E : Value -> Shared -> Prop} {s : Shared}
theorem Lj {b:Bool} {it l:Addr} {i:Nat} {xs:Array Value} {x:Value} {Q:Value->Shared->Prop} (hit:SI b s.heap it l i) (hl:SQ b s.heap l xs) (hx:xs[i]? = some x)
  (hQ:∀h',SI b h' it l (i+1)->Heap.SameBut it s.heap h'->Q x {s with heap:=h'}):wpAny (model prog w) A (Builtin.SmallTypes.nextOf (.ref it)) Q E s:=by
 cases b
 ·obtain⟨o,ho,hc,hd⟩:=hit.obj
  obtain⟨ol,hol,_,nl,hdl⟩:=hl
  have ht:s.TypeIs (.ref it) "tuple_iterator":=⟨o,ho,hc⟩
  unfold Builtin.SmallTypes.nextOf
  refine AB (Da (name:=Str.ofString "__next__") ht DP (DG DP ht GB ?_ (FX _)))
  show wpAny _ _ (field (.ref it) 0>>=_) _ _ s
  refine AB (DE ho hd (x:=.ref l) rfl ?_)
  show wpAny _ _ (if(Value.ref l==Value.none)=true then _ else _) _ _ s
  rw[if_neg (show ¬((Value.ref l==Value.none)=true)from BI)]
  show wpAny _ _ (field (.ref it) 1>>=_) _ _ s
  refine AB (DE ho hd (x:=.int i 0) rfl ?_)
  show wpAny _ _ (seqItems? (.ref l)>>=_) _ _ s
  refine AB (wpAny_seqItems hol hdl ?_)
  simp![DU,hx]
  refine AB (wpAny_setField ho hd (by simp) (AM ⟨x,rfl,AM (hQ _ ?_ (If ..))⟩))
  exact⟨_,HS _ ho (Obj.isFreed_of_fields (Obj.data_mapFields hd _)),(Obj.cls_mapFields ..).trans hc,by rw[Obj.data_mapFields hd];simp[rawInt]⟩
 ·exact wpAny_nextOf_list_item hit hl hx hQ
theorem Ph {b:Bool} {it l:Addr} {i:Nat} {xs:Array Value} {Q:Value->Shared->Prop} (hh:A.handled=none) (hit:SI b s.heap it l i) (hl:SQ b s.heap l xs) (hx:xs[i]? = none)
  (hE:∀h' e,Heap.ExtBut it s.heap h'->(∃o,h'.get? e=some o/\o.cls=.type "StopIteration")->E (.ref e) {s with heap:=h'}):wpAny (model prog w) A (Builtin.SmallTypes.nextOf (.ref it)) Q E s:=by
 cases b
 ·obtain⟨o,ho,hc,hd⟩:=hit.obj
  obtain⟨ol,hol,_,nl,hdl⟩:=hl
  have ht:s.TypeIs (.ref it) "tuple_iterator":=⟨o,ho,hc⟩
  unfold Builtin.SmallTypes.nextOf
  refine AB (Da (name:=Str.ofString "__next__") ht DP (DG DP ht GB ?_ (FX _)))
  show wpAny _ _ (field (.ref it) 0>>=_) _ _ s
  refine AB (DE ho hd (x:=.ref l) rfl ?_)
  show wpAny _ _ (if(Value.ref l==Value.none)=true then _ else _) _ _ s
  rw[if_neg (show ¬((Value.ref l==Value.none)=true)from BI)]
  show wpAny _ _ (field (.ref it) 1>>=_) _ _ s
  refine AB (DE ho hd (x:=.int i 0) rfl ?_)
  show wpAny _ _ (seqItems? (.ref l)>>=_) _ _ s
  refine AB (wpAny_seqItems hol hdl ?_)
  simp![DU,hx]
  refine AB (EJ (AB (wpAny_setField ho hd (by simp) ?_)))
  show wpAny _ _ (newExc (.type "StopIteration") []>>=_) _ _ _
  refine AB ?_
  simp![newExc,newTuple]
  refine AB (DL ?_ (by size_fits))
  refine AB (m:=firstArgMember _ _) (wpAny_of_eq (a:=Value.none) (by first | rfl | (simp![firstArgMember];rfl)) ?_)
  refine DL ?_ (by size_fits)
  simp![raiseNew]
  refine AB (wpAny_handled ?_)
  first | rw[show A.in1.handled=none from hh] | rw[hh]
  refine AB (AM (wpAny_throw ?_))
  exact hE _ _ (((If ..).extBut.push _).push _) ⟨_,AX _ rfl,rfl⟩
 ·exact wpAny_nextOf_list_end hh hit hl hx hE
variable {b1 b2 : Bool} {z TI TO i1 i2 l1 l2 : Addr} {k1 k2 : Nat} {xs ys : Array Value} {x y a b : Value}
end
section
variable {X : Cx} {pins : List (Addr × Obj)} {σ : St} {H : Hp} {s : Shared} {φ : Phi}
theorem Cq {h':Heap} {t':Nat} {ch:List Addr} (I:Inv X pins σ H s) (k:∀b o,b∉ch->s.heap.get? b=some o->h'.get? b=some o) (hf:∀b∈ch,A6 X pins H b):Inv X pins σ H {s with heap:=h',toks:=t'}:=by
 have nit:∀b u,H b=some u->b∉ch:=λb u e z=>by rw[(hf b z).1]at e;cases e
 refine I.step (g':=s.gens) (d':=s.drawn) (ch:=ch) (λb hb=>⟨(hf b hb).2.2.2.1,(hf b hb).2.1,(hf b hb).2.2.2.2.1,(hf b hb).2.2.2.2.2⟩) (λb o _ _ hc e _=>k b o hc e) (λb o _ _ hc e _=>⟨o.slots,k b o hc e⟩) (λ_ _ _ _ n=>n)
  (λb o hc e=>⟨o,k b o hc e⟩) (λ_ _ e=>e) (λ_ _ _ e=>e) (λb ps e=>⟨#[],by rw[e];simp⟩) (λm hm=>?_) (λb u e=>?_) I.bare
 ·obtain⟨o,es,ep,ho,r⟩:=hm
  exact⟨o,es,ep,k _ o (λz=>(hf _ z).2.1 rfl) ho,r⟩
 ·refine(I.hok b u e).stay (λc v hc q=>k c v ?_ q) (λ_ q=>q) λ_ _ q=>q
  rcases hc with z | z
  ·rw[z];exact nit b u e
  ·exact nit c _ z
def Sq (b:Bool) (K:PySem.W.Frag) (H:Hp) (a:Addr) (xs:List V):Prop:=match b with
 | true=>SqL K H a xs
 | false=>SqT K H a xs
theorem Sq.vals {b:Bool} {a:Addr} {xs:List V} (h:Sq b X.K H a xs) (I:Inv X pins σ H s):∃its:List Value,bu xs its/\SQ b s.heap a its.toArray/\xs.length<=sizeLine:=by
 cases b
 ·obtain⟨its,rv,p,hz⟩:=I.tuple h
  exact⟨its,rv,p,hz⟩
 ·obtain⟨its,rv,p,hz⟩:=I.list h
  exact⟨its,rv,p.isList,hz⟩
theorem Sq.inj {b:Bool} {a:Addr} {xs ys:List V} (h:Sq b X.K H a xs) (I:Inv X pins σ H s) (h':Sq b X.K H a ys):ys=xs:=by
 cases b
 ·exact I.tuple_inj h' h
 ·exact I.list_inj h' h
theorem Lk {K:PySem.W.Frag} {ι:List Addr} {H:Hp} {μ:Sto} {d:D} {v:V} {ds:List D} {g:Gd} (S:Sim K ι H μ) (hd:IsD K ι H d v) (hw:bw μ d=some (ds,g)) :
  ∃b a xs,v=.ref a/\Sq b K H a xs/\ai K ι H ds xs/\∀ι2 H2 μ2,ι <+: ι2->Ext H H2->Sim K ι2 H2 μ2->gd g μ2->∃ys,Sq b K H2 a ys/\ai K ι2 H2 ds ys:=by
 cases d with
 | tup es =>
  simp![bw,BV,FB]at hw
  obtain⟨rfl,rfl⟩:=hw
  obtain⟨a,xs,rfl,hq,hds⟩:=dq hd
  exact⟨false,a,xs,rfl,hq,hds,λι2 H2 μ2 q1 q2 q3 q4=>⟨xs,hq.ext q2,ai.mono q1 q2 _ _ hds⟩⟩
 | lst es =>
  simp![bw,BV,FB]at hw
  obtain⟨rfl,rfl⟩:=hw
  obtain⟨a,xs,rfl,hq,hds⟩:∃a xs,v=.ref a/\FzL K H a xs/\ai K ι H es xs:=by simpa[IsD]using hd
  exact⟨true,a,xs,rfl,hq.sq,hds,λι2 H2 μ2 q1 q2 q3 q4=>⟨xs,(hq.ext q2).sq,ai.mono q1 q2 _ _ hds⟩⟩
 | loc n =>
  obtain⟨a,rfl,hn⟩:∃a,v=.ref a/\ι[n]? = some a:=by simpa[IsD]using hd
  have pre:∀{ι2:List Addr},ι <+: ι2->ι2[n]? = some a:=λhp=>by
   obtain⟨t,rfl⟩:=hp
   rw[AN (AI.mp hn).1];exact hn
  cases em:μ[n]? with
  | none=>simp[bw,em]at hw
  | some o =>
   cases o with
   | l es =>
    simp![bw,em,BV,FB]at hw
    obtain⟨rfl,rfl⟩:=hw
    obtain⟨a',q',ho⟩:=S.at em
    rw[hn]at q';cases q'
    obtain⟨xs,f1,f2⟩:=ho
    refine⟨true,a,xs,rfl,(show LsL K H a xs from .inl f1).sq,ai.mono (CY) (.refl _) _ _ f2,λι2 H2 μ2 q1 q2 q3 q4=>?_⟩
    obtain⟨a2,e2,o2⟩:=q3.at (show μ2[n]? = some (.l es)from q4)
    rw[pre q1]at e2;cases e2
    obtain⟨ys,g1,g2⟩:=o2
    exact⟨ys,(show LsL K H2 a ys from .inl g1).sq,ai.mono (CY) (.refl _) _ _ g2⟩
   | r es =>
    simp![bw,em,BV,FB]at hw
    obtain⟨rfl,rfl⟩:=hw
    obtain⟨a',q',ho⟩:=S.at em
    rw[hn]at q';cases q'
    obtain⟨xs,f1,f2⟩:=ho
    refine⟨true,a,xs,rfl,(show LsL K H a xs from .inl f1).sq,f2,λι2 H2 μ2 q1 q2 q3 q4=>?_⟩
    obtain⟨a2,e2,o2⟩:=q3.at (show μ2[n]? = some (.r es)from q4)
    rw[pre q1]at e2;cases e2
    obtain⟨ys,g1,g2⟩:=o2
    exact⟨ys,(show LsL K H2 a ys from .inl g1).sq,g2⟩
   | d kvs=>simp[bw,em]at hw
   | dt kvs=>simp[bw,em]at hw
   | x _=>simp[bw,em]at hw
   | o _ _=>simp[bw,em]at hw
   | dr _=>simp[bw,em]at hw
   | fd _=>simp[bw,em]at hw
   | dead=>simp[bw,em]at hw
 | _=>simp[bw]at hw
end
open AutoSeq1 (wpAny_loadPart')
theorem Ll (l:Addr) (items:Array Value) (n:Nat) (dct:Option Addr) (sl:Array (Option Value)) :
  Meets (Builtin.«enumerate.__new__» ⟨[.type "enumerate",.ref l],[]⟩) (λ_ R s=>s.heap.get? l=some {cls:=.type "tuple",dict:=dct,data:=.seq items n,slots:=sl} /\
   R (.ok (.ret (.ref (s.heap.push {cls:=.type "tuple_iterator",data:=.fields #[.ref l,.int 0 0]}).objs.size)))
    {s with heap:=(s.heap.push {cls:=.type "tuple_iterator",data:=.fields #[.ref l,.int 0 0]}).push {cls:=.type "enumerate",data:=.fields #[.none,.bool false,.ref s.heap.objs.size,rawInt 0,.none,.none]}}) :=
 .of_wp λprog w A R s h=>by
  obtain⟨hp,g,d,tk,os⟩:=s;obtain⟨hl,h⟩:=h
  have hsub:=sub_enumerate
  have hL:Heap.IsTuple (Shared.heap ⟨hp,g,d,tk,os⟩) l items:=⟨_,hl,rfl,n,rfl⟩
  wp_walk using CI hl
  refine wpAny_stack_any λst=>AM ?_
  split
  ·rename_i c _ _ _ _ _
   cases(c==Value.type "enumerate")
   ·wp_walk using CI hl,EK hL
    exact⟨_,rfl,h⟩
   ·wp_walk using CI hl,EK hL
    exact⟨_,rfl,h⟩
  ·wp_walk using CI hl,EK hL
   exact⟨_,rfl,h⟩
section
variable {prog : Program} {w : World} {A : Around} {E : Value -> Shared -> Prop} {s : Shared} {b : Bool}
theorem Lm {l:Addr} {items:Array Value} {Q:Value->Shared->Prop} (hL:SQ b s.heap l items)
  (h:∀h',IsEnum h' (s.heap.objs.size+1) s.heap.objs.size 0 .none->SI b h' s.heap.objs.size l 0->(∀b o,s.heap.get? b=some o->h'.get? b=some o)->Q (.ref (s.heap.objs.size+1)) {s with heap:=h'}) :
  wpAny (model prog w) A (call (.type "enumerate") [.ref l]) Q E s:=by
 cases b
 ·obtain⟨⟨c,dct,dt,sl⟩,hl,hc,n,hd⟩:=hL
  replace hc:c=.type "tuple":=hc
  replace hd:dt=.seq items n:=hd
  subst hc hd
  refine callType_new F.called_enumerate (by decide) (F.typeCall_enumerate_1 _) (F.newCall_enumerate_1 _) (λobj=>F.args_object_init_2 obj _) F.entry_enumerate_new (Ll l items n dct sl) ⟨hl,?_⟩
  have hz:(s.heap.push {cls:=.type "tuple_iterator",data:=.fields #[.ref l,.int 0 0]}).objs.size=s.heap.objs.size+1:=EB ..
  show _/\_
  rw[hz]
  have he:IsEnum ((s.heap.push {cls:=.type "tuple_iterator",data:=.fields #[.ref l,.int 0 0]}).push
    {cls:=.type "enumerate",data:=.fields #[.none,.bool false,.ref s.heap.objs.size,rawInt 0,.none,.none]}) (s.heap.objs.size+1) s.heap.objs.size 0 .none:=by
   have:=AX (s.heap.push {cls:=.type "tuple_iterator",data:=.fields #[.ref l,.int 0 0]})
    (o:={cls:=.type "enumerate",data:=.fields #[.none,.bool false,.ref s.heap.objs.size,rawInt 0,.none,.none]}) rfl
   rw[hz]at this;exact this
  exact⟨⟨_,he,rfl⟩,h _ he ⟨_,AF _ (AX _ rfl),rfl,rfl⟩ λb o x=>AF _ (AF _ x)⟩
 ·exact call_enumerate_list hL λh' a1 a2 _ a3=>h h' a1 a2 a3
theorem Ln {e it l:Addr} {i:Nat} {items:Array Value} {x old:Value} {Q:Option Value->Shared->Prop}
  (he:IsEnum s.heap e it i old) (hit:SI b s.heap it l i) (hl:SQ b s.heap l items) (hx:items[i]? = some x) (hne:e≠it)
  (hQ:∀h',IsEnumOut h' e it ((i:Int)+1) x s.heap.objs.size->SI b h' it l (i+1)->h'.get? s.heap.objs.size=some {cls:=.type "tuple",data:=.seq #[.int i s.toks,x]} ->
   (∀b o,b≠e->b≠it->s.heap.get? b=some o->h'.get? b=some o)->Q (some (.ref s.heap.objs.size)) {s with heap:=h',toks:=s.toks+1}) :
  wpAny (model prog w) A (pyNext (.ref e)) Q E s:=by
 have hT:s.TypeIs (.ref e) "enumerate":=⟨_,he,rfl⟩
 unfold pyNext
 refine AB (wpAny_attempt (Da (name:=Str.ofString "__next__") hT ES (DG ES hT F.entry_enumerate_next ?_ (F.args_enumerate_next_1 _))))
 obtain⟨hp,g,d,tk,os⟩:=s
 show wpAny _ _ (field (.ref e) 2>>=_) _ _ _
 refine AB (DE he rfl (x:=.ref it) rfl ?_)
 refine AB (Lj hit hl hx λh₁ hit₁ hs₁=>?_)
 replace hs₁:Heap.SameBut it hp h₁:=hs₁
 have he₁:IsEnum h₁ e it i old:=(hs₁.2 e hne).trans he
 show wpAny _ _ (field (.ref e) 3>>=_) _ _ ⟨h₁,g,d,tk,os⟩
 refine AB (DE he₁ rfl (x:=rawInt i) rfl ?_)
 show wpAny _ _ (field (.ref e) 4>>=_) _ _ ⟨h₁,g,d,tk,os⟩
 refine AB (DE he₁ rfl (x:=.none) rfl ?_)
 show wpAny _ _ (mkInt i>>=_) _ _ ⟨h₁,g,d,tk,os⟩
 refine AB (wpAny_mkInt ?_)
 show wpAny _ _ (setField (.ref e) 3 (rawInt ((i:Int)+1))>>=_) _ _ ⟨h₁,g,d,tk+1,os⟩
 refine AB (EL he₁ (by simp) λh₂ he₂ hs₂=>?_)
 replace hs₂:Heap.SameBut e h₁ h₂:=hs₂
 replace he₂:IsEnum h₂ e it ((i:Int)+1) old:=he₂
 show wpAny _ _ (setField (.ref e) 4 .none>>=_) _ _ ⟨h₂,g,d,tk+1,os⟩
 refine AB (EL he₂ (by simp) λh₃ he₃ hs₃=>?_)
 replace hs₃:Heap.SameBut e h₂ h₃:=hs₃
 replace he₃:IsEnum h₃ e it ((i:Int)+1) old:=he₃
 show wpAny _ _ (newTuple [.int i tk,x]>>=_) _ _ ⟨h₃,g,d,tk+1,os⟩
 refine AB (wpAny_newTuple ?_)
 have he₄:IsEnum (h₃.push {cls:=.type "tuple",data:=.seq #[.int i tk,x]}) e it ((i:Int)+1) old:=AF _ he₃
 generalize hh₄:h₃.push {cls:=.type "tuple",data:=.seq #[.int i tk,x]}=h₄ at he₄
 have hsz:h₃.objs.size=hp.objs.size:=by rw[hs₃.1,hs₂.1,hs₁.1]
 have hel:e<hp.objs.size:=AQ he
 have ht₄:h₄.get? hp.objs.size=some {cls:=.type "tuple",data:=.seq #[.int i tk,x]}:=by rw[<-hh₄,<-hsz];exact AX _ rfl
 have hk₄:∀b o,b≠e->b≠it->hp.get? b=some o->h₄.get? b=some o:=λb o hbe hbi hb=>by
  rw[<-hh₄];exact AF _ (hs₃.extBut b o hbe (hs₂.extBut b o hbe (hs₁.extBut b o hbi hb)))
 have hit₄:SI b h₄ it l (i+1):=by
  rw[<-hh₄];exact((hit₁.but hs₂.extBut (Ne.symm hne)).but hs₃.extBut (Ne.symm hne)).keep λo ho=>AF _ ho
 show wpAny _ _ (Builtin.SmallTypes.ownedTupleIsFree (.ref e)>>=_) _ _ ⟨h₄,g,d,tk+1,os⟩
 rw[hsz]
 clear hh₄ he₃ hs₃ he₂ hs₂ he₁ hs₁ hit₁ hsz h₃ h₂ h₁
 refine AB ?_
 unfold Builtin.SmallTypes.ownedTupleIsFree
 refine AB (DE he₄ rfl (x:=.none) rfl (AM ?_))
 simp![if_true]
 refine AB (EJ ?_)
 refine AB (DE he₄ rfl (x:=old) rfl ?_)
 refine AB (EL he₄ (by simp) λh₅ he₅ hs₅=>?_)
 replace hs₅:Heap.SameBut e h₄ h₅:=hs₅
 replace he₅:IsEnum h₅ e it ((i:Int)+1) x:=he₅
 show wpAny _ _ (Builtin.SmallTypes.ownedTupleHandOut (.ref e) (.ref hp.objs.size)>>=_) _ _ ⟨h₅,g,d,tk+1,os⟩
 refine AB ?_
 unfold Builtin.SmallTypes.ownedTupleHandOut
 refine AB (EL he₅ (by simp) λh₆ he₆ hs₆=>?_)
 replace hs₆:Heap.SameBut e h₅ h₆:=hs₆
 replace he₆:IsEnumOut h₆ e it ((i:Int)+1) x hp.objs.size:=he₆
 refine EL he₆ (by simp) λh₇ he₇ hs₇=>?_
 replace hs₇:Heap.SameBut e h₆ h₇:=hs₇
 replace he₇:IsEnumOut h₇ e it ((i:Int)+1) x hp.objs.size:=he₇
 refine AB (wpAny_letGo (AM ⟨_,rfl,AM (hQ h₇ he₇ ?_ ?_ ?_)⟩))
 ·exact((hit₄.but hs₅.extBut (Ne.symm hne)).but hs₆.extBut (Ne.symm hne)).but hs₇.extBut (Ne.symm hne)
 ·exact hs₇.extBut _ _ (DT hel) (hs₆.extBut _ _ (DT hel) (hs₅.extBut _ _ (DT hel) ht₄))
 ·exact λb o hbe hbi hb=>hs₇.extBut b o hbe (hs₆.extBut b o hbe (hs₅.extBut b o hbe (hk₄ b o hbe hbi hb)))
theorem Pj {e it l:Addr} {i:Nat} {items:Array Value} {old:Value} {Q:Option Value->Shared->Prop} (hh:A.handled=none)
  (he:IsEnum s.heap e it i old) (hit:SI b s.heap it l i) (hl:SQ b s.heap l items) (hx:items[i]? = none)
  (hQ:∀h',Heap.ExtBut it s.heap h'->Q none {s with heap:=h'}):wpAny (model prog w) A (pyNext (.ref e)) Q E s:=by
 have hT:s.TypeIs (.ref e) "enumerate":=⟨_,he,rfl⟩
 unfold pyNext
 refine AB (wpAny_attempt (Da (name:=Str.ofString "__next__") hT ES (DG ES hT F.entry_enumerate_next ?_ (F.args_enumerate_next_1 _))))
 show wpAny _ _ (field (.ref e) 2>>=_) _ _ _
 refine AB (DE he rfl (x:=.ref it) rfl ?_)
 refine AB (Ph hh hit hl hx λh' x he' hx'=>?_)
 obtain⟨o,ho,hc⟩:=hx'
 refine AB (wpAny_isInstance (T:="StopIteration") (b:=true) ⟨o,ho,hc⟩ isSubtype_stop ?_)
 exact AM (hQ _ he')
end
section
variable {X : Cx} {pins : List (Addr × Obj)} {σ : St} {H : Hp} {s : Shared} {φ : Phi}
def Ite (K:PySem.W.Frag) (b:Bool) (a:Addr):L2.It :=
 ⟨λi H=>∃xs x,Sq b K H a xs/\xs[i]? = some x,
 λi H v H'=>∃p x,v=.ref p/\H p=none/\H'=upd H p (.tup [.int i,x])/\∀xs,Sq b K H a xs->xs[i]? = some x,
 λi H=>∃xs,Sq b K H a xs/\xs.length<=i⟩
theorem Cr {P:Program} {w:World} {K:PySem.W.Frag} {elts:List Expr} {k:Nat} {tp:Pos} {b:Bool} {e it a:Addr} (hne:e≠it) :
  Turn P w K (.Tuple elts k tp) (Ite K b a) [e,it] e (λi h=>(∃old,IsEnum h e it i old)/\SI b h it a i) where
 mem:=by simp
 obj:=λi h ⟨⟨old,he⟩,s1⟩ c hc=>by
  simp![AV,CP,or_false]at hc
  rcases hc with rfl | rfl
  ·exact⟨_,he,λv e=>by cases e⟩
  ·obtain⟨o,e,_,d⟩:=s1.obj
   exact⟨o,e,λv q=>by rw[d]at q;cases q⟩
 keep:=λi h h' ⟨⟨old,he⟩,s1⟩ k=>⟨⟨old,k e (by simp) _ he⟩,s1.keep λo q=>k it (by simp) o q⟩
 item:=by
  intro X hP hw hK hc i pins s σ H E I hf ⟨⟨old,he⟩,s1⟩ hg
  subst hP hw hK
  obtain⟨xs,x,q1,ex⟩:=hg
  obtain⟨is1,rv1,p1,_⟩:=q1.vals I
  obtain⟨u1,hu1,ru1⟩:=rv1.get ex
  refine Ln he s1 p1 (x:=u1) (by simpa using hu1) hne λh' c1 c2 c3 kk=>⟨_,rfl,wpAny_letOwnedTupleGo_enum c1 λh'' z'' sb=>?_⟩
  have fr:H s.heap.objs.size=none:=I.hok.fresh (AK _)
  have lt:∀c∈[e,it],c≠s.heap.objs.size:=by
   intro c hc
   simp![AV,CP,or_false]at hc
   rcases hc with rfl | rfl
   ·exact BD (AQ he)
   ·obtain⟨o,q,_⟩:=s1.obj;exact BD (AQ q)
  have I1:Inv X pins σ (upd H s.heap.objs.size (.tup [.int i,x])) {s with heap:=s.heap.push {cls:=.type "tuple",data:=.seq #[.int i s.toks,u1]},toks:=s.toks+1} :=
   I.laid (λb u e=>AF _ e) (AK _) ⟨by show 2<=sizeLine;rw[FS];decide,[.int i s.toks,u1],.cons ⟨s.toks,rfl⟩ (.cons ru1 .nil),⟨_,AX _ rfl,rfl,rfl,_,rfl⟩⟩
  have hf':∀c∈[e,it],A6 X pins (upd H s.heap.objs.size (.tup [.int i,x])) c:=λc hc=>by
   obtain⟨f0,f⟩:=hf c hc
   exact⟨by rw[av (lt c hc)];exact f0,f⟩
  have up:∀c o,c≠e->h'.get? c=some o->h''.get? c=some o:=λc o n q=>sb.extBut _ _ n q
  have I2:=Cq (s:={s with heap:=s.heap.push {cls:=.type "tuple",data:=.seq #[.int i s.toks,u1]},toks:=s.toks+1}) (h':=h'') (t':=s.toks+1) (ch:=[e,it]) I1 (λc o hc q=>by
   simp![AV,CP,or_false,not_or]at hc
   rcases Heap.get?_push_cases q with⟨rfl,rfl⟩ | q
   ·exact up _ _ hc.1 c3
   ·exact up _ _ hc.1 (kk c o hc.1 hc.2 q)) hf'
  refine⟨.ref s.heap.objs.size,_,I2,rfl,⟨_,x,rfl,fr,rfl,λzs hz'=>by rw[q1.inj I hz'];exact ex⟩,⟨⟨u1,?_⟩,c2.keep λo q=>up _ o (Ne.symm hne) q⟩,λc hc=>(hf' c hc).1⟩
  exact z''
 done:=by
  intro X hP hw hK hc i pins s σ H E I hf ⟨⟨old,he⟩,s1⟩ hg
  subst hP hw hK
  obtain⟨xs,q1,en⟩:=hg
  obtain⟨is1,rv1,p1,_⟩:=q1.vals I
  have l1:=rv1.length
  refine Pj (I.ok.hd hc) he s1 p1 (by simp;lia) λh' kk=>⟨rfl,Cq I (h':=h') (t':=s.toks) (ch:=[e,it]) (λc o hc q=>?_) hf⟩
  simp![AV,CP,or_false,not_or]at hc
  exact kk c o hc.2 q
 self:=λ_ _ _ _ _ st h=>wpAny_pyIter_enum st.1.choose_spec h
theorem Lq {a:Expr} {xa:Ex} {elts:List Expr} {k:Nat} {tp:Pos} {p pos:Pos} (hg:Gl X "enumerate") (hm:X.mg "enumerate"=none) (ha:PE X a (tE X.K φ xa)) (hs:starEach [a] X.env=[(false,eval a X.env)]) :
  PI X (.Tuple elts k tp) (.Call (.Name "enumerate" p) [a] [] pos) (tI X.K φ (.enum xa)):=by
 intro pins s σv H R I ⟨ι,σ,μ,hS,hL,h⟩
 simp![evI]at h
 cases e1:evE φ xa σ μ with
 | exc _ _ _=>rw[e1]at h;exact h.elim
 | stuck=>rw[e1]at h;exact h.elim
 | ok d μ2 =>
 rw[e1]at h
 simp![Res.cq]at h
 have hq:tEs X.K φ (.cons xa .nil) σv H (λvs H1=>∃ι1,ι <+: ι1/\Ext H H1/\Sim X.K ι1 H1 μ2/\ai X.K ι1 H1 [d] vs):=⟨ι,σ,μ,hS,hL,by
  simp![fi,e1,Res.cq]
  exact λι1 v H1 p1 x1 s1 d1=>⟨ι1,p1,x1,s1,d1⟩⟩
 refine Call_ (n4 I hg hm PyProof.Rows.boot_enumerate (Db (thn (t8 ha Fn hs pos pins s σv H _ I hq) λus s1 ⟨vs,H1,I1,r1,ι1,p1,x1,S1,d1⟩=>?_) hs rfl))
 simp![ai]at d1
 obtain⟨v1,_,rfl,q1,rfl⟩:=d1
 cases r1 with
 | cons ra rr =>
 cases rr
 cases ew:bw μ2 d with
 | none=>simp![ew]at h
 | some wg =>
 obtain⟨ds,g⟩:=wg
 simp![ew]at h
 obtain⟨b1,a1,xs,rfl,sq1,ds1,st1⟩:=Lk S1 q1 ew
 cases ra
 obtain⟨i1,rv1,p1',z1⟩:=sq1.vals I1
 refine Lm p1' λh' c1 c2 kk=>?_
 refine wpAny_pyIter_enum c1 ?_
 have I2:Inv X pins σv H1 {s1 with heap:=h'}:=I1.kept (t':=s1.toks) kk
 refine⟨_,[s1.heap.objs.size+1,s1.heap.objs.size],_,_,H1,rfl,I2,Cr (b:=b1) (a:=a1) (Nat.succ_ne_self _),⟨⟨_,c1⟩,c2⟩,λc hc=>?_,h ι1 H1 _ p1 x1 S1 ?_⟩
 ·have hc':s1.heap.objs.size<=c:=by
   simp![AV,CP,or_false]at hc
   rcases hc with rfl | rfl<;>first | exact AK _ | exact Nat.le_add_right _ _
  exact I1.fpOk hc' (I1.hok.fresh hc')
 ·have hlen:(((List.range ds.length).zip ds).map fun(p:Nat×D)=>D.tup [.int p.1,p.2]).length=ds.length:=by simp
  have n1:=ds1.length
  refine⟨by rw[hlen];lia,λi ι2 H2 μ3 q1 q2 q3 q4 hi=>?_,λi ι2 H2 μ3 w H3 q1 q2 q3 q4 hi hy=>?_,λι2 H2 μ3 q1 q2 q3 q4=>?_⟩
  ·rw[hlen]at hi
   obtain⟨xs',y1,y2⟩:=st1 ι2 H2 μ3 q1 q2 q3 q4
   obtain⟨v,ev,_⟩:=y2.get (AA hi)
   exact⟨xs',v,y1,ev⟩
  ·rw[hlen]at hi
   obtain⟨xs',y1,y2⟩:=st1 ι2 H2 μ3 q1 q2 q3 q4
   obtain⟨v,ev,hv⟩:=y2.get (AA hi)
   obtain⟨p,x,rfl,hp,rfl,f1⟩:=hy
   have e1':=f1 _ y1
   rw[ev]at e1';cases e1'
   have X1:Ext H2 (upd H2 p (.tup [.int i,v])):=Ext.new hp
   refine⟨X1,q3.new hp,.tup [.int i,ds[i]],by simp[EX,hi],tup_is (xs:=[.int i,v]) (.inl ?_) ?_⟩
   ·exact .inl bf
   ·simp![ai]
    exact⟨.int i,_,rfl,by simp[IsD],v,_,rfl,IsD.mono (AE _) X1 _ _ hv,rfl⟩
  ·obtain⟨xs',y1,y2⟩:=st1 ι2 H2 μ3 q1 q2 q3 q4
   have m1:=y2.length
   rw[hlen]
   exact⟨xs',y1,by lia⟩
theorem Ls {a:Expr} {xa:Ex} {elts:List Expr} {k:Nat} {tp:Pos} {p pos:Pos} (hm:X.mg "enumerate"=none) (ha:PE X a (tE X.K φ xa)) (hg:Gl X "enumerate":=by rfl) (hs:starEach [a] X.env=[(false,eval a X.env)]:=by rfl) :
  PI X (.Tuple elts k tp) (.Call (.Name "enumerate" p) [a] [] pos) (tI X.K φ (.enum xa)):=Lq hg hm ha hs
end
end Lp
namespace Lp.Srt
open PySem PySem.W PyProof.Rows
section
variable {r : Nat -> Nat} {n : Nat}
def PP (n:Nat) (p:Array Nat):Prop:=p.toList.Perm (List.range n)
def Ky (r:Nat->Nat) (p:Array Nat) (x:Nat):Nat:=r (p.getD x 0)
def Up (r:Nat->Nat) (p:Array Nat) (k:Nat):Prop:=∀i j,i<=j->j<k->Ky r p i<=Ky r p j
theorem PP.sz {p:Array Nat} (h:PP n p):p.size=n:=by
 have:=h.length_eq
 simpa using this
end
open PySem PySem.W PyProof.Rows PySem.Calls
section
variable {prog : Program} {w : World} {A : Around} {E : Value -> Shared -> Prop} {s : Shared}
theorem j6 (vs:List Value):(List.range vs.length).map (λi=>vs.getD i Value.none)=vs:=by
 apply DC
 intro i
 by_cases h:i<vs.length
 ·simp[h]
 ·simp[h]
end
theorem o6:∀a:List Int,lexLt a a=false
 | []=>rfl
 | x::xs=>by simp[lexLt,o6 xs]
theorem yu:∀{a b c:List Int},lexLt a b=true->lexLt b c=true->lexLt a c=true
 | a,b,[],_,h=>by cases b<;>simp[lexLt]at h
 | [],_,_::_,_,_=>rfl
 | x::xs,[],c::cs,h,_=>by simp[lexLt]at h
 | x::xs,y::ys,z::zs,h1,h2=>by
  simp![lexLt]at h1 h2 ⊢
  by_cases e1:x=y
  ·subst e1
   by_cases e2:x=z
   ·subst e2
    simp![if_true]at h1 h2 ⊢
    exact yu h1 h2
   ·simp![if_true]at h1
    rw[if_neg e2]at h2 ⊢
    exact h2
  ·rw[if_neg e1]at h1
   have h1':=of_decide_eq_true h1
   by_cases e2:y=z
   ·subst e2
    rw[if_neg e1]
    exact h1
   ·rw[if_neg e2]at h2
    have h2':=of_decide_eq_true h2
    rw[if_neg (show ¬x=z by lia)]
    exact decide_eq_true (by lia)
theorem rg:∀{a b:List Int},lexLt a b=false->lexLt b a=false->a=b
 | [],[],_,_=>rfl
 | [],_::_,h,_=>by simp[lexLt]at h
 | _::_,[],_,h=>by simp[lexLt]at h
 | x::xs,y::ys,h1,h2=>by
  simp![lexLt]at h1 h2
  by_cases e:x=y
  ·subst e
   simp![if_true]at h1 h2
   rw[rg h1 h2]
  ·rw[if_neg e]at h1
   rw[if_neg (Ne.symm e)]at h2
   have a1:=of_decide_eq_false h1
   have a2:=of_decide_eq_false h2
   lia
theorem uj {α:Type} {p q:α->Bool}:∀{l:List α},(∀x∈l,p x=true->q x=true)->(∃x∈l,q x=true/\p x=false)->l.countP p<l.countP q
 | [],_,h=>by obtain⟨x,hx,_⟩:=h;simp at hx
 | y::r,h1,h2=>by
  have le:r.countP p<=r.countP q:=HV λx hx=>h1 x (AT _ hx)
  obtain⟨x,hx,hq,hp⟩:=h2
  rcases AV.mp hx with rfl | hx
  ·simp[List.countP_cons,hq,hp];lia
  ·have:=uj (l:=r) (λz hz=>h1 z (AT _ hz)) ⟨x,hx,hq,hp⟩
   have h0:=h1 y BF
   simp![List.countP_cons]
   cases e1:p y with
   | true=>simp[h0 e1];lia
   | false=>simp;lia
theorem range_getD {α:Type} (d:α) (l:List α):(List.range l.length).map (λi=>l.getD i d)=l:=by
 apply DC
 intro i
 by_cases h:i<l.length<;>simp[h]
end Lp.Srt
namespace Lp
open PySem PySem.Spec PyProof.Rows L2 Lp.Srt
section
variable {X : Cx} {φ : Phi} {pos : Pos}
theorem Cs {prog:Program} {w:World} {A:Around} {s:Shared} {fin:Bool} {Q:Bool->Shared->Prop}:∀(r1 r2:List Int) (u1 u2:List Value) (i:Nat),bu (r1.map V.int) u1->bu (r2.map V.int) u2->fin=decide (r1.length<r2.length)->Q (lexLt r1 r2) s ->
  PySem.W.KatLex prog w A true fin Q (u1.zip u2) i s
 | [],[],u1,u2,i,h1,h2,hf,q=>by
  cases h1;cases h2
  rw[hf];exact q
 | [],_::_,u1,u2,i,h1,h2,hf,q=>by
  cases h1
  rw[hf];simpa[PySem.W.KatLex,lexLt]using q
 | _::_,[],u1,u2,i,h1,h2,hf,q=>by
  cases h2
  rw[hf,EH];simpa[PySem.W.KatLex,lexLt]using q
 | x::r1,y::r2,u1,u2,i,h1,h2,hf,q=>by
  rw[AL]at h1 h2
  cases h1 with
  | cons a1 b1 =>
   cases h2 with
   | cons a2 b2 =>
    obtain⟨t1,rfl⟩:=a1
    obtain⟨t2,rfl⟩:=a2
    rw[CL]
    refine HA (wpAny_eqBool_int (HX (λe=>HN ?_) λe=>HY ?_))
    ·have e':x=y:=by simpa using e
     refine Cs r1 r2 _ _ (i+1) b1 b2 (by rw[hf];simp) ?_
     simpa[lexLt,e']using q
    ·have e':¬x=y:=by simpa using e
     have q':Q (decide (x<y)) s:=by simpa[lexLt,e']using q
     cases hi:(true&&i==0)with
     | true=>exact oneLt_int q'
     | false=>exact HP _ _ (lt_int (show PySem.W.BoolBack Q (.bool (decide (x<y))) s from q'))
theorem rh (ns:List Int):cv (ns.map D.int)=some ns:=by
 induction ns with
 | nil=>rfl
 | cons n r ih=>simp[cv,ih]
theorem nt:∀{ds:List D} {ns:List Int},cv ds=some ns->ns.map D.int=ds
 | [],ns,h=>by simp[cv]at h;subst h;rfl
 | .int i::r,ns,h=>by
  simp![cv]at h
  cases e:cv r with
  | none=>rw[e]at h;simp at h
  | some q =>
   rw[e]at h
   simp at h
   subst h
   rw[AL,nt e]
 | .non::_,_,h=>by simp[cv]at h
 | .bl _::_,_,h=>by simp[cv]at h
 | .str _::_,_,h=>by simp[cv]at h
 | .tup _::_,_,h=>by simp[cv]at h
 | .lst _::_,_,h=>by simp[cv]at h
 | .loc _::_,_,h=>by simp[cv]at h
theorem Pk {ι:List Addr} {H:Hp} {pins:List (Addr×Obj)} {σ:St} {s:Shared} (I:Inv X pins σ H s) {r:List Int} {v:V} {u:Value} (hd:IsD X.K ι H (.tup (r.map D.int)) v) (hu:RelV v u):∃a its,u=.ref a/\IsTup s.heap a (List.toArray its)/\bu (r.map V.int) its:=by
 simp![IsD]at hd
 obtain⟨a,xs,rfl,hq,hx⟩:=hd
 cases(show u=Value.ref a from hu)
 obtain⟨its,rv,tp,_⟩:=I.tuple hq
 refine⟨a,its,rfl,tp,?_⟩
 have e:xs=r.map V.int:=ints_of hx (rh r)
 rw[<-e];exact rv
theorem uk:∀{xs:List D} {rs:List (List Int)},rowsOf xs=some rs->xs=rs.map λr=>D.tup (r.map D.int)
 | [],rs,h=>by simp[rowsOf]at h;subst h;rfl
 | .tup ds::r,rs,h=>by
  simp![rowsOf]at h
  cases e1:cv ds with
  | none=>rw[e1]at h;simp at h
  | some ns =>
   rw[e1]at h
   cases e2:rowsOf r with
   | none=>rw[e2]at h;simp at h
   | some q =>
    rw[e2]at h
    simp at h
    subst h
    rw[AL,nt e1,<-uk e2]
 | .non::_,_,h=>by simp[rowsOf]at h
 | .bl _::_,_,h=>by simp[rowsOf]at h
 | .int _::_,_,h=>by simp[rowsOf]at h
 | .str _::_,_,h=>by simp[rowsOf]at h
 | .lst _::_,_,h=>by simp[rowsOf]at h
 | .loc _::_,_,h=>by simp[rowsOf]at h
def Pl (g:Heap) (r:List Int) (u:Value):Prop:=r≠[]/\∃a its,u=Value.ref a/\IsTup g a (List.toArray its)/\bu (r.map V.int) its
theorem rj {ι:List Addr} {H:Hp} {pins:List (Addr×Obj)} {σ:St} {s:Shared} (I:Inv X pins σ H s):∀{rs:List (List Int)} {xs:List V} {us:List Value},(rs.all λr=>!r.isEmpty)=true->ai X.K ι H (rs.map λr=>D.tup (r.map D.int)) xs->bu xs us->Paired (Pl s.heap) rs us
 | [],xs,us,_,h1,h2=>by
  have:xs=[]:=by simpa[ai]using h1
  subst this
  cases h2
  exact .nil
 | r::rs,xs,us,hn,h1,h2=>by
  rw[AL]at h1
  simp![ai]at h1
  obtain⟨v,q,rfl,hd,ht⟩:=h1
  rw[BO,AU]at hn
  cases h2 with
  | cons a b=>exact .cons ⟨λz=>by rw[z]at hn;simp at hn,Pk I hd a⟩ (rj I hn.2 ht b)
theorem um {g:Heap}:∀{rs:List (List Int)} {us:List Value},Paired (Pl g) rs us->∃fs,PySem.W.KatTups g us fs/\fs.length=us.length/\∀v∈fs,∃i t,v=Value.int i t
 | _,_,.nil=>⟨[],.nil,rfl,by simp⟩
 | r::rs,_,.cons h t=>by
  obtain⟨fs,f1,f2,f3⟩:=um t
  obtain⟨h0,a,its,rfl,⟨o,q1,q2,n,q3⟩,v⟩:=h
  cases r with
  | nil=>exact absurd rfl h0
  | cons x r =>
   rw[AL]at v
   cases v with
   | cons a1 b1 =>
    obtain⟨t1,rfl⟩:=a1
    refine⟨.int x t1::fs,.cons q1 q2 q3 (by simp) f1,by simp[f2],λz hz=>?_⟩
    rcases AV.mp hz with rfl | hz
    ·exact⟨_,_,rfl⟩
    ·exact f3 z hz
theorem jk {α β:Type} {R:α->β->Prop} {d:α} {e:β}:∀{xs:List α} {ys:List β},Paired R xs ys->∀i,i<xs.length->R (xs.getD i d) (ys.getD i e)
 | _,_,.nil,i,h=>by simp at h
 | _,_,.cons a _,0,_=>by simpa using a
 | _,_,.cons _ t,i+1,h=>by simpa using jk t i (by simpa using h)
theorem yv {K:PySem.W.Frag} {ι:List Addr} {H:Hp} {f:Nat->D} {g:Nat->V}:∀{l:List Nat},(∀i∈l,IsD K ι H (f i) (g i))->ai K ι H (l.map f) (l.map g)
 | [],_=>by simp[ai]
 | i::l,h=>by
  rw[AL,AL]
  simp![ai]
  exact⟨_,_,rfl,h i BF,yv λj hj=>h j (AT _ hj)⟩
theorem yw {f:Nat->V} {g:Nat->Value}:∀{l:List Nat},(∀i∈l,RelV (f i) (g i))->bu (l.map f) (l.map g)
 | [],_=>.nil
 | i::l,h=>.cons (h i BF) (yw λj hj=>h j (AT _ hj))
theorem Ct {K:PySem.W.Frag} {ι:List Addr} {H:Hp} {ds:List D} {xs:List V} (h:ai K ι H ds xs) {i:Nat} (hi:i<ds.length):IsD K ι H (ds.getD i .non) (xs.getD i .non):=by
 obtain⟨v,e,q⟩:=h.get (show ds[i]? = some (ds.getD i .non)by simp[hi])
 have:xs.getD i .non=v:=by rw[CF,e];rfl
 rw[this];exact q
end
end Lp
namespace Lp.Sets
open PySem PySem.W PyProof.Rows PySem.Calls
def intOf:Value->Int
 | .int n _=>n
 | _=>0
theorem ints_of:∀{vs:List Value} {ns:List Int},IntsAre vs ns->ns=vs.map intOf/\∀v∈vs,∃n t,v=.int n t
 | _,_,.nil=>⟨rfl,λv h=>by simp at h⟩
 | _,_,.cons n t r=>by
  obtain⟨e,h⟩:=ints_of r
  refine⟨by rw[AL,<-e];rfl,λv hv=>?_⟩
  rcases AV.mp hv with rfl | hv
  ·exact⟨n,t,rfl⟩
  ·exact h v hv
end Lp.Sets
namespace Lp
open PySem PySem.Spec PyProof.Rows L2
namespace Sets
theorem vals_ints:∀{ns:List Int} {us:List Value},bu (ns.map V.int) us->IntsAre us ns
 | [],[],_=>.nil
 | n::r,u::us,h=>by
  cases h with
  | cons h1 h2 =>
   obtain⟨t,rfl⟩:=h1
   exact .cons n t (vals_ints h2)
 | [],u::us,h=>by cases h
 | n::r,[],h=>by cases h
end Sets
theorem Rj {α:Type} {Q:α->Prop}:∀(j:Nat) e,([]:List α)[j]? = some e->Q e:=λj e h=>by simp at h
theorem c9 {α:Type} {Q:α->Prop} {a:α} {l:List α} (h:Q a) (t:∀(j:Nat) e,l[j]? = some e->Q e):∀(j:Nat) e,(a::l)[j]? = some e->Q e
 | 0,_,z=>by
  have z':some a=some _:=z
  cases z'
  exact h
 | j+1,_,z=>t j _ z
theorem dmk {T:List Df} {P:Program} {w:World} {K:PySem.W.Frag} {mg:Str->Option Value} {base:Heap} {es:List Ent} {e:Ent}
  (dv:∀(n:Nat) (fa:Addr) (cdv:Value) (A:Around) (outer:List Env) (s:Shared) (H:Hp) (E:XK),(A.deeper (envOfC e.name (bg e.st) s.heap.objs.size fa cdv)).units+64<cLine ->
   (∀(j:Nat) e',es[j]? = some e'->Callee P w K mg base (A.deeper (envOfC e.name (bg e.st) s.heap.objs.size fa cdv)) (ak T n) e'.id e'.name) ->
   PSs (Fe CX0 P w K mg base e.N e.name (bg e.st) fa cdv A outer s H E).nox (il e.st) (tSs K (ak T n) e.df.body))
  (sc:FnScope e.N e.ps (bg e.st):=by exact⟨rfl,rfl,rfl,by decide +kernel,rfl,by decide +kernel,by decide +kernel⟩) (tb:T[e.id]? = some e.df:=by rfl) (np:e.df.np=e.ps.length:=by rfl) (nn:e.df.nn=e.N.length:=by rfl):Derived T P w K mg base es e:=⟨sc,tb,np,nn,dv⟩
abbrev EXK:=Value->Hp->Prop
end Lp
namespace PySem
open Builtin Builtin.ObjectAttr
section
variable {prog : Program} {w : World} {A : Around} {E : Value -> Shared -> Prop} {h : Heap} {g : Array GenState} {d : Drawn} {t : Nat} {os : OsState}
variable {nms : List Str} {nm q : Str} {C N x : Addr} {bs bm bmB : List Value} {sn : List Str} {sub : List Value} {ab : Bool} {col : Option Bool} {dd : Option Addr} {k0 k1 k2 k3 k5 : Option Value} {B newId sa owner : String}
 {mN mA:Str->Option Value} {name:Str} {v:Value}
end
end PySem
namespace L2
open PySem PySem.Spec PyProof.Rows
section
variable {prog : Program} {w : World} {A : Around} {E : Value -> Shared -> Prop} {h : Heap} {g : Array GenState} {d : Drawn} {t : Nat} {os : OsState}
variable {nms : List Str} {nm q : Str} {C N x : Addr} {bs bm bmB : List Value} {sn : List Str} {sub : List Value} {ab : Bool} {col : Option Bool} {dd : Option Addr} {k0 k1 k2 k3 k5 : Option Value} {B newId sa owner : String}
 {mN mA:Str->Option Value} {v:Value}
end
end L2
namespace Lp
open PySem PySem.Spec PyProof.Rows L2
structure MEnt where
 cls:Str
 m:Str
 e:Ent
end Lp
namespace Lp.Tim
section
variable {α : Type} {ρ : α -> Nat}
def Srt (ρ:α->Nat) (l:List α):Prop:=l.Pairwise λx y=>ρ x<=ρ y
theorem ip {O Z:List α}:Srt ρ (O++Z)↔Srt ρ O/\Srt ρ Z/\∀x∈O,∀z∈Z,ρ x<=ρ z:=List.pairwise_append
theorem yx {O X Y Z:List α} (h1:Srt ρ (O++(X++Y))) (h2:Srt ρ (O++Z)) (h:∀x∈X,∀z∈Z,ρ x<=ρ z):Srt ρ (O++X++Y)/\Srt ρ (O++X++Z):=by
 refine⟨by rw[AC];exact h1,?_⟩
 rw[ip]at h1 h2 ⊢
 have h1':=ip.mp h1.2.1
 refine⟨ip.mpr ⟨h1.1,h1'.1,λx hx z hz=>h1.2.2 x hx z (FR _ hz)⟩,h2.2.1,λx hx z hz=>?_⟩
 rcases BX.mp hx with q | q
 ·exact h2.2.2 x q z hz
 ·exact h x q z hz
theorem yy {X Y Z R:List α} (h1:Srt ρ (X++Y++R)) (h2:Srt ρ (Z++R)) (h:∀y∈Y,∀z∈Z,ρ z<=ρ y):Srt ρ (X++(Y++R))/\Srt ρ (Z++(Y++R)):=by
 refine⟨by rw[<-AC];exact h1,?_⟩
 rw[AC]at h1
 rw[ip]at h1 h2 ⊢
 refine⟨h2.1,h1.2.1,λz hz x hx=>?_⟩
 rcases BX.mp hx with q | q
 ·exact h x q z hz
 ·exact h2.2.2 z hz x q
theorem km {l:List α} (h:Srt ρ l) {i j:Nat} {x y:α} (hx:l[i]? = some x) (hy:l[j]? = some y) (hij:i<=j):ρ x<=ρ y:=by
 obtain⟨hi,rfl⟩:=AI.mp hx
 obtain⟨hj,rfl⟩:=AI.mp hy
 by_cases e:i=j
 ·subst e;exact AK _
 ·exact EY.mp h i j hi hj (by lia)
theorem iq {l:List α} {i:Nat} {x:α} (h:l[i]? = some x):l.drop i=x::l.drop (i+1):=by
 obtain⟨hi,rfl⟩:=AI.mp h
 exact EW hi
theorem lz (l:List α) (i k:Nat):l.drop i=(l.drop i).take k++l.drop (i+k):=by
 rw[<-List.drop_drop,BQ]
theorem l4 (l:List α) (i k:Nat):l.take (i+k)=l.take i++(l.drop i).take k:=by
 rw[List.take_add]
theorem o7 {l:List α} {i:Nat} {x:α} (h:x∈l.drop i):∃j,i<=j/\l[j]? = some x:=by
 obtain⟨k,hk,e⟩:=CH.mp h
 rw[List.getElem_drop]at e
 rw[Ev]at hk
 exact⟨i+k,by lia,by rw[AA (by lia),e]⟩
theorem ir {l:List α} {i:Nat} {x:α} (h:x∈l.take i):∃j,j<i/\l[j]? = some x:=by
 obtain⟨k,hk,e⟩:=CH.mp h
 rw[List.getElem_take]at e
 rw[BJ]at hk
 exact⟨k,by lia,by rw[AA (by lia),e]⟩
theorem qf {l:List α} {i k:Nat} {x:α} (h:x∈(l.drop i).take k):∃j,j<k/\l[i+j]? = some x:=by
 obtain⟨j,hj,e⟩:=ir h
 rw[GJ]at e
 exact⟨j,hj,e⟩
structure Lo (ρ:α->Nat) (A B O:List α) (i j:Nat):Prop where
 perm:O.Perm (A.take i++B.take j)
 sa:Srt ρ (O++A.drop i)
 sb:Srt ρ (O++B.drop j)
variable {A B O : List α} {i j k : Nat}
theorem Lo.pushB (h:Lo ρ A B O i j) (hk:∀x∈(B.drop j).take k,∀z∈A.drop i,ρ x<=ρ z):Lo ρ A B (O++(B.drop j).take k) i (j+k):=by
 have q:=h.sb
 rw[lz B j k]at q
 obtain⟨q1,q2⟩:=yx q h.sa hk
 refine⟨?_,q2,q1⟩
 rw[l4,<-AC]
 exact h.perm.append_right _
theorem Lo.pushA (h:Lo ρ A B O i j) (hk:∀x∈(A.drop i).take k,∀z∈B.drop j,ρ x<=ρ z):Lo ρ A B (O++(A.drop i).take k) (i+k) j:=by
 have q:=h.sa
 rw[lz A i k]at q
 obtain⟨q1,q2⟩:=yx q h.sb hk
 refine⟨?_,q1,q2⟩
 rw[l4]
 refine(h.perm.append_right _).trans ?_
 rw[AC,AC]
 exact AZ _ CB
theorem Lo.b1 (h:Lo ρ A B O i j) {x:α} (hx:B[j]? = some x) (hk:∀z∈A.drop i,ρ x<=ρ z):Lo ρ A B (O++[x]) i (j+1):=by
 have:=h.pushB (k:=1) (λy hy z hz=>by rw[iq hx]at hy;simp at hy;rw[hy];exact hk z hz)
 rw[iq hx]at this
 simpa using this
theorem Lo.a1 (h:Lo ρ A B O i j) {x:α} (hx:A[i]? = some x) (hk:∀z∈B.drop j,ρ x<=ρ z):Lo ρ A B (O++[x]) (i+1) j:=by
 have:=h.pushA (k:=1) (λy hy z hz=>by rw[iq hx]at hy;simp at hy;rw[hy];exact hk z hz)
 rw[iq hx]at this
 simpa using this
theorem Lo.len (h:Lo ρ A B O i j) (hi:i<=A.length) (hj:j<=B.length):O.length=i+j:=by
 rw[h.perm.length_eq];simp;lia
def Mg (ρ:α->Nat) (A B M:List α):Prop:=M.Perm (A++B)/\Srt ρ M
theorem Lo.doneB (h:Lo ρ A B O i j) (hj:j=B.length):Mg ρ A B (O++A.drop i++B.drop j):=by
 subst hj
 rw[FN,DN]
 refine⟨?_,h.sa⟩
 have p:=h.perm
 rw[BN]at p
 refine(p.append_right _).trans ?_
 rw[AC]
 refine(AZ _ CB).trans ?_
 rw[<-AC,BQ]
theorem Lo.doneA (h:Lo ρ A B O i j) (hi:i=A.length):Mg ρ A B (O++A.drop i++B.drop j):=by
 subst hi
 rw[FN,DN]
 refine⟨?_,h.sb⟩
 have p:=h.perm
 rw[BN]at p
 refine(p.append_right _).trans ?_
 rw[AC,BQ]
theorem Lo.lastA (h:Lo ρ A B O i j) (hi:i+1=A.length) (hl:∀x∈B,∀z∈A.drop i,ρ x<=ρ z):Mg ρ A B (O++B.drop j++A.drop i):=by
 have:=h.pushB (k:=(B.drop j).length) (λx hx z hz=>hl x (DV (DW hx)) z hz)
 rw[BN]at this
 refine⟨?_,this.sa⟩
 refine(this.perm.append_right _).trans ?_
 rw[AC]
 refine(AZ _ CB).trans ?_
 rw[<-AC,BQ,BP (by simp;lia)]
structure Hi (ρ:α->Nat) (A B R:List α) (i j:Nat):Prop where
 perm:R.Perm (A.drop i++B.drop j)
 sa:Srt ρ (A.take i++R)
 sb:Srt ρ (B.take j++R)
variable {R : List α}
theorem uo (l:List α) {i i':Nat} (h:i'<=i):l.take i=l.take i'++(l.drop i').take (i-i'):=by
 rw[<-l4];congr 1;lia
theorem uq (l:List α) {i i':Nat} (h:i'<=i):l.drop i'=(l.drop i').take (i-i')++l.drop i:=by
 have:=lz l i' (i-i')
 rwa [show i'+(i-i')=i by lia]at this
theorem Hi.pullB (h:Hi ρ A B R i j) {j':Nat} (hj:j'<=j) (hk:∀y∈(B.drop j').take (j-j'),∀z∈A.take i,ρ z<=ρ y):Hi ρ A B ((B.drop j').take (j-j')++R) i j':=by
 have q:=h.sb
 rw[uo B hj]at q
 obtain⟨q1,q2⟩:=yy q h.sa hk
 refine⟨?_,q2,q1⟩
 have e:=uq B hj
 generalize (B.drop j').take (j-j')=m at *
 rw[e,<-AC]
 refine(AZ _ h.perm).trans ?_
 rw[<-AC]
 exact EM _ CB
theorem Hi.pullA (h:Hi ρ A B R i j) {i':Nat} (hi:i'<=i) (hk:∀y∈(A.drop i').take (i-i'),∀z∈B.take j,ρ z<=ρ y):Hi ρ A B ((A.drop i').take (i-i')++R) i' j:=by
 have q:=h.sa
 rw[uo A hi]at q
 obtain⟨q1,q2⟩:=yy q h.sb hk
 refine⟨?_,q1,q2⟩
 have e:=uq A hi
 generalize (A.drop i').take (i-i')=m at *
 rw[e,AC]
 exact AZ _ h.perm
theorem rl {l:List α} {i:Nat} {x:α} (hi:0<i) (hx:l[i-1]? = some x):(l.drop (i-1)).take (i-(i-1))=[x]:=by
 rw[show i-(i-1)=1 by lia,iq hx];rfl
theorem Hi.b1 (h:Hi ρ A B R i j) {x:α} (h0:0<j) (hx:B[j-1]? = some x) (hk:∀z∈A.take i,ρ z<=ρ x):Hi ρ A B (x::R) i (j-1):=by
 have:=h.pullB (j':=j-1) (by lia) (λy hy z hz=>by rw[rl h0 hx]at hy;simp at hy;rw[hy];exact hk z hz)
 rwa [rl h0 hx]at this
theorem Hi.a1 (h:Hi ρ A B R i j) {x:α} (h0:0<i) (hx:A[i-1]? = some x) (hk:∀z∈B.take j,ρ z<=ρ x):Hi ρ A B (x::R) (i-1) j:=by
 have:=h.pullA (i':=i-1) (by lia) (λy hy z hz=>by rw[rl h0 hx]at hy;simp at hy;rw[hy];exact hk z hz)
 rwa [rl h0 hx]at this
theorem Hi.doneA (h:Hi ρ A B R i j) (hi:i=0):Mg ρ A B (A.take i++B.take j++R):=by
 subst hi
 refine⟨?_,by simpa using h.sb⟩
 have p:=h.perm
 simp![List.take_zero,ED,DS]at p ⊢
 refine(AZ _ p).trans ?_
 rw[<-AC]
 refine(EM _ CB).trans ?_
 rw[AC,BQ]
theorem Hi.doneB (h:Hi ρ A B R i j) (hj:j=0):Mg ρ A B (A.take i++B.take j++R):=by
 subst hj
 refine⟨?_,by simpa using h.sa⟩
 have p:=h.perm
 simp![List.take_zero,ED,DN]at p ⊢
 refine(AZ _ p).trans ?_
 rw[<-AC,BQ]
theorem Hi.firstB (h:Hi ρ A B R i j) (hl:∀x∈A,∀z∈B.take j,ρ z<=ρ x):Mg ρ A B (B.take j++A.take i++R):=by
 have:=h.pullA (i':=0) (EF _) (λx hx z hz=>hl x (DV (DW hx)) z hz)
 simp![ED,Nat.sub_zero]at this
 refine⟨?_,by rw[AC];exact this.sb⟩
 rw[AC]
 refine(AZ _ this.perm).trans ?_
 simp![ED]
 rw[<-AC]
 refine(EM _ CB).trans ?_
 rw[AC,BQ]
end
open PySem PyProof.Rows
def o8:Bool->Keyed->Array Keyed->Nat->Nat->Nat->StateT SortSt Sem (Option Nat):=sortPriv% PySem.Builtin.gallop
def yz:Array Keyed->Array Keyed->StateT SortSt Sem (Array Keyed):=sortPriv% PySem.Builtin.mergeLo
def y4:Array Keyed->Array Keyed->StateT SortSt Sem (Array Keyed):=sortPriv% PySem.Builtin.mergeHi
section
variable {prog : Program} {w : World} {A : Around} {E : Value -> Shared -> Prop} {s : Shared} {a₀ : List Keyed} {ρ : Keyed -> Nat} {κ : SortKind}
def Cmp (prog:Program) (w:World) (A:Around) (s:Shared) (a₀:List Keyed) (ρ:Keyed->Nat) (κ:SortKind):Prop :=
 ∀x y,x∈a₀->y∈a₀->∀(C:Bool->Shared->Prop),C (decide (ρ x<ρ y)) s->wpAny (model prog w) A (keyLt' κ x.1 y.1) C (λ_ _=>False) s
theorem Cu (hC:Cmp prog w A s a₀ ρ κ) {x y:Keyed} (hx:x∈a₀) (hy:y∈a₀) {st:SortSt} (hk:kindOf st=κ) {Q:Option Bool->SortSt->Prop} (h:Q (some (decide (ρ x<ρ y))) st):wpS (model prog w) A E s (lt' x y) Q st:=by
 rw[lt'_eq]
 refine AG (FP ?_)
 rw[hk]
 refine AG (HB (wpAny_attempt (DO (hC x y hx hy (λb s'=>b=decide (ρ x<ρ y)/\s'=s) ⟨rfl,rfl⟩) (λb s' hb=>?_) λ_ _ f=>f.elim)))
 obtain⟨rfl,rfl⟩:=hb
 exact⟨rfl,AJ h⟩
theorem bp {arr:Array Keyed} {i:Nat} {x:Keyed} (hx:arr[i]? = some x) {st:SortSt} {Q:Keyed->SortSt->Prop} (h:Q x st):wpS (model prog w) A E s (elem' arr i) Q st:=by
 rw[elem'_eq,hx]
 exact AJ h
def bey (left:Bool) (key:Keyed) (arr:Array Keyed) (base i:Nat):StateT SortSt Sem (Option Bool) :=
 elem' arr (base+i)>>=λx=>if left=true then lt' x key else lt' key x>>=λd=>pure (d.map (!·))
def U5 (left:Bool) (key:Keyed) (arr:Array Keyed) (base n lo hi:Nat):StateT SortSt Sem (Option (Option Nat)×Nat×Nat) :=
 forIn [:n] ((none,lo,hi):Option (Option Nat)×Nat×Nat) λ_ z=>if z.2.1≥z.2.2 then pure (ForInStep.done (none,z.2.1,z.2.2))else
  bey left key arr base (z.2.1+(z.2.2-z.2.1) / 2)>>=λx=>match x with
   | some more=>if more=true then pure (ForInStep.yield (none,z.2.1+(z.2.2-z.2.1) / 2+1,z.2.2))else pure (ForInStep.yield (none,z.2.1,z.2.1+(z.2.2-z.2.1) / 2))
   | _=>pure (ForInStep.done (some none,z.2.1,z.2.2))
section
variable {left : Bool} {key : Keyed} {arr : Array Keyed} {base n hint : Nat} {st : SortSt} {Q : Option Nat -> SortSt -> Prop} {B : Nat -> Bool}
theorem l6 {lo hi:Nat} {R:Option (Option Nat)×Nat×Nat->SortSt->Prop} (hb:∀i,i<n->∀Q':Option Bool->SortSt->Prop,Q' (some (B i)) st->wpS (model prog w) A E s (bey left key arr base i) Q' st) (anti:∀i j,i<=j->j<n->B j=true->B i=true) (h1:lo<=hi) (h2:hi<=n)
  (h3:∀i,i<lo->B i=true) (h4:∀i,hi<=i->i<n->B i=false) (h:∀m,m<=n->(∀i,i<m->B i=true)->(∀i,m<=i->i<n->B i=false)->∀l,R (none,l,m) st):wpS (model prog w) A E s (U5 left key arr base n lo hi) R st:=by
 unfold U5
 refine CC (I:=λk z st'=>st'=st/\∃lo hi,z=(none,lo,hi)/\lo<=hi/\hi<=n/\hi-lo<=n-k/\(∀i,i<lo->B i=true)/\∀i,hi<=i->i<n->B i=false)
  (λk z st' _ hk ⟨e,lo,hi,ez,g1,g2,g3,g4,g5⟩=>?_) (λz st' ⟨e,lo,hi,ez,g1,g2,g3,g4,g5⟩=>?_) ⟨rfl,lo,hi,rfl,h1,h2,by lia,h3,h4⟩
 ·subst e ez
  dsimp only
  by_cases hc:lo≥hi
  ·rw[if_pos hc]
   exact AJ (h hi g2 (λi hi'=>g4 i (by lia)) g5 lo)
  ·rw[if_neg hc]
   refine AG (hb _ (by lia) _ ?_)
   dsimp only
   by_cases hB:B (lo+(hi-lo) / 2)=true
   ·rw[if_pos hB]
    exact AJ ⟨rfl,_,_,rfl,by lia,g2,by lia,λi hi'=>anti i _ (by lia) (by lia) hB,g5⟩
   ·rw[if_neg hB]
    refine AJ ⟨rfl,_,_,rfl,by lia,by lia,by lia,g4,λi hi' hn=>?_⟩
    cases e:B i with
    | false=>rfl
    | true=>exact absurd (anti _ i hi' hn e) hB
 ·subst e ez
  have:lo=hi:=by lia
  subst this
  exact h lo g2 g4 g5 lo
theorem Cv (hb:∀i,i<n->∀Q':Option Bool->SortSt->Prop,Q' (some (B i)) st->wpS (model prog w) A E s (bey left key arr base i) Q' st) (anti:∀i j,i<=j->j<n->B j=true->B i=true) (hh:hint<n)
  (h:∀m,m<=n->(∀i,i<m->B i=true)->(∀i,m<=i->i<n->B i=false)->Q (some m) st):wpS (model prog w) A E s (o8 left key arr base n hint) Q st:=by
 unfold o8
 refine AG (hb hint hh _ ?_)
 dsimp only
 have neg:∀i j,i<=j->j<n->B i=false->B j=false:=λi j hij hj e=>by
  cases e2:B j with
  | false=>rfl
  | true=>rw[anti i j hij hj e2]at e;cases e
 by_cases hB:B hint=true
 ·rw[if_pos hB]
  refine AG (CC (I:=λk z st'=>st'=st/\∃la of,z=(none,la,of)/\la<of/\k+1<=of/\hint+la<n/\B (hint+la)=true)
   (λk z st' _ hk ⟨e,la,of,ez,g1,g2,g3,g4⟩=>?_) (λz st' ⟨e,la,of,ez,g1,g2,g3,g4⟩=>?_) ⟨rfl,0,1,rfl,by lia,by lia,by lia,hB⟩)
  ·subst e ez
   dsimp only
   by_cases hc:of≥n-hint
   ·rw[if_pos hc]
    refine AJ (AG (l6 (lo:=hint+la+1) (hi:=hint+min of (n-hint)) hb anti (by lia) (by lia) (λi hi=>anti i _ (by lia) g3 g4) (λi hi hn=>absurd hn (by lia)) λm m1 m2 m3 l=>AJ (h m m1 m2 m3)))
   ·rw[if_neg hc]
    refine AG (hb _ (by lia) _ ?_)
    dsimp only
    cases hm:B (hint+of)with
    | false =>
     refine AJ (AG (l6 (lo:=hint+la+1) (hi:=hint+min of (n-hint)) hb anti (by lia) (by lia) (λi hi=>anti i _ (by lia) g3 g4) (λi hi hn=>neg (hint+of) i (by lia) hn hm) λm m1 m2 m3 l=>AJ (h m m1 m2 m3)))
    | true =>
     exact AJ ⟨rfl,_,_,rfl,by lia,by lia,by lia,hm⟩
  ·subst e ez
   dsimp only
   exact AG (l6 (lo:=hint+la+1) (hi:=hint+min of (n-hint)) hb anti (by lia) (by lia) (λi hi=>anti i _ (by lia) g3 g4) (λi hi hn=>absurd hn (by lia)) λm m1 m2 m3 l=>AJ (h m m1 m2 m3))
 ·rw[if_neg hB]
  have hB':B hint=false:=by simpa using hB
  refine AG (CC (I:=λk z st'=>st'=st/\∃la of,z=(none,la,of)/\la<of/\k+1<=of/\la<=hint/\B (hint-la)=false)
   (λk z st' _ hk ⟨e,la,of,ez,g1,g2,g3,g4⟩=>?_) (λz st' ⟨e,la,of,ez,g1,g2,g3,g4⟩=>?_) ⟨rfl,0,1,rfl,by lia,by lia,by lia,hB'⟩)
  ·subst e ez
   dsimp only
   by_cases hc:of≥hint+1
   ·rw[if_pos hc]
    refine AJ (AG (l6 (lo:=hint+1-min of (hint+1)) (hi:=hint-la) hb anti (by lia) (by lia) (λi hi=>absurd hi (by lia)) (λi hi hn=>neg _ i (by lia) hn g4) λm m1 m2 m3 l=>AJ (h m m1 m2 m3)))
   ·rw[if_neg hc]
    refine AG (hb _ (by lia) _ ?_)
    dsimp only
    cases hm:B (hint-of)with
    | true =>
     refine AJ (AG (l6 (lo:=hint+1-min of (hint+1)) (hi:=hint-la) hb anti (by lia) (by lia) (λi hi=>anti i _ (by lia) (by lia) hm) (λi hi hn=>neg _ i (by lia) hn g4) λm m1 m2 m3 l=>AJ (h m m1 m2 m3)))
    | false =>
     exact AJ ⟨rfl,_,_,rfl,by lia,by lia,by lia,hm⟩
  ·subst e ez
   dsimp only
   exact AG (l6 (lo:=hint+1-min of (hint+1)) (hi:=hint-la) hb anti (by lia) (by lia) (λi hi=>absurd hi (by lia)) (λi hi hn=>neg _ i (by lia) hn g4) λm m1 m2 m3 l=>AJ (h m m1 m2 m3))
theorem Hx (hC:Cmp prog w A s a₀ ρ κ) (hk:kindOf st=κ) (hkey:key∈a₀) (hin:∀i,i<n->∃x,arr[base+i]? = some x/\x∈a₀) (hs:∀i j x y,i<=j->j<n->arr[base+i]? = some x->arr[base+j]? = some y->ρ x<=ρ y) (hh:hint<n)
  (h:∀m,m<=n->(∀i x,i<m->arr[base+i]? = some x->if left=true then ρ x<ρ key else ρ x<=ρ key)->(∀i x,m<=i->i<n->arr[base+i]? = some x->if left=true then ρ key<=ρ x else ρ key<ρ x)->Q (some m) st) :
  wpS (model prog w) A E s (o8 left key arr base n hint) Q st:=by
 refine Cv (B:=λi=>match arr[base+i]? with | some x=>if left=true then decide (ρ x<ρ key)else !decide (ρ key<ρ x) | none=>false) (λi hi Q' q=>?_) (λi j hij hj e=>?_) hh λm m1 m2 m3=>h m m1 (λi x hi hx=>?_) λi x hi hn hx=>?_
 ·obtain⟨x,hx,hm⟩:=hin i hi
  simp![hx]at q
  unfold bey
  refine AG (bp hx ?_)
  cases left with
  | true =>
   rw[if_pos rfl]at q ⊢
   exact Cu hC hm hkey hk q
  | false =>
   rw[if_neg BI]at q ⊢
   exact AG (Cu hC hkey hm hk (AJ q))
 ·obtain⟨x,hx,hm⟩:=hin i (by lia)
  obtain⟨y,hy,hn⟩:=hin j hj
  have le:=hs i j x y hij hj hx hy
  simp![hx,hy]at e ⊢
  cases left with
  | true=>simp![if_true,decide_eq_true_eq]at e ⊢;lia
  | false=>simp![BB,if_false,GP,decide_eq_false_iff_not]at e ⊢;lia
 ·have e:=m2 i hi
  simp![hx]at e
  cases left with
  | true=>simp![if_true,decide_eq_true_eq]at e ⊢;exact e
  | false=>simp![BB,if_false,GP,decide_eq_false_iff_not]at e ⊢;lia
 ·have e:=m3 i hi hn
  simp![hx]at e
  cases left with
  | true=>simp![if_true,decide_eq_false_iff_not]at e ⊢;lia
  | false=>simp![BB,if_false,Bool.not_eq_false',decide_eq_true_eq]at e ⊢;exact e
end
end
theorem wm (a:Array Keyed) (i k:Nat):(a.extract i (i+k)).toList=(a.toList.drop i).take k:=by
 rw[EU,DQ];congr 1;lia
theorem l7 (a:Array Keyed) (i:Nat):(a.extract i).toList=a.toList.drop i:=by
 rw[EU,DQ,BP];simp
theorem jt (a:Array Keyed) (i:Nat):(a.extract 0 i).toList=a.toList.take i:=by
 rw[EU,DQ];simp
theorem rm (a:Array Keyed) (i j:Nat):(a.extract i j).toList=(a.toList.drop i).take (j-i):=by
 rw[EU,DQ]
structure Sm (st st':SortSt):Prop where
 kind:kindOf st'=kindOf st
 arr:arrOf st'=arrOf st
 pend:pendingOf st'=pendingOf st
 fail:failedOf st'=failedOf st
theorem Sm.refl (st:SortSt):Sm st st:=⟨rfl,rfl,rfl,rfl⟩
section
variable {prog : Program} {w : World} {A : Around} {E : Value -> Shared -> Prop} {s : Shared} {a₀ : List Keyed} {ρ : Keyed -> Nat} {κ : SortKind}
theorem rn {l:List Keyed} {i:Nat} {x:Keyed} (hs:Srt ρ l) (hx:l[i]? = some x):∀z∈l.drop i,ρ x<=ρ z:=λz hz=>by
 obtain⟨j,hj,e⟩:=o7 hz
 exact km hs hx e hj
theorem rp {l:List Keyed} {i:Nat} {x:Keyed} (hs:Srt ρ l) (hx:l[i-1]? = some x):∀z∈l.take i,ρ z<=ρ x:=λz hz=>by
 obtain⟨j,hj,e⟩:=ir hz
 exact km hs e hx (by lia)
theorem l8 {a:Array Keyed} {i:Nat} (h:i<a.size):∃x,a[i]? = some x/\a.toList[i]? = some x/\x∈a.toList :=
 ⟨a[i],by simp[h],by simp[h],by simp⟩
theorem nu {left:Bool} {key:Keyed} {a:Array Keyed} {base n hint:Nat} {st:SortSt} {Q:Option Nat->SortSt->Prop} (hC:Cmp prog w A s a₀ ρ κ) (hk:kindOf st=κ) (hkey:key∈a₀) (ha:∀x∈a.toList,x∈a₀) (sa:Srt ρ a.toList) (hn:base+n<=a.size) (hh:hint<n)
  (h:∀m,m<=n->(∀x∈(a.toList.drop base).take m,if left=true then ρ x<ρ key else ρ x<=ρ key)->(∀x∈(a.toList.drop (base+m)).take (n-m),if left=true then ρ key<=ρ x else ρ key<ρ x)->Q (some m) st) :
  wpS (model prog w) A E s (o8 left key a base n hint) Q st:=by
 refine Hx hC hk hkey (λi hi=>?_) (λi j x y hij _ hx hy=>?_) hh λm m1 m2 m3=>h m m1 (λx hx=>?_) λx hx=>?_
 ·obtain⟨x,e,_,mx⟩:=l8 (a:=a) (i:=base+i) (by lia)
  exact⟨x,e,ha x mx⟩
 ·rw[<-BL]at hx hy
  exact km sa hx hy (by lia)
 ·obtain⟨j,hj,e⟩:=qf hx
  rw[BL]at e
  exact m2 j x hj e
 ·obtain⟨j,hj,e⟩:=qf hx
  rw[BL,GS]at e
  exact m3 (m+j) x (by lia) (by lia) e
theorem Tq {a b:Array Keyed} {st:SortSt} {Q:Array Keyed->SortSt->Prop} (hC:Cmp prog w A s a₀ ρ κ) (hk:kindOf st=κ) (ha:∀x∈a.toList,x∈a₀) (hb:∀x∈b.toList,x∈a₀) (sa:Srt ρ a.toList) (sb:Srt ρ b.toList) (la:0<a.size) (lb:0<b.size)
  (hf:∀y,b[0]? = some y->∀z∈a.toList,ρ y<=ρ z) (hl:∀x∈b.toList,∀z∈a.toList.drop (a.size-1),ρ x<=ρ z) (h:∀M st',Mg ρ a.toList b.toList M.toList->Sm st st'->Q M st'):wpS (model prog w) A E s (yz a b) Q st:=by
 unfold yz
 refine AG (HB (EJ ⟨rfl,?_⟩))
 obtain⟨y0,hy0,hy0',_⟩:=l8 lb
 refine AG (bp hy0 ?_)
 dsimp only
 have sizeA:a.toList.length=a.size:=by simp
 have sizeB:b.toList.length=b.size:=by simp
 have L0:Lo ρ a.toList b.toList [y0] 0 1:=by
  have:Lo ρ a.toList b.toList [] 0 0:=⟨by simp,by simpa using sa,by simpa using sb⟩
  exact this.b1 hy0' (hf y0 hy0)
 have dB:∀{out:Array Keyed} {i j:Nat},Lo ρ a.toList b.toList out.toList i j->j=b.size->Mg ρ a.toList b.toList (out++a.extract i++b.extract j).toList:=λ{out i j} L e=>by
  rw[BK,BK,l7,l7]
  exact L.doneB (by lia)
 have dA:∀{out:Array Keyed} {i j:Nat},Lo ρ a.toList b.toList out.toList i j->i=a.size->Mg ρ a.toList b.toList (out++a.extract i++b.extract j).toList:=λ{out i j} L e=>by
  rw[BK,BK,l7,l7]
  exact L.doneA (by lia)
 have dL:∀{out:Array Keyed} {i j:Nat},Lo ρ a.toList b.toList out.toList i j->i+1=a.size->Mg ρ a.toList b.toList (out++b.extract j++a.extract i).toList:=λ{out i j} L e=>by
  rw[BK,BK,l7,l7]
  refine L.lastA (by lia) λx hx z hz=>hl x hx z ?_
  rwa [show a.size-1=i by lia]
 by_cases c1:(1==b.size)=true
 ·rw[if_pos c1]
  exact AJ (h _ _ (dB (out:=#[y0]) L0 (by simpa using c1)) (.refl _))
 rw[if_neg c1]
 by_cases c2:(0+1==a.size)=true
 ·rw[if_pos c2]
  exact AJ (h _ _ (dL (out:=#[y0]) L0 (by simpa using c2)) (.refl _))
 rw[if_neg c2]
 refine AG (FP (AG ?_))
 refine EE (CC (I:=λk z st'=>Sm st st'/\∃out i j mg,z=(none,out,i,j,mg)/\Lo ρ a.toList b.toList out.toList i j/\i+1<a.size/\j<b.size/\k+1<=out.size)
  (Q:=λz st'=>Sm st st'/\∃M y,z=(some M,y)/\Mg ρ a.toList b.toList M.toList)
  ?st0 ?fi0 ⟨.refl _,#[y0],0,1,_,rfl,L0,by simp at c2;lia,by simp at c1;lia,by simp⟩) ?po0
 case st0 =>
  rintro k z st1-hkn ⟨S1,out,i,j,mg,rfl,L,hi,hj,ho⟩
  dsimp only
  refine AG (EE (CC (I:=λk1 z st'=>Sm st st'/\∃out' i j ac bc,z=(none,out',i,j,ac,bc)/\Lo ρ a.toList b.toList out'.toList i j/\i+1<a.size/\j<b.size/\out.size+k1<=out'.size)
   (Q:=λz st'=>Sm st st'/\((∃M y,z=(some M,y)/\Mg ρ a.toList b.toList M.toList)\/∃out' i j ac bc,z=(none,out',i,j,ac,bc)/\Lo ρ a.toList b.toList out'.toList i j/\i+1<a.size/\j<b.size/\out.size+1<=out'.size))
   ?st1 (λz st2 ⟨S2,out1,i1,j1,ac,bc,ez,L1,hi1,hj1,ho1⟩=>⟨S2,.inr ⟨out1,i1,j1,ac,bc,ez,L1,hi1,hj1,by lia⟩⟩) ⟨S1,out,i,j,_,_,rfl,L,hi,hj,by lia⟩) ?po1)
  case st1 =>
   rintro k1 z st2-hkn1 ⟨S2,out1,i1,j1,ac,bc,rfl,L1,hi1,hj1,ho1⟩
   dsimp only
   obtain⟨y,hy,hy',my⟩:=l8 hj1
   obtain⟨x,hx,hx',mx⟩:=l8 (show i1<a.size by lia)
   refine AG (bp hy (AG (bp hx (AG (Cu hC (hb y my) (ha x mx) (S2.kind.trans hk) ?_)))))
   dsimp only
   by_cases c:ρ y<ρ x
   ·rw[if_pos (decide_eq_true c)]
    refine AG (bp hy ?_)
    have L2:Lo ρ a.toList b.toList (out1.push y).toList i1 (j1+1):=by
     rw[ET]
     exact L1.b1 hy' λz hz=>BA (CN c) (rn sa hx' z hz)
    by_cases e:(j1+1==b.size)=true
    ·rw[if_pos e]
     exact AJ ⟨S2,.inl ⟨_,_,rfl,dB L2 (by simpa using e)⟩⟩
    rw[if_neg e]
    have hj2:j1+1<b.size:=by simp at e;lia
    have ho2:out.size+(k1+1)<=(out1.push y).size:=by simp;lia
    by_cases g:bc+1≥mg
    ·rw[if_pos g]
     exact AJ ⟨S2,.inr ⟨_,_,_,_,_,rfl,L2,hi1,hj2,by lia⟩⟩
    ·rw[if_neg g]
     exact AJ ⟨S2,_,_,_,_,_,rfl,L2,hi1,hj2,ho2⟩
   ·rw[if_neg (by simpa using c)]
    refine AG (bp hx ?_)
    have L2:Lo ρ a.toList b.toList (out1.push x).toList (i1+1) j1:=by
     rw[ET]
     exact L1.a1 hx' λz hz=>BA (GX c) (rn sb hy' z hz)
    by_cases e:(i1+1+1==a.size)=true
    ·rw[if_pos e]
     exact AJ ⟨S2,.inl ⟨_,_,rfl,dL L2 (by simpa using e)⟩⟩
    rw[if_neg e]
    have hi2:i1+1+1<a.size:=by simp at e;lia
    have ho2:out.size+(k1+1)<=(out1.push x).size:=by simp;lia
    by_cases g:ac+1≥mg
    ·rw[if_pos g]
     exact AJ ⟨S2,.inr ⟨_,_,_,_,_,rfl,L2,hi2,hj1,by lia⟩⟩
    ·rw[if_neg g]
     exact AJ ⟨S2,_,_,_,_,_,rfl,L2,hi2,hj1,ho2⟩
  case po1 =>
   rintro z st2 ⟨S2,⟨M,y,rfl,hM⟩ | ⟨out1,i1,j1,ac,bc,rfl,L1,hi1,hj1,ho1⟩⟩
   ·exact AJ ⟨S2,_,_,rfl,hM⟩
   dsimp only
   refine AG (HB (EJ ⟨rfl,?_⟩))
   refine AG (EE (CC (I:=λk1 z st'=>Sm st st'/\∃out' i j mg ac bc,z=(none,out',i,j,mg,ac,bc)/\Lo ρ a.toList b.toList out'.toList i j/\i+1<a.size/\j<b.size/\out.size+1<=out'.size)
    (Q:=λz st'=>Sm st st'/\((∃M y,z=(some M,y)/\Mg ρ a.toList b.toList M.toList)\/∃out' i j mg ac bc,z=(none,out',i,j,mg,ac,bc)/\Lo ρ a.toList b.toList out'.toList i j/\i+1<a.size/\j<b.size/\out.size+1<=out'.size))
    ?st2 (λz st3 hz=>⟨hz.1,.inr hz.2⟩) ⟨S2,out1,i1,j1,_,_,_,rfl,L1,hi1,hj1,ho1⟩) ?po2)
   case st2 =>
    rintro k2 z st3-hkn2 ⟨S3,out2,i2,j2,mg2,ac2,bc2,rfl,L2,hi2,hj2,ho2⟩
    dsimp only
    obtain⟨y,hy,hy',my⟩:=l8 hj2
    by_cases cm:mg2 > 1
    case' pos=>rw[if_pos cm]
    case' neg=>rw[if_neg cm]
    all_goals
     refine AG (DZ (AG (bp hy (AG ?_))))
     refine nu hC (S3.kind.trans hk) (hb y my) ha sa (by lia) (by lia) λk hkn low high=>?_
     dsimp only
     simp![BB,if_false]at low high
     have high':∀x∈a.toList.drop (i2+k),ρ y<ρ x:=λx hx=>high x (by rw[BP (by simp;lia)];exact hx)
     have L3:Lo ρ a.toList b.toList (out2++a.extract i2 (i2+k)).toList (i2+k) j2:=by
      rw[BK,wm]
      exact L2.pushA λx hx z hz=>BA (low x hx) (rn sb hy' z hz)
     by_cases k0:k > 0
     case' pos =>
      rw[if_pos k0]
      by_cases e1:(i2+k+1==a.size)=true
      ·rw[if_pos e1]
       exact AJ ⟨⟨S3.kind,S3.arr,S3.pend,S3.fail⟩,.inl ⟨_,_,rfl,dL L3 (by simpa using e1)⟩⟩
      rw[if_neg e1]
      by_cases e2:(i2+k==a.size)=true
      ·rw[if_pos e2]
       exact AJ ⟨⟨S3.kind,S3.arr,S3.pend,S3.fail⟩,.inl ⟨_,_,rfl,dA L3 (by simpa using e2)⟩⟩
      rw[if_neg e2]
      have hi3:i2+k+1<a.size:=by simp at e1 e2;lia
      have ho3:out.size+1<=(out2++a.extract i2 (i2+k)).size:=by simp;lia
      generalize out2++a.extract i2 (i2+k)=out3 at *
      generalize i2+k=i3 at *
     case' neg =>
      rw[if_neg k0]
      have e0:k=0:=by lia
      have hi3:i2+1<a.size:=hi2
      have L3':Lo ρ a.toList b.toList out2.toList i2 j2:=L2
      have ho3:out.size+1<=out2.size:=ho2
      have high2:∀x∈a.toList.drop i2,ρ y<ρ x:=by rw[e0]at high';exact high'
      clear L3 high' high low
      have L3:=L3'
      have high':=high2
      generalize out2=out3 at *
      generalize i2=i3 at *
     all_goals
      refine AG (bp hy ?_)
      have L4:Lo ρ a.toList b.toList (out3.push y).toList i3 (j2+1):=by
       rw[ET]
       exact L3.b1 hy' λz hz=>CN (high' z hz)
      by_cases e3:(j2+1==b.size)=true
      ·rw[if_pos e3]
       exact AJ ⟨⟨S3.kind,S3.arr,S3.pend,S3.fail⟩,.inl ⟨_,_,rfl,dB L4 (by simpa using e3)⟩⟩
      rw[if_neg e3]
      have hj3:j2+1<b.size:=by simp at e3;lia
      obtain⟨x,hx,hx',mx⟩:=l8 (show i3<a.size by lia)
      refine AG (bp hx (AG ?_))
      refine nu hC (S3.kind.trans hk) (ha x mx) hb sb (by lia) (by lia) λk1 hkn1 low1 high1=>?_
      dsimp only
      simp![if_true]at low1 high1
      have high1':∀z∈b.toList.drop (j2+1+k1),ρ x<=ρ z:=λz hz=>high1 z (by rw[BP (by simp;lia)];exact hz)
      have L5:Lo ρ a.toList b.toList (out3.push y++b.extract (j2+1) (j2+1+k1)).toList i3 (j2+1+k1):=by
       rw[BK,wm]
       exact L4.pushB λz hz z' hz'=>BA (CN (low1 z hz)) (rn sa hx' z' hz')
      have ho4:out.size+1<=(out3.push y).size:=by simp;lia
      by_cases k10:k1 > 0
      case' pos =>
       rw[if_pos k10]
       by_cases e4:(j2+1+k1==b.size)=true
       ·rw[if_pos e4]
        exact AJ ⟨⟨S3.kind,S3.arr,S3.pend,S3.fail⟩,.inl ⟨_,_,rfl,dB L5 (by simpa using e4)⟩⟩
       rw[if_neg e4]
       have hj4:j2+1+k1<b.size:=by simp at e4;lia
       have ho5:out.size+1<=(out3.push y++b.extract (j2+1) (j2+1+k1)).size:=by simp;lia
       generalize out3.push y++b.extract (j2+1) (j2+1+k1)=out4 at *
       generalize j2+1+k1=j4 at *
      case' neg =>
       rw[if_neg k10]
       have e0:k1=0:=by lia
       have hj4:j2+1<b.size:=hj3
       have high2:∀z∈b.toList.drop (j2+1),ρ x<=ρ z:=by rw[e0]at high1';exact high1'
       clear L5 high1' high1 low1
       have ho5:=ho4
       have L5:=L4
       have high1':=high2
       generalize out3.push y=out4 at *
       generalize j2+1=j4 at *
      all_goals
       refine AG (bp hx ?_)
       have L6:Lo ρ a.toList b.toList (out4.push x).toList (i3+1) j4:=by
        rw[ET]
        exact L5.a1 hx' high1'
       have ho6:out.size+1<=(out4.push x).size:=by simp;lia
       by_cases e5:(i3+1+1==a.size)=true
       ·rw[if_pos e5]
        exact AJ ⟨⟨S3.kind,S3.arr,S3.pend,S3.fail⟩,.inl ⟨_,_,rfl,dL L6 (by simpa using e5)⟩⟩
       rw[if_neg e5]
       have hi6:i3+1+1<a.size:=by simp at e5;lia
       split
       ·exact AJ ⟨⟨S3.kind,S3.arr,S3.pend,S3.fail⟩,.inr ⟨_,_,_,_,_,_,rfl,L6,hi6,hj4,ho6⟩⟩
       ·exact AJ ⟨⟨S3.kind,S3.arr,S3.pend,S3.fail⟩,_,_,_,_,_,_,rfl,L6,hi6,hj4,ho6⟩
   case po2 =>
    rintro z st3 ⟨S3,⟨M,y,rfl,hM⟩ | ⟨out2,i2,j2,mg2,ac2,bc2,rfl,L2,hi2,hj2,ho2⟩⟩
    ·exact AJ ⟨S3,_,_,rfl,hM⟩
    ·dsimp only
     refine AG (DZ (AJ ⟨⟨S3.kind,S3.arr,S3.pend,S3.fail⟩,_,_,_,_,rfl,L2,hi2,hj2,by lia⟩))
 case fi0 =>
  rintro z st1 ⟨S1,out,i,j,mg,rfl,L,hi,hj,ho⟩
  exfalso
  have:=L.len (by lia) (by lia)
  simp at this
  lia
 case po0 =>
  rintro z st1 ⟨S1,M,y,rfl,hM⟩
  exact AJ (h M _ hM S1)
end
theorem nv (o:Array Keyed) (x:Keyed):(o.push x).toList.reverse=x::o.toList.reverse:=by simp
theorem Cw (o m:Array Keyed):(o++m.reverse).toList.reverse=m.toList++o.toList.reverse:=by simp
section
variable {prog : Program} {w : World} {A : Around} {E : Value -> Shared -> Prop} {s : Shared} {a₀ : List Keyed} {ρ : Keyed -> Nat} {κ : SortKind}
theorem Tr {a b:Array Keyed} {st:SortSt} {Q:Array Keyed->SortSt->Prop} (hC:Cmp prog w A s a₀ ρ κ) (hk:kindOf st=κ) (ha:∀x∈a.toList,x∈a₀) (hb:∀x∈b.toList,x∈a₀) (sa:Srt ρ a.toList) (sb:Srt ρ b.toList) (la:0<a.size) (lb:0<b.size)
  (hf:∀y,b[0]? = some y->∀z∈a.toList,ρ y<=ρ z) (hl:∀x∈b.toList,∀z∈a.toList.drop (a.size-1),ρ x<=ρ z) (h:∀M st',Mg ρ a.toList b.toList M.toList->Sm st st'->Q M st'):wpS (model prog w) A E s (y4 a b) Q st:=by
 unfold y4
 refine AG (HB (EJ ⟨rfl,?_⟩))
 obtain⟨x0,hx0,hx0',mx0⟩:=l8 (a:=a) (i:=a.size-1) (by lia)
 refine AG (bp hx0 ?_)
 dsimp only
 have sizeA:a.toList.length=a.size:=by simp
 have sizeB:b.toList.length=b.size:=by simp
 have L0:Hi ρ a.toList b.toList [x0] (a.size-1) b.size:=by
  have:Hi ρ a.toList b.toList [] a.size b.size:=by
   refine⟨?_,?_,?_⟩
   ·rw[DD (by lia),DD (by lia)];simp
   ·rw[BP (by lia)];simpa using sa
   ·rw[BP (by lia)];simpa using sb
  exact this.a1 la hx0' λz hz=>hl z (DW hz) x0 (by rw[iq hx0'];simp)
 have dA:∀{out:Array Keyed} {i j:Nat},Hi ρ a.toList b.toList out.toList.reverse i j->i=0->Mg ρ a.toList b.toList (a.extract 0 i++b.extract 0 j++out.reverse).toList:=λ{out i j} L e=>by
  rw[BK,BK,jt,jt,FT]
  exact L.doneA e
 have dB:∀{out:Array Keyed} {i j:Nat},Hi ρ a.toList b.toList out.toList.reverse i j->j=0->Mg ρ a.toList b.toList (a.extract 0 i++b.extract 0 j++out.reverse).toList:=λ{out i j} L e=>by
  rw[BK,BK,jt,jt,FT]
  exact L.doneB e
 have dF:∀{out:Array Keyed} {i j:Nat},Hi ρ a.toList b.toList out.toList.reverse i j->j=1->Mg ρ a.toList b.toList (b.extract 0 j++a.extract 0 i++out.reverse).toList:=λ{out i j} L e=>by
  rw[BK,BK,jt,jt,FT]
  refine L.firstB λx hx z hz=>?_
  obtain⟨m,hm,q⟩:=ir hz
  rw[BL,show m=0 by lia]at q
  exact hf z q x hx
 by_cases c1:(a.size-1==0)=true
 ·rw[if_pos c1]
  exact AJ (h _ _ (dA (out:=#[x0]) L0 (by simpa using c1)) (.refl _))
 rw[if_neg c1]
 by_cases c2:(b.size==1)=true
 ·rw[if_pos c2]
  exact AJ (h _ _ (dF (out:=#[x0]) L0 (by simpa using c2)) (.refl _))
 rw[if_neg c2]
 refine AG (FP (AG ?_))
 refine EE (CC (I:=λk z st'=>Sm st st'/\∃i j out mg,z=(none,i,j,out,mg)/\Hi ρ a.toList b.toList out.toList.reverse i j/\0<i/\i<=a.size/\1<j/\j<=b.size/\k+1<=out.size)
  (Q:=λz st'=>Sm st st'/\∃M y,z=(some M,y)/\Mg ρ a.toList b.toList M.toList)
  ?st0 ?fi0 ⟨.refl _,_,_,#[x0],_,rfl,L0,by simp at c1;lia,by lia,by simp at c2;lia,by lia,by simp⟩) ?po0
 case st0 =>
  rintro k z st1-hkn ⟨S1,i,j,out,mg,rfl,L,hi,hi',hj,hj',ho⟩
  dsimp only
  refine AG (EE (CC (I:=λk1 z st'=>Sm st st'/\∃i j out' ac bc,z=(none,i,j,out',ac,bc)/\Hi ρ a.toList b.toList out'.toList.reverse i j/\0<i/\i<=a.size/\1<j/\j<=b.size/\out.size+k1<=out'.size)
   (Q:=λz st'=>Sm st st'/\((∃M y,z=(some M,y)/\Mg ρ a.toList b.toList M.toList)\/∃i j out' ac bc,z=(none,i,j,out',ac,bc)/\Hi ρ a.toList b.toList out'.toList.reverse i j/\0<i/\i<=a.size/\1<j/\j<=b.size/\out.size+1<=out'.size))
   ?st1 (λz st2 ⟨S2,i1,j1,out1,ac,bc,ez,L1,hi1,hi1',hj1,hj1',ho1⟩=>⟨S2,.inr ⟨i1,j1,out1,ac,bc,ez,L1,hi1,hi1',hj1,hj1',by lia⟩⟩) ⟨S1,i,j,out,_,_,rfl,L,hi,hi',hj,hj',by lia⟩) ?po1)
  case st1 =>
   rintro k1 z st2-hkn1 ⟨S2,i1,j1,out1,ac,bc,rfl,L1,hi1,hi1',hj1,hj1',ho1⟩
   dsimp only
   obtain⟨y,hy,hy',my⟩:=l8 (a:=b) (i:=j1-1) (by lia)
   obtain⟨x,hx,hx',mx⟩:=l8 (a:=a) (i:=i1-1) (by lia)
   refine AG (bp hy (AG (bp hx (AG (Cu hC (hb y my) (ha x mx) (S2.kind.trans hk) ?_)))))
   dsimp only
   by_cases c:ρ y<ρ x
   ·rw[if_pos (decide_eq_true c)]
    refine AG (bp hx ?_)
    have L2:Hi ρ a.toList b.toList (out1.push x).toList.reverse (i1-1) j1:=by
     rw[nv]
     exact L1.a1 hi1 hx' λz hz=>BA (rp sb hy' z hz) (CN c)
    by_cases e:(i1-1==0)=true
    ·rw[if_pos e]
     exact AJ ⟨S2,.inl ⟨_,_,rfl,dA L2 (by simpa using e)⟩⟩
    rw[if_neg e]
    have hi2:0<i1-1:=by simp at e;lia
    have ho2:out.size+(k1+1)<=(out1.push x).size:=by simp;lia
    by_cases g:ac+1≥mg
    ·rw[if_pos g]
     exact AJ ⟨S2,.inr ⟨_,_,_,_,_,rfl,L2,hi2,by lia,hj1,hj1',by lia⟩⟩
    ·rw[if_neg g]
     exact AJ ⟨S2,_,_,_,_,_,rfl,L2,hi2,by lia,hj1,hj1',ho2⟩
   ·rw[if_neg (by simpa using c)]
    refine AG (bp hy ?_)
    have L2:Hi ρ a.toList b.toList (out1.push y).toList.reverse i1 (j1-1):=by
     rw[nv]
     exact L1.b1 (by lia) hy' λz hz=>BA (rp sa hx' z hz) (GX c)
    by_cases e:(j1-1==1)=true
    ·rw[if_pos e]
     exact AJ ⟨S2,.inl ⟨_,_,rfl,dF L2 (by simpa using e)⟩⟩
    rw[if_neg e]
    have hj2:1<j1-1:=by simp at e;lia
    have ho2:out.size+(k1+1)<=(out1.push y).size:=by simp;lia
    by_cases g:bc+1≥mg
    ·rw[if_pos g]
     exact AJ ⟨S2,.inr ⟨_,_,_,_,_,rfl,L2,hi1,hi1',hj2,by lia,by lia⟩⟩
    ·rw[if_neg g]
     exact AJ ⟨S2,_,_,_,_,_,rfl,L2,hi1,hi1',hj2,by lia,ho2⟩
  case po1 =>
   rintro z st2 ⟨S2,⟨M,y,rfl,hM⟩ | ⟨i1,j1,out1,ac,bc,rfl,L1,hi1,hi1',hj1,hj1',ho1⟩⟩
   ·exact AJ ⟨S2,_,_,rfl,hM⟩
   dsimp only
   refine AG (HB (EJ ⟨rfl,?_⟩))
   refine AG (EE (CC (I:=λk1 z st'=>Sm st st'/\∃i j out' mg ac bc,z=(none,i,j,out',mg,ac,bc)/\Hi ρ a.toList b.toList out'.toList.reverse i j/\0<i/\i<=a.size/\1<j/\j<=b.size/\out.size+1<=out'.size)
    (Q:=λz st'=>Sm st st'/\((∃M y,z=(some M,y)/\Mg ρ a.toList b.toList M.toList)\/∃i j out' mg ac bc,z=(none,i,j,out',mg,ac,bc)/\Hi ρ a.toList b.toList out'.toList.reverse i j/\0<i/\i<=a.size/\1<j/\j<=b.size/\out.size+1<=out'.size))
    ?st2 (λz st3 hz=>⟨hz.1,.inr hz.2⟩) ⟨S2,i1,j1,out1,_,_,_,rfl,L1,hi1,hi1',hj1,hj1',ho1⟩) ?po2)
   case st2 =>
    rintro k2 z st3-hkn2 ⟨S3,i2,j2,out2,mg2,ac2,bc2,rfl,L2,hi2,hi2',hj2,hj2',ho2⟩
    dsimp only
    obtain⟨y,hy,hy',my⟩:=l8 (a:=b) (i:=j2-1) (by lia)
    by_cases cm:mg2 > 1
    case' pos=>rw[if_pos cm]
    case' neg=>rw[if_neg cm]
    all_goals
     refine AG (DZ (AG (bp hy (AG ?_))))
     refine nu hC (S3.kind.trans hk) (hb y my) ha sa (by lia) (by lia) λi3 hkn low high=>?_
     dsimp only
     simp![BB,if_false,FK,ED]at low high
     have L3:Hi ρ a.toList b.toList (out2++(a.extract i3 i2).reverse).toList.reverse i3 j2:=by
      rw[Cw,rm]
      exact L2.pullA hkn λx hx z hz=>BA (rp sb hy' z hz) (CN (high x hx))
     by_cases k0:i2-i3 > 0
     case' pos =>
      rw[if_pos k0]
      by_cases e1:(i3==0)=true
      ·rw[if_pos e1]
       exact AJ ⟨⟨S3.kind,S3.arr,S3.pend,S3.fail⟩,.inl ⟨_,_,rfl,dA L3 (by simpa using e1)⟩⟩
      rw[if_neg e1]
      have hi3:0<i3:=by simp at e1;lia
      have ho3:out.size+1<=(out2++(a.extract i3 i2).reverse).size:=by simp;lia
      generalize out2++(a.extract i3 i2).reverse=out3 at *
     case' neg =>
      rw[if_neg k0]
      have e0:i3=i2:=by lia
      subst e0
      have hi3:0<i3:=hi2
      have ho3:=ho2
      clear L3
      have L3:=L2
      generalize out2=out3 at *
     all_goals
      refine AG (bp hy ?_)
      have L4:Hi ρ a.toList b.toList (out3.push y).toList.reverse i3 (j2-1):=by
       rw[nv]
       exact L3.b1 (by lia) hy' low
      by_cases e3:(j2-1==1)=true
      ·rw[if_pos e3]
       exact AJ ⟨⟨S3.kind,S3.arr,S3.pend,S3.fail⟩,.inl ⟨_,_,rfl,dF L4 (by simpa using e3)⟩⟩
      rw[if_neg e3]
      have hj3:1<j2-1:=by simp at e3;lia
      have ho4:out.size+1<=(out3.push y).size:=by simp;lia
      obtain⟨x,hx,hx',mx⟩:=l8 (a:=a) (i:=i3-1) (by lia)
      refine AG (bp hx (AG ?_))
      refine nu hC (S3.kind.trans hk) (ha x mx) hb sb (by lia) (by lia) λj4 hkn1 low1 high1=>?_
      dsimp only
      simp![if_true,FK,ED]at low1 high1
      have L5:Hi ρ a.toList b.toList (out3.push y++(b.extract j4 (j2-1)).reverse).toList.reverse i3 j4:=by
       rw[Cw,rm]
       exact L4.pullB hkn1 λz hz z' hz'=>BA (rp sa hx' z' hz') (high1 z hz)
      by_cases k10:j2-1-j4 > 0
      case' pos =>
       rw[if_pos k10]
       by_cases e4:(j4==1)=true
       ·rw[if_pos e4]
        exact AJ ⟨⟨S3.kind,S3.arr,S3.pend,S3.fail⟩,.inl ⟨_,_,rfl,dF L5 (by simpa using e4)⟩⟩
       rw[if_neg e4]
       by_cases e5:(j4==0)=true
       ·rw[if_pos e5]
        exact AJ ⟨⟨S3.kind,S3.arr,S3.pend,S3.fail⟩,.inl ⟨_,_,rfl,dB L5 (by simpa using e5)⟩⟩
       rw[if_neg e5]
       have hj4:1<j4:=by simp at e4 e5;lia
       have ho5:out.size+1<=(out3.push y++(b.extract j4 (j2-1)).reverse).size:=by simp;lia
       generalize out3.push y++(b.extract j4 (j2-1)).reverse=out4 at *
      case' neg =>
       rw[if_neg k10]
       have e0:j4=j2-1:=by lia
       have hj4:1<j4:=by lia
       clear L5
       have ho5:=ho4
       have L5:=L4
       rw[<-e0]at L5 ⊢
       generalize out3.push y=out4 at *
      all_goals
       refine AG (bp hx ?_)
       have L6:Hi ρ a.toList b.toList (out4.push x).toList.reverse (i3-1) j4:=by
        rw[nv]
        exact L5.a1 hi3 hx' λz hz=>CN (low1 z hz)
       have ho6:out.size+1<=(out4.push x).size:=by simp;lia
       by_cases e5:(i3-1==0)=true
       ·rw[if_pos e5]
        exact AJ ⟨⟨S3.kind,S3.arr,S3.pend,S3.fail⟩,.inl ⟨_,_,rfl,dA L6 (by simpa using e5)⟩⟩
       rw[if_neg e5]
       have hi6:0<i3-1:=by simp at e5;lia
       split
       ·exact AJ ⟨⟨S3.kind,S3.arr,S3.pend,S3.fail⟩,.inr ⟨_,_,_,_,_,_,rfl,L6,hi6,by lia,hj4,by lia,ho6⟩⟩
       ·exact AJ ⟨⟨S3.kind,S3.arr,S3.pend,S3.fail⟩,_,_,_,_,_,_,rfl,L6,hi6,by lia,hj4,by lia,ho6⟩
   case po2 =>
    rintro z st3 ⟨S3,⟨M,y,rfl,hM⟩ | ⟨i2,j2,out2,mg2,ac2,bc2,rfl,L2,hi2,hi2',hj2,hj2',ho2⟩⟩
    ·exact AJ ⟨S3,_,_,rfl,hM⟩
    ·dsimp only
     refine AG (DZ (AJ ⟨⟨S3.kind,S3.arr,S3.pend,S3.fail⟩,_,_,_,_,rfl,L2,hi2,hi2',hj2,hj2',by lia⟩))
 case fi0 =>
  rintro z st1 ⟨S1,i,j,out,mg,rfl,L,hi,hi',hj,hj',ho⟩
  exfalso
  have:=L.perm.length_eq
  simp at this
  lia
 case po0 =>
  rintro z st1 ⟨S1,M,y,rfl,hM⟩
  exact AJ (h M _ hM S1)
end
theorem wo {α:Type} {P X T:List α} {i:Nat} (h:i<X.length):(P++X++T)[P.length+i]? = X[i]?:=by
 rw[AC,BH (by lia),Nat.add_sub_cancel_left,AN h]
theorem Cy {α:Type}:∀(M:List α) (xs:Array α) (p o:Nat),p+o+M.length<=xs.size ->
  ((M.zipIdx o).foldl (λa x=>a.setIfInBounds (p+x.2) x.1) xs).toList=xs.toList.take (p+o)++M++xs.toList.drop (p+o+M.length)
 | [],xs,p,o,h=>by simp
 | x::M,xs,p,o,h=>by
  rw[List.zipIdx_cons,List.foldl_cons,Cy M _ p (o+1) (by simp at h ⊢;lia)]
  simp![BC]at h
  have hp:p+o<xs.toList.length:=by simp;lia
  rw[Array.toList_setIfInBounds]
  apply DC
  intro t
  simp![BC]
  by_cases h1:t<p+o
  ·rw[AC,AC,AN (by simp;lia),AN (by simp;lia),BY (by lia),BY h1,CG (by lia)]
  ·rw[AC,AC,BH (l₁:=xs.toList.take (p+o)) (by simp;lia)]
   by_cases h2:t=p+o
   ·subst h2
    rw[AN (by simp;lia),BY (by lia),DA hp,BJ,show p+o-min (p+o) xs.toList.length=0 by lia]
    rfl
   ·rw[BH (by simp;lia)]
    rw[BJ,BJ,List.length_set,show min (p+(o+1)) xs.toList.length=p+o+1 by lia,show min (p+o) xs.toList.length=p+o by lia]
    obtain⟨u,rfl⟩:∃u,t=p+o+1+u:=⟨t-(p+o+1),by lia⟩
    rw[show p+o+1+u-(p+o+1)=u by lia,show p+o+1+u-(p+o)=u+1 by lia,FM,FH]
    by_cases h3:u<M.length
    ·rw[AN h3,AN h3]
    ·rw[BH (by lia),BH (by lia),GJ,GJ,CG (by lia)]
     congr 1
     lia
section
variable {prog : Program} {w : World} {A : Around} {E : Value -> Shared -> Prop} {s : Shared} {a₀ : List Keyed} {ρ : Keyed -> Nat} {κ : SortKind}
theorem Cz {left:Bool} {key:Keyed} {arr:Array Keyed} {P X T:List Keyed} {base n hint:Nat} {st:SortSt} {Q:Option Nat->SortSt->Prop} (hC:Cmp prog w A s a₀ ρ κ) (hk:kindOf st=κ) (hkey:key∈a₀) (hL:arr.toList=P++X++T) (hb:base=P.length) (hn:n=X.length) (ha:∀x∈X,x∈a₀) (sx:Srt ρ X) (hh:hint<n)
  (h:∀m,m<=n->(∀x∈X.take m,if left=true then ρ x<ρ key else ρ x<=ρ key)->(∀x∈X.drop m,if left=true then ρ key<=ρ x else ρ key<ρ x)->Q (some m) st) :
  wpS (model prog w) A E s (o8 left key arr base n hint) Q st:=by
 subst hb hn
 have at_:∀i,i<X.length->arr[P.length+i]? = X[i]?:=λi hi=>by rw[<-BL,hL,wo hi]
 refine Hx hC hk hkey (λi hi=>?_) (λi j x y hij hj hx hy=>?_) hh λm m1 m2 m3=>h m m1 (λx hx=>?_) λx hx=>?_
 ·exact⟨X[i],by rw[at_ i hi];simp[hi],ha _ (EC hi)⟩
 ·rw[at_ i (by lia)]at hx
  rw[at_ j hj]at hy
  exact km sx hx hy hij
 ·obtain⟨j,hj,e⟩:=ir hx
  exact m2 j x hj (by rw[at_ j (by lia)];exact e)
 ·obtain⟨j,hj,e⟩:=o7 hx
  have hl:=(AI.mp e).1
  exact m3 j x hj hl (by rw[at_ j hl];exact e)
theorem Lu {σ:Type} {M:Model} {x st:σ} {Q:PUnit->σ->Prop} (h:Q ⟨⟩ x):wpS M A E s (set x:StateT σ Sem PUnit) Q st:=by
 unfold wpS;rw[StateT.run_set];exact AM ⟨rfl,h⟩
theorem Lv {X Y M:List Keyed} {k n:Nat} {x y:Keyed} (sx:Srt ρ X) (sy:Srt ρ Y) (h0:Y[0]? = some y) (hl:X[X.length-1]? = some x) (low:∀z∈X.take k,ρ z<=ρ y) (high:∀z∈Y.drop n,ρ x<=ρ z) (hM:Mg ρ (X.drop k) (Y.take n) M) :
  (X.take k++M++Y.drop n).Perm (X++Y)/\Srt ρ (X.take k++M++Y.drop n):=by
 have ex:X.take k++X.drop k=X:=BQ k X
 have ey:Y.take n++Y.drop n=Y:=BQ n Y
 have sx':=sx
 have sy':=sy
 rw[<-ex]at sx'
 rw[<-ey]at sy'
 rw[ip]at sx' sy'
 have leX:∀z∈X,ρ z<=ρ x:=λz hz=>by
  obtain⟨j,hj,e⟩:=CH.mp hz
  exact km sx (show X[j]? = some z by rw[AA hj,e]) hl (by lia)
 have leY:∀z∈Y,ρ y<=ρ z:=λz hz=>by
  obtain⟨j,hj,e⟩:=CH.mp hz
  exact km sy h0 (show Y[j]? = some z by rw[AA hj,e]) (EF _)
 constructor
 ·have:=(AZ (X.take k) hM.1).append_right (Y.drop n)
  refine this.trans ?_
  rw[<-AC,ex,AC,ey]
 ·rw[AC,ip]
  refine⟨sx'.1,ip.mpr ⟨hM.2,sy'.2.1,λz hz u hu=>?_⟩,λz hz u hu=>?_⟩
  ·rcases BX.mp (hM.1.mem_iff.mp hz)with q | q
   ·exact BA (leX z (DV q)) (high u hu)
   ·exact sy'.2.2 z q u hu
  ·rcases BX.mp hu with q | q
   ·rcases BX.mp (hM.1.mem_iff.mp q)with q | q
    ·exact sx'.2.2 z hz u q
    ·exact BA (low z hz) (leY u (DW q))
   ·exact BA (low z hz) (leY u (DV q))
theorem F7 {i:Nat} {st:SortSt} {Q:Bool->SortSt->Prop} {P X Y T:List Keyed} {pw pw':Nat} (hC:Cmp prog w A s a₀ ρ κ) (hk:kindOf st=κ) (hfail:failedOf st=none) (hL:(arrOf st).toList=P++X++Y++T) (hin:∀x∈(arrOf st).toList,x∈a₀)
  (p1:(pendingOf st)[i]? = some (P.length,X.length,pw)) (p2:(pendingOf st)[i+1]? = some (P.length+X.length,Y.length,pw')) (hx:0<X.length) (hy:0<Y.length) (sx:Srt ρ X) (sy:Srt ρ Y)
  (h:∀M st',M.Perm (X++Y)->Srt ρ M->(arrOf st').toList=P++M++T->kindOf st'=κ->failedOf st'=none->pendingOf st'=((pendingOf st).setIfInBounds i (P.length,X.length+Y.length,pw)).eraseIdxIfInBounds (i+1)->Q true st') :
  wpS (model prog w) A E s (mergeAt' i) Q st:=by
 unfold mergeAt'
 refine AG (FP ?_)
 rw[p1,p2]
 dsimp only
 refine AG (Lu ?_)
 have hX:∀x∈X,x∈a₀:=λx q=>hin x (by rw[hL];simp[q])
 have hY:∀x∈Y,x∈a₀:=λx q=>hin x (by rw[hL];simp[q])
 have hL2:(arrOf st).toList=(P++X)++Y++T:=hL
 have hL1:(arrOf st).toList=P++X++(Y++T):=by rw[hL,AC]
 obtain⟨y,hy0⟩:∃y,Y[0]? = some y:=⟨Y[0],by simp⟩
 obtain⟨x,hx0⟩:∃x,X[X.length-1]? = some x:=⟨X[X.length-1],by simp⟩
 have my:=CK hy0
 have mx:=CK hx0
 have ey:(arrOf st)[P.length+X.length]? = some y:=by
  have:=wo (P:=P++X) (X:=Y) (T:=T) hy
  rw[<-hL2,AO,Nat.add_zero,BL]at this
  rw[this,hy0]
 refine AG (bp ey (AG ?_))
 refine Cz (P:=P) (X:=X) (T:=Y++T) hC hk (hY y my) hL1 rfl rfl hX sx hx λk hk1 low high=>?_
 dsimp only
 simp![BB,if_false]at low high
 by_cases c1:(X.length-k==0)=true
 ·rw[if_pos c1]
  have e:X.take k=X:=BP (by simp at c1;lia)
  rw[e]at low
  refine AJ (h (X++Y) _ (.refl _) (ip.mpr ⟨sx,sy,λz hz u hu=>?_⟩) (by rw[<-AC];exact hL) hk hfail rfl)
  obtain⟨j,hj,e⟩:=CH.mp hu
  exact BA (low z hz) (km sy hy0 (show Y[j]? = some u by rw[AA hj,e]) (EF _))
 rw[if_neg c1]
 have hk2:k<X.length:=by simp at c1;lia
 have ex:(arrOf st)[P.length+k+(X.length-k)-1]? = some x:=by
  have:=wo (P:=P) (X:=X) (T:=Y++T) (i:=X.length-1) (by lia)
  rw[<-hL1,BL]at this
  rw[show P.length+k+(X.length-k)-1=P.length+(X.length-1)by lia,this,hx0]
 refine AG (bp ex (AG ?_))
 refine Cz (P:=P++X) (X:=Y) (T:=T) hC hk (hX x mx) hL2 (by simp) rfl hY sy (by lia) λn hn low2 high2=>?_
 dsimp only
 simp![if_true]at low2 high2
 have e1:((arrOf st).extract (P.length+k) (P.length+X.length)).toList=X.drop k:=by
  rw[rm,hL1,AC,HC,DD (by lia),DS,show P.length+k-P.length=k by lia,FU (by lia),EG (by simp;lia),BP (by simp;lia)]
 have e2:((arrOf st).extract (P.length+X.length) (P.length+X.length+n)).toList=Y.take n:=by
  rw[wm,hL2,AC,HC,DD (by simp),DS,show P.length+X.length-(P++X).length=0 by simp,ED,EG hn]
 by_cases c2:(n==0)=true
 ·rw[if_pos c2]
  have e:n=0:=by simpa using c2
  subst e
  refine AJ (h (X++Y) _ (.refl _) (ip.mpr ⟨sx,sy,λz hz u hu=>?_⟩) (by rw[<-AC];exact hL) hk hfail rfl)
  obtain⟨j,hj,e⟩:=CH.mp hz
  exact BA (km sx (show X[j]? = some z by rw[AA hj,e]) hx0 (by lia)) (high2 u (by simpa using hu))
 rw[if_neg c2]
 have hn0:0<n:=by simp at c2;lia
 have fin:∀(M:Array Keyed) (st1:SortSt),Mg ρ (X.drop k) (Y.take n) M.toList->arrOf st1=arrOf st->kindOf st1=κ->failedOf st1=none->pendingOf st1=((pendingOf st).setIfInBounds i (P.length,X.length+Y.length,pw)).eraseIdxIfInBounds (i+1) ->
   Q (failedOf (SortSt.mk' (kindOf st1) (List.foldl (λa x=>a.setIfInBounds (P.length+k+x.2) x.1) (arrOf st1) M.toList.zipIdx) (pendingOf st1) (gallopOf st1) (failedOf st1))).isNone (SortSt.mk' (kindOf st1) (List.foldl (λa x=>a.setIfInBounds (P.length+k+x.2) x.1) (arrOf st1) M.toList.zipIdx) (pendingOf st1) (gallopOf st1) (failedOf st1)):=λM st1 hM h1 h2 h3 h4=>by
  have hb:(failedOf (SortSt.mk' (kindOf st1) (List.foldl (λa x=>a.setIfInBounds (P.length+k+x.2) x.1) (arrOf st1) M.toList.zipIdx) (pendingOf st1) (gallopOf st1) (failedOf st1))).isNone=true:=by
   show(failedOf st1).isNone=true
   rw[h3];rfl
  rw[hb]
  obtain⟨q1,q2⟩:=Lv sx sy hy0 hx0 low high2 hM
  refine h _ _ q1 q2 ?_ h2 h3 h4
  have lM:M.toList.length=X.length-k+n:=by rw[hM.1.length_eq];simp;lia
  have lS:(arrOf st).toList.length=P.length+X.length+Y.length+T.length:=by rw[hL];simp;lia
  have:=Cy M.toList (arrOf st1) (P.length+k) 0 (by rw[h1,lM];simp at lS;lia)
  refine this.trans ?_
  rw[h1,hL,lM]
  have t1:(P++X++Y++T).take (P.length+k+0)=P++X.take k:=by
   rw[AC,AC,List.take_append,BP (by lia),show P.length+k+0-P.length=k by lia,EG (by lia)]
  have t2:(P++X++Y++T).drop (P.length+k+0+(X.length-k+n))=Y.drop n++T:=by
   rw[AC,HC,DD (by simp;lia),DS,show P.length+k+0+(X.length-k+n)-(P++X).length=n by simp;lia,FU hn]
  rw[t1,t2]
  simp
 have g1:∀z∈((arrOf st).extract (P.length+k) (P.length+X.length)).toList,z∈a₀:=λz hz=>by rw[e1]at hz;exact hX z (DV hz)
 have g2:∀z∈((arrOf st).extract (P.length+X.length) (P.length+X.length+n)).toList,z∈a₀:=λz hz=>by rw[e2]at hz;exact hY z (DW hz)
 have g3:Srt ρ ((arrOf st).extract (P.length+k) (P.length+X.length)).toList:=by rw[e1];exact sx.sublist (List.drop_sublist _ _)
 have g4:Srt ρ ((arrOf st).extract (P.length+X.length) (P.length+X.length+n)).toList:=by rw[e2];exact sy.sublist (List.take_sublist _ _)
 have z1:((arrOf st).extract (P.length+k) (P.length+X.length)).size=X.length-k:=by rw[<-BS,e1,Ev]
 have z2:((arrOf st).extract (P.length+X.length) (P.length+X.length+n)).size=n:=by rw[<-BS,e2,BJ];lia
 have g5:∀u,((arrOf st).extract (P.length+X.length) (P.length+X.length+n))[0]? = some u->∀z∈((arrOf st).extract (P.length+k) (P.length+X.length)).toList,ρ u<=ρ z:=λu hu z hz=>by
  rw[<-BL,e2,BY hn0,hy0]at hu
  cases hu
  rw[e1]at hz
  exact CN (high z hz)
 have g6:∀u∈((arrOf st).extract (P.length+X.length) (P.length+X.length+n)).toList,∀z∈((arrOf st).extract (P.length+k) (P.length+X.length)).toList.drop (((arrOf st).extract (P.length+k) (P.length+X.length)).size-1),ρ u<=ρ z:=λu hu z hz=>by
  rw[e2]at hu
  rw[e1,z1,List.drop_drop,show k+(X.length-k-1)=X.length-1 by lia,iq hx0]at hz
  have e:X.drop (X.length-1+1)=[]:=DD (by lia)
  rw[e]at hz
  have:z=x:=by simpa using hz
  rw[this]
  exact CN (low2 u hu)
 by_cases c3:X.length-k<=n
 ·rw[if_pos c3]
  refine AG (Tq hC hk g1 g2 g3 g4 (by lia) (by lia) g5 g6 λM st1 hM hS=>?_)
  rw[e1,e2]at hM
  exact AG (DZ (AG (FP (AJ (fin M st1 hM hS.arr (hS.kind.trans hk) (hS.fail.trans hfail) hS.pend)))))
 ·rw[if_neg c3]
  refine AG (Tr hC hk g1 g2 g3 g4 (by lia) (by lia) g5 g6 λM st1 hM hS=>?_)
  rw[e1,e2]at hM
  exact AG (DZ (AG (FP (AJ (fin M st1 hM hS.arr (hS.kind.trans hk) (hS.fail.trans hfail) hS.pend)))))
end
section
variable {ρ : Keyed -> Nat}
def Ka (ρ:Keyed->Nat) (xs:Array Keyed) (i:Nat):Nat:=ρ ((xs[i]?).getD (Value.none,Value.none))
def UpA (ρ:Keyed->Nat) (xs:Array Keyed) (lo hi:Nat):Prop:=∀i j,lo<=i->i<=j->j<hi->Ka ρ xs i<=Ka ρ xs j
def DnA (ρ:Keyed->Nat) (xs:Array Keyed) (lo hi:Nat):Prop:=∀i j,lo<=i->i<=j->j<hi->Ka ρ xs j<=Ka ρ xs i
def EqA (ρ:Keyed->Nat) (xs:Array Keyed) (lo hi:Nat):Prop:=∀i,lo<=i->i<hi->Ka ρ xs i=Ka ρ xs (hi-1)
theorem C0 {xs:Array Keyed} {i j:Nat} (hj:j<=xs.size) (t:Nat):Ka ρ (mirror xs i j ((j-i) / 2)) t=if i<=t/\t<j then Ka ρ xs (i+j-1-t)else Ka ρ xs t:=by
 unfold Ka
 rw[getElem?_mirror_all hj]
 split<;>rfl
theorem wq {xs:Array Keyed} {i j:Nat} (hj:j<=xs.size) (h:EqA ρ xs i j) (t:Nat):Ka ρ (mirror xs i j ((j-i) / 2)) t=Ka ρ xs t:=by
 rw[C0 hj]
 split
 ·rename_i q
  rw[h t q.1 q.2,h _ (by lia) (by lia)]
 ·rfl
theorem UpA.more {xs:Array Keyed} {lo n:Nat} (h:UpA ρ xs lo (lo+n)) (h1:1<=n) (hc:¬Ka ρ xs (lo+n)<Ka ρ xs (lo+n-1)):UpA ρ xs lo (lo+(n+1)):=λi j h0 hij hj=>by
 by_cases hj':j<lo+n
 ·exact h i j h0 hij hj'
 ·have ej:j=lo+n:=by lia
  subst ej
  by_cases hi:i=lo+n
  ·rw[hi];exact AK _
  ·have:=h i (lo+n-1) h0 (by lia) (by lia)
   lia
theorem DnA.more {xs:Array Keyed} {lo n:Nat} (h:DnA ρ xs lo (lo+n)) (h1:1<=n) (hc:Ka ρ xs (lo+n)<=Ka ρ xs (lo+n-1)):DnA ρ xs lo (lo+(n+1)):=λi j h0 hij hj=>by
 by_cases hj':j<lo+n
 ·exact h i j h0 hij hj'
 ·have ej:j=lo+n:=by lia
  subst ej
  by_cases hi:i=lo+n
  ·rw[hi];exact AK _
  ·have:=h i (lo+n-1) h0 (by lia) (by lia)
   lia
structure Fx (lo:Nat) (st st':SortSt):Prop where
 kind:kindOf st'=kindOf st
 pend:pendingOf st'=pendingOf st
 fail:failedOf st'=failedOf st
 perm:(arrOf st').Perm (arrOf st)
 pre:∀i,i<lo->(arrOf st')[i]? = (arrOf st)[i]?
theorem Fx.refl (lo:Nat) (st:SortSt):Fx lo st st:=⟨rfl,rfl,rfl,.refl _,λ_ _=>rfl⟩
theorem Fx.trans {lo:Nat} {a b c:SortSt} (h:Fx lo a b) (g:Fx lo b c):Fx lo a c:=⟨g.kind.trans h.kind,g.pend.trans h.pend,g.fail.trans h.fail,g.perm.trans h.perm,λi hi=>(g.pre i hi).trans (h.pre i hi)⟩
theorem Fx.size {lo:Nat} {a b:SortSt} (h:Fx lo a b):(arrOf b).size=(arrOf a).size:=h.perm.size_eq
theorem y6 {lo i j:Nat} {st:SortSt} (hi:lo<=i) (hj:j<=(arrOf st).size):Fx lo st (setArr st (mirror (arrOf st) i j ((j-i) / 2))) :=
 ⟨rfl,rfl,rfl,mirror_perm _ _ _ _,λt ht=>by
  show(mirror (arrOf st) i j ((j-i) / 2))[t]? = _
  rw[getElem?_mirror_all hj,if_neg (by lia)]⟩
end
section
variable {prog : Program} {w : World} {A : Around} {E : Value -> Shared -> Prop} {s : Shared} {a₀ : List Keyed} {ρ : Keyed -> Nat} {κ : SortKind}
theorem l9 (hC:Cmp prog w A s a₀ ρ κ) {st:SortSt} (hk:kindOf st=κ) (hin:∀x∈(arrOf st).toList,x∈a₀) {i j:Nat} (hi:i<(arrOf st).size) (hj:j<(arrOf st).size) {Q:Option Bool->SortSt->Prop} (h:Q (some (decide (Ka ρ (arrOf st) i<Ka ρ (arrOf st) j))) st) :
  wpS (model prog w) A E s (ltAt' i j) Q st:=by
 rw[ltAt'_eq]
 refine AG (FP ?_)
 obtain⟨x,hx,_,mx⟩:=l8 hi
 obtain⟨y,hy,_,my⟩:=l8 hj
 unfold Ka at h
 rw[hx,hy]at h
 exact AG (bp hx (AG (bp hy (Cu hC (hin x mx) (hin y my) hk h))))
theorem y8 {i j:Nat} {st:SortSt} {Q:Unit->SortSt->Prop} (h:Q () (setArr st (mirror (arrOf st) i j ((j-i) / 2)))):wpS (model prog w) A E s (reverseSlice' i j) Q st:=by
 rw[reverseSlice'_eq]
 exact DZ h
theorem in_of {st st':SortSt} {lo:Nat} (h:Fx lo st st') (hin:∀x∈(arrOf st).toList,x∈a₀):∀x∈(arrOf st').toList,x∈a₀:=λx hx=>hin x ((GK.mp h.perm).mem_iff.mp hx)
theorem F8 {lo nrem:Nat} {st:SortSt} {Q:Option Nat->SortSt->Prop} (hC:Cmp prog w A s a₀ ρ κ) (hk:kindOf st=κ) (hin:∀x∈(arrOf st).toList,x∈a₀) (h1:1<=nrem) (hz:lo+nrem<=(arrOf st).size)
  (h:∀m st',1<=m->m<=nrem->Fx lo st st'->UpA ρ (arrOf st') lo (lo+m)->Q (some m) st'):wpS (model prog w) A E s (countRun' lo nrem) Q st:=by
 unfold countRun'
 refine AG (EE (CC (I:=λx z st'=>st'=st/\z=(none,x)/\UpA ρ (arrOf st) lo (lo+x))
  (Q:=λz st'=>st'=st/\∃n,z=(none,n)/\1<=n/\n<=nrem/\UpA ρ (arrOf st) lo (lo+n)/\(n<nrem->Ka ρ (arrOf st) (lo+n)<Ka ρ (arrOf st) (lo+n-1))) ?st0 ?fi0 ⟨rfl,rfl,λi j a b c=>by rw[show i=j by lia];exact AK _⟩) ?po0)
 case st0 =>
  rintro x z st' hx1 hx2 ⟨rfl,rfl,hu⟩
  dsimp only
  refine AG (l9 hC hk hin (by lia) (by lia) ?_)
  dsimp only
  by_cases c:Ka ρ (arrOf st') (lo+x)<Ka ρ (arrOf st') (lo+x-1)
  ·rw[if_pos (decide_eq_true c)]
   exact AJ ⟨rfl,x,rfl,hx1,by lia,hu,λ_=>c⟩
  ·rw[if_neg (by simpa using c)]
   exact AJ ⟨rfl,rfl,hu.more hx1 c⟩
 case fi0 =>
  rintro z st' ⟨rfl,rfl,hu⟩
  rw[show max 1 nrem=nrem by lia]at hu ⊢
  exact⟨rfl,_,rfl,h1,AK _,hu,λq=>absurd q (by lia)⟩
 case po0 =>
  rintro z st' ⟨rfl,n,rfl,n1,n2,hu,hlt⟩
  dsimp only
  by_cases c1:(n==nrem)=true
  ·rw[if_pos c1]
   exact AJ (h n _ n1 n2 (.refl _ _) hu)
  rw[if_neg c1]
  have hn:n<nrem:=by simp at c1;lia
  have hlt:=hlt hn
  by_cases c2:n > 1
  case' pos =>
   rw[if_pos c2]
   refine AG (l9 hC hk hin (by lia) (by lia) ?_)
   dsimp only
   by_cases c3:Ka ρ (arrOf st') lo<Ka ρ (arrOf st') (lo+n-1)
   ·rw[if_pos (decide_eq_true c3)]
    exact AJ (h n _ n1 n2 (.refl _ _) hu)
   rw[if_neg (by simpa using c3)]
   have all:∀i,lo<=i->i<lo+n->Ka ρ (arrOf st') i=Ka ρ (arrOf st') (lo+n-1):=λi hi hj=>by
    have a:=hu lo i (AK _) hi hj
    have b:=hu i (lo+n-1) hi (by lia) (by lia)
    lia
   refine AG (y8 ?_)
   have F2:Fx lo st' (setArr st' (mirror (arrOf st') lo (lo+n) ((lo+n-lo) / 2))):=y6 (AK _) (by lia)
   have kk:∀t,Ka ρ (arrOf (setArr st' (mirror (arrOf st') lo (lo+n) ((lo+n-lo) / 2)))) t=Ka ρ (arrOf st') t:=wq (by lia) all
   have hd:DnA ρ (arrOf (setArr st' (mirror (arrOf st') lo (lo+n) ((lo+n-lo) / 2)))) lo (lo+(n+1)):=by
    refine DnA.more (λi j h0 hij hj=>?_) n1 (by rw[kk,kk];lia)
    rw[kk,kk,all i h0 (by lia),all j (by lia) hj]
    exact AK _
   generalize setArr st' (mirror (arrOf st') lo (lo+n) ((lo+n-lo) / 2))=st2 at *
  case' neg =>
   rw[if_neg c2]
   have hd:DnA ρ (arrOf st') lo (lo+(n+1)):=DnA.more (λi j h0 hij hj=>by rw[show i=j by lia];exact AK _) n1 (by lia)
   generalize hg:st'=st2 at hd ⊢
   have F2:Fx lo st' st2:=by rw[<-hg];exact .refl _ _
  all_goals
   refine AG (HB (EJ ⟨rfl,?_⟩))
   refine AG (EE (CC (I:=λx z st3=>∃q,z=(none,x,q)/\Fx lo st' st3/\DnA ρ (arrOf st3) lo (lo+x)/\EqA ρ (arrOf st3) (lo+x-(q+1)) (lo+x)/\q+1<=x)
    (Q:=λz st3=>∃m q,z=(none,m,q)/\1<=m/\m<=nrem/\Fx lo st' st3/\DnA ρ (arrOf st3) lo (lo+m)/\EqA ρ (arrOf st3) (lo+m-(q+1)) (lo+m)/\q+1<=m)
    ?st1 ?fi1 ⟨0,rfl,F2,hd,λi a b=>by rw[show i=lo+(n+1)-1 by lia],by lia⟩) ?po1)
   case st1 =>
    rintro x z st3 hx1 hx2 ⟨q,rfl,F3,d3,e3,q3⟩
    have k3:=F3.kind.trans hk
    have i3:=in_of F3 hin
    have z3:=F3.size
    dsimp only
    refine AG (l9 hC k3 i3 (by lia) (by lia) ?_)
    dsimp only
    by_cases c:Ka ρ (arrOf st3) (lo+x)<Ka ρ (arrOf st3) (lo+x-1)
    ·rw[if_pos (decide_eq_true c)]
     by_cases q0:q > 0
     ·rw[if_pos q0]
      have kk:∀t,Ka ρ (mirror (arrOf st3) (lo+x-(q+1)) (lo+x) ((lo+x-(lo+x-(q+1))) / 2)) t=Ka ρ (arrOf st3) t:=wq (by lia) e3
      refine AG (y8 (AJ ⟨0,rfl,F3.trans (y6 (by lia) (by lia)),DnA.more (λi j h0 hij hj=>?_) (by lia) ?_,λi a b=>by rw[show i=lo+(x+1)-1 by lia],by lia⟩))
      ·show Ka ρ (mirror (arrOf st3) (lo+x-(q+1)) (lo+x) ((lo+x-(lo+x-(q+1))) / 2)) j<=Ka ρ (mirror (arrOf st3) (lo+x-(q+1)) (lo+x) ((lo+x-(lo+x-(q+1))) / 2)) i
       rw[kk,kk];exact d3 i j h0 hij hj
      ·show Ka ρ (mirror (arrOf st3) (lo+x-(q+1)) (lo+x) ((lo+x-(lo+x-(q+1))) / 2)) _<=Ka ρ (mirror (arrOf st3) (lo+x-(q+1)) (lo+x) ((lo+x-(lo+x-(q+1))) / 2)) _
       rw[kk,kk];lia
     ·rw[if_neg q0]
      exact AJ ⟨0,rfl,F3,d3.more (by lia) (by lia),λi a b=>by rw[show i=lo+(x+1)-1 by lia],by lia⟩
    ·rw[if_neg (by simpa using c)]
     refine AG (l9 hC k3 i3 (by lia) (by lia) ?_)
     dsimp only
     by_cases c':Ka ρ (arrOf st3) (lo+x-1)<Ka ρ (arrOf st3) (lo+x)
     ·rw[if_pos (decide_eq_true c')]
      exact AJ ⟨x,q,rfl,by lia,by lia,F3,d3,e3,q3⟩
     ·rw[if_neg (by simpa using c')]
      refine AJ ⟨q+1,rfl,F3,d3.more (by lia) (by lia),λi a b=>?_,by lia⟩
      by_cases hi:i=lo+x
      ·rw[hi];congr 1
      ·have e:=e3 i (by lia) (by lia)
       rw[e,show lo+(x+1)-1=lo+x by lia];lia
   case fi1 =>
    rintro z st3 ⟨q,rfl,F3,d3,e3,q3⟩
    rw[show max (n+1) nrem=nrem by lia]at *
    exact⟨_,q,rfl,h1,AK _,F3,d3,e3,q3⟩
   case po1 =>
    rintro z st3 ⟨m,q,rfl,m1,m2,F3,d3,e3,q3⟩
    dsimp only
    have z3:=F3.size
    by_cases q0:q > 0
    case' pos =>
     rw[if_pos q0]
     have kk:∀t,Ka ρ (arrOf (setArr st3 (mirror (arrOf st3) (lo+m-(q+1)) (lo+m) ((lo+m-(lo+m-(q+1))) / 2)))) t=Ka ρ (arrOf st3) t:=wq (by lia) e3
     have F4:=F3.trans (y6 (i:=lo+m-(q+1)) (j:=lo+m) (st:=st3) (by lia) (by lia))
     refine AG (y8 ?_)
     have d4:DnA ρ (arrOf (setArr st3 (mirror (arrOf st3) (lo+m-(q+1)) (lo+m) ((lo+m-(lo+m-(q+1))) / 2)))) lo (lo+m):=λi j h0 hij hj=>by rw[kk,kk];exact d3 i j h0 hij hj
     generalize setArr st3 (mirror (arrOf st3) (lo+m-(q+1)) (lo+m) ((lo+m-(lo+m-(q+1))) / 2))=st4 at *
    case' neg =>
     rw[if_neg q0]
     have F4:=F3
     have d4:=d3
     generalize st3=st4 at *
    all_goals
     have z4:=F4.size
     have F5:=F4.trans (y6 (i:=lo) (j:=lo+m) (st:=st4) (by lia) (by lia))
     refine AG (y8 ?_)
     have u5:UpA ρ (arrOf (setArr st4 (mirror (arrOf st4) lo (lo+m) ((lo+m-lo) / 2)))) lo (lo+m):=λi j h0 hij hj=>by
      show Ka ρ (mirror (arrOf st4) lo (lo+m) ((lo+m-lo) / 2)) i<=Ka ρ (mirror (arrOf st4) lo (lo+m) ((lo+m-lo) / 2)) j
      rw[C0 (by lia),C0 (by lia),if_pos (by lia),if_pos (by lia)]
      exact d4 _ _ (by lia) (by lia) (by lia)
     generalize setArr st4 (mirror (arrOf st4) lo (lo+m) ((lo+m-lo) / 2))=st5 at *
     have k5:=F5.kind.trans hk
     have i5:=in_of F5 hin
     have z5:=F5.size
     refine AG (CC (I:=λx z st'=>st'=st5/\z=(none,x)/\UpA ρ (arrOf st5) lo (lo+x)) ?_ ?_ ⟨rfl,rfl,u5⟩)
     ·rintro x z st6 hx1 hx2 ⟨rfl,rfl,hu6⟩
      dsimp only
      refine AG (l9 hC k5 i5 (by lia) (by lia) ?_)
      dsimp only
      by_cases c:Ka ρ (arrOf st6) (lo+x)<Ka ρ (arrOf st6) (lo+x-1)
      ·rw[if_pos (decide_eq_true c)]
       exact AJ (AJ (h x _ (by lia) (by lia) F5 hu6))
      ·rw[if_neg (by simpa using c)]
       exact AJ ⟨rfl,rfl,hu6.more (by lia) c⟩
     ·rintro z st6 ⟨rfl,rfl,hu6⟩
      rw[show max m nrem=nrem by lia]at hu6
      dsimp only
      rw[show max m nrem=nrem by lia]
      exact AJ (h nrem _ h1 (AK _) F5 hu6)
theorem Hy {xs:Array Keyed} {k d:Nat} (hk:k<xs.size) (hd:d<=k) (x:Nat):Ka ρ (bubble xs k d) x=if x=k-d then Ka ρ xs k else if k-d<x/\x<=k then Ka ρ xs (x-1)else Ka ρ xs x:=by
 unfold Ka
 rw[getElem?_bubble hk d hd x]
 split
 ·rfl
 ·split<;>rfl
theorem bin_ok {lo n ok:Nat} {st:SortSt} {Q:Bool->SortSt->Prop} (hC:Cmp prog w A s a₀ ρ κ) (hk:kindOf st=κ) (hin:∀x∈(arrOf st).toList,x∈a₀) (h0:1<=ok) (h1:ok<=n) (hz:lo+n<=(arrOf st).size) (hu:UpA ρ (arrOf st) lo (lo+ok))
  (h:∀st',Fx lo st st'->UpA ρ (arrOf st') lo (lo+n)->Q true st'):wpS (model prog w) A E s (binarySort' lo n ok) Q st:=by
 unfold binarySort'
 refine AG (EE (CC (I:=λk z st'=>z=(none,())/\Fx lo st st'/\UpA ρ (arrOf st') lo (lo+k)) (Q:=λz st'=>z=(none,())/\Fx lo st st'/\UpA ρ (arrOf st') lo (lo+n)) ?st0 ?fi0 ⟨rfl,.refl _ _,by rw[show max ok 1=ok by lia];exact hu⟩) ?po0)
 case st0 =>
  rintro k z st1 hk1 hk2 ⟨rfl,F1,u1⟩
  have k1:=F1.kind.trans hk
  have i1:=in_of F1 hin
  have z1:=F1.size
  dsimp only
  refine AG (EE (CC (I:=λx z st2=>st2=st1/\∃l r,z=(none,l,r)/\l<=r/\r<=k/\r-l<=k-x/\(∀i,i<l->Ka ρ (arrOf st1) (lo+i)<=Ka ρ (arrOf st1) (lo+k))/\∀i,r<=i->i<k->Ka ρ (arrOf st1) (lo+k)<Ka ρ (arrOf st1) (lo+i))
   (Q:=λz st2=>st2=st1/\∃l r,z=(none,l,r)/\l<=k/\(∀i,i<l->Ka ρ (arrOf st1) (lo+i)<=Ka ρ (arrOf st1) (lo+k))/\∀i,l<=i->i<k->Ka ρ (arrOf st1) (lo+k)<Ka ρ (arrOf st1) (lo+i))
   ?st1 ?fi1 ⟨rfl,0,k,rfl,by lia,by lia,by lia,λi q=>absurd q (by lia),λi q q'=>absurd q (by lia)⟩) ?po1)
  case st1 =>
   rintro x z st2-hx2 ⟨rfl,l,r,rfl,g1,g2,g3,g4,g5⟩
   dsimp only
   by_cases c:l≥r
   ·rw[if_pos c]
    exact AJ ⟨rfl,l,r,rfl,by lia,g4,λi q q'=>g5 i (by lia) q'⟩
   rw[if_neg c]
   refine AG (l9 hC k1 i1 (by lia) (by lia) ?_)
   dsimp only
   by_cases c':Ka ρ (arrOf st2) (lo+k)<Ka ρ (arrOf st2) (lo+(l+r) / 2)
   ·rw[if_pos (decide_eq_true c')]
    refine AJ ⟨rfl,_,_,rfl,by lia,by lia,by lia,g4,λi q q'=>?_⟩
    have:=u1 (lo+(l+r) / 2) (lo+i) (by lia) (by lia) (by lia)
    lia
   ·rw[if_neg (by simpa using c')]
    refine AJ ⟨rfl,_,_,rfl,by lia,by lia,by lia,λi q=>?_,g5⟩
    have:=u1 (lo+i) (lo+(l+r) / 2) (by lia) (by lia) (by lia)
    lia
  case fi1 =>
   rintro z st2 ⟨rfl,l,r,rfl,g1,g2,g3,g4,g5⟩
   exact⟨rfl,l,r,rfl,by lia,g4,λi q q'=>g5 i (by lia) q'⟩
  case po1 =>
   rintro z st2 ⟨rfl,l,r,rfl,g1,g2,g3⟩
   dsimp only
   have hs:lo+k<(arrOf st2).size:=by lia
   refine AG (DZ (AJ ⟨rfl,F1.trans ⟨rfl,rfl,rfl,bubble_perm _ (lo+k) (lo+k-(lo+l)),λt ht=>?_⟩,?_⟩))
   ·show(bubble (arrOf st2) (lo+k) (lo+k-(lo+l)))[t]? = _
    rw[getElem?_bubble hs _ (by lia),if_neg (by lia),if_neg (by lia)]
   ·show UpA ρ (bubble (arrOf st2) (lo+k) (lo+k-(lo+l))) lo (lo+(k+1))
    intro i j hi hij hj
    rw[Hy hs (by lia),Hy hs (by lia),show lo+k-(lo+k-(lo+l))=lo+l by lia]
    by_cases a1:i=lo+l
    ·rw[if_pos a1]
     by_cases b1:j=lo+l
     ·rw[if_pos b1];exact AK _
     ·rw[if_neg b1,if_pos (by lia)]
      have:=g3 (j-1-lo) (by lia) (by lia)
      rw[show lo+(j-1-lo)=j-1 by lia]at this
      lia
    ·rw[if_neg a1]
     by_cases a2:lo+l<i/\i<=lo+k
     ·rw[if_pos a2,if_neg (by lia),if_pos (by lia)]
      exact u1 (i-1) (j-1) (by lia) (by lia) (by lia)
     ·rw[if_neg a2]
      by_cases b1:j=lo+l
      ·rw[if_pos b1]
       have:=g2 (i-lo) (by lia)
       rw[show lo+(i-lo)=i by lia]at this
       exact this
      ·rw[if_neg b1]
       by_cases b2:lo+l<j/\j<=lo+k
       ·rw[if_pos b2]
        exact u1 i (j-1) hi (by lia) (by lia)
       ·rw[if_neg b2]
        exact u1 i j hi hij (by lia)
 case fi0 =>
  rintro z st1 ⟨rfl,F1,u1⟩
  rw[show max (max ok 1) n=n by lia]at u1
  exact⟨rfl,F1,u1⟩
 case po0 =>
  rintro z st1 ⟨rfl,F1,u1⟩
  exact AJ (h _ F1 u1)
end
section
variable {ρ : Keyed -> Nat}
def Pd (ρ:Keyed->Nat):Nat->List (Nat×Nat)->List (List Keyed)->Prop
 | _,[],[]=>True
 | b,x::p,X::Xs=>x=(b,X.length)/\0<X.length/\Srt ρ X/\Pd ρ (b+X.length) p Xs
 | _,_,_=>False
theorem Pd.len:∀{b:Nat} {p:List (Nat×Nat)} {Xs:List (List Keyed)},Pd ρ b p Xs->p.length=Xs.length
 | _,[],[],_=>rfl
 | _,_::_,_::_,h=>by simp[Pd.len h.2.2.2]
 | _,[],_::_,h=>h.elim
 | _,_::_,[],h=>h.elim
theorem Pd.app:∀{b:Nat} {p q:List (Nat×Nat)} {Xs Ys:List (List Keyed)},Pd ρ b p Xs->Pd ρ (b+Xs.flatten.length) q Ys->Pd ρ b (p++q) (Xs++Ys)
 | _,[],_,[],_,_,g=>by simpa using g
 | b,x::p,q,X::Xs,Ys,h,g=>by
  refine⟨h.1,h.2.1,h.2.2.1,Pd.app h.2.2.2 ?_⟩
  rw[DB,AO,<-GS]at g
  exact g
 | _,[],_,_::_,_,h,_=>h.elim
 | _,_::_,_,[],_,h,_=>h.elim
theorem Pd.split:∀{b:Nat} {p q:List (Nat×Nat)} {Zs:List (List Keyed)},Pd ρ b (p++q) Zs->∃Xs Ys,Zs=Xs++Ys/\Pd ρ b p Xs/\Pd ρ (b+Xs.flatten.length) q Ys
 | b,[],q,Zs,h=>⟨[],Zs,rfl,trivial,by simpa using h⟩
 | b,x::p,q,[],h=>h.elim
 | b,x::p,q,Z::Zs,h=>by
  obtain⟨Xs,Ys,rfl,h1,h2⟩:=Pd.split (p:=p) h.2.2.2
  refine⟨Z::Xs,Ys,rfl,⟨h.1,h.2.1,h.2.2.1,h1⟩,?_⟩
  rw[DB,AO,<-GS]
  exact h2
abbrev pr (t:Nat×Nat×Nat):Nat×Nat:=(t.1,t.2.1)
theorem y9 {α:Type} {l:List α} {i:Nat} {a b:α} (h1:l[i]? = some a) (h2:l[i+1]? = some b):l=l.take i++a::b::l.drop (i+2):=by
 have e1:=iq h1
 have e2:=iq h2
 rw[e2]at e1
 conv=>lhs;rw[<-BQ i l,e1]
theorem C1 {α:Type} {l:List α} {i:Nat} {a b c:α} (h1:l[i]? = some a) (h2:l[i+1]? = some b):(l.set i c).eraseIdx (i+1)=l.take i++c::l.drop (i+2):=by
 have hi:=(AI.mp h1).1
 conv=>lhs;rw[y9 h1 h2]
 have hl:(l.take i).length=i:=by simp;lia
 rw[List.set_append_right _ _ (by lia),hl,Nat.sub_self,FD,List.eraseIdx_append_of_length_le (by lia),hl,show i+1-i=1 by lia]
 rfl
end
section
variable {prog : Program} {w : World} {A : Around} {E : Value -> Shared -> Prop} {s : Shared} {a₀ : List Keyed} {ρ : Keyed -> Nat} {κ : SortKind}
structure At (a₀:List Keyed) (ρ:Keyed->Nat) (κ:SortKind) (Xs:List (List Keyed)) (Z:List Keyed) (st:SortSt):Prop where
 kind:kindOf st=κ
 fail:failedOf st=none
 perm:(arrOf st).toList.Perm a₀
 arr:(arrOf st).toList=Xs.flatten++Z
 pd:Pd ρ 0 ((pendingOf st).toList.map pr) Xs
theorem At.mem {Xs:List (List Keyed)} {Z:List Keyed} {st:SortSt} (h:At a₀ ρ κ Xs Z st):∀x∈(arrOf st).toList,x∈a₀:=λx hx=>h.perm.mem_iff.mp hx
theorem At.merge {i:Nat} {Xs:List (List Keyed)} {Z:List Keyed} {st:SortSt} {Q:Bool->SortSt->Prop} (hC:Cmp prog w A s a₀ ρ κ) (H:At a₀ ρ κ Xs Z st) (hi:i+1<(pendingOf st).size)
  (h:∀Xs' st',At a₀ ρ κ Xs' Z st'->(pendingOf st').size+1=(pendingOf st).size->Q true st'):wpS (model prog w) A E s (mergeAt' i) Q st:=by
 have hp:(pendingOf st).toList.length=(pendingOf st).size:=by simp
 obtain⟨u,hu⟩:∃u,(pendingOf st).toList[i]? = some u:=⟨_,AA (by lia)⟩
 obtain⟨v,hv⟩:∃v,(pendingOf st).toList[i+1]? = some v:=⟨_,AA (by lia)⟩
 have pd:=H.pd
 rw[y9 hu hv,BR,AL,AL]at pd
 obtain⟨X1,Y1,rfl,d1,d2⟩:=pd.split
 match Y1,d2 with
 | X::Y::X2,d2 =>
  obtain⟨eu,lx,sx,ev,ly,sy,d3⟩:=d2
  rw[FK]at eu ev d3
  obtain⟨u1,u2,u3⟩:=u
  obtain⟨v1,v2,v3⟩:=v
  simp![pr,FB]at eu ev
  obtain⟨rfl,rfl⟩:=eu
  obtain⟨rfl,rfl⟩:=ev
  have arr:(arrOf st).toList=X1.flatten++X++Y++(X2.flatten++Z):=by
   rw[H.arr];simp
  refine F7 hC H.kind H.fail arr H.mem (by rw[<-BL];exact hu) (by rw[<-BL];exact hv) lx ly sx sy λM st' pM sM aM kM fM gM=>?_
  have e:(pendingOf st').toList=(pendingOf st).toList.take i++(X1.flatten.length,X.length+Y.length,u3)::(pendingOf st).toList.drop (i+2):=by
   rw[gM]
   have e1:(((pendingOf st).setIfInBounds i (X1.flatten.length,X.length+Y.length,u3)).eraseIdxIfInBounds (i+1)).toList=((pendingOf st).toList.set i (X1.flatten.length,X.length+Y.length,u3)).eraseIdx (i+1):=by simp
   rw[e1,C1 hu hv]
  refine h (X1++M::X2) st' ⟨kM,fM,?_,?_,?_⟩ ?_
  ·rw[aM]
   refine List.Perm.trans ?_ H.perm
   rw[arr,AC X1.flatten X Y]
   exact(AZ _ pM).append_right _
  ·rw[aM];simp
  ·have lM:M.length=X.length+Y.length:=by rw[pM.length_eq];simp
   rw[e,BR,AL]
   refine d1.app ⟨?_,by lia,sM,?_⟩
   ·rw[FK,lM]
   ·rw[FK,lM,<-GS];exact d3
  ·have:=congrArg List.length e
   simp at this
   lia
 | [],d2=>exact d2.elim
 | [X],d2=>exact d2.2.2.2.elim
theorem At.runs {Xs:List (List Keyed)} {Z:List Keyed} {st:SortSt} (H:At a₀ ρ κ Xs Z st):(pendingOf st).size=Xs.length:=by
 have:=H.pd.len
 simpa using this
theorem Lw {α σ:Type} {M:Model} {c:Prop} [Decidable c] {t e:StateT σ Sem α} {Q:α->σ->Prop} {st:σ} (h1:c->wpS M A E s t Q st) (h2:¬c->wpS M A E s e Q st):wpS M A E s (if c then t else e) Q st:=by
 by_cases h:c
 ·rw[if_pos h];exact h1 h
 ·rw[if_neg h];exact h2 h
theorem At.len {Xs:List (List Keyed)} {Z:List Keyed} {st:SortSt} (H:At a₀ ρ κ Xs Z st):Xs.flatten.length+Z.length=a₀.length:=by
 rw[<-H.perm.length_eq,H.arr,AO]
theorem At.fx {Xs:List (List Keyed)} {Z:List Keyed} {lo:Nat} {st st':SortSt} (H:At a₀ ρ κ Xs Z st) (e:Xs.flatten.length=lo) (F:Fx lo st st'):At a₀ ρ κ Xs ((arrOf st').toList.drop lo) st':=by
 have p:=GK.mp F.perm
 refine⟨F.kind.trans H.kind,F.fail.trans H.fail,p.trans H.perm,?_,by rw[F.pend];exact H.pd⟩
 have:Xs.flatten=(arrOf st').toList.take lo:=by
  have e2:Xs.flatten=(arrOf st).toList.take lo:=by rw[H.arr,<-e,List.take_left]
  rw[e2]
  apply DC
  intro i
  by_cases hi:i<lo
  ·rw[BY hi,BY hi,BL,BL,F.pre i hi]
  ·rw[CV (by simp;lia),CV (by simp;lia)]
 rw[this,BQ]
theorem C2 {xs:Array Keyed} {lo n:Nat} (h:UpA ρ xs lo (lo+n)):Srt ρ ((xs.toList.drop lo).take n):=by
 refine EY.mpr λi j hi hj hij=>?_
 have hi':lo+i<xs.size:=by simp at hi;lia
 have hj':lo+j<xs.size:=by simp at hj;lia
 have:=h (lo+i) (lo+j) (by lia) (by lia) (by simp at hj;lia)
 unfold Ka at this
 simpa[hi',hj']using this
theorem At.push {Xs:List (List Keyed)} {Z:List Keyed} {lo n:Nat} {st:SortSt} (H:At a₀ ρ κ Xs Z st) (e:Xs.flatten.length=lo) (h0:0<n) (hn:n<=Z.length) (hs:Srt ρ (Z.take n)):At a₀ ρ κ (Xs++[Z.take n]) (Z.drop n) (setPending st ((pendingOf st).push (lo,n,0))):=by
 refine⟨H.kind,H.fail,H.perm,?_,?_⟩
 ·show(arrOf st).toList=_
  rw[H.arr,List.flatten_append]
  simp
 ·show Pd ρ 0 ((((pendingOf st).push (lo,n,0)).toList).map pr) _
  rw[ET,BR]
  refine H.pd.app ⟨?_,by rw[BJ];lia,hs,trivial⟩
  rw[FK,e,BJ]
  simp![pr,FB,true_and]
  lia
theorem Al {l:List (Nat×Nat×Nat)} {f:Nat×Nat×Nat->Nat×Nat×Nat} (hf:∀t,pr (f t)=pr t):∀i,(l.modify i f).map pr=l.map pr:=by
 induction l with
 | nil=>intro i;simp
 | cons a l ih =>
  intro i
  cases i with
  | zero=>simp[hf]
  | succ i=>simp[ih]
theorem At.pow {Xs:List (List Keyed)} {Z:List Keyed} {i:Nat} {f:Nat×Nat×Nat->Nat×Nat×Nat} {st:SortSt} (H:At a₀ ρ κ Xs Z st) (hf:∀t,pr (f t)=pr t):At a₀ ρ κ Xs Z (setPending st ((pendingOf st).modify i f)):=by
 refine⟨H.kind,H.fail,H.perm,H.arr,?_⟩
 show Pd ρ 0 ((((pendingOf st).modify i f).toList).map pr) _
 rw[Array.toList_modify,Al hf]
 exact H.pd
theorem Lx {st:SortSt} {Q:Unit->SortSt->Prop} (hC:Cmp prog w A s a₀ ρ κ) (hk:kindOf st=κ) (hf:failedOf st=none) (hp:pendingOf st=#[]) (ha:(arrOf st).toList=a₀) (h2:2<=a₀.length)
  (h:∀st',(arrOf st').toList.Perm a₀->Srt ρ (arrOf st').toList->failedOf st'=none->Q () st'):wpS (model prog w) A E s sortRuns' Q st:=by
 have sz:(arrOf st).size=a₀.length:=by rw[<-ha];simp
 have H0:At a₀ ρ κ [] a₀ st:=⟨hk,hf,by rw[ha],by simpa using ha,by rw[hp];trivial⟩
 rw[sortRuns'_eq]
 refine AG (FP ?_)
 dsimp only
 refine AG (EE (CC (I:=λx c st'=>∃lo Xs Z,c=(none,lo)/\At a₀ ρ κ Xs Z st'/\Xs.flatten.length=lo/\Z.length+lo=a₀.length/\(x<=lo\/lo=a₀.length)/\Xs.length<=lo)
  (Q:=λc st'=>∃Xs,c=(none,a₀.length)/\At a₀ ρ κ Xs [] st'/\Xs.length<=a₀.length) ?st0 ?fi0 ⟨0,[],a₀,rfl,H0,rfl,rfl,.inl (AK _),AK _⟩) ?po0)
 case fi0 =>
  rintro c st' ⟨lo,Xs,Z,rfl,H,e1,e2,e3,e4⟩
  have hlo:lo=a₀.length:=by rw[sz]at e3;lia
  subst hlo
  have hZ:Z=[]:=FV (by lia)
  subst hZ
  exact⟨Xs,rfl,H,e4⟩
 case po0 =>
  rintro c st1 ⟨Xs,rfl,H,e4⟩
  dsimp only
  refine AG (EE (CC (I:=λx c st'=>c=(none,())/\∃Xs,At a₀ ρ κ Xs [] st'/\(Xs.length<=1\/Xs.length+x<=a₀.length)) (Q:=λc st'=>c=(none,())/\∃Xs,At a₀ ρ κ Xs [] st'/\Xs.length<=1) ?st1 ?fi1 ⟨rfl,Xs,H,.inr (by lia)⟩) ?po1)
  case st1 =>
   rintro x c st2-hx ⟨rfl,Xs,H,hl⟩
   refine AG (FP ?_)
   have hr:=H.runs
   by_cases c1:(pendingOf st2).size<=1
   ·rw[if_pos c1]
    exact AJ ⟨rfl,Xs,H,by lia⟩
   rw[if_neg c1]
   have fin:∀i,i+1<(pendingOf st2).size->wpS (model prog w) A E s (mergeAt' i) (λr st'=>r=true/\∃Xs',At a₀ ρ κ Xs' [] st'/\Xs'.length+1=Xs.length) st2:=λi hi=>H.merge hC hi λXs' st' H' hs=>⟨rfl,Xs',H',by have:=H'.runs;lia⟩
   refine AG (EE (fin _ ?_) λr st3 hr3=>?_)
   ·split<;>lia
   ·obtain⟨rfl,Xs',H',e'⟩:=hr3
    exact AJ ⟨rfl,Xs',H',by lia⟩
  case fi1 =>
   rintro c st2 ⟨rfl,Xs,H,hl⟩
   exact⟨rfl,Xs,H,by rw[sz]at hl;lia⟩
  case po1 =>
   rintro c st2 ⟨rfl,Xs,H,hl⟩
   refine AJ (h st2 H.perm ?_ H.fail)
   have ea:=H.arr
   rw[DN]at ea
   have pd:=H.pd
   match Xs,hl with
   | [],_ =>
    have:=H.perm.length_eq
    rw[ea]at this
    simp at this
    lia
   | [X],_ =>
    rw[ea]
    cases ep:(pendingOf st2).toList.map pr with
    | nil=>rw[ep]at pd;exact pd.elim
    | cons u p =>
     rw[ep]at pd
     simpa using pd.2.2.1
   | X::Y::Xs,hl=>simp at hl
 case st0 =>
  rintro x c st1-hx ⟨lo,Xs,Z,rfl,H,e1,e2,e3,e4⟩
  dsimp only
  rw[sz]
  by_cases c1:lo≥a₀.length
  ·rw[if_pos c1]
   have hlo:lo=a₀.length:=by lia
   subst hlo
   have hZ:Z=[]:=FV (by lia)
   subst hZ
   exact AJ ⟨Xs,rfl,H,e4⟩
  rw[if_neg c1]
  have sz1:(arrOf st1).size=a₀.length:=by rw[<-H.perm.length_eq];simp
  refine AG (F8 hC H.kind H.mem (by lia) (by lia) λm st2 m1 m2 F2 u2=>?_)
  dsimp only
  generalize minRun' a₀.length a₀.length 0=mr
  by_cases c2:m<mr
  case' pos =>
   rw[if_pos c2]
   refine AG (HB (EJ ⟨rfl,?_⟩))
   have z2:=F2.size
   refine AG (bin_ok hC (F2.kind.trans H.kind) (in_of F2 H.mem) m1 (by lia) (by lia) u2 λst3 F3 u3=>?_)
   have F4:=F2.trans F3
   rw[if_neg (by simp)]
   have n1:0<min (a₀.length-lo) mr:=by lia
   have n2:min (a₀.length-lo) mr<=a₀.length-lo:=by lia
   generalize min (a₀.length-lo) mr=n at *
  case' neg =>
   rw[if_neg c2]
   have F4:=F2
   have u3:=u2
   have n1:0<m:=m1
   have n2:=m2
   generalize m=n at *
   generalize st2=st3 at *
  all_goals
   have H3:=H.fx e1 F4
   have S3:=C2 u3
   have l3:=H3.len
   generalize (arrOf st3).toList.drop lo=Z3 at *
   refine AG (FP ?_)
   have fin:∀Xs' st',At a₀ ρ κ Xs' Z3 st'->Xs'.length<=Xs.length->At a₀ ρ κ (Xs'++[Z3.take n]) (Z3.drop n) (setPending st' ((pendingOf st').push (lo,n,0)))/\(Xs'++[Z3.take n]).flatten.length=lo+n/\(Z3.drop n).length+(lo+n)=a₀.length/\(x+1<=lo+n\/lo+n=a₀.length)/\(Xs'++[Z3.take n]).length<=lo+n:=λXs' st' H' hl=>by
    have l':=H'.len
    have hP:=H'.push (n:=n) (lo:=lo) (by lia) n1 (by lia) S3
    refine⟨hP,?_,?_,?_,?_⟩
    ·have:=hP.len
     rw[Ev]at this
     lia
    ·rw[Ev];lia
    ·lia
    ·rw[AO];simp;lia
   cases hb:(pendingOf st3).back? with
   | none =>
    dsimp only
    obtain⟨g1,g2,g3,g4,g5⟩:=fin Xs st3 H3 (AK _)
    exact AG (DZ (AJ ⟨lo+n,_,_,rfl,g1,g2,g3,g4,g5⟩))
   | some u =>
    obtain⟨s1,k1,p1⟩:=u
    dsimp only
    generalize power' a₀.length (2*s1+k1) (2*s1+k1+k1+n) a₀.length=pw
    refine AG (EE (CC (I:=λy c st'=>c=(none,())/\∃Xs',At a₀ ρ κ Xs' Z3 st'/\Xs'.length<=Xs.length) (Q:=λc st'=>c=(none,())/\∃Xs',At a₀ ρ κ Xs' Z3 st'/\Xs'.length<=Xs.length) ?st2 (λc st' hh=>hh) ⟨rfl,Xs,H3,AK _⟩) ?po2)
    case st2 =>
     rintro y c st5-hy ⟨rfl,Xs5,H5,l5⟩
     refine AG (FP ?_)
     have hr5:=H5.runs
     by_cases c5:(pendingOf st5).size > 1
     ·rw[if_pos c5]
      obtain⟨t,ht⟩:∃t,(pendingOf st5)[(pendingOf st5).size-2]? = some t:=⟨(pendingOf st5)[(pendingOf st5).size-2]'(by lia),by simp⟩
      rw[ht]
      obtain⟨t1,t2,t3⟩:=t
      dsimp only
      refine Lw (λ_=>AJ ⟨rfl,Xs5,H5,l5⟩) λ_=>AG (H5.merge hC (by lia) λXs' st' H' hs=>?_)
      rw[if_neg (by simp)]
      have:=H'.runs
      exact AJ ⟨rfl,Xs',H',by lia⟩
     ·rw[if_neg c5]
      exact AJ ⟨rfl,Xs5,H5,l5⟩
    case po2 =>
     rintro c st5 ⟨rfl,Xs5,H5,l5⟩
     dsimp only
     obtain⟨g1,g2,g3,g4,g5⟩:=fin Xs5 _ (H5.pow (i:=(pendingOf st5).size-1) (f:=λx=>(x.1,x.2.1,pw)) λ_=>rfl) l5
     exact AG (DZ (AG (DZ (AJ ⟨lo+n,_,_,rfl,g1,g2,g3,g4,g5⟩))))
end
end Lp.Tim
namespace LT
open PySem PySem.Spec PyProof.Rows HT
open PySem.SeqAt
open PySem.AutoSeq1 (wpAny_loadPart')
open PySem.MeetsSeq PySem.MeetsSeq2 PySem.MeetsSeq3
def Mr (A:Around) (s:Shared) (u v:Value) (r:Bool):Prop:=∀(prog:Program) (w:World) (E:Value->Shared->Prop) (Q:Value->Shared->Prop),Q (.bool r) s->wpAny (model prog w) A (richCompare .Lt u v) Q E s
def C3 (A:Around) (s:Shared):List Value->List Value->Bool->Prop
 | [],[],r=>r=false
 | [],_::_,r=>r=true
 | _::_,[],r=>r=false
 | u::us,v::vs,r=>∃e,EqAt A s u v e/\(e=true->C3 A s us vs r)/\(e=false->Mr A s u v r)
theorem F9 {A:Around} {s:Shared} {a c:Int} {t u:Tok}:Mr A s (.int a t) (.int c u) (decide (a<c)):=λprog w E Q h =>
 (HZ h:wpAny (model prog w) A (compareOp .Lt (.int a t) (.int c u)) Q E s)
theorem Ga {A:Around} {s:Shared} {a c:Str} {t u:Tok}:Mr A s (.str a t) (.str c u) (decide (a.cps.toList<c.cps.toList)):=λprog w E Q h =>
 (lt_str h:wpAny (model prog w) A (compareOp .Lt (.str a t) (.str c u)) Q E s)
theorem C4 (l b:Addr) (items items2:Array Value) (n n2:Nat) (dd dd2:Option Addr) (sl sl2:Array (Option Value)) (r:Bool) :
  Meets (Builtin.«tuple.__lt__» ⟨[.ref l,.ref b],[]⟩) (λA R s=>s.heap.get? l=some {cls:=.type "tuple",dict:=dd,data:=.seq items n,slots:=sl}/\s.heap.get? b=some {cls:=.type "tuple",dict:=dd2,data:=.seq items2 n2,slots:=sl2}/\C3 A.in1 s items.toList items2.toList r/\R (.ok (.ret (.bool r))) s) :=
 .of_wp λprog w A R s h=>by
  obtain⟨hh0,g,d,tk0,os0⟩:=s;obtain⟨ql,hb,hx,h⟩:=h
  have sub0:=DY
  wp_walk using CI ql,CI hb,FL _ (λrest b s'=>b.1=none/\s'=⟨hh0,g,d,tk0,os0⟩/\∃(us1 us2:List Value),rest=us1.zip us2 /\
   C3 A.in1 ⟨hh0,g,d,tk0,os0⟩ us1 us2 r/\us1.length+items2.size=us2.length+items.size) _
  case turn =>
   rintro⟨y,x⟩ rest b s' ⟨p0,rfl,us1,us2,pz,px,pl⟩
   cases us1 with
   | nil=>rw[FI]at pz;cases pz
   | cons u us1 =>
    cases us2 with
    | nil=>rw[EH]at pz;cases pz
    | cons v us2 =>
     rw[CL]at pz
     injection pz with pyx pr
     injection pyx with py px'
     subst py px'
     simp![BC]at pl
     obtain⟨same,eq0,e1,e2⟩:=px
     refine AB (eq0 prog w _ _ ?_)
     cases same with
     | true =>
      wp_walk
      exact⟨rfl,rfl,_,_,pr,e1 rfl,by lia⟩
     | false =>
      have low:=e2 rfl prog w
      wp_walk using low
      exact⟨_,rfl,by simpa using h⟩
  case fin =>
   rintro⟨c1,c2⟩ s' ⟨p0,rfl,us1,us2,pz,px,pl⟩
   simp only at p0
   subst p0
   have hv:r=decide (items.size<items2.size):=by
    cases us1 with
    | nil =>
     cases us2 with
     | nil =>
      simp![BU]at pl
      rw[decide_eq_false (by lia)];exact px
     | cons v us2 =>
      simp![BU,BC]at pl
      rw[decide_eq_true (by lia)];exact px
    | cons u us1 =>
     cases us2 with
     | nil =>
      simp![BU,BC]at pl
      rw[decide_eq_false (by lia)];exact px
     | cons v us2 =>
      rw[CL]at pz
      cases pz
   rw[hv]at h
   wp_walk
   exact⟨_,rfl,by simpa[Builtin.Tuple.tupleCompareSizes]using h⟩
  case h =>
   exact⟨rfl,rfl,items.toList,items2.toList,rfl,hx,by simp;lia⟩
theorem za {A:Around} {s:Shared} {l b:Addr} {items items2:Array Value} {r:Bool} (hl:IsTup s.heap l items) (hb:IsTup s.heap b items2) (hu:A.units<cLine) (hx:∀A':Around,A'.units<=A.units+4->C3 A' s items.toList items2.toList r):Mr A s (.ref l) (.ref b) r:=λprog w E Q h=>by
 obtain⟨⟨_,dd,_,sl⟩,ho,rfl,n,rfl⟩:=id hl
 obtain⟨⟨_,dd2,_,sl2⟩,ho2,rfl,n2,rfl⟩:=id hb
 exact EI (op:=.Lt) ⟨_,ho,rfl⟩ ⟨_,ho2,rfl⟩ HR HH (GV _ _) (C4 l b items items2 n n2 dd dd2 sl sl2 r)
  ⟨ho,ho2,hx _ (by simp![Around.in1_units];lia),show Value.bool r≠Value.notImplemented/\Q (.bool r) s from⟨(λx=>nomatch x),h⟩⟩ hu
end LT
namespace Lp.Srt
open PySem PySem.W PyProof.Rows PySem.Calls Lp.Tim
theorem wt {α β:Type} {f:α->β}:∀{l1 l2:List β},l1.Perm l2->∀{l:List α},l2=l.map f->∃q:List α,q.Perm l/\l1=q.map f:=by
 intro l1 l2 h
 induction h with
 | nil =>
     intro l e;have:l=[]:=by simpa using e.symm
     subst this;exact⟨[],.nil,rfl⟩
 | cons x h ih =>
  intro l e
  cases l with
  | nil=>cases e
  | cons a l =>
   injection e with e1 e2
   obtain⟨q,hq,rfl⟩:=ih e2
   exact⟨a::q,hq.cons a,by rw[AL,e1]⟩
 | swap x y r =>
  intro l e
  match l,e with
  | a::b::l,e =>
   injection e with e1 e2
   injection e2 with e2 e3
   exact⟨b::a::l,.swap _ _ _,by rw[AL,AL,e1,e2,e3]⟩
  | [a],e=>cases e
  | [],e=>cases e
 | trans h1 h2 ih1 ih2 =>
  intro l e
  obtain⟨q,hq,rfl⟩:=ih2 e
  obtain⟨p,hp,e2⟩:=ih1 rfl
  exact⟨p,hp.trans hq,e2⟩
open Classical in
def Ly (vs:List Value) (rk:Nat->Nat) (x:Keyed):Nat:=if h:∃i,i<vs.length/\vs.getD i Value.none=x.1 then rk h.choose else 0
theorem zb {vs:List Value} {rk:Nat->Nat} (hs:∀i j,i<vs.length->j<vs.length->vs.getD i Value.none=vs.getD j Value.none->rk i=rk j) {i:Nat} (hi:i<vs.length):Ly vs rk (vs.getD i Value.none,vs.getD i Value.none)=rk i:=by
 unfold Ly
 have h:∃j,j<vs.length/\vs.getD j Value.none=(vs.getD i Value.none,vs.getD i Value.none).1:=⟨i,hi,rfl⟩
 rw[dif_pos h]
 exact hs _ _ h.choose_spec.1 hi h.choose_spec.2
section
variable {prog : Program} {w : World} {A : Around} {E : Value -> Shared -> Prop} {s : Shared}
theorem rq {a:Addr} {vs:List Value} {c0:Nat} {P:PySem.Fin->Shared->Prop} (q0:s.heap.get? a=some (seqObj "list" vs.toArray c0)) (hsm:vs.length<=sizeLine) (rk:Nat->Nat)
  (hsame:∀i j,i<vs.length->j<vs.length->vs.getD i Value.none=vs.getD j Value.none->rk i=rk j)
  (hk:2<=vs.length->∀g:Heap,(∀b o,b≠a->s.heap.get? b=some o->g.get? b=some o)->∃κ:SortKind,(∀(Q:SortKind->Shared->Prop) (E':Value->Shared->Prop),Q κ {s with heap:=g}->wpAny (model prog w) A (keyKind' vs.toArray) Q E' {s with heap:=g}) /\
   ∀(i j:Nat) (C:Bool->Shared->Prop),i<vs.length->j<vs.length->C (decide (rk i<rk j)) {s with heap:=g}->wpAny (model prog w) A (keyLt' κ (vs.getD i Value.none) (vs.getD j Value.none)) C (λ_ _=>False) {s with heap:=g})
  (fin:∀p:Array Nat,PP vs.length p->Up rk p vs.length->P (.done (.ret .none)) {s with heap:=sortedHeap s.heap a vs (List.toArray (p.toList.map λi=>vs.getD i Value.none))}) :
  wpAny (model prog w) A (Builtin.«list.sort» ⟨[.ref a],[]⟩) P E s:=by
 rw[list_sort_plain]
 have lta:a<s.heap.objs.size:=AQ q0
 have small:vs.toArray.size<=sizeLine:=by rw[AH];exact hsm
 refine AB (listItems_at q0 rfl (AB (listUpdate_at q0 rfl ?_ small (EF _))))
 obtain⟨e1,q1⟩:∃e1,(s.heap.update a (Obj.mapSeq λ_=>(#[]:Array Value))).get? a=some (seqObj "list" #[] e1):=⟨_,get?_update_seq q0 (λ_=>#[])⟩
 refine AB (seqEpoch_at q1 rfl (AB (wpAny_newTuple (AB (wpAny_newList (DX ?_) (EF _))) (by simpa using small))))
 have q6:(((s.heap.update a (Obj.mapSeq λ_=>(#[]:Array Value))).push (seqObj "tuple" vs.toArray 0)).push (seqObj "list" #[] 0)).get? a=some (seqObj "list" #[] e1):=AF _ (AF _ q1)
 have old:∀b o,b≠a->s.heap.get? b=some o->(((s.heap.update a (Obj.mapSeq λ_=>(#[]:Array Value))).push (seqObj "tuple" vs.toArray 0)).push (seqObj "list" #[] 0)).get? b=some o:=λb o hb e =>
  AF _ (AF _ (by rw[Heap.get?_update_ne _ _ _ _ hb];exact e))
 show wpAny (model prog w) A _ P E {s with heap:=((s.heap.update a (Obj.mapSeq λ_=>(#[]:Array Value))).push (seqObj "tuple" vs.toArray 0)).push (seqObj "list" #[] 0)}
 dsimp only
 by_cases hs2:vs.toArray.size<2
 ·have hs2':vs.length<2:=by simpa using hs2
  rw[if_pos hs2,if_pos hs2]
  refine AB (AM ?_)
  rw[StateT.run_pure]
  refine AB (AM ?_)
  dsimp only
  have eo:(arrOf (SortSt.mk' general' (vs.toArray.zip vs.toArray) #[] 7 none)).map (·.2)=List.toArray ((List.toArray (List.range vs.length)).toList.map λi=>vs.getD i Value.none):=by
   show(vs.toArray.zip vs.toArray).map (·.2)=_
   rw[Go,j6]
   apply HD.mp
   simp[List.map_snd_zip]
  rw[eo]
  refine AB (seqEpoch_at q6 rfl (AB (listUpdate_at q6 rfl ?_ (EF _) (by rw[Go,j6];exact Nat.le_succ_of_le small))))
  simp![bne_self_eq_false,BB,if_false]
  refine AM (fin (List.toArray (List.range vs.length)) (List.Perm.refl _) λi j hij hj=>?_)
  rw[show i=j by lia]
  exact AK _
 ·have h2:2<=vs.length:=by simp at hs2;lia
  rw[if_neg hs2,if_neg hs2]
  obtain⟨κ,k1,k2⟩:=hk h2 _ old
  refine AB (k1 _ _ ?_)
  have ez:(vs.toArray.zip vs.toArray).toList=(List.range vs.length).map λi=>(vs.getD i Value.none,vs.getD i Value.none):=by
   apply DC
   intro i
   by_cases hi:i<vs.length
   ·simp[hi,EX]
   ·simp[hi]
  refine AB (DO (Lx (prog:=prog) (w:=w) (A:=A) (E:=E) (s:={s with heap:=((s.heap.update a (Obj.mapSeq λ_=>(#[]:Array Value))).push (seqObj "tuple" vs.toArray 0)).push (seqObj "list" #[] 0)}) (st:=SortSt.mk' κ (vs.toArray.zip vs.toArray) #[] 7 none)
   (a₀:=(vs.toArray.zip vs.toArray).toList) (ρ:=Ly vs rk) (κ:=κ) (Q:=λ_ st'=>failedOf st'=none/\∃p:Array Nat,PP vs.length p/\Up rk p vs.length/\(arrOf st').map (·.2)=List.toArray (p.toList.map λi=>vs.getD i Value.none))
   (λx y hx hy C hC=>?_) rfl rfl rfl rfl (by rw[ez];simpa using h2) λst' hp hs hf=>⟨hf,?_⟩) ?_ λ_ _ x=>x)
  ·rw[ez]at hx hy
   obtain⟨i,hi,rfl⟩:=CZ.mp hx
   obtain⟨j,hj,rfl⟩:=CZ.mp hy
   have hi':i<vs.length:=by simpa using hi
   have hj':j<vs.length:=by simpa using hj
   rw[zb hsame hi',zb hsame hj']at hC
   exact k2 i j C hi' hj' hC
  ·obtain⟨q,hq,e⟩:=wt hp ez
   refine⟨q.toArray,by unfold PP;rw[Go];exact hq,λi j hij hj=>?_,?_⟩
   ·have lq:q.length=vs.length:=by rw[hq.length_eq];simp
    rw[e]at hs
    have hqi:q.getD i 0<vs.length:=by
     have:q.getD i 0∈q:=by rw[show q.getD i 0=q[i]'(by lia)by simp[show i<q.length by lia]];exact EC _
     simpa using hq.mem_iff.mp this
    have hqj:q.getD j 0<vs.length:=by
     have:q.getD j 0∈q:=by rw[show q.getD j 0=q[j]'(by lia)by simp[show j<q.length by lia]];exact EC _
     simpa using hq.mem_iff.mp this
    have:=km hs (i:=i) (j:=j) (x:=(vs.getD (q.getD i 0) Value.none,vs.getD (q.getD i 0) Value.none)) (y:=(vs.getD (q.getD j 0) Value.none,vs.getD (q.getD j 0) Value.none)) (by rw[BM,AA (by lia)];simp[show i<q.length by lia]) (by rw[BM,AA (by lia)];simp[show j<q.length by lia]) hij
    rw[zb hsame hqi,zb hsame hqj]at this
    unfold Ky
    simpa using this
   ·apply HD.mp
    rw[Array.toList_map,e]
    simp
  ·rintro⟨⟨⟩,st'⟩ s' ⟨rfl,hf,p,hp,hu,ho⟩
   dsimp only
   rw[ho]
   refine AB (seqEpoch_at q6 rfl (AB (listUpdate_at q6 rfl ?_ (EF _) (by rw[AH,AD,BS,hp.sz];simp at small;lia))))
   rw[hf]
   simp![bne_self_eq_false,BB,if_false]
   exact AM (fin p hp hu)
theorem Am {l:Addr} {vs:List Value} {Q:Value->Shared->Prop} (hl:s.heap.IsList l vs.toArray) (hsm:vs.length<=sizeLine) (rk:Nat->Nat)
  (hsame:∀i j,i<vs.length->j<vs.length->vs.getD i Value.none=vs.getD j Value.none->rk i=rk j)
  (hk:2<=vs.length->∀(A':Around) (g:Heap),A'.units<=A.units+8->(∀b o,s.heap.get? b=some o->g.get? b=some o)->∃κ:SortKind,(∀(Q:SortKind->Shared->Prop) (E':Value->Shared->Prop),Q κ {s with heap:=g}->wpAny (model prog w) A' (keyKind' vs.toArray) Q E' {s with heap:=g}) /\
   ∀(i j:Nat) (C:Bool->Shared->Prop),i<vs.length->j<vs.length->C (decide (rk i<rk j)) {s with heap:=g}->wpAny (model prog w) A' (keyLt' κ (vs.getD i Value.none) (vs.getD j Value.none)) C (λ_ _=>False) {s with heap:=g})
  (fin:∀p:Array Nat,PP vs.length p->Up rk p vs.length->Q (.ref (s.heap.objs.size+1)) {s with heap:=sortedAll s.heap vs (List.toArray (p.toList.map λi=>vs.getD i Value.none))}) :
  wpAny (model prog w) A (call (.builtin "sorted") [.ref l]) Q E s:=by
 refine Calls.call_function_entry kind_sorted plain_sorted entry_sorted (args_sorted1 _) ?_
 unfold Builtin.«sorted»
 refine AB (m:=checkCount "sorted" 1 1 _) (AM (AB (collect_list hl (AB (wpAny_newList ?_ hsm)) hsm)))
 have szL:((s.heap.push (seqObj "list" #[] 0)).update s.heap.objs.size (Obj.mapSeq (·++vs.toArray))).objs.size=s.heap.objs.size+1:=by rw[Heap.size_update,size_push']
 have qL:(((s.heap.push (seqObj "list" #[] 0)).update s.heap.objs.size (Obj.mapSeq (·++vs.toArray))).push (seqObj "list" vs.toArray 0)).get? (s.heap.objs.size+1)=some (seqObj "list" vs.toArray 0):=szL ▸ AX _ rfl
 have old:∀b o,s.heap.get? b=some o->(((s.heap.push (seqObj "list" #[] 0)).update s.heap.objs.size (Obj.mapSeq (·++vs.toArray))).push (seqObj "list" vs.toArray 0)).get? b=some o:=λb o e =>
  AF _ (by rw[Heap.get?_update_ne _ _ _ _ (BD (AQ e))];exact AF _ e)
 show wpAny _ _ _ _ _ {s with heap:=(((s.heap.push (seqObj "list" #[] 0)).update s.heap.objs.size (Obj.mapSeq (·++vs.toArray))).push (seqObj "list" vs.toArray 0))}
 rw[szL]
 refine AB (DX (DG slot_list_sort ⟨_,qL,rfl⟩ entry_list_sort ?go (args_list_sort _)))
 case go =>
  refine rq (s:={s with heap:=(((s.heap.push (seqObj "list" #[] 0)).update s.heap.objs.size (Obj.mapSeq (·++vs.toArray))).push (seqObj "list" vs.toArray 0))}) qL hsm rk hsame (λh2 g hg=>hk h2 _ g ?u λb o e=>hg b o (BD (GO (AQ e))) (old b o e)) λp hp hu=>⟨_,rfl,?_⟩
  case u =>
   simp![Around.in1_units]
   lia
  exact AM ⟨_,rfl,fin p hp hu⟩
end
end Lp.Srt
namespace Lp
open PySem PySem.Spec PyProof.Rows L2 Lp.Srt
structure OrdB {R:Type} (lt:R->R->Bool):Prop where
 irr:∀a,lt a a=false
 tr:∀{a b c},lt a b=true->lt b c=true->lt a c=true
 tot:∀{a b},lt a b=false->lt b a=false->a=b
section
variable {R : Type} {lt : R -> R -> Bool}
theorem OrdB.ng (O:OrdB lt) {r a b:R} (h1:lt r b=true) (h2:lt a b=false):lt r a=true:=by
 cases e:lt r a with
 | true=>rfl
 | false =>
  cases e2:lt a r with
  | true=>rw[O.tr e2 h1]at h2;cases h2
  | false=>rw[O.tot e e2,h2]at h1;cases h1
theorem OrdB.as (O:OrdB lt) {a b:R} (h:lt a b=true):lt b a=false:=by
 cases e:lt b a with
 | false=>rfl
 | true=>have:=O.tr h e;rw[O.irr]at this;cases this
def rkG (lt:R->R->Bool) (d:R) (rs:List R) (i:Nat):Nat:=rs.countP λr=>lt r (rs.getD i d)
theorem Hz (O:OrdB lt) {d:R} {rs:List R} {i j:Nat} (hi:i<rs.length) (hj:j<rs.length):decide (rkG lt d rs i<rkG lt d rs j)=lt (rs.getD i d) (rs.getD j d):=by
 have mi:rs.getD i d∈rs:=by rw[show rs.getD i d=rs[i]by simp[hi]];exact EC hi
 cases e:lt (rs.getD i d) (rs.getD j d)with
 | true=>exact decide_eq_true (uj (λx _ h=>O.tr h e) ⟨_,mi,e,O.irr _⟩)
 | false =>
  refine decide_eq_false (IG.mpr ?_)
  exact HV λx _ h=>O.ng h e
theorem o9 (x:R):∀l:List R,(Kq lt x l).Perm (x::l)
 | []=>.refl _
 | y::r=>by
  unfold Kq
  split
  ·exact((o9 x r).cons y).trans (.swap x y r)
  ·exact .refl _
theorem da:∀l:List R,(eh lt l).Perm l
 | []=>.refl _
 | x::r=>(o9 x (eh lt r)).trans ((da r).cons x)
theorem C5 (O:OrdB lt) (x:R):∀l:List R,l.Pairwise (λa b=>lt b a=false)->(Kq lt x l).Pairwise (λa b=>lt b a=false)
 | [],_=>by simp[Kq]
 | y::r,h=>by
  unfold Kq
  have h':=GM.mp h
  split
  ·rename_i hc
   refine GM.mpr ⟨λz hz=>?_,C5 O x r h'.2⟩
   rcases AV.mp ((o9 x r).mem_iff.mp hz)with rfl | hz
   ·exact O.as hc
   ·exact h'.1 z hz
  ·rename_i hc
   have hc':lt y x=false:=by simpa using hc
   refine GM.mpr ⟨λz hz=>?_,h⟩
   rcases AV.mp hz with rfl | hz
   ·exact hc'
   ·cases e:lt z x with
    | false=>rfl
    | true=>have:=O.ng e hc';rw[h'.1 z hz]at this;cases this
theorem ny (O:OrdB lt):∀l:List R,(eh lt l).Pairwise (λa b=>lt b a=false)
 | []=>.nil
 | x::r=>C5 O x _ (ny O r)
theorem rz (O:OrdB lt) {l r:List R} (hp:l.Perm r) (hu:l.Pairwise (λa b=>lt b a=false)):l=eh lt r :=
 List.Perm.eq_of_pairwise (le:=λa b=>lt b a=false) (λa b _ _ h1 h2=>O.tot h2 h1) hu (ny O r) (hp.trans (da r).symm)
theorem An (O:OrdB lt) {d:R} {rs:List R} {p:Array Nat} (hp:PP rs.length p) (hu:Up (rkG lt d rs) p rs.length):p.toList.map (λi=>rs.getD i d)=eh lt rs:=by
 refine rz O ?_ ?_
 ·have:=hp.map λi=>rs.getD i d
  rwa [Lp.Srt.range_getD]at this
 ·rw[EY]
  intro i j hi hj hij
  have hsz:=hp.sz
  simp![AD,BS]at hi hj
  simp![List.getElem_map,Array.getElem_toList]
  have bi:p[i]<rs.length:=by simpa using hp.mem_iff.mp (show p[i]∈p.toList by simp)
  have bj:p[j]<rs.length:=by simpa using hp.mem_iff.mp (show p[j]∈p.toList by simp)
  rw[<-Hz O bj bi]
  refine decide_eq_false (IG.mpr ?_)
  have:=hu i j (by lia) (by lia)
  unfold Ky at this
  simpa[hi,hj]using this
theorem Ts:OrdB lexLt:=⟨o6,yu,rg⟩
theorem Lz {a b:Str} (h:a.cps.toList=b.cps.toList):a=b:=by
 obtain⟨a⟩:=a
 obtain⟨b⟩:=b
 congr 1
 exact HD.mp h
theorem Rk:OrdB ltN:=by
 refine⟨λa=>by simp[ltN,o6],λ{a b c} h1 h2=>?_,λ{a b} h1 h2=>?_⟩
 ·unfold ltN at h1 h2 ⊢
  by_cases e1:a.1=b.1
  ·rw[if_pos e1]at h1
   by_cases e2:b.1=c.1
   ·rw[if_pos e2]at h2
    rw[if_pos (e1.trans e2)]
    by_cases f1:a.2.1=b.2.1
    ·rw[if_pos f1]at h1
     by_cases f2:b.2.1=c.2.1
     ·rw[if_pos f2]at h2
      rw[if_pos (f1.trans f2)]
      exact yu h1 h2
     ·rw[if_neg f2]at h2
      rw[if_neg (by rw[f1];exact f2),f1];exact h2
    ·rw[if_neg f1]at h1
     by_cases f2:b.2.1=c.2.1
     ·rw[if_neg (by rw[<-f2];exact f1),<-f2];exact h1
     ·rw[if_neg f2]at h2
      have lt1:=of_decide_eq_true h1
      have lt2:=of_decide_eq_true h2
      have lt3:=List.lt_trans lt1 lt2
      rw[if_neg (λz=>by rw[z]at lt3;exact List.lt_irrefl _ lt3)]
      exact decide_eq_true lt3
   ·rw[if_neg e2]at h2
    rw[if_neg (by rw[e1];exact e2),e1];exact h2
  ·rw[if_neg e1]at h1
   by_cases e2:b.1=c.1
   ·rw[if_neg (by rw[<-e2];exact e1),<-e2];exact h1
   ·rw[if_neg e2]at h2
    have:=yu h1 h2
    rw[if_neg (λz=>by rw[z,o6]at this;cases this)]
    exact this
 ·unfold ltN at h1 h2
  by_cases e1:a.1=b.1
  ·rw[if_pos e1]at h1
   rw[if_pos e1.symm]at h2
   by_cases f1:a.2.1=b.2.1
   ·rw[if_pos f1]at h1
    rw[if_pos f1.symm]at h2
    exact Prod.ext e1 (Prod.ext f1 (rg h1 h2))
   ·rw[if_neg f1]at h1
    rw[if_neg (Ne.symm f1)]at h2
    have n1:=of_decide_eq_false h1
    have n2:=of_decide_eq_false h2
    exact absurd (Lz (List.le_antisymm n2 n1)) f1
  ·rw[if_neg e1]at h1
   rw[if_neg (Ne.symm e1)]at h2
   exact absurd (rg h1 h2) e1
end
section
variable {X : Cx} {φ : Phi} {pos : Pos} {ι : List Addr} {H : Hp}
theorem nz {K:PySem.W.Frag}:∀(k:Nat) (d:D) (v:V),D.pureN k d=true->IsD K ι H d v->IsW K H d v:=by
 intro k
 induction k with
 | zero=>intro d v hp hd;cases d<;>first | (simpa[IsD,IsW]using hd) | (simp[D.pureN]at hp)
 | succ k ih =>
  have all:∀(ds:List D) (xs:List V),ds.all (D.pureN k)=true->ai K ι H ds xs->ig K H ds xs:=by
   intro ds
   induction ds with
   | nil=>intro xs _ h;simpa[ai,ig]using h
   | cons d ds ih2 =>
    intro xs hp h
    rw[BO,AU]at hp
    simp![ai]at h
    obtain⟨v,r,rfl,q,t⟩:=h
    simp![ig]
    exact⟨v,r,rfl,ih d v hp.1 q,ih2 r hp.2 t⟩
  intro d v hp hd
  cases d with
  | tup ds =>
   obtain⟨a,xs,rfl,hq,hds⟩:=dq hd
   simp![IsW]
   exact⟨a,xs,rfl,hq,all ds xs hp hds⟩
  | lst ds =>
   obtain⟨a,xs,rfl,hq,hds⟩:∃a xs,v=.ref a/\FzL K H a xs/\ai K ι H ds xs:=by simpa[IsD]using hd
   simp![IsW]
   exact⟨a,xs,rfl,.inr hq,all ds xs hp hds⟩
  | loc n=>simp[D.pureN]at hp
  | _=>simpa[IsD,IsW]using hd
theorem zc {R:Type} {lt:R->R->Bool} {enc:R->D} {dft:R} {m:Mk} {pins:List (Addr×Obj)} {s:Shared} {σ:St} {μ:Sto} {a:Addr} {vV:List V} {its:List Value} {rs:List R} {Q:VK} (O:OrdB lt) (hpu:∀r,D.pureN 4 (enc r)=true) (hin:∀r r',deq (enc r) (enc r')=true->r=r') (I:Inv X pins σ H s) (hS:Sim X.K ι H μ)
  (hz:ai X.K ι H (rs.map enc) vV) (rv:bu vV its) (pl:s.heap.IsList a its.toArray) (hl:rs.length<=1000)
  (hk:2<=rs.length->∀(A':Around) (g:Heap),A'.units<=X.A.units+8->Inv X pins σ H {s with heap:=g}->∃κ:SortKind,(∀(Q:SortKind->Shared->Prop) (E':Value->Shared->Prop),Q κ {s with heap:=g}->wpAny (model X.prog X.w) A' (keyKind' its.toArray) Q E' {s with heap:=g}) /\
   ∀(i j:Nat) (C:Bool->Shared->Prop),i<rs.length->j<rs.length->C (lt (rs.getD i dft) (rs.getD j dft)) {s with heap:=g}->wpAny (model X.prog X.w) A' (keyLt' κ (its.getD i Value.none) (its.getD j Value.none)) C (λ_ _=>False) {s with heap:=g})
  (h:fj X.K (RD X.K) ι H (mkL m ((eh lt rs).map enc) μ) Q):wpAny (model X.prog X.w) X.A (call (.builtin "sorted") [.ref a]) (EP X pins σ Q) X.xe s:=by
 have l1:vV.length=rs.length:=by rw[hz.length,AD]
 have l2:its.length=rs.length:=by rw[<-rv.length];exact l1
 have e3:∀i,i<rs.length->(rs.map enc).getD i .non=enc (rs.getD i dft):=λi hi=>by simp[hi]
 have hd:∀i,i<rs.length->IsD X.K ι H (enc (rs.getD i dft)) (vV.getD i .non):=λi hi=>by
  have:=Ct hz (i:=i) (by rw[AD];exact hi)
  rwa [e3 i hi]at this
 have hv:∀i,i<rs.length->RelV (vV.getD i .non) (its.getD i Value.none):=λi hi=>jk rv i (by lia)
 have small:(1000:Nat)<=sizeLine:=by rw[FS];decide
 refine Am pl (by lia) (rkG lt dft rs) (λi j hi hj e=>?_) (λh2 A' g hA hg=>?_) λp hp hu'=>Fo ?_
 ·have ev:vV.getD i .non=vV.getD j .non:=(hv i (by lia)).inj (by rw[e];exact hv j (by lia))
  have w1:=nz 4 _ _ (hpu _) (hd i (by lia))
  have w2:=nz 4 _ _ (hpu _) (hd j (by lia))
  rw[ev]at w1
  have:rs.getD i dft=rs.getD j dft:=hin _ _ (ot 4 _ _ _ (hpu _) (hpu _) w1 w2 I)
  unfold rkG
  rw[this]
 ·have I':Inv X pins σ H {s with heap:=g}:=I.call' (s':={s with heap:=g}) (ch:=[]) rfl (Un.kept hg) (I.hok.kept hg) I.bare (λb z=>absurd z (by simp))
  obtain⟨κ,k1,k2⟩:=hk (by lia) A' g hA I'
  refine⟨κ,k1,λi j C hi hj hC=>k2 i j C (by lia) (by lia) ?_⟩
  rwa [Hz O (by lia) (by lia)]at hC
 ·rw[l2]at hp hu'
  obtain⟨e',he⟩:=sortedAll_at s.heap its (List.toArray (p.toList.map λi=>its.getD i Value.none))
  have mem:∀i∈p.toList,i<rs.length:=λi hi=>by simpa using hp.mem_iff.mp hi
  have hd':ai X.K ι H ((eh lt rs).map enc) (p.toList.map λi=>vV.getD i .non):=by
   rw[<-An O hp hu',CJ]
   exact yv λi hi=>hd i (mem i hi)
  have hv2:bu (p.toList.map λi=>vV.getD i .non) (p.toList.map λi=>its.getD i Value.none):=yw λi hi=>hv i (mem i hi)
  exact⟨.ref (s.heap.objs.size+1),upd H (s.heap.objs.size+1) (.lst (p.toList.map λi=>vV.getD i .non)),I.laid (t':=s.toks) (λb u e=>sortedAll_old e) (Nat.le_succ _) ⟨by rw[AD,BS,hp.sz];lia,_,e',hv2,he⟩,rfl,lp hS hd' h (I.hok.fresh (Nat.le_succ _))⟩
theorem deqs_ints:∀(x y:List Int),lg (x.map D.int) (y.map D.int)=true->x=y
 | [],[],_=>rfl
 | [],_::_,h=>by simp[lg]at h
 | _::_,[],h=>by simp[lg]at h
 | a::x,b::y,h=>by
  simp![AL,lg,deq,AU,decide_eq_true_eq]at h
  rw[h.1,deqs_ints x y h.2]
theorem deqs_self:∀(x:List Int),lg (x.map D.int) (x.map D.int)=true
 | []=>rfl
 | a::x=>by simp[lg,deq,deqs_self x]
theorem r0 (x y:List Int):lg (x.map D.int) (y.map D.int)=decide (x=y):=by
 by_cases h:x=y
 ·subst h;rw[deqs_self];simp
 ·rw[decide_eq_false h]
  cases e:lg (x.map D.int) (y.map D.int)with
  | false=>rfl
  | true=>exact absurd (deqs_ints x y e) h
theorem wu (k:Nat) (x:List Int):(x.map D.int).all (D.pureN k)=true:=by
 rw[AS]
 intro d hd
 obtain⟨i,_,rfl⟩:=CZ.mp hd
 cases k<;>rfl
theorem kn (k:Nat) (x:List Int):D.pureN (k+1) (.tup (x.map D.int))=true:=wu k x
theorem wx (t:Str) (y:List Int):D.pureN 3 (.tup (.str t::y.map D.int))=true:=by
 show(true&&(y.map D.int).all (D.pureN 2))=true
 rw[wu];rfl
theorem Gb (x:NR):D.pureN 4 (dj x)=true:=by
 show(D.pureN 3 (.tup (x.1.map D.int))&&(D.pureN 3 (.tup (.str x.2.1::x.2.2.map D.int))&&true))=true
 rw[kn 2 x.1]
 show(true&&((true&&(x.2.2.map D.int).all (D.pureN 2))&&true))=true
 rw[wu 2 x.2.2];rfl
theorem L7 (x y:NR) (h:deq (dj x) (dj y)=true):x=y:=by
 obtain⟨x1,x2,x3⟩:=x
 obtain⟨y1,y2,y3⟩:=y
 simp![dj,deq,lg,AU,decide_eq_true_eq,and_true]at h
 obtain⟨h1,h2,h3⟩:=h
 rw[deqs_ints _ _ h1,h2,deqs_ints _ _ h3]
theorem Ao {m:Mk} (hu:X.A.units+64<cLine):fk X (.builtin "sorted") (qy X.K (btD .sortedT m)):=by
 intro pins s σ H xs us Q I r ⟨ι,ds,μ,hS,hds,h⟩
 obtain⟨d,v,rfl,hv,h⟩:=jg hds h
 unfold By at h
 cases el:Lp.listOf μ d with
 | none=>rw[el]at h;exact h.elim
 | some zs =>
 rw[el]at h
 cases er:rowsOf zs with
 | none=>rw[CO,er]at h;exact h.elim
 | some rs =>
 rw[CO,er]at h
 simp only at h
 split at h
 ·rename_i hc
  obtain⟨a,vV,rfl,hq,hz⟩:=gw hS hv el
  obtain⟨u,rfl,ru⟩:=vals1 r
  cases(show u=Value.ref a from ru)
  obtain⟨its,rv,pl,hlen⟩:=I.list hq.sq
  have ez:=uk er
  subst ez
  have l1:vV.length=rs.length:=by rw[hz.length,AD]
  have l2:its.length=rs.length:=by rw[<-rv.length];exact l1
  refine zc (enc:=λr=>D.tup (r.map D.int)) (dft:=[]) Ts (λr=>kn 3 r) (λr r' e=>deqs_ints r r' (by simpa only[deq]using e)) I hS hz rv pl.isList hc.1 (λh2 A' g hA I'=>⟨tuples' true,λQ' E' q=>?_,λi j C hi hj hC=>?_⟩) h
  ·obtain⟨fs,f1,f2,f3⟩:=um (rj I' hc.2 hz rv)
   exact PySem.W.kat_kind (s:={s with heap:=g}) (T:=.type "int") f1 (by lia) (λv hv=>by obtain⟨i,t,rfl⟩:=f3 v hv;exact PySem.W.Looks.of_pure rfl) (by decide) q
  ·obtain⟨_,a1,i1,e1,⟨o1,g1,_,n1,d1⟩,v1⟩:=jk (d:=[]) (e:=Value.none) (rj I' hc.2 hz rv) i hi
   obtain⟨_,a2,i2,e2,⟨o2,g2,_,n2,d2⟩,v2⟩:=jk (d:=[]) (e:=Value.none) (rj I' hc.2 hz rv) j hj
   rw[e1,e2]
   refine PySem.W.kat_lt (s:={s with heap:=g}) g1 d1 g2 d2 ?_
   have z1:=v1.length
   have z2:=v2.length
   rw[AD]at z1 z2
   exact Cs _ _ i1 i2 0 v1 v2 (by simp![AH,z1,z2]) hC
 ·exact h.elim
theorem zd:∀{xs:List D} {rs:List NR},qr xs=some rs->xs=rs.map dj
 | [],rs,h=>by simp[qr]at h;subst h;rfl
 | x::r,rs,h=>by
  unfold qr at h
  split at h
  ·rename_i hx;cases hx
  ·rename_i ds t es r' hx
   injection hx with hx hr
   subst hx hr
   cases e1:cv ds with
   | none=>rw[e1]at h;cases h
   | some x =>
   cases e2:cv es with
   | none=>rw[e1,e2]at h;cases h
   | some y =>
   cases e3:qr r with
   | none=>rw[e1,e2,e3]at h;cases h
   | some q =>
    rw[e1,e2,e3]at h
    simp![CO,DR,BV]at h
    subst h
    rw[AL,<-zd e3,<-nt e1,<-nt e2]
  ·cases h
theorem ma {A:Around} {s:Shared}:∀(x y:List Int) (us vs:List Value),bu (x.map V.int) us->bu (y.map V.int) vs->LT.C3 A s us vs (lexLt x y)
 | [],[],us,vs,h1,h2=>by cases h1;cases h2;rfl
 | [],_::_,us,vs,h1,h2=>by cases h1;cases h2;rfl
 | _::_,[],us,vs,h1,h2=>by cases h1;cases h2;rfl
 | a::x,c::y,us,vs,h1,h2=>by
  rw[AL]at h1 h2
  cases h1 with
  | cons a1 b1 =>
   cases h2 with
   | cons a2 b2 =>
    obtain⟨t1,rfl⟩:=a1
    obtain⟨t2,rfl⟩:=a2
    obtain⟨same,eq0,eqi⟩:=HT.nj A s a t1 c t2
    refine⟨same,eq0,λe=>?_,λe=>?_⟩
    ·have:=eqi.mp e
     subst this
     have:lexLt (a::x) (a::y)=lexLt x y:=by simp[lexLt]
     rw[this]
     exact ma x y _ _ b1 b2
    ·have hne:¬a=c:=λq=>by rw[eqi.mpr q]at e;cases e
     have:lexLt (a::x) (c::y)=decide (a<c):=by simp[lexLt,hne]
     rw[this]
     exact LT.F9
theorem Ap {m:Mk} (hu:X.A.units+64<cLine):fk X (.builtin "sorted") (qy X.K (btD .sortedN m)):=by
 intro pins s σ H xs us Q I r ⟨ι,ds,μ,hS,hds,h⟩
 obtain⟨d,v,rfl,hv,h⟩:=jg hds h
 unfold Bx at h
 cases el:Lp.listOf μ d with
 | none=>rw[el]at h;exact h.elim
 | some zs =>
 rw[el]at h
 cases er:qr zs with
 | none=>rw[CO,er]at h;exact h.elim
 | some rs =>
 rw[CO,er]at h
 simp only at h
 split at h
 ·rename_i hc
  obtain⟨a,vV,rfl,hq,hz⟩:=gw hS hv el
  obtain⟨u,rfl,ru⟩:=vals1 r
  cases(show u=Value.ref a from ru)
  obtain⟨its,rv,pl,hlen⟩:=I.list hq.sq
  have ez:=zd er
  subst ez
  have l1:vV.length=rs.length:=by rw[hz.length,AD]
  have l2:its.length=rs.length:=by rw[<-rv.length];exact l1
  -- a row in the heap
  have row:∀{g:Heap},Inv X pins σ H {s with heap:=g}->∀i,i<rs.length->∃a1 b1 c1 w1 w2 js ks t,its.getD i Value.none=.ref a1/\IsTup g a1 #[.ref b1,.ref c1]/\IsTup g b1 (List.toArray js)/\IsTup g c1 (List.toArray (.str (rs.getD i ([],default,[])).2.1 t::ks))/\bu ((rs.getD i ([],default,[])).1.map V.int) js/\bu ((rs.getD i ([],default,[])).2.2.map V.int) ks /\
    IsW X.K H (.tup ((rs.getD i ([],default,[])).1.map D.int)) w1/\RelV w1 (.ref b1)/\IsW X.K H (.tup (.str (rs.getD i ([],default,[])).2.1::(rs.getD i ([],default,[])).2.2.map D.int)) w2/\RelV w2 (.ref c1):=λ{g} I' i hi=>by
   have hd:=Ct hz (i:=i) (by rw[AD];exact hi)
   rw[show(rs.map dj).getD i .non=dj (rs.getD i ([],default,[]))by simp[hi]]at hd
   have hr:RelV (vV.getD i .non) (its.getD i Value.none):=jk rv i (by lia)
   obtain⟨a1,xs,e1,q1,d1⟩:=dq hd
   rw[e1]at hr
   have hr':its.getD i Value.none=.ref a1:=hr
   simp![ai]at d1
   obtain⟨v1,_,rfl,d2,v2,_,rfl,d3,rfl⟩:=d1
   obtain⟨is1,r1,t1,_⟩:=I'.tuple q1
   cases r1 with
   | cons ra rb =>
   cases rb with
   | cons rb rc =>
   cases rc
   obtain⟨b1,ys,e2,q2,d2'⟩:=dq d2
   obtain⟨c1,zs,e3,q3,d3'⟩:=dq d3
   subst e2 e3
   cases(show _=Value.ref b1 from ra)
   cases(show _=Value.ref c1 from rb)
   obtain⟨js,r2,t2,_⟩:=I'.tuple q2
   obtain⟨ks,r3,t3,_⟩:=I'.tuple q3
   have ey:ys=(rs.getD i ([],default,[])).1.map V.int:=ints_of d2' (rh _)
   simp![ai]at d3'
   obtain⟨v3,zs',rfl,d4,d5⟩:=d3'
   have ez:zs'=(rs.getD i ([],default,[])).2.2.map V.int:=ints_of d5 (rh _)
   have e4:v3=.str (rs.getD i ([],default,[])).2.1:=by simpa[IsD]using d4
   subst ey ez e4
   cases r3 with
   | cons rs1 rs2 =>
   obtain⟨t,rfl⟩:=rs1
   exact⟨a1,b1,c1,_,_,js,_,t,hr',t1,t2,t3,r2,rs2,nz 3 _ _ (kn 2 _) d2,rfl,nz 3 _ _ (wx _ _) d3,rfl⟩
  refine zc (enc:=dj) (dft:=([],default,[])) Rk Gb L7 I hS hz rv pl.isList hc (λh2 A' g hA I'=>⟨tuples' false,λQ' E' q=>?_,λi j C hi hj hC=>?_⟩) h
  ·have ft:∀(us:List Value),(∀u∈us,∃a1 b1 c1,u=Value.ref a1/\IsTup g a1 #[.ref b1,.ref c1]/\∃js,IsTup g b1 js)->∃fs,PySem.W.KatTups g us fs/\fs.length=us.length/\∀v∈fs,∃b1 js,v=.ref b1/\IsTup g b1 js:=by
    intro us
    induction us with
    | nil=>exact λ_=>⟨[],.nil,rfl,by simp⟩
    | cons u us ih =>
     intro hh
     obtain⟨fs,f1,f2,f3⟩:=ih λu hu=>hh u (AT _ hu)
     obtain⟨a1,b1,c1,rfl,⟨o,o1,o2,n,o3⟩,js,hj⟩:=hh u BF
     refine⟨.ref b1::fs,.cons o1 o2 o3 rfl f1,by simp[f2],λv hv=>?_⟩
     rcases AV.mp hv with rfl | hv
     ·exact⟨b1,js,rfl,hj⟩
     ·exact f3 v hv
   obtain⟨fs,f1,f2,f3⟩:=ft its λu hu=>by
    obtain⟨i,hi,rfl⟩:=CH.mp hu
    obtain⟨a1,b1,c1,_,_,js,ks,t,e,t1,t2,_⟩:=row I' i (by lia)
    refine⟨a1,b1,c1,?_,t1,_,t2⟩
    rw[<-e];simp[hi]
   exact PySem.W.kat_kind (s:={s with heap:=g}) (T:=.type "tuple") f1 (by lia) (λv hv=>by
    obtain⟨b1,js,rfl,o,o1,o2,_⟩:=f3 v hv
    exact λA Q E s k q=>HI ⟨o,k _ _ o1,o2⟩ q) (by decide) q
  ·obtain⟨a1,b1,c1,w1,w2,js,ks,t,e1,⟨o1,g1,_,n1,d1⟩,t2,t3,r2,r3,m1,m2,m3,m4⟩:=row I' i hi
   obtain⟨a1',b1',c1',w1',w2',js',ks',t',e1',⟨o1',g1',_,n1',d1'⟩,t2',t3',r2',r3',m1',m2',m3',m4'⟩:=row I' j hj
   rw[e1,e1']
   generalize rs.getD i ([],default,[])=p at *
   generalize rs.getD j ([],default,[])=p' at *
   obtain⟨p1,p2,p3⟩:=p
   obtain⟨p1',p2',p3'⟩:=p'
   dsimp only at *
   refine PySem.W.kat_lt (s:={s with heap:=g}) g1 d1 g1' d1' ?_
   have q1:=B8 I' 3 A' _ _ _ _ _ _ (by lia) (kn 2 _) (kn 2 _) m1 m1' m2 m2'
   have q2:=B8 I' 3 A' _ _ _ _ _ _ (by lia) (wx _ _) (wx _ _) m3 m3' m4 m4'
   simp![deq,r0]at q1
   refine HA (q1 _ _ _ _ (HX (λe=>HN ?_) λe=>HY ?_))
   ·have e':p1=p1':=by simpa using e
    subst e'
    refine HA (q2 _ _ _ _ (HX (λf=>HN ?_) λf=>HY ?_))
    ·have f':p2=p2'/\p3=p3':=by
      simp![deq,lg,r0,AU,decide_eq_true_eq]at f
      exact f
     rw[f'.1,f'.2,Rk.irr]at hC
     exact PySem.W.kat_nil hC
    ·have f':¬(p2=p2'/\p3=p3'):=by
      simp![deq,lg,r0,Bool.and_eq_false_iff,decide_eq_false_iff_not]at f
      exact λz=>f.elim (λy=>y z.1) λy=>y z.2
     have hlt:LT.Mr A' {s with heap:=g} (.ref c1) (.ref c1') (ltN (p1,p2,p3) (p1,p2',p3')):=LT.za t3 t3' (by lia) λA2 hA2=>by
      have q3:=B8 I' 0 A2 (.str p2) (.str p2') (.str p2) (.str p2') (.str p2 t) (.str p2' t') (by lia) rfl rfl (by simp[IsW]) (by simp[IsW]) ⟨t,rfl⟩ ⟨t',rfl⟩
      refine⟨_,q3,λz=>?_,λz=>?_⟩
      ·have z':p2=p2':=by simpa[deq]using z
       have:ltN (p1,p2,p3) (p1,p2',p3')=lexLt p3 p3':=by simp[ltN,z']
       rw[this]
       exact ma _ _ _ _ r3 r3'
      ·have z':¬p2=p2':=by simpa[deq]using z
       have:ltN (p1,p2,p3) (p1,p2',p3')=decide (p2.cps.toList<p2'.cps.toList):=by simp[ltN,z']
       rw[this]
       exact LT.Ga
     refine HP _ _ (hlt _ _ _ _ ?_)
     exact hC
   ·have e':¬p1=p1':=by simpa using e
    have hlt:LT.Mr A' {s with heap:=g} (.ref b1) (.ref b1') (lexLt p1 p1'):=LT.za t2 t2' (by lia) λA2 hA2=>ma _ _ _ _ r2 r2'
    have:ltN (p1,p2,p3) (p1',p2',p3')=lexLt p1 p1':=by simp[ltN,e']
    rw[this]at hC
    exact HP _ _ (hlt _ _ _ _ hC)
 ·exact h.elim
theorem ur {m:Mk} {p:Pos} {e:Expr} {es:List Expr} {xs:Exs} (hu:X.A.units+64<cLine) (hm:X.mg "sorted"=none) (ha:PA X (e::es) (tEs X.K φ xs)) (hg:Gl X "sorted":=by rfl) (he:starEach (e::es) X.env=(false,eval e X.env)::starEach es X.env:=by rfl) (hpl:(backTo pos (starEach es X.env)).any (·.1)=false:=by rfl) :
  PE X (.Call (.Name "sorted" p) (e::es) [] pos) (tE X.K φ (.blt .sortedT m xs)):=jh (r:=λ_ _ _=>True) (es:=es) (ij (Ao hu) hg hm (by first | exact GU | decide +kernel) ha (by decide) (by decide) he hpl)
theorem C6 {m:Mk} {p:Pos} {e:Expr} {es:List Expr} {xs:Exs} (hu:X.A.units+64<cLine) (hm:X.mg "sorted"=none) (ha:PA X (e::es) (tEs X.K φ xs)) (hg:Gl X "sorted":=by rfl) (he:starEach (e::es) X.env=(false,eval e X.env)::starEach es X.env:=by rfl) (hpl:(backTo pos (starEach es X.env)).any (·.1)=false:=by rfl) :
  PE X (.Call (.Name "sorted" p) (e::es) [] pos) (tE X.K φ (.blt .sortedN m xs)):=jh (r:=λ_ _ _=>True) (es:=es) (ij (Ap hu) hg hm (by first | exact GU | decide +kernel) ha (by decide) (by decide) he hpl)
end
def ko (l:List (Str×Int)) (mg:Str->Option Value):Prop:=∀(j:Nat) x,l[j]? = some x->∃t,mg x.1=some (.int x.2 t)
theorem uu {X:Cx} {φ:Phi} {x:Str} {i:Int} {pos:Pos} (hc:∃t,X.mg x=some (.int i t)) (hg:Gl X x:=by rfl) (hd:(x==("__debug__":Str))=false:=by decide):PE X (.Name x pos) (tE X.K φ (.cst (.int i))):=by
 obtain⟨t,hm⟩:=hc
 exact PE.imp (Jy (v:=.int i) hg hm ⟨t,rfl⟩ hd) λσv H Q ⟨ι,σ,μ,hS,hL,h⟩=>by simp![evE]at h;exact h.ok hS (by simp[IsD])
end Lp
namespace L2
open PySem PySem.Spec PyProof.Rows
theorem C7 {prog:Program} {w:World} {A:Around} {E:Value->Shared->Prop} {s:Shared} {x i j k:Int} {tx t u v:Tok} {r:Addr} {Q:Value->Shared->Prop} (hk:1<=k)
  (ho:s.heap.get? r=some {cls:=.type "range",data:=.fields #[.int i t,.int j u,.int k v]}) (h:Q (.bool (decide (i<=x/\x<j/\(x-i) % k=0))) s):wpAny (model prog w) A (compareOp .In (.int x tx) (.ref r)) Q E s:=by
 have hT:s.TypeIs (.ref r) "range":=⟨_,ho,rfl⟩
 have e:(Builtin.Range.rangePlace? i j k x).isSome=decide (i<=x/\x<j/\(x-i) % k=0):=by
  have hk':k > 0:=by lia
  unfold Builtin.Range.rangePlace?
  simp![hk',if_true]
  by_cases h1:i<=x/\x<j/\(x-i) % k=0
  ·rw[decide_eq_true h1,if_pos (by simp[h1.1,h1.2.1,h1.2.2])];rfl
  ·rw[decide_eq_false h1,if_neg (by
    simp![AU,decide_eq_true_eq,beq_iff_eq]
    exact λz=>h1 ⟨z.1.1,z.1.2,z.2⟩)];rfl
 refine In_slot hT GC (DG GC hT PySem.F.entry_range_contains ?_ (PySem.F.args_range_contains_2 _ _))
 unfold Builtin.«range.__contains__»
 obtain⟨hp,g,d,tk,os⟩:=s
 dsimp only at ho
 wp_walk using wpAny_load ho
 rw[e]
 exact⟨_,rfl,DJ h⟩
section
variable {X : Cx} {a b c d : Expr} {ta : TE} {tb : TA} {p pos : Pos}
def Wx (ta:TE) (tb:TA):TE:=λσ H Q=>ta σ H λx H1=>tb σ H1 λvs H2=>∃x0 i j k:Int,x=.int x0/\vs=[.int i,.int j,.int k]/\(0<=i/\i<2 ^ 32/\0<=j/\j<2 ^ 32/\1<=k/\k<=1000)/\Q (.bl (decide (i<=x0/\x0<j/\(x0-i) % k=0))) H2
theorem Pm (hg:Gl X "range") (hm:X.mg "range"=none) (ha:PE X a ta) (hb:PA X [b,c,d] tb) (hs:starEach [b,c,d] X.env=[(false,eval b X.env),(false,eval c X.env),(false,eval d X.env)]:=by rfl)
  (hs2:starEach [c,d] X.env=[(false,eval c X.env),(false,eval d X.env)]:=by rfl):PC X .In a (.Call (.Name "range" p) [b,c,d] [] pos) (Wx ta tb):=by
 intro pins s σ H Q I h
 refine thn (ha pins s σ H _ I h) λv s0 ⟨x,H0,I0,rx,q0⟩=>?_
 refine Call_ (n4 I0 hg hm boot_range (Db (thn (hb pos pins s0 σ H0 _ I0 q0) λus s1 ⟨vs,H1,I1,r1,q1⟩=>?_) (by rw[hs,hs2]) (by rw[hs2];rfl)))
 obtain⟨x0,i,j,k,ex,e,hh,q⟩:=q1
 subst ex e
 obtain⟨tx,rfl⟩:=rx
 cases r1 with
 | cons r rr =>
  cases rr with
  | cons r' rr =>
   cases rr with
   | cons r'' rr =>
    cases rr
    obtain⟨t,rfl⟩:=r
    obtain⟨t',rfl⟩:=r'
    obtain⟨t'',rfl⟩:=r''
    refine call_range_3 (by lia) (C7 hh.2.2.2.2.1 (AX _ rfl) ?_) (Or.inl (HF (by lia)))
    exact⟨.bl (decide (i<=x0/\x0<j/\(x0-i) % k=0)),H1,I1.kept λb o e=>AF _ e,rfl,q⟩
end
end L2
namespace Lp
open PySem PySem.Spec PyProof.Rows L2
section
variable {X : Cx} {φ : Phi} {a b c d : Expr} {xa : Ex} {xs : Exs} {m : Mk} {p pos pos' : Pos}
theorem Pn (hm:X.mg "range"=none) (ha:PE X a (tE X.K φ xa)) (hb:PA X [b,c,d] (tEs X.K φ xs)) (hg:Gl X "range":=by rfl) (hs:starEach [b,c,d] X.env=[(false,eval b X.env),(false,eval c X.env),(false,eval d X.env)]:=by rfl)
  (hs2:starEach [c,d] X.env=[(false,eval c X.env),(false,eval d X.env)]:=by rfl) (hbh:behindInMarks .In (.Call (.Name "range" p) [b,c,d] [] pos)=false:=by rfl) :
  PT X (.Compare a [.In] [.Call (.Name "range" p) [b,c,d] [] pos] pos') (tT X.K φ (.blt .inR3 m (.cons xa xs))) :=
 PT.imp (Mz (Pm hg hm ha hb hs hs2) hbh) λσv H Q ⟨ι,σ,μ,hS,hL,h⟩=>by
  simp![evE,fi]at h
  cases e1:evE φ xa σ μ with
  | exc _ _ _=>rw[e1]at h;exact h.elim
  | stuck=>rw[e1]at h;exact h.elim
  | ok d0 μ1 =>
   rw[e1]at h
   simp![Res.cq]at h
   refine⟨ι,σ,μ,hS,hL,?_⟩
   rw[e1]
   intro ι1 x H1 p1 x1 s1 d1
   refine⟨ι1,σ,μ1,s1,hL.mono p1 x1,?_⟩
   cases e2:fi φ xs σ μ1 with
   | exc _ _ _=>rw[e2]at h;exact h.elim
   | stuck=>rw[e2]at h;exact h.elim
   | ok es μ2 =>
    rw[e2]at h
    simp![Res.cq,btD,Kp]at h
    intro ι2 ys H2 p2 x2 s2 d2
    split at h
    ·rename_i x0 i j k ed
     injection ed with ed1 ed2
     subst ed1 ed2
     split at h
     ·rename_i hh
      simp![Res.cq,Ob]at h
      have ex:x=.int x0:=by simpa[IsD]using d1
      have ey:ys=[.int i,.int j,.int k]:=by
       have:=ints_of (ns:=[i,j,k]) d2 rfl
       simpa using this
      exact⟨x0,i,j,k,ex,ey,hh,_,rfl,h ι2 _ H2 (p1.trans p2) (x1.trans x2) s2 rfl⟩
     ·exact h.elim
    ·exact h.elim
end
end Lp
namespace Lr
open Lp
open PySem
theorem r6 {f:D->Sl->Sto->Res Fl} (I:Nat->Sl->Sto->Prop):∀{ds:List D} {σ:Sl} {μ:Sto} (k:Nat),I k σ μ ->
  (∀(j:Nat) d σ μ,ds[j]? = some d->I (k+j) σ μ->∃σ' μ',f d σ μ=.ok (.nx σ') μ'/\I (k+j+1) σ' μ') ->
  ∃σ' μ',ki none f ds σ μ=.ok (.nx σ') μ'/\I (k+ds.length) σ' μ'
 | [],σ,μ,k,h,_=>⟨σ,μ,by simp[ki],h⟩
 | d::ds,σ,μ,k,h,st=>by
  obtain⟨σ1,μ1,e1,h1⟩:=st 0 d σ μ rfl h
  obtain⟨σ2,μ2,e2,h2⟩:=r6 I (ds:=ds) (σ:=σ1) (μ:=μ1) (k+1) h1 λj d σ μ e i=>by
   obtain⟨σ',μ',a,b⟩:=st (j+1) d σ μ (by simpa using e) (by rw[show k+(j+1)=k+1+j by omega];exact i)
   exact⟨σ',μ',a,by rw[show k+1+j+1=k+(j+1)+1 by omega];exact b⟩
  refine⟨σ2,μ2,?_,by rw[show k+(d::ds).length=k+1+ds.length by simp;omega];exact h2⟩
  simp![ki,vq,if_true,e1,Res.cq,e2]
theorem aj {T:List Df} {n i:Nat} {d:Df} {ds:List D} {μ:Sto} (h:T[i]? = some d):ak T (n+1) i ds μ=Mq (ak T n) d ds μ:=by
 simp![ak,h]
def finD (fl:Fl) (μ:Sto):Res D:=match fl with
 | .nx _=>.ok .non μ
 | .rt d=>.ok d μ
 | _=>.stuck
@[simp] theorem C8 (d:D) (μ:Sto):finD (.rt d) μ=.ok d μ:=rfl
@[simp] theorem C9 (σ:Sl) (μ:Sto):finD (.nx σ) μ=.ok .non μ:=rfl
theorem run_eq {φ:Phi} {f:Df} {ds:List D} {μ:Sto} (h:ds.length=f.np):Mq φ f ds μ=(kj φ f.body (ds.map some++List.replicate (f.nn-f.np) none) μ).bind finD:=by
 rw[Mq,if_pos h];rfl
theorem ju (b:Nat):∀(k:Nat) (d:D),D.pureN k d=true->D.belowN b k d=true
 | 0,d,h=>by cases d<;>simp_all[D.pureN,D.belowN]
 | k+1,d,h=>by
  cases d with
  | tup ds =>
   simp![D.pureN,D.belowN,AS]at h ⊢
   exact λx hx=>ju b k x (h x hx)
  | lst ds =>
   simp![D.pureN,D.belowN,AS]at h ⊢
   exact λx hx=>ju b k x (h x hx)
  | loc n=>simp[D.pureN]at h
  | _=>rfl
theorem gm {k:Nat} {ds:List D}:D.pureN (k+1) (.tup ds)=ds.all (D.pureN k):=rfl
theorem d9 {k:Nat} {i:Int}:D.pureN k (.int i)=true:=by cases k<;>rfl
abbrev iu (μ:Sto):Prop:=μ.all (fh μ.length)=true
theorem Aq {d:D} {μ:Sto} {b:Nat} (hd:d.pure=true) (hb:μ.length=b) (hr:iu μ):ll false b (.ok d μ)=.ok d μ:=by
 have e:μ.take b=μ:=BP (by omega)
 have hr':μ.all (fh b)=true:=by rw[<-hb];exact hr
 simp![ll,BB,if_false,e,ju b 8 d hd,hr',and_self,if_true]
@[simp] theorem md {d:D} {μ:Sto} {b:Nat}:ll true b (.ok d μ)=.ok d μ:=by simp[ll]
theorem op_mul {i j:Int} {μ:Sto} (h:CMul i j):opI .Mult i j μ=.ok (.int (i*j)) μ:=by simp[opI,h]
theorem pe {i j:Int} {μ:Sto} (h:0<j) (h2:j<1073741824):opI .FloorDiv i j μ=.ok (.int (i / j)) μ:=by simp[opI,h,h2]
theorem op_mod {i j:Int} {μ:Sto} (h:0<j):opI .Mod i j μ=.ok (.int (i % j)) μ:=by simp[opI,h]
theorem op_add {i j:Int} {μ:Sto}:opI .Add i j μ=.ok (.int (i+j)) μ:=rfl
theorem op_sub {i j:Int} {μ:Sto}:opI .Sub i j μ=.ok (.int (i-j)) μ:=rfl
theorem op_pow {i:Int} {j:Int} {μ:Sto} (h:0<=j/\j<=1000000/\i.natAbs<2 ^ 64):opI .Pow i j μ=.ok (.int (i ^ j.toNat)) μ:=by simp[opI,h]
theorem op_shr {i j:Int} {μ:Sto} (h:0<=j):opI .RShift i j μ=.ok (.int (i / 2 ^ j.toNat)) μ:=by simp[opI,h]
theorem wy {op:Operator} {m:Mk} {i j:Int} {μ:Sto}:opD op m (.int i) (.int j) μ=opI op i j μ:=rfl
theorem _root_.Lp.CMul.left {i j:Int} (h:-(2 ^ 64)<i) (h2:i<2 ^ 64):CMul i j:=.inl ⟨h,h2⟩
theorem _root_.Lp.CMul.right {i j:Int} (h:-(2 ^ 64)<j) (h2:j<2 ^ 64):CMul i j:=.inr ⟨h,h2⟩
theorem kq (ns:List Int):cv (ns.map D.int)=some ns:=by
 induction ns with
 | nil=>rfl
 | cons n r ih=>simp[cv,ih]
theorem Gc (i:Int):(D.int i).pure=true:=rfl
open PySem
section
variable (φ : Phi)
def U6 (o:Option (Option D)) (μ:Sto):Res D:=match o with
 | some (some d)=>.ok d μ
 | _=>.stuck
def kB (op:Operator) (m:Mk) (b:Ex) (σ:Sl) (x:D) (μ:Sto):Res D:=(evE φ b σ μ).bind (opD op m x)
def kNeg (x:D) (μ:Sto):Res D:=match x with
 | .int i=>.ok (.int (-i)) μ
 | _=>.stuck
def kNot (x:D) (μ:Sto):Res D:=match x with
 | .bl b=>.ok (.bl (!b)) μ
 | _=>.stuck
def Tt (b:Ex) (σ:Sl) (x:D) (μ:Sto):Res D:=match x with
 | .bl c=>if c=true then evE φ b σ μ else .ok (.bl false) μ
 | _=>.stuck
def kOr (b:Ex) (σ:Sl) (x:D) (μ:Sto):Res D:=match x with
 | .bl c=>if c=true then .ok (.bl true) μ else evE φ b σ μ
 | _=>.stuck
def Tu (a b:Ex) (σ:Sl) (x:D) (μ:Sto):Res D:=match x with
 | .bl c=>if c=true then evE φ a σ μ else evE φ b σ μ
 | _=>.stuck
def U7 (r:Cps) (σ:Sl) (x:D) (μ:Sto):Res D:=evC φ r x σ μ
def Rl (r:Cps) (y:D) (σ:Sl) (z:D) (μ:Sto):Res D:=match z with
 | .bl b=>if b=true then evC φ r y σ μ else .ok (.bl false) μ
 | _=>.stuck
def kCh (op:Cp) (x:D) (r:Cps) (σ:Sl) (y:D) (μ:Sto):Res D:=(cpD op x y μ).bind (Rl φ r y σ)
def gk (keep:Bool) (f:Nat) (ds:List D) (μ:Sto):Res D:=ll keep μ.length (φ f ds μ)
def kM (mt:Mt) (es:Exs) (σ:Sl) (x:D) (μ:Sto):Res D:=if oj mt x μ=true then(fi φ es σ μ).bind (mtD mt x)else .stuck
def kIx (b:Ex) (σ:Sl) (x:D) (μ:Sto):Res D:=(evE φ b σ μ).bind (ixD x)
def Tv (m:Mk) (hi:ExO) (σ:Sl) (x:D) (l:Option Int) (μ:Sto):Res D:=(evO φ hi σ μ).bind (slD m x l)
def kSl (m:Mk) (lo hi:ExO) (σ:Sl) (x:D) (μ:Sto):Res D:=(evO φ lo σ μ).bind (Tv φ m hi σ x)
def kTup (ds:List D) (μ:Sto):Res D:=.ok (.tup ds) μ
def Tw (d:D) (ds:List D) (μ:Sto):Res (List D):=.ok (d::ds) μ
def kEs (es:Exs) (σ:Sl) (d:D) (μ:Sto):Res (List D):=(fi φ es σ μ).bind (Tw d)
def kInt (x:D) (μ:Sto):Res (Option Int):=match x with
 | .int i=>.ok (some i) μ
 | _=>.stuck
def kOne (x:D) (μ:Sto):Res (List D):=.ok [x] μ
def Rm (elt:Ex) (σ:Sl) (b:Bool) (μ:Sto):Res (List D):=if b=true then(evE φ elt σ μ).bind kOne else .ok [] μ
def U8 (cs:Exs) (elt:Ex) (μ:Sto) (σ:Sl):Res (List D):=(Ai φ cs σ μ).bind (Rm φ elt σ)
def wz (tg:Tg) (cs:Exs) (elt:Ex) (σ0:Sl) (d:D) (μ:Sto):Res (List D):=jf (d7 tg d σ0) (U8 φ cs elt μ)
def me (m:Mk) (tg:Tg) (cs:Exs) (elt:Ex) (σ0:Sl) (w:List D×Gd) (μ:Sto):Res D:=(mapR w.2 (wz φ tg cs elt σ0) w.1 μ).bind (mkL m)
def kCs (es:Exs) (σ:Sl) (x:D) (μ:Sto):Res Bool:=match x with
 | .bl b=>if b=true then Ai φ es σ μ else .ok false μ
 | _=>.stuck
def kSeq (x:D) (μ:Sto):Res (List D×Gd):=match bw μ x with
 | some w=>.ok w μ
 | none=>.stuck
def kRng (x:D) (μ:Sto):Res (List D×Gd):=match x with
 | .int j=>if -(lim:Int)<=j/\j<=lim then .ok ((List.range j.toNat).map fun(i:Nat)=>D.int i,none) μ else .stuck
 | _=>.stuck
def ze (x y:D) (μ:Sto):Res (List D×Gd):=match x,y with
 | .int i,.int j=>if -(lim:Int)<=i/\i<=lim/\j<=lim /\ -(lim:Int)<=j/\(j-i)<=lim then .ok ((List.range (j-i).toNat).map fun(k:Nat)=>D.int (i+k),none) μ else .stuck
 | _,_=>.stuck
def Po (b:Ex) (σ:Sl) (x:D) (μ:Sto):Res (List D×Gd):=(evE φ b σ μ).bind (ze x)
def Pp (x y:D) (μ:Sto):Res (List D×Gd):=match bw μ x,gv [] y with
 | some w,some ys=>.ok ((w.1.zip ys).map λp=>.tup [p.1,p.2],w.2) μ
 | _,_=>.stuck
def U9 (b:Ex) (σ:Sl) (x:D) (μ:Sto):Res (List D×Gd):=(evE φ b σ μ).bind (Pp x)
def kEnum (x:D) (μ:Sto):Res (List D×Gd):=match bw μ x with
 | some w=>.ok ((List.range w.1.length |>.zip w.1).map fun(p:Nat×D)=>.tup [.int p.1,p.2],w.2) μ
 | none=>.stuck
def kVals (x:D) (μ:Sto):Res (List D×Gd):=match x with
 | .loc n=>match μ[n]? with
  | some (.d kvs)=>.ok (kvs.map (·.2),none) (μ.set n .dead)
  | _=>.stuck
 | _=>.stuck
def Va (i:Nat) (σ:Sl) (d:D) (μ:Sto):Res Fl:=.ok (.nx (σ.set i (some d))) μ
def Tx (o:Option Sl) (μ:Sto):Res Fl:=match o with
 | some σ'=>.ok (.nx σ') μ
 | none=>.stuck
def Vb (is:List Nat) (σ:Sl) (d:D) (μ:Sto):Res Fl:=Tx (d7 (.many is) d σ) μ
def kNx {α:Type} (σ:Sl) (_:α) (μ:Sto):Res Fl:=.ok (.nx σ) μ
def Tz (σ:Sl) (d x:D) (y:D) (μ:Sto):Res Fl:=(E5 x y d μ).bind (kNx σ)
def T1 (i:Ex) (σ:Sl) (d:D) (x:D) (μ:Sto):Res Fl:=(evE φ i σ μ).bind (Tz σ d x)
def kSx (o i:Ex) (σ:Sl) (d:D) (μ:Sto):Res Fl:=(evE φ o σ μ).bind (T1 φ i σ d)
def kIf (a b:Sms) (σ:Sl) (x:D) (μ:Sto):Res Fl:=match x with
 | .bl k=>if k=true then kj φ a σ μ else kj φ b σ μ
 | _=>.stuck
def kLp (b:Sms) (μ:Sto) (σ:Sl):Res Fl:=kj φ b σ μ
def fLp (tg:Tg) (b:Sms) (d:D) (σ:Sl) (μ:Sto):Res Fl:=jf (d7 tg d σ) (kLp φ b μ)
def L8 (tg:Tg) (b:Sms) (σ:Sl) (w:List D×Gd) (μ:Sto):Res Fl:=ki w.2 (fLp φ tg b) w.1 σ μ
def kRet (d:D) (μ:Sto):Res Fl:=.ok (.rt d) μ
def kSs (r:Sms) (fl:Fl) (μ:Sto):Res Fl:=match fl with
 | .nx σ'=>kj φ r σ' μ
 | fl=>.ok fl μ
end
section
variable {φ : Phi} {σ : Sl} {μ : Sto} {a b c e o i : Ex} {es : Exs} {m : Mk} {op : Operator} {r : Cps} {s : Sm} {rs : Sms}
theorem Pq {i:Nat}:evE φ (.var i) σ μ=U6 σ[i]? μ:=rfl
theorem Pr {d:D}:evE φ (.cst d) σ μ=.ok d μ:=rfl
theorem Pt:evE φ (.bin op m a b) σ μ=(evE φ a σ μ).bind (kB φ op m b σ):=rfl
theorem Pu:evE φ (.neg a) σ μ=(evE φ a σ μ).bind kNeg:=rfl
theorem Pw:evE φ (.not a) σ μ=(evE φ a σ μ).bind kNot:=rfl
theorem Px:evE φ (.and a b) σ μ=(evE φ a σ μ).bind (Tt φ b σ):=rfl
theorem Vc:evE φ (.or a b) σ μ=(evE φ a σ μ).bind (kOr φ b σ):=rfl
theorem Py:evE φ (.ite c a b) σ μ=(evE φ c σ μ).bind (Tu φ a b σ):=rfl
theorem Pz:evE φ (.cmp a r) σ μ=(evE φ a σ μ).bind (U7 φ r σ):=rfl
theorem Ge {α:Type} (x:Res α):(x.bind λa μ=>.ok a μ)=x:=by cases x<;>rfl
theorem P0 {op:Cp} {x:D}:evC φ (.cons op e .nil) x σ μ=(evE φ e σ μ).bind (cpD op x):=by
 simp![evC,Ge]
theorem Ia {op op':Cp} {x:D} {e':Ex}:evC φ (.cons op e (.cons op' e' r)) x σ μ=(evE φ e σ μ).bind (kCh φ op x (.cons op' e' r) σ):=by
 rw[evC]
 all_goals rfl
theorem Ib {keep:Bool} {f:Nat}:evE φ (.call keep f es) σ μ=(fi φ es σ μ).bind (gk φ keep f):=rfl
theorem P1 {b:Bt}:evE φ (.blt b m es) σ μ=(fi φ es σ μ).bind (btD b m):=rfl
theorem P2 {c:Cl}:evE φ (.isi a c) σ μ=(evE φ a σ μ).bind (Ks c):=rfl
theorem Ic {mt:Mt}:evE φ (.meth mt o es) σ μ=(evE φ o σ μ).bind (kM φ mt es σ):=rfl
theorem Vd:evE φ (.ix a b) σ μ=(evE φ a σ μ).bind (kIx φ b σ):=rfl
theorem Ve {lo hi:ExO}:evE φ (.sl m a lo hi) σ μ=(evE φ a σ μ).bind (kSl φ m lo hi σ):=rfl
theorem P4:evE φ (.tup es) σ μ=(fi φ es σ μ).bind kTup:=rfl
theorem P5:evE φ (.lst m es) σ μ=(fi φ es σ μ).bind (mkL m):=rfl
theorem P6 {t:Bool}:evE φ (.dic t es) σ μ=(fi φ es σ μ).bind (U0 t):=rfl
theorem Ie {cap:List Nat} {nl:Nat} {tg:Tg} {it:It} {cs:Exs} {elt:Ex}:evE φ (.comp m cap nl tg it cs elt) σ μ=(evI φ it σ μ).bind (me φ m tg cs elt (cap.map (λi=>(σ[i]?).getD none)++List.replicate nl none)):=rfl
theorem Ig:fi φ .nil σ μ=.ok [] μ:=rfl
theorem Dc:fi φ (.cons e es) σ μ=(evE φ e σ μ).bind (kEs φ es σ):=rfl
theorem Vf:evO φ .no σ μ=.ok none μ:=rfl
theorem Vg:evO φ (.so e) σ μ=(evE φ e σ μ).bind kInt:=rfl
theorem Ih:Ai φ .nil σ μ=.ok true μ:=rfl
theorem Dd:Ai φ (.cons e es) σ μ=(evE φ e σ μ).bind (kCs φ es σ):=rfl
theorem P7:evI φ (.seq e) σ μ=(evE φ e σ μ).bind kSeq:=rfl
theorem P8:evI φ (.rng e) σ μ=(evE φ e σ μ).bind kRng:=rfl
theorem Ii:evI φ (.rng2 a b) σ μ=(evE φ a σ μ).bind (Po φ b σ):=rfl
theorem P9:evI φ (.zip a b) σ μ=(evE φ a σ μ).bind (U9 φ b σ):=rfl
theorem Ij:evI φ (.enum a) σ μ=(evE φ a σ μ).bind kEnum:=rfl
theorem Ik:evI φ (.vals a) σ μ=(evE φ a σ μ).bind kVals:=rfl
theorem Qa {i:Nat}:evS φ (.set i e) σ μ=(evE φ e σ μ).bind (Va i σ):=rfl
theorem Qb {is:List Nat}:evS φ (.unp is e) σ μ=(evE φ e σ μ).bind (Vb is σ):=rfl
theorem Il:evS φ (.setx o i e) σ μ=(evE φ e σ μ).bind (kSx φ o i σ):=rfl
theorem Vh:evS φ (.ex e) σ μ=(evE φ e σ μ).bind (kNx σ):=rfl
theorem Qc {x y:Sms}:evS φ (.ite c x y) σ μ=(evE φ c σ μ).bind (kIf φ x y σ):=rfl
theorem Im {tg:Tg} {it:It} {b:Sms}:evS φ (.loop tg it b) σ μ=(evI φ it σ μ).bind (L8 φ tg b σ):=rfl
theorem Qd:evS φ (.ret e) σ μ=(evE φ e σ μ).bind kRet:=rfl
theorem Io:evS φ .pass σ μ=.ok (.nx σ) μ:=rfl
theorem Qe:evS φ .brk σ μ=.ok (.bk σ) μ:=rfl
theorem Ip:evS φ .cont σ μ=.ok (.ct σ) μ:=rfl
theorem Iq:kj φ .nil σ μ=.ok (.nx σ) μ:=rfl
theorem De:kj φ (.cons s rs) σ μ=(evS φ s σ μ).bind (kSs φ rs):=rfl
theorem ax {f:Nat} {ds:List D} {d:D} {μ':Sto} (h:φ f ds μ=.ok d μ') (hd:d.pure=true) (hl:μ'.length=μ.length) (hr:iu μ'):gk φ false f ds μ=.ok d μ':=by
 rw[gk,h,Aq hd hl hr]
theorem Ar {f:Nat} {ds:List D} {d:D} {μ':Sto} (h:φ f ds μ=.ok d μ'):gk φ true f ds μ=.ok d μ':=by
 rw[gk,h];simp
theorem T2 {mt:Mt} {x:D} (h:oj mt x μ=true):kM φ mt es σ x μ=(fi φ es σ μ).bind (mtD mt x):=by rw[kM,if_pos h]
theorem uv {d:D}:U6 (some (some d)) μ=.ok d μ:=rfl
theorem zf {i:Int}:kNeg (.int i) μ=.ok (.int (-i)) μ:=rfl
theorem Dg {b:Bool}:kNot (.bl b) μ=.ok (.bl (!b)) μ:=rfl
theorem Ir {b:Ex}:Tt φ b σ (.bl true) μ=evE φ b σ μ:=rfl
theorem Iu {b:Ex}:Tt φ b σ (.bl false) μ=.ok (.bl false) μ:=rfl
theorem Qf {b:Ex}:kOr φ b σ (.bl true) μ=.ok (.bl true) μ:=rfl
theorem Qg {b:Ex}:kOr φ b σ (.bl false) μ=evE φ b σ μ:=rfl
theorem Iv:Tu φ a b σ (.bl true) μ=evE φ a σ μ:=rfl
theorem Iw:Tu φ a b σ (.bl false) μ=evE φ b σ μ:=rfl
theorem Iy {y:D}:Rl φ r y σ (.bl true) μ=evC φ r y σ μ:=rfl
theorem Iz {y:D}:Rl φ r y σ (.bl false) μ=.ok (.bl false) μ:=rfl
theorem Qh:kCs φ es σ (.bl true) μ=Ai φ es σ μ:=rfl
theorem Qi:kCs φ es σ (.bl false) μ=.ok false μ:=rfl
theorem Ja {elt:Ex}:Rm φ elt σ true μ=(evE φ elt σ μ).bind kOne:=rfl
theorem Jb {elt:Ex}:Rm φ elt σ false μ=.ok [] μ:=rfl
theorem zg {i:Int}:kInt (.int i) μ=.ok (some i) μ:=rfl
theorem Qj {x y:Sms}:kIf φ x y σ (.bl true) μ=kj φ x σ μ:=rfl
theorem Qk {x y:Sms}:kIf φ x y σ (.bl false) μ=kj φ y σ μ:=rfl
theorem Jc {σ':Sl}:kSs φ rs (.nx σ') μ=kj φ rs σ' μ:=rfl
theorem Jd {d:D}:kSs φ rs (.rt d) μ=.ok (.rt d) μ:=rfl
theorem Je {σ':Sl}:kSs φ rs (.bk σ') μ=.ok (.bk σ') μ:=rfl
theorem Jf {σ':Sl}:kSs φ rs (.ct σ') μ=.ok (.ct σ') μ:=rfl
theorem uw {σ':Sl}:Tx (some σ') μ=.ok (.nx σ') μ:=rfl
theorem zh {ds:List D}:kSeq (.tup ds) μ=.ok (ds,none) μ:=rfl
theorem zi {ds:List D}:kSeq (.lst ds) μ=.ok (ds,none) μ:=rfl
theorem L9 {j:Int} (h:-1000000<=j/\j<=1000000):kRng (.int j) μ=.ok ((List.range j.toNat).map fun(i:Nat)=>D.int i,none) μ:=by
 have:=oi
 simp![kRng]
 rw[if_pos ⟨by lia,by lia⟩]
theorem dm {n:Nat} (h:n<=1000000):kRng (.int n) μ=.ok ((List.range n).map fun(i:Nat)=>D.int i,none) μ:=by
 rw[L9 ⟨by lia,by lia⟩,DU]
theorem ux {i:Nat} {d:D}:d7 (.one i) d σ=some (σ.set i (some d)):=rfl
theorem Ql {i j:Int}:cpD .lt (.int i) (.int j) μ=.ok (.bl (decide (i<j))) μ:=rfl
theorem Qm {i j:Int}:cpD .le (.int i) (.int j) μ=.ok (.bl (decide (i<=j))) μ:=rfl
theorem Qn {i j:Int}:cpD .gt (.int i) (.int j) μ=.ok (.bl (decide (j<i))) μ:=rfl
theorem Qo {i j:Int}:cpD .ge (.int i) (.int j) μ=.ok (.bl (decide (j<=i))) μ:=rfl
theorem Jg {i j:Int}:cpD .eq (.int i) (.int j) μ=.ok (.bl (decide (i=j))) μ:=rfl
theorem Mb {x y:D} (hx:x.pure=true) (hy:y.pure=true):cpD .ne x y μ=.ok (.bl (!deq x y)) μ:=by simp[cpD,hx,hy]
theorem Jh {i j:Int}:cpD .ne (.int i) (.int j) μ=.ok (.bl (!decide (i=j))) μ:=Mb rfl rfl
theorem Ji {i j:Bool}:cpD .ne (.bl i) (.bl j) μ=.ok (.bl (!(i==j))) μ:=Mb rfl rfl
theorem T3 {x y:D} (hx:x.pure=true) (hy:y.pure=true):cpD .eq x y μ=.ok (.bl (deq x y)) μ:=by simp[cpD,hx,hy]
theorem bt_len {x:D} {xs:List D} (h:gv μ x=some xs):btD .len m [x] μ=.ok (.int xs.length) μ:=by simp[btD,seq1,h]
theorem bt_tuple {x:D} {xs:List D} (h:gv μ x=some xs):btD .tuple m [x] μ=.ok (.tup xs) μ:=by simp[btD,seq1,h]
theorem bt_sum {x:D} {xs:List D} {ns:List Int} (h:gv μ x=some xs) (h2:cv xs=some ns):btD .sum m [x] μ=.ok (.int ns.sum) μ:=by simp[btD,Kn,h,h2]
theorem bt_min {i j:Int}:btD .min m [.int i,.int j] μ=.ok (.int (min i j)) μ:=by
 simp![btD,minD]
 congr 2
 split<;>lia
theorem bt_max {i j:Int}:btD .max m [.int i,.int j] μ=.ok (.int (max i j)) μ:=by
 simp![btD,maxD]
 congr 2
 split<;>lia
theorem a8 {ds:List D}:gv μ (.tup ds)=some ds:=rfl
theorem cy {ds:List D}:gv μ (.lst ds)=some ds:=rfl
theorem je {ds:List D}:mkL .z ds μ=.ok (.lst ds) μ:=rfl
theorem zj {x:D} {xs:List D} {k:Nat} {d:D} (h:gv μ x=some xs) (hd:xs[k]? = some d):ixD x (.int k) μ=.ok d μ:=by
 have hk:k<xs.length:=(AI.mp hd).1
 have e:ixN xs.length (k:Int)=some k:=by simp[ixN,hk]
 simp![ixD,h,e,hd]
theorem w4 {i j:Nat} {a b:D}:d7 (.many [i,j]) (.tup [a,b]) σ=some ((σ.set i (some a)).set j (some b)):=rfl
theorem Dh {i j k:Nat} {a b c:D}:d7 (.many [i,j,k]) (.tup [a,b,c]) σ=some (((σ.set i (some a)).set j (some b)).set k (some c)):=rfl
theorem Di {i j k l:Nat} {a b c d:D}:d7 (.many [i,j,k,l]) (.tup [a,b,c,d]) σ=some ((((σ.set i (some a)).set j (some b)).set k (some c)).set l (some d)):=rfl
theorem Dj {i j k l m:Nat} {a b c d e:D}:d7 (.many [i,j,k,l,m]) (.tup [a,b,c,d,e]) σ=some (((((σ.set i (some a)).set j (some b)).set k (some c)).set l (some d)).set m (some e)):=rfl
theorem h8 {α:Type} {xs:List α} {en:α->D} {k:Nat} {a:α} (h:xs[k]? = some a):ixD (.tup (xs.map en)) (.int k) μ=.ok (en a) μ:=zj a8 (by rw[BM,h];rfl)
theorem Mc {α:Type} {xs:List α} {en:α->D} {k:Nat} {a:α} (h:xs[k]? = some a):ixD (.lst (xs.map en)) (.int k) μ=.ok (en a) μ:=zj cy (by rw[BM,h];rfl)
theorem Dk {α:Type} {tg:Tg} {b:Sms} {xs:List α} {en:α->D} (I:Nat->Sl->Prop) (h0:I 0 σ) (st:∀(k:Nat) a σ,xs[k]? = some a->I k σ->∃σ',fLp φ tg b (en a) σ μ=.ok (.nx σ') μ/\I (k+1) σ') :
  ∃σ',L8 φ tg b σ (xs.map en,none) μ=.ok (.nx σ') μ/\I xs.length σ':=by
 obtain⟨σ',μ',e,rfl,i⟩:=r6 (f:=fLp φ tg b) (λk σ μ'=>μ'=μ/\I k σ) (ds:=xs.map en) (σ:=σ) (μ:=μ) 0 ⟨rfl,h0⟩ λj d σ μ' e ⟨q,i⟩=>by
  subst q
  rw[BM]at e
  cases ex:xs[j]? with
  | none=>rw[ex]at e;cases e
  | some a =>
   rw[ex]at e
   cases e
   obtain⟨σ',e',i'⟩:=st j a σ ex (by simpa using i)
   exact⟨σ',_,e',rfl,by simpa using i'⟩
 exact⟨σ',e,by simpa using i⟩
theorem comp_map {α:Type} {tg:Tg} {cs:Exs} {elt:Ex} {σ0:Sl} {xs:List α} {en:α->D} {g:α->D} (h:∀a∈xs,wz φ tg cs elt σ0 (en a) μ=.ok [g a] μ):me φ m tg cs elt σ0 (xs.map en,none) μ=mkL m (xs.map g) μ:=by
 have e:mapR none (wz φ tg cs elt σ0) (xs.map en) μ=.ok (xs.map g) μ:=by
  induction xs with
  | nil=>simp[mapR]
  | cons a r ih =>
   simp![AL,mapR,vq,if_true,h a BF,Res.cq,ih λx hx=>h x (AT _ hx)]
   rfl
 rw[me]
 show(mapR none _ (xs.map en) μ).bind _=_
 rw[e];rfl
theorem pf {α:Type} {tg:Tg} {cs:Exs} {elt:Ex} {σ0:Sl} {xs:List α} {en:α->D} {g:α->D} {p:α->Bool} (h:∀a∈xs,wz φ tg cs elt σ0 (en a) μ=.ok (if p a=true then [g a]else []) μ):me φ m tg cs elt σ0 (xs.map en,none) μ=mkL m ((xs.filter p).map g) μ:=by
 have e:mapR none (wz φ tg cs elt σ0) (xs.map en) μ=.ok ((xs.filter p).map g) μ:=by
  induction xs with
  | nil=>simp[mapR]
  | cons a r ih =>
   simp![AL,mapR,vq,if_true,h a BF,Res.cq,ih λx hx=>h x (AT _ hx)]
   by_cases hp:p a=true
   ·simp[hp]
   ·simp[hp]
 rw[me]
 show(mapR none _ (xs.map en) μ).bind _=_
 rw[e];rfl
def many {S α:Type} (G:S->α×S):Nat->S->List α×S
 | 0,s=>([],s)
 | n+1,s=>((G s).1::(many G n (G s).2).1,(many G n (G s).2).2)
theorem Qp {x:D}:kB φ op m b σ x μ=(evE φ b σ μ).bind (opD op m x):=rfl
theorem Dl {x:D}:U7 φ r σ x μ=evC φ r x σ μ:=rfl
theorem Jj {o:Cp} {x y:D}:kCh φ o x r σ y μ=(cpD o x y μ).bind (Rl φ r y σ):=rfl
theorem Jk {x:D}:kIx φ b σ x μ=(evE φ b σ μ).bind (ixD x):=rfl
theorem Dm {hi:ExO} {x:D} {l:Option Int}:Tv φ m hi σ x l μ=(evO φ hi σ μ).bind (slD m x l):=rfl
theorem Jl {lo hi:ExO} {x:D}:kSl φ m lo hi σ x μ=(evO φ lo σ μ).bind (Tv φ m hi σ x):=rfl
theorem Dn {ds:List D}:kTup ds μ=.ok (.tup ds) μ:=rfl
theorem Dp {d:D} {ds:List D}:Tw d ds μ=.ok (d::ds) μ:=rfl
theorem Jm {d:D}:kEs φ es σ d μ=(fi φ es σ μ).bind (Tw d):=rfl
theorem Dq {x:D}:kOne x μ=.ok [x] μ:=rfl
theorem Dr {cs:Exs} {elt:Ex}:U8 φ cs elt μ σ=(Ai φ cs σ μ).bind (Rm φ elt σ):=rfl
theorem zk {x:D}:Po φ b σ x μ=(evE φ b σ μ).bind (ze x):=rfl
theorem Ds {x:D}:U9 φ b σ x μ=(evE φ b σ μ).bind (Pp x):=rfl
theorem Dt {i:Nat} {d:D}:Va i σ d μ=.ok (.nx (σ.set i (some d))) μ:=rfl
theorem Du {is:List Nat} {d:D}:Vb is σ d μ=Tx (d7 (.many is) d σ) μ:=rfl
theorem Dw {d:D}:kNx σ d μ=.ok (.nx σ) μ:=rfl
theorem Dx {d:Unit}:kNx σ d μ=.ok (.nx σ) μ:=rfl
theorem Dy {d x y:D}:Tz σ d x y μ=(E5 x y d μ).bind (kNx σ):=rfl
theorem D0 {i:Ex} {d x:D}:T1 φ i σ d x μ=(evE φ i σ μ).bind (Tz σ d x):=rfl
theorem Jn {o i:Ex} {d:D}:kSx φ o i σ d μ=(evE φ o σ μ).bind (T1 φ i σ d):=rfl
theorem Jo {b:Sms}:kLp φ b μ σ=kj φ b σ μ:=rfl
theorem D1 {d:D}:kRet d μ=.ok (.rt d) μ:=rfl
theorem zm {n:Nat}:List.replicate (n+1) (none:Option D)=none::List.replicate n none:=rfl
theorem zo:List.replicate 0 (none:Option D)=[]:=rfl
end
section
variable {φ : Phi} {σ : Sl} {μ : Sto}
def Vi (φ:Phi) (b:Ex) (σ:Sl) (x:D) (μ:Sto):Res D:=(evE φ b σ μ).bind (Rg x)
def Rn (σ:Sl) (x y z:D) (μ:Sto):Res Fl:=(E5 x y z μ).bind (kNx σ)
def Ro (op:Operator) (σ:Sl) (x y old d:D) (μ:Sto):Res Fl:=(Uz op old d μ).bind (Rn σ x y)
def T4 (φ:Phi) (op:Operator) (e:Ex) (σ:Sl) (x y old:D) (μ:Sto):Res Fl:=(evE φ e σ μ).bind (Ro op σ x y old)
def T5 (φ:Phi) (op:Operator) (e:Ex) (σ:Sl) (x y:D) (μ:Sto):Res Fl:=(ixL x y μ).bind (T4 φ op e σ x y)
def Vj (φ:Phi) (op:Operator) (i e:Ex) (σ:Sl) (x:D) (μ:Sto):Res Fl:=(evE φ i σ μ).bind (T5 φ op e σ x)
theorem Qq {a b:Ex}:evE φ (.dix a b) σ μ=(evE φ a σ μ).bind (Vi φ b σ):=rfl
theorem D2 {b:Ex} {x:D}:Vi φ b σ x μ=(evE φ b σ μ).bind (Rg x):=rfl
theorem Jp {op:Operator} {o i e:Ex}:evS φ (.augx op o i e) σ μ=(evE φ o σ μ).bind (Vj φ op i e σ):=rfl
theorem D3 {op:Operator} {i e:Ex} {x:D}:Vj φ op i e σ x μ=(evE φ i σ μ).bind (T5 φ op e σ x):=rfl
theorem D4 {op:Operator} {e:Ex} {x y:D}:T5 φ op e σ x y μ=(ixL x y μ).bind (T4 φ op e σ x y):=rfl
theorem D5 {op:Operator} {e:Ex} {x y old:D}:T4 φ op e σ x y old μ=(evE φ e σ μ).bind (Ro op σ x y old):=rfl
theorem zp {x y:D} {i j:Int}:Ro .Add σ x y (.int i) (.int j) μ=Rn σ x y (.int (i+j)) μ:=rfl
theorem zq {x y:D} {i j:Int}:Ro .Sub σ x y (.int i) (.int j) μ=Rn σ x y (.int (i-j)) μ:=rfl
theorem D6 {x y z:D}:Rn σ x y z μ=(E5 x y z μ).bind (kNx σ):=rfl
def Vk (φ:Phi) (b:Ex) (σ:Sl) (x:D) (μ:Sto):Res D:=(evE φ b σ μ).bind (Su x)
def T6 (φ:Phi) (k1:Bool) (f:Nat) (x:D) (ds:List D) (μ:Sto):Res D:=N8 k1 μ.length (φ f (x::ds) μ)
def Wy (φ:Phi) (k1:Bool) (c m:Str) (f:Nat) (es:Exs) (σ:Sl) (x:D) (μ:Sto):Res D:=if isObj c m x μ=true then(fi φ es σ μ).bind (T6 φ k1 f x)else .stuck
def kMk (φ:Phi) (c:Str) (f:Nat) (ds:List D) (μ:Sto):Res D:=N9 μ.length (φ f (.loc μ.length::ds) (μ++[.o c []]))
def Qr (φ:Phi) (f:Nat) (ds:List D) (μ:Sto):Res D:=Ku μ.length (φ f ds μ)
def T7 (f:Str) (σ:Sl) (d x:D) (μ:Sto):Res Fl:=(Kt f x d μ).bind (kNx σ)
def Vl (φ:Phi) (o:Ex) (f:Str) (σ:Sl) (d:D) (μ:Sto):Res Fl:=(evE φ o σ μ).bind (T7 f σ d)
def kWh (φ:Phi) (c:Ex) (b:Sms) (σ:Sl) (μ:Sto):Res Fl:=whR (λσ μ=>(evE φ c σ μ).bind Ob) (λσ μ=>kj φ b σ μ) σ μ
def kKeys (x:D) (μ:Sto):Res (List D×Gd):=match x with
 | .loc n=>match μ[n]? with
  | some (.d kvs)=>.ok (kvs.map (·.1),none) (μ.set n (.fd kvs))
  | _=>.stuck
 | _=>.stuck
theorem Wz {e:Ex} {f:Str}:evE φ (.att e f) σ μ=(evE φ e σ μ).bind (Ux f):=rfl
theorem T8 {k1:Bool} {c m:Str} {f:Nat} {o:Ex} {es:Exs}:evE φ (.mcall k1 c m f o es) σ μ=(evE φ o σ μ).bind (Wy φ k1 c m f es σ):=rfl
theorem Vm {c:Str} {f:Nat} {es:Exs}:evE φ (.make c f es) σ μ=(fi φ es σ μ).bind (kMk φ c f):=rfl
theorem T9 {f:Nat} {es:Exs}:evE φ (.callK f es) σ μ=(fi φ es σ μ).bind (Qr φ f):=rfl
theorem W0 {e:Ex}:evE φ (.tru e) σ μ=(evE φ e σ μ).bind truD:=rfl
theorem W1 {a b:Ex}:evE φ (.gix a b) σ μ=(evE φ a σ μ).bind (Vk φ b σ):=rfl
theorem Ua {b:Ex} {x:D}:Vk φ b σ x μ=(evE φ b σ μ).bind (Su x):=rfl
theorem Vn:evE φ .dicr σ μ=.ok (.loc μ.length) (μ++[.dr []]):=rfl
theorem Vo {o e:Ex} {f:Str}:evS φ (.seta o f e) σ μ=(evE φ e σ μ).bind (Vl φ o f σ):=rfl
theorem Ub {o:Ex} {f:Str} {d:D}:Vl φ o f σ d μ=(evE φ o σ μ).bind (T7 f σ d):=rfl
theorem Uc {f:Str} {d x:D}:T7 f σ d x μ=(Kt f x d μ).bind (kNx σ):=rfl
theorem W2 {c:Ex} {b:Sms}:evS φ (.whl c b) σ μ=kWh φ c b σ μ:=rfl
theorem Vp {a:Ex}:evI φ (.keys a) σ μ=(evE φ a σ μ).bind kKeys:=rfl
end
section
variable {μ : Sto}
theorem Vq {α β:Type} (a:α) (f:α->Sto->Res β):(Res.ok a μ).bind f=f a μ:=rfl
theorem Vr {α β:Type} (a:α) (k:α->Res β):jf (some a) k=k a:=rfl
theorem Xn (d:D):finD (.rt d) μ=.ok d μ:=rfl
theorem Xo (σ:Sl):finD (.nx σ) μ=.ok .non μ:=rfl
theorem Xp {α β:Type} (f:α->β) (a:α) (l:List α):(a::l).map f=f a::l.map f:=rfl
theorem Xq {α β:Type} (f:α->β):([]:List α).map f=[]:=rfl
theorem Xr {α:Type} (a:α) (l m:List α):a::l++m=a::(l++m):=rfl
theorem Xt {α:Type} (m:List α):[]++m=m:=rfl
theorem Xu {α:Type} (a:α) (l:List α):(a::l)[0]? = some a:=rfl
theorem Xv {α:Type} (a:α) (l:List α) (i:Nat):(a::l)[i+1]? = l[i]?:=rfl
theorem Xw {α:Type} (a b:α) (l:List α):(a::l).set 0 b=b::l:=rfl
theorem Xx {α:Type} (a b:α) (l:List α) (i:Nat):(a::l).set (i+1) b=a::l.set i b:=rfl
theorem Xy {α:Type} (a b:α):(some a).getD b=a:=rfl
theorem Xz {op:Operator} {m:Mk} {i j:Int}:opD op m (.int i) (.int j) μ=opI op i j μ:=wy
theorem X0 {i j:Int}:opI .Add i j μ=.ok (.int (i+j)) μ:=op_add
theorem X3 {i j:Int}:opI .Sub i j μ=.ok (.int (i-j)) μ:=op_sub
theorem X4 {d:D} {b:Nat}:ll true b (.ok d μ)=.ok d μ:=md
end
theorem EV1:type_of% (@Pq)/\type_of% (@Pr)/\type_of% (@Pt)/\type_of% (@Pu)/\type_of% (@Pw)/\type_of% (@Px)/\type_of% (@Vc)/\type_of% (@Py)/\type_of% (@Pz)/\type_of% (@P0)/\type_of% (@Ia)/\type_of% (@Ib)/\type_of% (@P1)/\type_of% (@P2)/\type_of% (@Ic)/\type_of% (@Vd)/\type_of% (@Ve)/\type_of% (@P4)/\type_of% (@P5)/\type_of% (@P6)/\type_of% (@Ie)/\type_of% (@Ig)/\type_of% (@Dc)/\type_of% (@Vf)/\type_of% (@Vg)/\type_of% (@Ih)/\type_of% (@Dd)/\type_of% (@P7)/\type_of% (@P8)/\type_of% (@Ii)/\type_of% (@P9)/\type_of% (@Ij):=⟨@Pq,@Pr,@Pt,@Pu,@Pw,@Px,@Vc,@Py,@Pz,@P0,@Ia,@Ib,@P1,@P2,@Ic,@Vd,@Ve,@P4,@P5,@P6,@Ie,@Ig,@Dc,@Vf,@Vg,@Ih,@Dd,@P7,@P8,@Ii,@P9,@Ij⟩
theorem EV2:type_of% (@Ik)/\type_of% (@Qa)/\type_of% (@Qb)/\type_of% (@Il)/\type_of% (@Vh)/\type_of% (@Qc)/\type_of% (@Im)/\type_of% (@Qd)/\type_of% (@Io)/\type_of% (@Qe)/\type_of% (@Ip)/\type_of% (@Iq)/\type_of% (@De)/\type_of% (@uv)/\type_of% (@Qp)/\type_of% (@zf)/\type_of% (@Dg)/\type_of% (@Ir)/\type_of% (@Iu)/\type_of% (@Qf)/\type_of% (@Qg)/\type_of% (@Iv)/\type_of% (@Iw)/\type_of% (@Dl)/\type_of% (@Iy)/\type_of% (@Iz)/\type_of% (@Jj)/\type_of% (@Jk)/\type_of% (@Jl)/\type_of% (@Dm)/\type_of% (@Dn)/\type_of% (@Jm):=⟨@Ik,@Qa,@Qb,@Il,@Vh,@Qc,@Im,@Qd,@Io,@Qe,@Ip,@Iq,@De,@uv,@Qp,@zf,@Dg,@Ir,@Iu,@Qf,@Qg,@Iv,@Iw,@Dl,@Iy,@Iz,@Jj,@Jk,@Jl,@Dm,@Dn,@Jm⟩
theorem EV3:type_of% (@Dp)/\type_of% (@zg)/\type_of% (@Dq)/\type_of% (@Ja)/\type_of% (@Jb)/\type_of% (@Dr)/\type_of% (@Qh)/\type_of% (@Qi)/\type_of% (@zh)/\type_of% (@zi)/\type_of% (@zk)/\type_of% (@Ds)/\type_of% (@Dt)/\type_of% (@Du)/\type_of% (@uw)/\type_of% (@Dw)/\type_of% (@Dx)/\type_of% (@Jn)/\type_of% (@D0)/\type_of% (@Dy)/\type_of% (@Qj)/\type_of% (@Qk)/\type_of% (@Jo)/\type_of% (@D1)/\type_of% (@Jc)/\type_of% (@Jd)/\type_of% (@Je)/\type_of% (@Jf)/\type_of% (@Res.cq)/\type_of% (@j7)/\type_of% (@ux)/\type_of% (@w4):=⟨@Dp,@zg,@Dq,@Ja,@Jb,@Dr,@Qh,@Qi,@zh,@zi,@zk,@Ds,@Dt,@Du,@uw,@Dw,@Dx,@Jn,@D0,@Dy,@Qj,@Qk,@Jo,@D1,@Jc,@Jd,@Je,@Jf,@Res.cq,@j7,@ux,@w4⟩
theorem EV4:type_of% (@Dh)/\type_of% (@Di)/\type_of% (@Dj)/\type_of% (@wy)/\type_of% (@op_add)/\type_of% (@op_sub)/\type_of% (@Ql)/\type_of% (@Qm)/\type_of% (@Qn)/\type_of% (@Qo)/\type_of% (@Jg)/\type_of% (@Jh)/\type_of% (@Ji)/\type_of% (@bt_min)/\type_of% (@bt_max)/\type_of% (@je)/\type_of% (@C8)/\type_of% (@C9)/\type_of% (@AL.{0,0})/\type_of% (@CW.{0,0})/\type_of% (@zm)/\type_of% (@zo)/\type_of% (@FM.{0})/\type_of% (@DS.{0})/\type_of% (@HE.{0})/\type_of% (@FH.{0})/\type_of% (@FD.{0})/\type_of% (@GI.{0})/\type_of% (@GY.{0})/\type_of% (@md):=⟨@Dh,@Di,@Dj,@wy,@op_add,@op_sub,@Ql,@Qm,@Qn,@Qo,@Jg,@Jh,@Ji,@bt_min,@bt_max,@je,@C8,@C9,@AL.{0,0},@CW.{0,0},@zm,@zo,@FM.{0},@DS.{0},@HE.{0},@FH.{0},@FD.{0},@GI.{0},@GY.{0},@md⟩
theorem EV5:type_of% (@Qq)/\type_of% (@D2)/\type_of% (@Jp)/\type_of% (@D3)/\type_of% (@D4)/\type_of% (@D5)/\type_of% (@zp)/\type_of% (@zq)/\type_of% (@D6):=⟨@Qq,@D2,@Jp,@D3,@D4,@D5,@zp,@zq,@D6⟩
end Lr
namespace Lp
open PySem
abbrev ff:Nat:=0
abbrev qg:Nat:=1
abbrev jv:Nat:=2
abbrev f6:Nat:=6
abbrev eg:Nat:=123
abbrev aw:Nat:=218
abbrev dn:Nat:=219
abbrev dw:Nat:=220
abbrev dy:Nat:=221
abbrev ay:Nat:=222
abbrev bb:Nat:=223
abbrev h9:Nat:=224
abbrev f9:Nat:=225
abbrev fg:Nat:=226
abbrev gn:Nat:=227
abbrev aq:Nat:=229
abbrev cj:Nat:=230
abbrev gp:Nat:=231
abbrev gq:Nat:=232
abbrev iw:Nat:=233
abbrev gr:Nat:=234
abbrev ia:Nat:=235
abbrev iy:Nat:=236
abbrev n3:Nat:=240
abbrev jw:Nat:=241
abbrev iz:Nat:=242
abbrev fu:Nat:=243
abbrev pg:Nat:=244
def D_night_need:Df:=⟨2,7,(.cons (.unp [2,3,4,5,6] (.ix (.ix (.var 0) (.cst (.int 3))) (.var 1))) (.cons (.ret (.bin .Mult .z (.var 6) (.var 5))) .nil))⟩
def ph:Ex:=(.call false ff (.cons (.var 0) (.cons (.var 1) .nil)))
def D_need:Df:=⟨1,1,(.cons (.ret (.blt .sum .z (.cons (.comp .z [0] 1 (.one 1) (.rng (.blt .len .z (.cons (.ix (.var 0) (.cst (.int 3))) .nil))) .nil ph) .nil))) .nil)⟩
def D_can_burn:Df:=⟨3,6,(.cons (.unp [3,4,5] (.ix (.ix (.var 0) (.cst (.int 2))) (.var 1))) (.cons (.ret (.cmp (.var 2) (.cons .notin (.var 5) .nil))) .nil))⟩
def D_law_whole:Df:=⟨1,1,(.cons (.ret (.and (.isi (.var 0) .int) (.not (.isi (.var 0) .bool)))) .nil)⟩
def D_law_cell_at:Df:=⟨2,2,(.cons (.ite (.cmp (.var 1) (.cons .lt (.blt .len .z (.cons (.var 0) .nil)) .nil)) (.cons (.ret (.ix (.var 0) (.var 1))) .nil) .nil) (.cons (.ret (.cst (.int 0))) .nil))⟩
def D_store_node:Df:=⟨2,2,(.cons (.ret (.bin .Add .z (.cst (.int 2)) (.bin .Mult .z (.var 1) (.bin .Add .z (.bin .Mult .z (.cst (.int 2)) (.blt .len .z (.cons (.ix (.var 0) (.cst (.int 2))) .nil))) (.cst (.int 2)))))) .nil)⟩
def D_tank_node:Df:=⟨3,3,(.cons (.ret (.bin .Add .z (.bin .Add .z (.call false aw (.cons (.var 0) (.cons (.var 2) .nil))) (.cst (.int 1))) (.bin .Mult .z (.cst (.int 2)) (.var 1)))) .nil)⟩
def D_flame_node:Df:=⟨3,3,(.cons (.ret (.bin .Add .z (.bin .Add .z (.call false aw (.cons (.var 0) (.cons (.var 2) .nil))) (.cst (.int 2))) (.bin .Mult .z (.cst (.int 2)) (.var 1)))) .nil)⟩
def D_night_node:Df:=⟨2,2,(.cons (.ret (.bin .Add .z (.bin .Add .z (.call false aw (.cons (.var 0) (.cons (.var 1) .nil))) (.bin .Mult .z (.cst (.int 2)) (.blt .len .z (.cons (.ix (.var 0) (.cst (.int 2))) .nil)))) (.cst (.int 1)))) .nil)⟩
def bz:Sms:=(.cons (.ex (.meth .append (.var 5) (.cons (.tup (.cons (.tup (.cons (.cst (.int 0)) (.cons (.call false dn (.cons (.var 0) (.cons (.var 6) (.cons (.cst (.int 0)) .nil)))) (.cons (.ix (.var 7) (.cst (.int 1))) (.cons (.cst (.int 0)) .nil))))) (.cons (.tup (.cons (.cst (.str (PySem.Str.ofString "left"))) (.cons (.cst (.int 0)) (.cons (.var 6) .nil)))) .nil))) .nil))) .nil)
def D_first_morning_ties:Df:=⟨1,8,(.cons (.unp [1,2,3,4] (.var 0)) (.cons (.set 5 (.lst .l (.cons (.tup (.cons (.tup (.cons (.cst (.int 0)) (.cons (.call false aw (.cons (.var 0) (.cons (.cst (.int 0)) .nil))) (.cons (.var 2) (.cons (.cst (.int 0)) .nil))))) (.cons (.tup (.cons (.cst (.str (PySem.Str.ofString "kept"))) (.cons (.cst (.int 0)) .nil))) .nil))) .nil))) (.cons (.loop (.many [6,7]) (.enum (.var 3)) bz) (.cons (.ret (.var 5)) .nil))))⟩
def cc:Sms:=(.cons (.set 4 (.call false dw (.cons (.var 0) (.cons (.var 3) (.cons (.bin .Sub .z (.var 1) (.cst (.int 1))) .nil))))) (.cons (.ex (.meth .append (.var 2) (.cons (.tup (.cons (.tup (.cons (.var 4) (.cons (.call false dn (.cons (.var 0) (.cons (.var 3) (.cons (.var 1) .nil)))) (.cons (.call false qg (.cons (.var 0) .nil)) (.cons (.cst (.int 0)) .nil))))) (.cons (.tup (.cons (.cst (.str (PySem.Str.ofString "left"))) (.cons (.var 1) (.cons (.var 3) .nil)))) .nil))) .nil))) .nil))
def D_later_morning_ties:Df:=⟨2,5,(.cons (.set 2 (.lst .l (.cons (.tup (.cons (.tup (.cons (.call false aw (.cons (.var 0) (.cons (.bin .Sub .z (.var 1) (.cst (.int 1))) .nil))) (.cons (.call false aw (.cons (.var 0) (.cons (.var 1) .nil))) (.cons (.ix (.var 0) (.cst (.int 0))) (.cons (.cst (.int 0)) .nil))))) (.cons (.tup (.cons (.cst (.str (PySem.Str.ofString "kept"))) (.cons (.var 1) .nil))) .nil))) .nil))) (.cons (.loop (.one 3) (.rng (.blt .len .z (.cons (.ix (.var 0) (.cst (.int 2))) .nil))) cc) (.cons (.ret (.frz 2)) .nil)))⟩
def D_day_ties:Df:=⟨2,8,(.cons (.unp [2,3,4,5,6] (.ix (.ix (.var 0) (.cst (.int 3))) (.var 1))) (.cons (.set 7 (.call false aw (.cons (.var 0) (.cons (.var 1) .nil)))) (.cons (.ret (.lst .z (.cons (.tup (.cons (.tup (.cons (.cst (.int 0)) (.cons (.var 7) (.cons (.var 2) (.cons (.cst (.int 0)) .nil))))) (.cons (.tup (.cons (.cst (.str (PySem.Str.ofString "taken"))) (.cons (.var 1) .nil))) .nil))) (.cons (.tup (.cons (.tup (.cons (.cst (.int 0)) (.cons (.var 7) (.cons (.var 3) (.cons (.var 4) .nil))))) (.cons (.tup (.cons (.cst (.str (PySem.Str.ofString "bought"))) (.cons (.var 1) .nil))) .nil))) (.cons (.tup (.cons (.tup (.cons (.call false dy (.cons (.var 0) (.cons (.var 1) .nil))) (.cons (.cst (.int 1)) (.cons (.call false ff (.cons (.var 0) (.cons (.var 1) .nil))) (.cons (.cst (.int 0)) .nil))))) (.cons (.tup (.cons (.cst (.str (PySem.Str.ofString "shining"))) (.cons (.var 1) .nil))) .nil))) .nil))))) .nil)))⟩
def D_lamp_ties:Df:=⟨3,6,(.cons (.set 3 (.call false dn (.cons (.var 0) (.cons (.var 1) (.cons (.var 2) .nil))))) (.cons (.set 4 (.call false dw (.cons (.var 0) (.cons (.var 1) (.cons (.var 2) .nil))))) (.cons (.set 5 (.ite (.call false jv (.cons (.var 0) (.cons (.var 1) (.cons (.var 2) .nil)))) (.ix (.ix (.ix (.var 0) (.cst (.int 3))) (.var 2)) (.cst (.int 3))) (.cst (.int 0)))) (.cons (.ret (.lst .z (.cons (.tup (.cons (.tup (.cons (.call false aw (.cons (.var 0) (.cons (.var 2) .nil))) (.cons (.var 3) (.cons (.call false qg (.cons (.var 0) .nil)) (.cons (.cst (.int 0)) .nil))))) (.cons (.tup (.cons (.cst (.str (PySem.Str.ofString "poured"))) (.cons (.var 2) (.cons (.var 1) .nil)))) .nil))) (.cons (.tup (.cons (.tup (.cons (.var 3) (.cons (.var 4) (.cons (.ix (.ix (.ix (.var 0) (.cst (.int 2))) (.var 1)) (.cst (.int 0))) (.cons (.cst (.int 0)) .nil))))) (.cons (.tup (.cons (.cst (.str (PySem.Str.ofString "through"))) (.cons (.var 2) (.cons (.var 1) .nil)))) .nil))) (.cons (.tup (.cons (.tup (.cons (.var 4) (.cons (.call false dy (.cons (.var 0) (.cons (.var 2) .nil))) (.cons (.var 5) (.cons (.cst (.int 0)) .nil))))) (.cons (.tup (.cons (.cst (.str (PySem.Str.ofString "burnt"))) (.cons (.var 2) (.cons (.var 1) .nil)))) .nil))) .nil))))) .nil))))⟩
def gb:Sms:=(.cons (.ex (.meth .extend (.var 1) (.cons (.call false bb (.cons (.var 0) (.cons (.var 2) .nil))) .nil))) .nil)
def gc:Sms:=(.cons (.ex (.meth .extend (.var 1) (.cons (.call false f9 (.cons (.var 0) (.cons (.var 3) (.cons (.var 2) .nil)))) .nil))) .nil)
def gf:Sms:=(.cons (.ex (.meth .extend (.var 1) (.cons (.call false h9 (.cons (.var 0) (.cons (.var 2) .nil))) .nil))) (.cons (.loop (.one 3) (.rng (.blt .len .z (.cons (.ix (.var 0) (.cst (.int 2))) .nil))) gc) .nil))
def D_named_ties:Df:=⟨1,4,(.cons (.set 1 (.call true ay (.cons (.var 0) .nil))) (.cons (.loop (.one 2) (.rng2 (.cst (.int 1)) (.blt .len .z (.cons (.ix (.var 0) (.cst (.int 3))) .nil))) gb) (.cons (.loop (.one 2) (.rng (.blt .len .z (.cons (.ix (.var 0) (.cst (.int 3))) .nil))) gf) (.cons (.ret (.blt .sortedN .z (.cons (.var 1) .nil))) .nil))))⟩
def D_many_nodes:Df:=⟨1,1,(.cons (.ret (.call false aw (.cons (.var 0) (.cons (.blt .len .z (.cons (.ix (.var 0) (.cst (.int 3))) .nil)) .nil)))) .nil)⟩
def D_law_mixed_3:Df:=⟨1,2,(.cons (.set 1 (.bin .Mod .z (.bin .Mult .z (.bin .Add .z (.bin .Mod .z (.var 0) (.cst (.int 998244353))) (.cst (.int 1))) (.cst (.int 69621))) (.cst (.int 2147483647)))) (.cons (.ret (.bin .FloorDiv .z (.bin .Mod .z (.bin .Mult .z (.var 1) (.var 1)) (.cst (.int 1000000007))) (.cst (.int 7)))) .nil))⟩
def D_law_much:Df:=⟨1,1,(.cons (.ite (.cmp (.bin .Mod .z (.call false aq (.cons (.var 0) .nil)) (.cst (.int 11))) (.cons .eq (.cst (.int 4)) .nil)) (.cons (.ret (.bin .Mod .z (.bin .FloorDiv .z (.var 0) (.cst (.int 13))) (.bin .Add .z (.bin .Pow .z (.cst (.int 10)) (.cst (.int 30))) (.cst (.int 1))))) .nil) .nil) (.cons (.ret (.bin .Mod .z (.bin .FloorDiv .z (.call false aq (.cons (.var 0) .nil)) (.cst (.int 11))) (.cst (.int 13)))) .nil))⟩
def gg:Sms:=(.cons (.setx (.var 2) (.bin .Mod .z (.var 3) (.var 1)) (.bin .Add .z (.bin .Mult .z (.ix (.var 2) (.bin .Mod .z (.var 3) (.var 1))) (.cst (.int 31))) (.ix (.var 0) (.var 3)))) .nil)
def D_law_folded:Df:=⟨2,4,(.cons (.set 2 (.bin .Mult .l (.lst .z (.cons (.cst (.int 0)) .nil)) (.var 1))) (.cons (.loop (.one 3) (.rng (.blt .len .z (.cons (.var 0) .nil))) gg) (.cons (.ret (.frz 2)) .nil)))⟩
def cz:Exs:=(.cons (.and (.cmp (.bin .Mod .z (.var 0) (.cst (.int 3))) (.cons .eq (.cst (.int 1)) .nil)) (.cmp (.bin .Mod .z (.bin .RShift .z (.bin .FloorDiv .z (.var 0) (.cst (.int 3))) (.var 1)) (.cst (.int 2))) (.cons .eq (.cst (.int 1)) .nil))) .nil)
def c4:Ex:=(.var 1)
def D_law_lamp_2:Df:=⟨2,5,(.cons (.set 2 (.call false cj (.cons (.ix (.var 0) (.cst (.int 0))) .nil))) (.cons (.set 3 (.call false aq (.cons (.ix (.var 0) (.cst (.int 2))) .nil))) (.cons (.set 4 (.comp .z [3] 1 (.one 1) (.rng (.var 1)) cz c4)) (.cons (.ret (.tup (.cons (.var 2) (.cons (.blt .min .z (.cons (.var 2) (.cons (.call false cj (.cons (.ix (.var 0) (.cst (.int 1))) .nil)) .nil))) (.cons (.blt .tuple .z (.cons (.var 4) .nil)) .nil))))) .nil))))⟩
def D_law_day_2:Df:=⟨2,4,(.cons (.set 2 (.bin .Add .z (.cst (.int 1)) (.bin .Mod .z (.call false aq (.cons (.ix (.var 0) (.cst (.int 3))) .nil)) (.cst (.int 6))))) (.cons (.ite (.cmp (.bin .Mod .z (.bin .FloorDiv .z (.call false aq (.cons (.ix (.var 0) (.cst (.int 3))) .nil)) (.cst (.int 6))) (.cst (.int 13))) (.cons .eq (.cst (.int 2)) .nil)) (.cons (.set 2 (.bin .Add .z (.cst (.int 1)) (.bin .Mod .z (.bin .FloorDiv .z (.ix (.var 0) (.cst (.int 3))) (.cst (.int 13))) (.bin .Pow .z (.cst (.int 10)) (.cst (.int 15)))))) .nil) .nil) (.cons (.set 3 (.bin .Mod .z (.call false aq (.cons (.ix (.var 0) (.cst (.int 2))) .nil)) (.cst (.int 7)))) (.cons (.ite (.cmp (.bin .Mod .z (.bin .FloorDiv .z (.call false aq (.cons (.ix (.var 0) (.cst (.int 2))) .nil)) (.cst (.int 7))) (.cst (.int 9))) (.cons .eq (.cst (.int 2)) .nil)) (.cons (.set 3 (.bin .Mod .z (.bin .FloorDiv .z (.ix (.var 0) (.cst (.int 2))) (.cst (.int 13))) (.bin .Add .z (.bin .Pow .z (.cst (.int 10)) (.cst (.int 15))) (.cst (.int 1))))) .nil) .nil) (.cons (.ret (.tup (.cons (.call false cj (.cons (.ix (.var 0) (.cst (.int 0))) .nil)) (.cons (.call false cj (.cons (.ix (.var 0) (.cst (.int 1))) .nil)) (.cons (.var 3) (.cons (.var 2) (.cons (.bin .Mod .z (.call false aq (.cons (.ix (.var 0) (.cst (.int 4))) .nil)) (.bin .Add .z (.var 1) (.cst (.int 1)))) .nil))))))) .nil)))))⟩
def gh:Ex:=(.call false gq (.cons (.sl .z (.var 0) (.so (.bin .Add .z (.cst (.int 2)) (.bin .Mult .z (.cst (.int 3)) (.var 2)))) (.so (.bin .Add .z (.cst (.int 5)) (.bin .Mult .z (.cst (.int 3)) (.var 2))))) (.cons (.var 1) .nil)))
def gi:Ex:=(.call false iw (.cons (.sl .z (.var 0) (.so (.bin .Add .z (.var 1) (.bin .Mult .z (.cst (.int 5)) (.var 3)))) (.so (.bin .Add .z (.bin .Add .z (.var 1) (.cst (.int 5))) (.bin .Mult .z (.cst (.int 5)) (.var 3))))) (.cons (.var 2) .nil)))
def D_law_book_2:Df:=⟨2,8,(.cons (.set 2 (.bin .Add .z (.cst (.int 1)) (.bin .Mod .z (.call false aq (.cons (.call false eg (.cons (.var 0) (.cons (.cst (.int 0)) .nil))) .nil)) (.cst (.int 3))))) (.cons (.set 3 (.bin .Add .z (.cst (.int 1)) (.bin .Mod .z (.call false aq (.cons (.call false eg (.cons (.var 0) (.cons (.cst (.int 1)) .nil))) .nil)) (.var 1)))) (.cons (.set 4 (.call false gp (.cons (.sl .z (.var 0) (.so (.cst (.int 2))) .no) (.cons (.bin .Add .z (.bin .Add .z (.cst (.int 2)) (.bin .Mult .z (.cst (.int 3)) (.var 2))) (.bin .Mult .z (.cst (.int 5)) (.var 3))) .nil)))) (.cons (.set 5 (.comp .z [4,3] 1 (.one 2) (.rng (.var 2)) .nil gh)) (.cons (.set 6 (.bin .Add .z (.cst (.int 2)) (.bin .Mult .z (.cst (.int 3)) (.var 2)))) (.cons (.set 7 (.comp .z [4,6,2] 1 (.one 3) (.rng (.var 3)) .nil gi)) (.cons (.ret (.tup (.cons (.call false cj (.cons (.ix (.var 4) (.cst (.int 0))) .nil)) (.cons (.call false cj (.cons (.ix (.var 4) (.cst (.int 1))) .nil)) (.cons (.blt .tuple .z (.cons (.var 5) .nil)) (.cons (.blt .tuple .z (.cons (.var 7) .nil)) .nil)))))) .nil)))))))⟩
def i4:Ex:=(.bin .Mult .z (.ix (.var 0) (.cst (.int 3))) (.ix (.var 0) (.cst (.int 4))))
def D_law_need:Df:=⟨1,1,(.cons (.ret (.blt .sum .z (.cons (.comp .z [] 1 (.one 0) (.seq (.ix (.var 0) (.cst (.int 3)))) .nil i4) .nil))) .nil)⟩
def gy:Sms:=(.cons (.ex (.meth .append (.var 4) (.cons (.tup (.cons (.cst (.int 0)) (.cons (.bin .Add .z (.cst (.int 3)) (.bin .Mult .z (.cst (.int 2)) (.var 5))) (.cons (.ix (.ix (.ix (.var 0) (.cst (.int 2))) (.var 5)) (.cst (.int 1))) (.cons (.cst (.int 0)) .nil))))) .nil))) .nil)
def fb:Sms:=(.cons (.set 13 (.bin .Mult .z (.var 10) (.blt .int .z (.cons (.cmp (.var 6) (.cons .notin (.ix (.ix (.ix (.var 0) (.cst (.int 2))) (.var 5)) (.cst (.int 2))) .nil)) .nil)))) (.cons (.ex (.meth .append (.var 4) (.cons (.tup (.cons (.var 12) (.cons (.bin .Add .z (.bin .Add .z (.var 12) (.cst (.int 1))) (.bin .Mult .z (.cst (.int 2)) (.var 5))) (.cons (.var 3) (.cons (.cst (.int 0)) .nil))))) .nil))) (.cons (.ex (.meth .append (.var 4) (.cons (.tup (.cons (.bin .Add .z (.bin .Add .z (.var 12) (.cst (.int 1))) (.bin .Mult .z (.cst (.int 2)) (.var 5))) (.cons (.bin .Add .z (.bin .Add .z (.var 12) (.cst (.int 2))) (.bin .Mult .z (.cst (.int 2)) (.var 5))) (.cons (.ix (.ix (.ix (.var 0) (.cst (.int 2))) (.var 5)) (.cst (.int 0))) (.cons (.cst (.int 0)) .nil))))) .nil))) (.cons (.ex (.meth .append (.var 4) (.cons (.tup (.cons (.bin .Add .z (.bin .Add .z (.var 12) (.cst (.int 2))) (.bin .Mult .z (.cst (.int 2)) (.var 5))) (.cons (.bin .Sub .z (.bin .Add .z (.var 12) (.var 2)) (.cst (.int 1))) (.cons (.var 13) (.cons (.cst (.int 0)) .nil))))) .nil))) (.cons (.ite (.cmp (.var 6) (.cons .lt (.bin .Sub .z (.blt .len .z (.cons (.ix (.var 0) (.cst (.int 3))) .nil)) (.cst (.int 1))) .nil)) (.cons (.ex (.meth .append (.var 4) (.cons (.tup (.cons (.bin .Add .z (.bin .Add .z (.var 12) (.cst (.int 2))) (.bin .Mult .z (.cst (.int 2)) (.var 5))) (.cons (.bin .Add .z (.bin .Add .z (.bin .Add .z (.var 12) (.var 2)) (.cst (.int 1))) (.bin .Mult .z (.cst (.int 2)) (.var 5))) (.cons (.var 3) (.cons (.cst (.int 0)) .nil))))) .nil))) .nil) .nil) .nil)))))
def fc:Sms:=(.cons (.unp [7,8,9,10,11] (.ix (.ix (.var 0) (.cst (.int 3))) (.var 6))) (.cons (.set 12 (.bin .Add .z (.cst (.int 2)) (.bin .Mult .z (.var 6) (.var 2)))) (.cons (.ex (.meth .append (.var 4) (.cons (.tup (.cons (.cst (.int 0)) (.cons (.var 12) (.cons (.var 7) (.cons (.cst (.int 0)) .nil))))) .nil))) (.cons (.ex (.meth .append (.var 4) (.cons (.tup (.cons (.cst (.int 0)) (.cons (.var 12) (.cons (.var 8) (.cons (.var 9) .nil))))) .nil))) (.cons (.ex (.meth .append (.var 4) (.cons (.tup (.cons (.bin .Sub .z (.bin .Add .z (.var 12) (.var 2)) (.cst (.int 1))) (.cons (.cst (.int 1)) (.cons (.bin .Mult .z (.var 11) (.var 10)) (.cons (.cst (.int 0)) .nil))))) .nil))) (.cons (.loop (.one 5) (.rng (.var 1)) fb) (.cons (.ite (.cmp (.var 6) (.cons .lt (.bin .Sub .z (.blt .len .z (.cons (.ix (.var 0) (.cst (.int 3))) .nil)) (.cst (.int 1))) .nil)) (.cons (.ex (.meth .append (.var 4) (.cons (.tup (.cons (.var 12) (.cons (.bin .Add .z (.var 12) (.var 2)) (.cons (.ix (.var 0) (.cst (.int 0))) (.cons (.cst (.int 0)) .nil))))) .nil))) .nil) .nil) .nil)))))))
def D_law_web_3:Df:=⟨1,14,(.cons (.set 1 (.blt .len .z (.cons (.ix (.var 0) (.cst (.int 2))) .nil))) (.cons (.set 2 (.bin .Add .z (.bin .Mult .z (.cst (.int 2)) (.var 1)) (.cst (.int 2)))) (.cons (.set 3 (.call false ia (.cons (.var 0) .nil))) (.cons (.set 4 (.lst .l (.cons (.tup (.cons (.cst (.int 0)) (.cons (.cst (.int 2)) (.cons (.ix (.var 0) (.cst (.int 1))) (.cons (.cst (.int 0)) .nil))))) .nil))) (.cons (.loop (.one 5) (.rng (.var 1)) gy) (.cons (.loop (.one 6) (.rng (.blt .len .z (.cons (.ix (.var 0) (.cst (.int 3))) .nil))) fc) (.cons (.ret (.tup (.cons (.bin .Add .z (.cst (.int 2)) (.bin .Mult .z (.var 2) (.blt .len .z (.cons (.ix (.var 0) (.cst (.int 3))) .nil)))) (.cons (.blt .tuple .z (.cons (.blt .sortedT .z (.cons (.var 4) .nil)) .nil)) .nil)))) .nil)))))))⟩
def D_evened:Df:=⟨3,7,(.cons (.unp [3,4,5,6] (.var 0)) (.cons (.ret (.ite (.cmp (.ix (.var 1) (.cst (.int 0))) (.cons .eq (.cst (.str (PySem.Str.ofString "burnt"))) .nil)) (.tup (.cons (.var 3) (.cons (.var 4) (.cons (.blt .min .z (.cons (.var 5) (.cons (.var 2) .nil))) (.cons (.var 6) .nil))))) (.var 0))) .nil))⟩
def i6:Ex:=(.call false n3 (.cons (.var 1) (.cons (.var 2) (.cons (.var 0) .nil))))
def D_even_web:Df:=⟨2,2,(.cons (.ret (.tup (.cons (.call false gn (.cons (.var 0) .nil)) (.cons (.blt .tuple .z (.cons (.comp .z [1] 2 (.many [1,2]) (.seq (.call false fg (.cons (.var 0) .nil))) .nil i6) .nil)) .nil)))) .nil)⟩
def ck:Sms:=(.cons (.ite (.and (.cmp (.var 6) (.cons .gt (.cst (.int 1)) .nil)) (.and (.blt .inR3 .z (.cons (.bin .Mod .z (.bin .Sub .z (.var 6) (.cst (.int 2))) (.var 4)) (.cons (.cst (.int 2)) (.cons (.bin .Sub .z (.var 4) (.cst (.int 1))) (.cons (.cst (.int 2)) .nil))))) (.cmp (.bin .Mod .z (.bin .Sub .z (.var 7) (.cst (.int 2))) (.var 4)) (.cons .eq (.bin .Sub .z (.var 4) (.cst (.int 1))) .nil)))) (.cons (.set 8 (.blt .min .z (.cons (.var 8) (.cons (.var 1) .nil)))) .nil) .nil) (.cons (.ex (.meth .append (.var 5) (.cons (.tup (.cons (.var 6) (.cons (.var 7) (.cons (.var 8) (.cons (.var 9) .nil))))) .nil))) .nil))
def D_law_due_3:Df:=⟨2,10,(.cons (.unp [2,3] (.call false iy (.cons (.var 0) .nil))) (.cons (.set 4 (.bin .Add .z (.bin .Mult .z (.cst (.int 2)) (.blt .len .z (.cons (.ix (.var 0) (.cst (.int 2))) .nil))) (.cst (.int 2)))) (.cons (.set 5 (.lst .l .nil)) (.cons (.loop (.many [6,7,8,9]) (.seq (.var 3)) ck) (.cons (.ret (.tup (.cons (.var 2) (.cons (.blt .tuple .z (.cons (.blt .sortedT .z (.cons (.var 5) .nil)) .nil)) .nil)))) .nil)))))⟩
def D_law_ticks_2:Df:=⟨2,4,(.cons (.set 2 (.bin .Mod .z (.call false aq (.cons (.var 0) .nil)) (.cst (.int 4)))) (.cons (.set 3 (.bin .FloorDiv .z (.call false aq (.cons (.var 0) .nil)) (.cst (.int 4)))) (.cons (.ite (.cmp (.var 2) (.cons .eq (.cst (.int 0)) .nil)) (.cons (.ret (.bin .Mod .z (.var 3) (.cst (.int 8)))) .nil) .nil) (.cons (.ite (.cmp (.var 2) (.cons .eq (.cst (.int 1)) .nil)) (.cons (.ret (.bin .Mod .z (.bin .FloorDiv .z (.var 0) (.cst (.int 5))) (.bin .Pow .z (.cst (.int 10)) (.cst (.int 16))))) .nil) .nil) (.cons (.ret (.blt .max .z (.cons (.cst (.int 0)) (.cons (.bin .Sub .z (.bin .Add .z (.ix (.ix (.ix (.var 1) (.cst (.int 3))) (.bin .Mod .z (.var 3) (.blt .len .z (.cons (.ix (.var 1) (.cst (.int 3))) .nil)))) (.cst (.int 3))) (.bin .Mod .z (.bin .FloorDiv .z (.var 3) (.cst (.int 16))) (.cst (.int 3)))) (.cst (.int 1))) .nil)))) .nil)))))⟩
def jl:Exs:=(.cons (.not (.call false f6 (.cons (.var 0) .nil))) .nil)
def mv:Ex:=(.var 0)
def jm:Sms:=(.cons (.ite (.or (.not (.isi (.var 5) .tuple)) (.cmp (.blt .len .z (.cons (.comp .z [] 1 (.one 0) (.seq (.var 5)) jl mv) .nil)) (.cons .gt (.cst (.int 0)) .nil))) (.cons (.ret (.cst (.bl false))) .nil) .nil) .nil)
def jn:Sms:=(.cons (.set 3 (.call false fu (.cons (.var 2) (.cons (.var 1) .nil)))) (.cons (.set 4 (.call false jw (.cons (.var 1) (.cons (.var 3) .nil)))) (.cons (.ite (.or (.cmp (.var 4) (.cons .ne (.call false iz (.cons (.var 1) (.cons (.var 3) .nil))) .nil)) (.or (.not (.isi (.var 4) .tuple)) (.not (.isi (.ix (.var 4) (.cst (.int 1))) .tuple)))) (.cons (.ret (.cst (.bl false))) .nil) .nil) (.cons (.loop (.one 5) (.seq (.ix (.var 4) (.cst (.int 1)))) jm) .nil))))
def D_law_k49:Df:=⟨1,6,(.cons (.set 1 (.call false gr (.cons (.var 0) (.cons (.cst (.int 4)) .nil)))) (.cons (.loop (.one 2) (.seq (.bin .Add .z (.sl .z (.var 0) (.so (.cst (.int 2))) (.so (.cst (.int 8)))) (.lst .z (.cons (.cst (.int 0)) .nil)))) jn) (.cons (.ret (.cst (.bl true))) .nil)))⟩
def Dz:Df:=⟨0,0,.nil⟩
def GL:List Df:=[D_night_need,D_need,D_can_burn,Dz,Dz,Dz,D_law_whole,Dz,Dz,Dz,Dz,Dz,Dz,Dz,Dz,Dz,Dz,Dz,Dz,Dz,Dz,Dz,Dz,Dz,Dz,Dz,Dz,Dz,Dz,Dz,Dz,Dz,Dz,Dz,Dz,Dz,Dz,Dz,Dz,Dz,Dz,Dz,Dz,Dz,Dz,Dz,Dz,Dz,Dz,Dz,Dz,Dz,Dz,Dz,Dz,Dz,Dz,Dz,Dz,Dz,Dz,Dz,Dz,Dz,Dz,Dz,Dz,Dz,Dz,Dz,Dz,Dz,Dz,Dz,Dz,Dz,Dz,Dz,Dz,Dz,Dz,Dz,Dz,Dz,Dz,Dz,Dz,Dz,Dz,Dz,Dz,Dz,Dz,Dz,Dz,Dz,Dz,Dz,Dz,Dz,Dz,Dz,Dz,Dz,Dz,Dz,Dz,Dz,Dz,Dz,Dz,Dz,Dz,Dz,Dz,Dz,Dz,Dz,Dz,Dz,Dz,Dz,Dz,D_law_cell_at,Dz,Dz,Dz,Dz,Dz,Dz,Dz,Dz,Dz,Dz,Dz,Dz,Dz,Dz,Dz,Dz,Dz,Dz,Dz,Dz,Dz,Dz,Dz,Dz,Dz,Dz,Dz,Dz,Dz,Dz,Dz,Dz,Dz,Dz,Dz,Dz,Dz,Dz,Dz,Dz,Dz,Dz,Dz,Dz,Dz,Dz,Dz,Dz,Dz,Dz,Dz,Dz,Dz,Dz,Dz,Dz,Dz,Dz,Dz,Dz,Dz,Dz,Dz,Dz,Dz,Dz,Dz,Dz,Dz,Dz,Dz,Dz,Dz,Dz,Dz,Dz,Dz,Dz,Dz,Dz,Dz,Dz,Dz,Dz,Dz,Dz,Dz,Dz,Dz,Dz,Dz,Dz,Dz,Dz,D_store_node,D_tank_node,D_flame_node,D_night_node,D_first_morning_ties,D_later_morning_ties,D_day_ties,D_lamp_ties,D_named_ties,D_many_nodes,Dz,D_law_mixed_3,D_law_much,D_law_folded,D_law_lamp_2,D_law_day_2,D_law_book_2,D_law_need,D_law_web_3,Dz,Dz,Dz,D_evened,D_even_web,D_law_due_3,D_law_ticks_2,D_law_k49]
theorem uy:GL[ff]? = some D_night_need:=rfl
theorem Qs:GL[qg]? = some D_need:=rfl
theorem As:GL[jv]? = some D_can_burn:=rfl
theorem xf:GL[f6]? = some D_law_whole:=rfl
theorem r8:GL[eg]? = some D_law_cell_at:=rfl
theorem uz:GL[aw]? = some D_store_node:=rfl
theorem xg:GL[dn]? = some D_tank_node:=rfl
theorem u0:GL[dw]? = some D_flame_node:=rfl
theorem u4:GL[dy]? = some D_night_node:=rfl
theorem jy:GL[ay]? = some D_first_morning_ties:=rfl
theorem jz:GL[bb]? = some D_later_morning_ties:=rfl
theorem Au:GL[h9]? = some D_day_ties:=rfl
theorem xj:GL[f9]? = some D_lamp_ties:=rfl
theorem u6:GL[fg]? = some D_named_ties:=rfl
theorem u7:GL[gn]? = some D_many_nodes:=rfl
theorem r9:GL[aq]? = some D_law_mixed_3:=rfl
theorem Av:GL[cj]? = some D_law_much:=rfl
theorem u9:GL[gp]? = some D_law_folded:=rfl
theorem vc:GL[gq]? = some D_law_lamp_2:=rfl
theorem xk:GL[iw]? = some D_law_day_2:=rfl
theorem vd:GL[gr]? = some D_law_book_2:=rfl
theorem Aw:GL[ia]? = some D_law_need:=rfl
theorem xm:GL[iy]? = some D_law_web_3:=rfl
theorem Gf:GL[n3]? = some D_evened:=rfl
theorem Ax:GL[jw]? = some D_even_web:=rfl
theorem xn:GL[iz]? = some D_law_due_3:=rfl
theorem sd:GL[fu]? = some D_law_ticks_2:=rfl
theorem D7:GL[pg]? = some D_law_k49:=rfl
end Lp
local macro_rules | `(tactic| simp! only [$ls,*]) => do
  let mut a := ls.getElems
  for s in "Pq Pr Pt Pu Pw Px Vc Py Pz P0 Ia Ib P1 P2 Ic Vd Ve P4 P5 P6 Ie Ig Dc Vf Vg Ih Dd P7 P8 Ii P9 Ij Ik Qa Qb Il Vh Qc Im Qd Io Qe Ip Iq De uv zf Dg Ir Iu Qf Qg Iv Iw Iy Iz Qh Qi Ja Jb zg Qj Qk Jc Jd Je Jf uw zh zi ux Ql Qm Qn Qo Jg Jh Ji bt_min bt_max je w4 Dh Di Dj Qp Dl Jj Jk Dm Jl Dn Dp Jm Dq Dr zk Ds Dt Du Dw Dx Dy D0 Jn Jo D1 zm zo Qq D2 Jp D3 D4 D5 zp zq D6 Wz T8 Vm T9 W0 W1 Ua Vn Vo Ub Uc W2 Vp Vq Vr Xn Xo Xp Xq Xr Xt Xu Xv Xw Xx Xy Xz X0 X3 X4 Nat.reduceSub decide_true decide_false Bool.not_true Bool.not_false".splitOn " " do
    a := a.push ⟨(<- `(Lean.Parser.Tactic.simpLemma| $(Lean.mkIdent ((s.splitOn ".").foldl Lean.Name.mkStr .anonymous)):ident)).raw⟩
  `(tactic| simp only [$a,*])
namespace Lr
open Lp
open PySem
def Lf (cs:List Int):O:=.l (cs.reverse.map D.int)
@[simp] theorem Vs (cs:List Int):noR (Lf cs)=true:=rfl
section
variable {n : Nat} {μ ρ : Sto}
theorem Gg (c:Int):ak GL (n+1) f6 [.int c] μ=.ok (.bl true) μ:=by
 rw[aj xf,run_eq rfl]
 simp! only[D_law_whole,Ks]
theorem Gh (hr:iu μ) (c:Int):gk (ak GL (n+1)) false f6 [.int c] μ=.ok (.bl true) μ:=ax (Gg c) rfl rfl hr
end
open PySem
structure Lamp where
 tank:Int
 oil:Int
 away:List Int
structure Day where
 boat:Int
 most:Int
 price:Int
 length:Int
 wanted:Int
structure Book where
 store:Int
 oil:Int
 lamps:List Lamp
 days:List Day
def xp (ns:List Int):D:=.tup (ns.map D.int)
def i7 (l:Lamp):D:=.tup [.int l.tank,.int l.oil,xp l.away]
def qh (d:Day):D:=.tup [.int d.boat,.int d.most,.int d.price,.int d.length,.int d.wanted]
def ar (b:Book):D:=.tup [.int b.store,.int b.oil,.tup (b.lamps.map i7),.tup (b.days.map qh)]
theorem D8 {k:Nat} (ns:List Int):D.pureN (k+1) (xp ns)=true:=by
 simp![xp,gm,DI,AS]
 exact λx _=>d9
theorem ve {k:Nat} (l:Lamp):D.pureN (k+2) (i7 l)=true:=by
 simp![i7,gm,BO,IH,IA,IB,d9,D8]
theorem zr {k:Nat} (l:Day):D.pureN (k+1) (qh l)=true:=by
 simp![qh,gm,BO,IH,IA,IB,d9]
theorem D9 (b:Book):(ar b).pure=true:=by
 simp![D.pure,ar,gm,BO,IH,IA,IB,d9,DI,AU,AS]
 exact⟨λl _=>ve l,λl _=>zr l⟩
theorem Qt {b:Book} {μ:Sto}:ixD (ar b) (.int 0) μ=.ok (.int b.store) μ:=rfl
theorem Ud {b:Book} {μ:Sto}:ixD (ar b) (.int 1) μ=.ok (.int b.oil) μ:=rfl
theorem nh {b:Book} {μ:Sto}:ixD (ar b) (.int 2) μ=.ok (.tup (b.lamps.map i7)) μ:=rfl
theorem kr {b:Book} {μ:Sto}:ixD (ar b) (.int 3) μ=.ok (.tup (b.days.map qh)) μ:=rfl
theorem Gi {b:Lamp} {μ:Sto}:ixD (i7 b) (.int 0) μ=.ok (.int b.tank) μ:=rfl
theorem Qu {b:Lamp} {μ:Sto}:ixD (i7 b) (.int 1) μ=.ok (.int b.oil) μ:=rfl
theorem Qv {b:Lamp} {μ:Sto}:ixD (i7 b) (.int 2) μ=.ok (xp b.away) μ:=rfl
theorem Gj {b:Day} {μ:Sto}:ixD (qh b) (.int 3) μ=.ok (.int b.length) μ:=rfl
theorem Ue {b:Day} {μ:Sto}:ixD (qh b) (.int 4) μ=.ok (.int b.wanted) μ:=rfl
structure Wf (b:Book):Prop where
 store:0<=b.store/\b.store<=10 ^ 30
 oil:0<=b.oil/\b.oil<=10 ^ 30
 lamps:1<=b.lamps.length/\b.lamps.length<=8
 days:1<=b.days.length/\b.days.length<=16
 lamp:∀l∈b.lamps,(0<=l.tank/\l.tank<=10 ^ 30)/\(0<=l.oil/\l.oil<=l.tank)/\l.away.Pairwise (· < ·)/\∀a∈l.away,0<=a/\a<b.days.length
 day:∀d∈b.days,(0<=d.boat/\d.boat<=10 ^ 30)/\(0<=d.most/\d.most<=10 ^ 30)/\(0<=d.price/\d.price<=10 ^ 15)/\(1<=d.length/\d.length<=10 ^ 15)/\0<=d.wanted/\d.wanted<=b.lamps.length
section
variable {n : Nat} {μ ρ : Sto}
theorem p30:opI .Pow 10 30 μ=.ok (.int (10 ^ 30)) μ:=op_pow (by decide)
theorem p15:opI .Pow 10 15 μ=.ok (.int (10 ^ 15)) μ:=op_pow (by decide)
theorem Ay (l:Lamp):(i7 l).pure=true:=ve l
theorem Ea (l:Day):(qh l).pure=true:=zr l
end
def a9 (b:Book):List Int:=b.days.map λd=>d.wanted*d.length
section
variable {n : Nat} {μ : Sto}
theorem mw {b:Book} (hb:Wf b) {k:Nat} {d:Day} (hd:b.days[k]? = some d):ak GL (n+1) ff [ar b,.int k] μ=.ok (.int (d.wanted*d.length)) μ:=by
 rw[aj uy,run_eq rfl]
 have q:=hb.day d (CK hd)
 have q2:=hb.lamps
 have hm:CMul d.wanted d.length:=.left (by lia) (by lia)
 simp! only[D_night_need,kr,h8 hd,qh,op_mul hm]
theorem Md (hr:iu μ) {b:Book} (hb:Wf b):ak GL (n+2) qg [ar b] μ=.ok (.int (a9 b).sum) μ:=by
 rw[aj Qs,run_eq rfl]
 have q:=hb.days
 have hc:me (ak GL (n+1)) .z (.one 1) .nil ph [some (ar b),none] ((List.range (b.days.map qh).length).map fun(k:Nat)=>D.int k,none) μ=.ok (.lst ((a9 b).map D.int)) μ:=by
  rw[comp_map (en:=fun(k:Nat)=>D.int k) (g:=fun(k:Nat)=>D.int ((a9 b).getD k 0))]
  ·rw[je]
   congr 2
   refine DC λk=>?_
   simp![a9,BM,AD,CF]
   by_cases hk:k<b.days.length
   ·simp[hk]
   ·simp[hk]
  ·intro k hk
   have hk':k<b.days.length:=by simpa using hk
   have e:b.days[k]? = some b.days[k]:=AA hk'
   simp! only[wz,ph,ax (mw (n:=n) hb e) rfl rfl hr,a9,CF,BM,e,DR]
 simp! only[D_need,kr,bt_len a8,dm (show(b.days.map qh).length<=1000000 by rw[AD];lia),hc,bt_sum cy (kq _)]
theorem Eb (ns:List Int):(ns.map D.int).all flat=true:=by
 rw[DI,AS]
 exact λ_ _=>rfl
theorem any_ints (ns:List Int) (k:Int):((ns.map D.int).any λy=>deq y (.int k))=decide (k∈ns):=by
 rw[List.any_map]
 induction ns with
 | nil=>rfl
 | cons a r ih =>
  simp![DH,ih,Function.comp,deq,AV]
  by_cases h:a=k
  ·simp[h]
  ·simp[h,Ne.symm h]
theorem i8 {ns:List Int} {k:Int}:cpD .notin (.int k) (xp ns) μ=.ok (.bl (!decide (k∈ns))) μ:=by
 simp![cpD,xp,a8,flat,Eb,and_self,if_true,any_ints]
theorem Az {b:Book} {k:Nat} {l:Lamp} (hl:b.lamps[k]? = some l) (y:Int):ak GL (n+1) jv [ar b,.int k,.int y] μ=.ok (.bl (!decide (y∈l.away))) μ:=by
 rw[aj As,run_eq rfl]
 simp! only[D_can_burn,nh,h8 hl,i7,i8]
end
open PySem
theorem deqs_self {k:Nat} (ih:∀d:D,D.pureN k d=true->deq d d=true):∀ds:List D,ds.all (D.pureN k)=true->lg ds ds=true
 | [],_=>by rw[lg]
 | d::r,h=>by
  simp![BO,AU]at h
  rw[lg,ih d h.1,deqs_self ih r h.2];rfl
theorem se:∀(k:Nat) (d:D),D.pureN k d=true->deq d d=true
 | 0,d,h=>by cases d<;>simp_all[D.pureN,deq]
 | k+1,d,h=>by
  cases d with
  | tup ds=>rw[deq];exact deqs_self (se k) ds h
  | lst ds=>rw[deq];exact deqs_self (se k) ds h
  | loc n=>simp[D.pureN]at h
  | _=>simp[deq]
theorem Rp (xs:List D) (k:Nat):cut xs none (some (k:Int))=xs.take k:=by
 simp![cut,sIx]
 rw[if_neg (by lia)]
 simp[List.take_eq_take_iff]
theorem Gk (xs:List D) (k:Nat):cut xs (some (k:Int)) none=xs.drop k:=by
 simp![cut,sIx]
 rw[if_neg (by lia)]
 by_cases h:k<=xs.length
 ·rw[DU,Nat.min_eq_left h,BP (by simp)]
 ·rw[DU,Nat.min_eq_right (by lia),List.drop_eq_nil_of_le (show xs.length<=k by lia)];simp
section
variable {n : Nat} {μ ρ : Sto} {m : Mk} {φ : Phi} {σ : Sl} {es : Exs}
theorem Jq {xs:List D}:Ks .tuple (.tup xs) μ=.ok (.bl true) μ:=rfl
theorem ib {f:Nat} {ds:List D} {d:D} (h:φ f ds μ=.ok d (μ++ρ)) (hd:d.pure=true) (hr:iu μ):gk φ false f ds μ=.ok d μ:=by
 rw[gk,h]
 have e:(μ++ρ).take μ.length=μ:=by simp
 have hr':μ.all (fh μ.length)=true:=hr
 simp![ll,BB,if_false,e,ju _ 8 d hd,hr',and_self,if_true]
theorem i9 {o:O}:(μ++[o])[μ.length]? = some o:=by simp
theorem ku {o o':O}:(μ++[o]).set μ.length o'=μ++[o']:=by simp
theorem Qw {ds:List D} (h:ds.all (D.pureN 8)=true):mkL .l ds μ=.ok (.loc μ.length) (μ++[.l ds]):=by simp![mkL,h,if_true]
theorem Gm {ds:List D}:gv (μ++[.l ds]) (.loc μ.length)=some ds:=by simp![gv,i9]
theorem Ec {mt:Mt} {ds:List D} (h:∀d μ,oj mt d μ=(Lp.listOf μ d).isSome):kM φ mt es σ (.loc μ.length) (μ++[.l ds])=(fi φ es σ (μ++[.l ds])).bind (mtD mt (.loc μ.length)):=by
 refine T2 ?_
 rw[h]
 simp![Lp.listOf,i9];rfl
theorem qi {ds:List D}:kM φ .append es σ (.loc μ.length) (μ++[.l ds])=(fi φ es σ (μ++[.l ds])).bind (mtD .append (.loc μ.length)):=Ec λ_ _=>rfl
theorem Ed {ds:List D} {d:D} (hd:d.pure=true) (hl:ds.length<1000000):mtD .append (.loc μ.length) [d] (μ++[.l ds])=.ok .non (μ++[.l (ds++[d])]):=by
 have:=oi
 simp![mtD,Bz,i9,g7,mtL,nr,fits,hd,putL,ku]
 rw[if_pos ⟨trivial,by lia⟩]
theorem gz {α:Type} {tg:Tg} {b:Sms} {xs:List α} {en:α->D} (I:Nat->Sl->Sto->Prop) (h0:I 0 σ μ) (st:∀(k:Nat) a σ μ,xs[k]? = some a->I k σ μ->∃σ' μ',fLp φ tg b (en a) σ μ=.ok (.nx σ') μ'/\I (k+1) σ' μ') :
  ∃σ' μ',L8 φ tg b σ (xs.map en,none) μ=.ok (.nx σ') μ'/\I xs.length σ' μ':=by
 obtain⟨σ',μ',e,i⟩:=r6 (f:=fLp φ tg b) I (ds:=xs.map en) (σ:=σ) (μ:=μ) 0 h0 λj d σ μ' e i=>by
  rw[BM]at e
  cases ex:xs[j]? with
  | none=>rw[ex]at e;cases e
  | some a =>
   rw[ex]at e
   cases e
   obtain⟨σ',μ'',e',i'⟩:=st j a σ μ' ex (by simpa using i)
   exact⟨σ',μ'',e',by simpa using i'⟩
 exact⟨σ',μ',e,by simpa using i⟩
theorem Ee {α:Type} {tg:Tg} {cs:Exs} {elt:Ex} {σ0:Sl} {xs:List α} {en:α->D} (h:∀a∈xs,wz φ tg cs elt σ0 (en a) μ=.ok [] μ):me φ m tg cs elt σ0 (xs.map en,none) μ=mkL m [] μ:=by
 have e:xs.filter (λ_=>false)=[]:=List.filter_eq_nil_iff.mpr λa _=>by simp
 rw[pf (g:=en) (p:=λ_=>false) λa ha=>by rw[h a ha];rfl,e,CW]
theorem Gn {b:Book} {i j k l:Nat} {σ:Sl}:d7 (.many [i,j,k,l]) (ar b) σ=some ((((σ.set i (some (.int b.store))).set j (some (.int b.oil))).set k (some (.tup (b.lamps.map i7)))).set l (some (.tup (b.days.map qh)))):=rfl
end
open PySem
theorem kx {b c:Nat} (h:b<=c):∀(k:Nat) (d:D),D.belowN b k d=true->D.belowN c k d=true
 | 0,d,e=>by cases d<;>simp_all[D.belowN];lia
 | k+1,d,e=>by
  cases d with
  | tup ds =>
   simp![D.belowN,AS]at e ⊢
   exact λx hx=>kx h k x (e x hx)
  | lst ds =>
   simp![D.belowN,AS]at e ⊢
   exact λx hx=>kx h k x (e x hx)
  | loc n=>simp_all[D.belowN];lia
  | _=>rfl
section
variable {n : Nat} {μ ρ : Sto} {φ : Phi} {es : Exs} {σ : Sl}
theorem Ef {ds:List D}:kM φ .extend es σ (.loc μ.length) (μ++[.l ds])=(fi φ es σ (μ++[.l ds])).bind (mtD .extend (.loc μ.length)):=Ec λ_ _=>rfl
theorem Eg {ds ys:List D} (hd:ys.all D.pure=true) (hl:ds.length+ys.length<=1000000):mtD .extend (.loc μ.length) [.lst ys] (μ++[.l ds])=.ok .non (μ++[.l (ds++ys)]):=by
 have:=oi
 have hf:ys.all (fits (.l ds))=true:=hd
 simp![mtD,Bz,i9,g7,mtL,nr,Lp.listOf,hf,putL,ku]
 rw[if_pos ⟨trivial,by lia⟩]
theorem vf (hr:iu μ) (ds:List D):iu (μ++[.l ds]):=by
 unfold iu at hr ⊢
 rw[AS]at hr ⊢
 intro o ho
 rcases BX.mp ho with h | h
 ·have:=hr o h
  cases o with
  | r xs =>
   simp![fh,AS]at this ⊢
   exact λx hx=>kx (by simp) 8 x (this x hx)
  | o _ _ =>
   simp![fh,AS]at this ⊢
   exact λx hx=>kx (by simp) 8 _ (this x hx)
  | dr _ =>
   simp![fh,AS]at this ⊢
   exact λx hx=>kx (by simp) 8 _ (this x hx)
  | _=>rfl
 ·simp![FE]at h
  subst h;rfl
end
open PySem
section
variable {n : Nat} {μ ρ : Sto} {φ : Phi} {σ : Sl}
theorem Qx {i:Nat} {k:Nat} {ds:List D} (h:σ[i]? = some (some (.loc k))) (h2:μ[k]? = some (.l ds)):evE φ (.frz i) σ μ=.ok (.lst ds) (μ.set k .dead):=by simp![evE,h,h2]
end
open PySem
def sN (b:Book) (d:Nat):Int:=2+d*(2*b.lamps.length+2)
def tN (b:Book) (i d:Nat):Int:=sN b d+1+2*i
def fN (b:Book) (i d:Nat):Int:=sN b d+2+2*i
def nN (b:Book) (d:Nat):Int:=sN b d+2*b.lamps.length+1
section
variable {n : Nat} {μ : Sto} {b : Book}
theorem Gp (hl:b.lamps.length<=8) (d:Nat):ak GL (n+1) aw [ar b,.int d] μ=.ok (.int (sN b d)) μ:=by
 rw[aj uz,run_eq rfl]
 simp![D_store_node,EV1,EV2,EV3,EV4,EV5,Nat.reduceSub,decide_true,decide_false,AY,AW,nh,bt_len a8,AD,op_mul (show CMul 2 (b.lamps.length:Int)from .left (by decide) (by decide)),op_mul (show CMul (d:Int) (2*(b.lamps.length:Int)+2)from .right (by lia) (by lia)),sN]
theorem fv (hr:iu μ) (hl:b.lamps.length<=8) (d:Nat):gk (ak GL (n+1)) false aw [ar b,.int d] μ=.ok (.int (sN b d)) μ:=ax (Gp hl d) rfl rfl hr
theorem Me (hr:iu μ) (hl:b.lamps.length<=8) (i d:Nat):ak GL (n+2) dn [ar b,.int i,.int d] μ=.ok (.int (tN b i d)) μ:=by
 rw[aj xg,run_eq rfl]
 simp![D_tank_node,EV1,EV2,EV3,EV4,EV5,Nat.reduceSub,decide_true,decide_false,AY,AW,fv hr hl,op_mul (show CMul 2 (i:Int)from .left (by decide) (by decide)),tN]
theorem sf (hr:iu μ) (hl:b.lamps.length<=8) (i d:Nat):gk (ak GL (n+2)) false dn [ar b,.int i,.int d] μ=.ok (.int (tN b i d)) μ:=ax (Me hr hl i d) rfl rfl hr
theorem Gq (hr:iu μ) (hl:b.lamps.length<=8) (i d:Nat):ak GL (n+2) dw [ar b,.int i,.int d] μ=.ok (.int (fN b i d)) μ:=by
 rw[aj u0,run_eq rfl]
 simp![D_flame_node,EV1,EV2,EV3,EV4,EV5,Nat.reduceSub,decide_true,decide_false,AY,AW,fv hr hl,op_mul (show CMul 2 (i:Int)from .left (by decide) (by decide)),fN]
theorem sg (hr:iu μ) (hl:b.lamps.length<=8) (i d:Nat):gk (ak GL (n+2)) false dw [ar b,.int i,.int d] μ=.ok (.int (fN b i d)) μ:=ax (Gq hr hl i d) rfl rfl hr
theorem Eh (hr:iu μ) (hl:b.lamps.length<=8) (d:Nat):ak GL (n+2) dy [ar b,.int d] μ=.ok (.int (nN b d)) μ:=by
 rw[aj u4,run_eq rfl]
 simp![D_night_node,EV1,EV2,EV3,EV4,EV5,Nat.reduceSub,decide_true,decide_false,AY,AW,fv hr hl,nh,bt_len a8,AD,op_mul (show CMul 2 (b.lamps.length:Int)from .left (by decide) (by decide)),nN]
theorem pj (hr:iu μ) (hl:b.lamps.length<=8) (d:Nat):gk (ak GL (n+2)) false dy [ar b,.int d] μ=.ok (.int (nN b d)) μ:=ax (Eh hr hl d) rfl rfl hr
theorem xq (hr:iu μ) (hb:Wf b):gk (ak GL (n+2)) false qg [ar b] μ=.ok (.int (a9 b).sum) μ:=ax (Md hr hb) rfl rfl hr
end
abbrev Gr:Str:=PySem.Str.ofString "kept"
abbrev Gs:Str:=PySem.Str.ofString "left"
abbrev Jr:Str:=PySem.Str.ofString "taken"
abbrev Ei:Str:=PySem.Str.ofString "bought"
abbrev Js:Str:=PySem.Str.ofString "shining"
abbrev Qy:Str:=PySem.Str.ofString "poured"
abbrev Qz:Str:=PySem.Str.ofString "through"
abbrev wBurnt:Str:=PySem.Str.ofString "burnt"
def j0 (b:Book) (d:Nat) (a:Int) (m:Int):NR:=([a,sN b d,m,0],Gr,[(d:Int)])
def mf (b:Book) (i d:Nat) (a:Int) (m:Int):NR:=([a,tN b i d,m,0],Gs,[(d:Int),(i:Int)])
def zl {α:Type} (l:List α):List (Nat×α):=(List.range l.length).zip l
def firstM (b:Book):List NR:=j0 b 0 0 b.oil::(zl b.lamps).map λp:Nat×Lamp=>mf b p.1 0 0 p.2.oil
def c6 (b:Book) (d:Nat):List NR:=j0 b (d+1) (sN b d) b.store::(List.range b.lamps.length).map λi=>mf b i (d+1) (fN b i d) (a9 b).sum
def A8 (b:Book) (d:Nat) (y:Day):List NR:=[([0,sN b d,y.boat,0],Jr,[(d:Int)]),([0,sN b d,y.most,y.price],Ei,[(d:Int)]),([nN b d,1,y.wanted*y.length,0],Js,[(d:Int)])]
def jo (l:Lamp) (d:Nat) (y:Day):Int:=if(d:Int)∈l.away then 0 else y.length
def ja (b:Book) (i d:Nat) (l:Lamp) (y:Day):List NR:=[([sN b d,tN b i d,(a9 b).sum,0],Qy,[(d:Int),(i:Int)]),([tN b i d,fN b i d,l.tank,0],Qz,[(d:Int),(i:Int)]),([fN b i d,nN b d,jo l d y,0],wBurnt,[(d:Int),(i:Int)])]
def vg (b:Book) (d:Nat) (y:Day):List NR:=A8 b d y++(zl b.lamps).flatMap λq=>ja b q.1 d q.2 y
def dk (b:Book):List NR:=firstM b++(List.range (b.days.length-1)).flatMap (c6 b)++(zl b.days).flatMap λp=>vg b p.1 p.2
theorem xu {α:Type} {l:List α} {j:Nat} {p:Nat×α} (h:(zl l)[j]? = some p):p.1=j/\l[j]? = some p.2/\j<l.length:=by
 obtain⟨h1,h2⟩:=EX.mp h
 obtain⟨hj,hj2⟩:=AI.mp h1
 simp![CU]at hj
 simp![List.getElem_range]at hj2
 exact⟨hj2.symm,h2,hj⟩
theorem mh {α:Type} {l:List α} {j:Nat} {p:Nat×α} (h:(zl l)[j]? = some p):(zl l).take (j+1)=(zl l).take j++[p]:=by rw[List.take_add_one,h];rfl
theorem jc {α:Type} (l:List α):(zl l).length=l.length:=by simp[zl]
theorem Mf {α:Type} {l:List α} {en:α->D} {μ:Sto}:kEnum (.tup (l.map en)) μ=.ok ((zl l).map (λp:Nat×α=>D.tup [.int p.1,en p.2]),none) μ:=by
 simp![kEnum,bw,AD,zl]
 congr 2
 rw[show(List.range l.length)=(List.range l.length).map id by simp,List.zip_map,CJ]
 simp![List.map_id];rfl
theorem mj (k:Nat) (x:NR):D.pureN (k+2) (dj x)=true:=by
 have h1:(x.1.map D.int).all (D.pureN k)=true:=by rw[DI,AS];exact λ_ _=>d9
 have h2:(x.2.2.map D.int).all (D.pureN k)=true:=by rw[DI,AS];exact λ_ _=>d9
 have h3:D.pureN k (.str x.2.1)=true:=by cases k<;>rfl
 show(D.pureN (k+1) (.tup (x.1.map D.int))&&(D.pureN (k+1) (.tup (.str x.2.1::x.2.2.map D.int))&&true))=true
 rw[gm,gm,BO,h1,h2,h3];rfl
theorem Ej (l:List NR):(l.map dj).all D.pure=true:=by rw[DI,AS];exact λx _=>mj 6 x
section
variable {n : Nat} {μ : Sto} {b : Book}
theorem Gu (hr:iu μ) (hl:b.lamps.length<=8):ak GL (n+3) ay [ar b] μ=.ok (.loc μ.length) (μ++[.l ((firstM b).map dj)]):=by
 rw[aj jy,run_eq rfl]
 have e0:mkL .l [dj (j0 b 0 0 b.oil)] μ=.ok (.loc μ.length) (μ++[.l [dj (j0 b 0 0 b.oil)]]):=Qw (by simp[mj 6])
 obtain⟨σ',μ',el,v6,v7,rfl,rfl⟩:=gz (φ:=ak GL (n+2)) (μ:=μ++[.l [dj (j0 b 0 0 b.oil)]]) (tg:=.many [6,7]) (b:=bz) (xs:=zl b.lamps) (en:=λp:Nat×Lamp=>D.tup [.int p.1,i7 p.2])
  (σ:=[some (ar b),some (.int b.store),some (.int b.oil),some (.tup (b.lamps.map i7)),some (.tup (b.days.map qh)),some (.loc μ.length),none,none])
  (λj σ μ'=>∃v6 v7,σ=[some (ar b),some (.int b.store),some (.int b.oil),some (.tup (b.lamps.map i7)),some (.tup (b.days.map qh)),some (.loc μ.length),v6,v7]/\μ'=μ++[.l ((j0 b 0 0 b.oil::((zl b.lamps).take j).map λp:Nat×Lamp=>mf b p.1 0 0 p.2.oil).map dj)]) ⟨none,none,rfl,by simp⟩ (by
   rintro j ⟨i,l⟩ σ μ' hk ⟨v6,v7,rfl,rfl⟩
   obtain⟨e1,e2,e3⟩:=xu hk
   have et:(D.tup [.tup [.int 0,.int (tN b i 0),.int l.oil,.int 0],.tup [.str Gs,.int 0,.int i]])=dj (mf b i 0 0 l.oil):=rfl
   refine⟨[some (ar b),some (.int b.store),some (.int b.oil),some (.tup (b.lamps.map i7)),some (.tup (b.days.map qh)),some (.loc μ.length),some (.int i),some (i7 l)],_,?_,_,_,rfl,rfl⟩
   rw[mh hk]
   generalize hX:(j0 b 0 0 b.oil::((zl b.lamps).take j).map λp:Nat×Lamp=>mf b p.1 0 0 p.2.oil)=X
   have eX:(j0 b 0 0 b.oil::((zl b.lamps).take j++[(i,l)]).map λp:Nat×Lamp=>mf b p.1 0 0 p.2.oil)=X++[mf b i 0 0 l.oil]:=by rw[<-hX];simp
   rw[eX]
   have lX:X.length<=9:=by rw[<-hX];simp[jc];lia
   have h0:=sf (n:=n) (b:=b) (vf hr (X.map dj)) hl i 0
   simp! only[fLp,bz,qi,Int.natCast_zero ▸ h0,Qu,et,Ed (mj 6 _) (show(X.map dj).length<1000000 by rw[AD];lia),BR,AL,CW])
 rw[jc,<-jc b.lamps,BN]at el
 have k0:=fv (n:=n+1) (b:=b) hr hl 0
 have ek:(D.tup [.tup [.int 0,.int (sN b 0),.int b.oil,.int 0],.tup [.str Gr,.int 0]])=dj (j0 b 0 0 b.oil):=rfl
 simp! only[D_first_morning_ties,Gn,Int.natCast_zero ▸ k0,ek,e0,Mf,el,firstM]
theorem Gv (hr:iu μ) (hl:b.lamps.length<=8):gk (ak GL (n+3)) true ay [ar b] μ=.ok (.loc μ.length) (μ++[.l ((firstM b).map dj)]):=Ar (Gu hr hl)
theorem sh (l:List NR):(D.lst (l.map dj)).pure=true:=by
 show((l.map dj).all (D.pureN 7))=true
 rw[DI,AS];exact λx _=>mj 5 x
theorem Gw (hr:iu μ) (hb:Wf b) (d:Nat):ak GL (n+3) bb [ar b,.int ((d+1:Nat):Int)] μ=.ok (.lst ((c6 b d).map dj)) (μ++[.dead]):=by
 have hl:=hb.lamps.2
 rw[aj jz,run_eq rfl]
 have e0:mkL .l [dj (j0 b (d+1) (sN b d) b.store)] μ=.ok (.loc μ.length) (μ++[.l [dj (j0 b (d+1) (sN b d) b.store)]]):=Qw (by simp[mj 6])
 have ed:((d+1:Nat):Int)-1=(d:Nat):=by lia
 obtain⟨σ',μ',el,v3,v4,rfl,rfl⟩:=gz (φ:=ak GL (n+2)) (μ:=μ++[.l [dj (j0 b (d+1) (sN b d) b.store)]]) (tg:=.one 3) (b:=cc) (xs:=List.range b.lamps.length) (en:=λk:Nat=>D.int k)
  (σ:=[some (ar b),some (.int ((d+1:Nat):Int)),some (.loc μ.length),none,none])
  (λj σ μ'=>∃v3 v4,σ=[some (ar b),some (.int ((d+1:Nat):Int)),some (.loc μ.length),v3,v4]/\μ'=μ++[.l ((j0 b (d+1) (sN b d) b.store::(List.range j).map λi=>mf b i (d+1) (fN b i d) (a9 b).sum).map dj)]) ⟨none,none,rfl,by simp⟩ (by
   rintro j i σ μ' hk ⟨v3,v4,rfl,rfl⟩
   have hj:=(AI.mp hk).1
   simp![CU]at hj
   rw[Gt hj]at hk
   cases hk
   have et:(D.tup [.tup [.int (fN b j d),.int (tN b j (d+1)),.int (a9 b).sum,.int 0],.tup [.str Gs,.int ((d+1:Nat):Int),.int j]])=dj (mf b j (d+1) (fN b j d) (a9 b).sum):=rfl
   refine⟨[some (ar b),some (.int ((d+1:Nat):Int)),some (.loc μ.length),some (.int j),some (.int (fN b j d))],_,?_,_,_,rfl,rfl⟩
   rw[FY,BR]
   generalize hX:(j0 b (d+1) (sN b d) b.store::(List.range j).map λi=>mf b i (d+1) (fN b i d) (a9 b).sum)=X
   have eX:(j0 b (d+1) (sN b d) b.store::((List.range j).map (λi=>mf b i (d+1) (fN b i d) (a9 b).sum)++[j].map λi=>mf b i (d+1) (fN b i d) (a9 b).sum))=X++[mf b j (d+1) (fN b j d) (a9 b).sum]:=by rw[<-hX];rfl
   rw[eX]
   have lX:X.length<=9:=by rw[<-hX];simp;lia
   have H:=vf hr (X.map dj)
   simp![fLp,cc,EV1,EV2,EV3,EV4,EV5,Nat.reduceSub,decide_true,decide_false,AY,AW,qi,ed,sg H hl j d,sf H hl j (d+1),xq H hb,et,Ed (mj 6 _) (show(X.map dj).length<1000000 by rw[AD];lia),BR,AL,CW])
 rw[CU]at el
 have ek:(D.tup [.tup [.int (sN b d),.int (sN b (d+1)),.int b.store,.int 0],.tup [.str Gr,.int ((d+1:Nat):Int)]])=dj (j0 b (d+1) (sN b d) b.store):=rfl
 have ef:∀v3 v4 (ds:List D),evE (ak GL (n+2)) (.frz 2) [some (ar b),some (.int ((d+1:Nat):Int)),some (.loc μ.length),v3,v4] (μ++[.l ds])=.ok (.lst ds) (μ++[.dead]):=λv3 v4 ds=>by
  rw[Qx rfl i9,ku]
 simp![D_later_morning_ties,EV1,EV2,EV3,EV4,EV5,Nat.reduceSub,decide_true,decide_false,AY,AW,ed,fv (n:=n+1) hr hl,Qt,ek,e0,nh,bt_len a8,AD,dm (show b.lamps.length<=1000000 by lia),el,ef,c6]
theorem Gx (hr:iu μ) (hb:Wf b) (d:Nat):gk (ak GL (n+3)) false bb [ar b,.int ((d+1:Nat):Int)] μ=.ok (.lst ((c6 b d).map dj)) μ:=ib (Gw hr hb d) (sh _) hr
theorem xw {y:Day} {i j k l m:Nat} {σ:Sl}:d7 (.many [i,j,k,l,m]) (qh y) σ=some (((((σ.set i (some (.int y.boat))).set j (some (.int y.most))).set k (some (.int y.price))).set l (some (.int y.length))).set m (some (.int y.wanted))):=rfl
theorem Mh (hr:iu μ) (hb:Wf b) {d:Nat} {y:Day} (hd:b.days[d]? = some y):ak GL (n+3) h9 [ar b,.int d] μ=.ok (.lst ((A8 b d y).map dj)) μ:=by
 have hl:=hb.lamps.2
 rw[aj Au,run_eq rfl]
 simp![D_day_ties,EV1,EV2,EV3,EV4,EV5,Nat.reduceSub,decide_true,decide_false,AY,AW,kr,h8 hd,xw,fv (n:=n+1) hr hl,pj hr hl,ax (mw (n:=n+1) hb hd) rfl rfl hr,je,A8,dj,AL,CW]
theorem Mi (hr:iu μ) (hb:Wf b) {d:Nat} {y:Day} (hd:b.days[d]? = some y):gk (ak GL (n+3)) false h9 [ar b,.int d] μ=.ok (.lst ((A8 b d y).map dj)) μ:=ax (Mh hr hb hd) (sh _) rfl hr
theorem Gy (hr:iu μ) (hb:Wf b) {i d:Nat} {y:Day} {l:Lamp} (hd:b.days[d]? = some y) (hi:b.lamps[i]? = some l):ak GL (n+3) f9 [ar b,.int i,.int d] μ=.ok (.lst ((ja b i d l y).map dj)) μ:=by
 have hl:=hb.lamps.2
 rw[aj xj,run_eq rfl]
 have kb:=ax (Az (n:=n+1) (μ:=μ) hi (d:Int)) rfl rfl hr
 by_cases ha:(d:Int)∈l.away
 ·simp![D_lamp_ties,EV1,EV2,EV3,EV4,EV5,Nat.reduceSub,decide_true,decide_false,AY,AW,sf hr hl,sg hr hl,kb,ha,kr,h8 hd,Gj,fv (n:=n+1) hr hl,pj hr hl,xq hr hb,nh,h8 hi,Gi,je,ja,jo,if_true,dj,AL,CW]
 ·simp![D_lamp_ties,EV1,EV2,EV3,EV4,EV5,Nat.reduceSub,decide_true,decide_false,AY,AW,sf hr hl,sg hr hl,kb,ha,kr,h8 hd,Gj,fv (n:=n+1) hr hl,pj hr hl,xq hr hb,nh,h8 hi,Gi,je,ja,jo,if_false,dj,AL,CW]
theorem Gz (hr:iu μ) (hb:Wf b) {i d:Nat} {y:Day} {l:Lamp} (hd:b.days[d]? = some y) (hi:b.lamps[i]? = some l):gk (ak GL (n+3)) false f9 [ar b,.int i,.int d] μ=.ok (.lst ((ja b i d l y).map dj)) μ:=ax (Gy hr hb hd hi) (sh _) rfl hr
theorem Ek:∀rs:List NR,qr (rs.map dj)=some rs
 | []=>rfl
 | x::r=>by
  rw[AL]
  unfold qr
  rw[Ek r]
  simp![kq,CO,DR]
theorem G0 {rs:List NR} (hl:rs.length<=1000):btD .sortedN .z [.loc μ.length] (μ++[.l (rs.map dj)])=.ok (.lst ((eh ltN rs).map dj)) (μ++[.l (rs.map dj)]):=by
 simp![btD,nr,Bx,Lp.listOf,i9,CO,Ek,hl,if_true,je]
end
open PySem
theorem qj {α β:Type} {f:α->List β} {c:Nat}:∀{l:List α},(∀x∈l,(f x).length<=c)->(l.flatMap f).length<=l.length*c
 | [],_=>by simp
 | x::l,h=>by
  rw[DM,AO,BC,Nat.add_mul,Nat.one_mul]
  have h1:=h x BF
  have h2:=qj (l:=l) λy hy=>h y (AT _ hy)
  lia
theorem vh (b:Book) (d:Nat):(c6 b d).length=b.lamps.length+1:=by simp[c6]
theorem El (b:Book) (i d:Nat) (l:Lamp) (y:Day):(ja b i d l y).length=3:=rfl
theorem si (b:Book) (d:Nat) (y:Day):(A8 b d y).length=3:=rfl
theorem qk (b:Book) (d j:Nat) (y:Day):(((zl b.lamps).take j).flatMap λq=>ja b q.1 d q.2 y).length<=b.lamps.length*3:=by
 have:=qj (c:=3) (l:=(zl b.lamps).take j) (f:=λq=>ja b q.1 d q.2 y) λx _=>AK 3
 have h2:((zl b.lamps).take j).length<=b.lamps.length:=by rw[BJ,jc];lia
 have h3:=Nat.mul_le_mul_right 3 h2
 lia
theorem G1 (b:Book) (d:Nat) (y:Day):(vg b d y).length<=b.lamps.length*3+3:=by
 have:=qk b d (zl b.lamps).length y
 rw[BN]at this
 unfold vg
 rw[AO,si]
 lia
theorem pk (b:Book) (j:Nat) (hl:b.lamps.length<=8) (hj:j<=16):(firstM b++(List.range j).flatMap (c6 b)).length<=200:=by
 have:=qj (c:=9) (l:=List.range j) (f:=c6 b) λx _=>by rw[vh];lia
 rw[CU]at this
 have h2:(firstM b).length<=9:=by simp[firstM,jc];lia
 rw[AO]
 lia
theorem vi (b:Book) (j:Nat) (hb:Wf b):(((zl b.days).take j).flatMap λp=>vg b p.1 p.2).length<=500:=by
 have hl:=hb.lamps.2
 have hd:=hb.days.2
 have:=qj (c:=27) (l:=(zl b.days).take j) (f:=λp=>vg b p.1 p.2) λx _=>by have:=G1 b x.1 x.2;lia
 have h2:((zl b.days).take j).length<=b.days.length:=by rw[BJ,jc];lia
 lia
theorem Em (b:Book) (hb:Wf b):(dk b).length<=1000:=by
 have h1:=pk b (b.days.length-1) hb.lamps.2 (by have:=hb.days.2;lia)
 have h2:=vi b (zl b.days).length hb
 rw[BN]at h2
 unfold dk
 rw[AO]
 lia
section
variable {n : Nat} {μ : Sto} {b : Book}
theorem G2 {N:Nat} (h:N<=1000000):ze (.int 1) (.int N) μ=.ok ((List.range (N-1)).map (fun(k:Nat)=>D.int ((k+1:Nat):Int)),none) μ:=by
 have:=oi
 simp![ze]
 rw[if_pos ⟨by lia,by lia,by lia,by lia,by lia⟩,show((N:Int)-1).toNat=N-1 by lia]
 congr 3
 funext k
 congr 1
 lia
theorem G3 (hr:iu μ) (hb:Wf b):ak GL (n+4) fg [ar b] μ=.ok (.lst ((eh ltN (dk b)).map dj)) (μ++[.l ((dk b).map dj)]):=by
 have hl:=hb.lamps.2
 have hd:=hb.days
 rw[aj u6,run_eq rfl]
 obtain⟨σ1,μ1,el1,v2,rfl,rfl⟩:=gz (φ:=ak GL (n+3)) (μ:=μ++[.l ((firstM b).map dj)]) (tg:=.one 2) (b:=gb) (xs:=List.range (b.days.length-1)) (en:=λk:Nat=>D.int ((k+1:Nat):Int))
  (σ:=[some (ar b),some (.loc μ.length),none,none])
  (λj σ μ'=>∃v2,σ=[some (ar b),some (.loc μ.length),v2,none]/\μ'=μ++[.l ((firstM b++(List.range j).flatMap (c6 b)).map dj)]) ⟨none,rfl,by simp⟩ (by
   rintro j k σ μ' hk ⟨v2,rfl,rfl⟩
   have hj:=(AI.mp hk).1
   simp![CU]at hj
   rw[Gt hj]at hk
   cases hk
   refine⟨[some (ar b),some (.loc μ.length),some (.int ((j+1:Nat):Int)),none],_,?_,_,rfl,rfl⟩
   rw[FY,CT,<-AC]
   have lX:=pk b j hl (by lia)
   generalize firstM b++(List.range j).flatMap (c6 b)=X at lX ⊢
   have e1:[j].flatMap (c6 b)=c6 b j:=by simp
   rw[e1]
   have H:=vf hr (X.map dj)
   have lm:=vh b j
   simp![fLp,gb,EV1,EV2,EV3,EV4,EV5,Nat.reduceSub,decide_true,decide_false,AY,AW,Ef,Gx (n:=n) H hb j,Eg (Ej _) (show(X.map dj).length+((c6 b j).map dj).length<=1000000 by rw[AD,AD];lia),BR])
 rw[CU]at el1
 obtain⟨σ2,μ2,el2,v2',v3',rfl,rfl⟩:=gz (φ:=ak GL (n+3)) (μ:=μ++[.l ((firstM b++(List.range (b.days.length-1)).flatMap (c6 b)).map dj)]) (tg:=.one 2) (b:=gf) (xs:=zl b.days) (en:=λp:Nat×Day=>D.int (p.1:Int))
  (σ:=[some (ar b),some (.loc μ.length),v2,none])
  (λj σ μ'=>∃v2 v3,σ=[some (ar b),some (.loc μ.length),v2,v3]/\μ'=μ++[.l ((firstM b++(List.range (b.days.length-1)).flatMap (c6 b)++((zl b.days).take j).flatMap λp=>vg b p.1 p.2).map dj)]) ⟨v2,none,rfl,by simp⟩ (by
   rintro j ⟨d,y⟩ σ μ' hk ⟨v2,v3,rfl,rfl⟩
   obtain⟨e1,e2,e3⟩:=xu hk
   dsimp only at e1 e2
   subst e1
   rw[mh hk,CT,<-AC]
   have lX1:=pk b (b.days.length-1) hl (by lia)
   have lX2:=vi b d hb
   have lX:(firstM b++(List.range (b.days.length-1)).flatMap (c6 b)++((zl b.days).take d).flatMap λp=>vg b p.1 p.2).length<=700:=by rw[AO];lia
   generalize firstM b++(List.range (b.days.length-1)).flatMap (c6 b)++((zl b.days).take d).flatMap (λp=>vg b p.1 p.2)=X at lX ⊢
   have ex:([(d,y)].flatMap λp=>vg b p.1 p.2)=vg b d y:=by simp
   rw[ex]
   have H:=vf hr (X.map dj)
   obtain⟨σ3,μ3,el3,v3',rfl,rfl⟩:=gz (φ:=ak GL (n+3)) (μ:=μ++[.l ((X++A8 b d y).map dj)]) (tg:=.one 3) (b:=gc) (xs:=zl b.lamps) (en:=λp:Nat×Lamp=>D.int (p.1:Int))
    (σ:=[some (ar b),some (.loc μ.length),some (.int d),v3])
    (λj σ μ'=>∃v3,σ=[some (ar b),some (.loc μ.length),some (.int d),v3]/\μ'=μ++[.l ((X++A8 b d y++((zl b.lamps).take j).flatMap λq=>ja b q.1 d q.2 y).map dj)]) ⟨v3,rfl,by simp⟩ (by
     rintro j ⟨i,l⟩ σ μ' hk3 ⟨v3,rfl,rfl⟩
     obtain⟨f1,f2,f3⟩:=xu hk3
     dsimp only at f1 f2
     subst f1
     refine⟨[some (ar b),some (.loc μ.length),some (.int d),some (.int i)],_,?_,_,rfl,rfl⟩
     rw[mh hk3,CT,<-AC]
     have lZ:=qk b d i y
     have lW:(X++A8 b d y++((zl b.lamps).take i).flatMap λq=>ja b q.1 d q.2 y).length<=800:=by rw[AO,AO,si];lia
     generalize X++A8 b d y++((zl b.lamps).take i).flatMap (λq=>ja b q.1 d q.2 y)=Z at lW ⊢
     have ez:([(i,l)].flatMap λq=>ja b q.1 d q.2 y)=ja b i d l y:=by simp
     rw[ez]
     have H3:=vf hr (Z.map dj)
     have l3:=El b i d l y
     simp![fLp,gc,EV1,EV2,EV3,EV4,EV5,Nat.reduceSub,decide_true,decide_false,AY,AW,Ef,Gz (n:=n) H3 hb e2 f2,Eg (Ej _) (show(Z.map dj).length+((ja b i d l y).map dj).length<=1000000 by rw[AD,AD];lia),BR])
   rw[jc,<-jc b.lamps,BN]at el3
   refine⟨[some (ar b),some (.loc μ.length),some (.int d),v3'],_,?_,_,_,rfl,rfl⟩
   have er:(zl b.lamps).map (λp:Nat×Lamp=>D.int (p.1:Int))=(List.range b.lamps.length).map fun(k:Nat)=>D.int k:=by
    rw[show(λp:Nat×Lamp=>D.int (p.1:Int))=(λk:Nat=>D.int k)∘Prod.fst from rfl,<-CJ]
    congr 1
    simp[zl,EV]
   rw[er]at el3
   have ld:=si b d y
   rw[BR]at el3
   have em:=Eg (μ:=μ) (ds:=X.map dj) (ys:=(A8 b d y).map dj) (Ej _) (by rw[AD,AD];lia)
   unfold vg
   rw[<-AC]
   simp![fLp,gf,EV1,EV2,EV3,EV4,EV5,Nat.reduceSub,decide_true,decide_false,AY,AW,Ef,Mi (n:=n) H hb e2,em,nh,bt_len a8,AD,dm (show b.lamps.length<=1000000 by lia),el3])
 rw[BN]at el2
 have er:(zl b.days).map (λp:Nat×Day=>D.int (p.1:Int))=(List.range b.days.length).map fun(k:Nat)=>D.int k:=by
  rw[show(λp:Nat×Day=>D.int (p.1:Int))=(λk:Nat=>D.int k)∘Prod.fst from rfl,<-CJ]
  congr 1
  simp[zl,EV]
 rw[er]at el2
 have bs:=G0 (μ:=μ) (Em b hb)
 rw[show firstM b++(List.range (b.days.length-1)).flatMap (c6 b)++(zl b.days).flatMap (λp=>vg b p.1 p.2)=dk b from rfl]at el2
 generalize firstM b++(List.range (b.days.length-1)).flatMap (c6 b)=X at *
 generalize hF:(firstM b).map dj=F at *
 have c0:gk (ak GL (n+3)) true ay [ar b] μ=.ok (.loc μ.length) (μ++[.l F]):=by rw[<-hF];exact Gv hr hl
 simp![D_named_ties,EV1,EV2,EV3,EV4,EV5,Nat.reduceSub,decide_true,decide_false,AY,AW,c0,kr,bt_len a8,AD,G2 (show b.days.length<=1000000 by lia),el1,dm (show b.days.length<=1000000 by lia),el2,bs]
theorem G4 (hr:iu μ) (hb:Wf b):gk (ak GL (n+4)) false fg [ar b] μ=.ok (.lst ((eh ltN (dk b)).map dj)) μ:=ib (G3 hr hb) (sh _) hr
abbrev di (r:List Int):D:=.tup (r.map D.int)
def br (b:Book):List (List Int):=(eh ltN (dk b)).map (·.1)
theorem Mj (hr:iu μ) (hb:Wf b):ak GL (n+2) gn [ar b] μ=.ok (.int (sN b b.days.length)) μ:=by
 rw[aj u7,run_eq rfl]
 simp![D_many_nodes,EV1,EV2,EV3,EV4,EV5,Nat.reduceSub,decide_true,decide_false,AY,AW,kr,bt_len a8,AD,fv (n:=n) hr hb.lamps.2]
end
open PySem
def stp (b:Book):Int:=2*b.lamps.length+2
def dz (b:Book) (d:Nat) (y:Day):List (List Int):=[[0,sN b d,y.boat,0],[0,sN b d,y.most,y.price],[sN b d+stp b-1,1,y.wanted*y.length,0]]
def bq (b:Book) (d i:Nat) (l:Lamp) (y:Day):List (List Int):=[[sN b d,sN b d+1+2*i,(a9 b).sum,0],[sN b d+1+2*i,sN b d+2+2*i,l.tank,0],[sN b d+2+2*i,sN b d+stp b-1,jo l d y,0]]++(if d+1<b.days.length then [[sN b d+2+2*i,sN b d+stp b+1+2*i,(a9 b).sum,0]]else [])
def cg (b:Book) (d:Nat) (y:Day):List (List Int):=dz b d y++(zl b.lamps).flatMap (λq=>bq b d q.1 q.2 y)++(if d+1<b.days.length then [[sN b d,sN b d+stp b,b.store,0]]else [])
def de (b:Book):List (List Int):=[0,2,b.oil,0]::(zl b.lamps).map λp:Nat×Lamp=>[0,3+2*(p.1:Int),p.2.oil,0]
def En (b:Book):List (List Int):=de b++(zl b.days).flatMap λp=>cg b p.1 p.2
theorem Eo {α β:Type} (f g:α->List β):∀l:List α,(l.flatMap λx=>f x++g x).Perm (l.flatMap f++l.flatMap g)
 | []=>.refl _
 | x::l=>by
  rw[DM,DM,DM]
  refine((List.Perm.refl _).append (Eo f g l)).trans ?_
  rw[AC,AC]
  refine AZ _ ?_
  rw[<-AC,<-AC]
  exact EM _ CB
theorem Ep {α β:Type} {f g:α->List β}:∀{l:List α},(∀x∈l,(f x).Perm (g x))->(l.flatMap f).Perm (l.flatMap g)
 | [],_=>.refl _
 | x::l,h=>by
  rw[DM,DM]
  exact(h x BF).append (Ep λy hy=>h y (AT _ hy))
theorem Q0 {α β:Type} (g:Nat->List β) (l:List α):((zl l).flatMap λp=>g p.1)=(List.range l.length).flatMap g:=by
 have:(zl l).map Prod.fst=List.range l.length:=by simp[zl,EV]
 rw[<-this,List.flatMap_map]
theorem Q1 {β:Type} (g:Nat->List β) (m:Nat):((List.range m).flatMap λd=>if d+1<m then g d else [])=(List.range (m-1)).flatMap g:=by
 cases m with
 | zero=>rfl
 | succ k =>
  rw[FY,CT]
  have e1:([k].flatMap λd=>if d+1<k+1 then g d else [])=[]:=by simp
  rw[e1,DN,Nat.add_sub_cancel]
  have:∀j,j<=k->((List.range j).flatMap λd=>if d+1<k+1 then g d else [])=(List.range j).flatMap g:=by
   intro j
   induction j with
   | zero=>intro _;rfl
   | succ j ih =>
    intro hj
    rw[FY,CT,CT,ih (by lia)]
    congr 1
    simp;lia
  exact this k (AK _)
theorem Q2 {α β:Type} (f:α->β) (l:List α):(l.flatMap λx=>[f x])=l.map f:=by
 induction l with
 | nil=>rfl
 | cons x l ih=>rw[DM,ih];rfl
theorem Er {α β γ:Type} (f:β->γ) (g:α->List β) (l:List α):(l.flatMap g).map f=l.flatMap λx=>(g x).map f:=by rw[List.map_flatMap]
def x6 (b:Book) (d:Nat):List (List Int):=[[sN b d,sN b d+stp b,b.store,0]]++(List.range b.lamps.length).map λi:Nat=>[sN b d+2+2*(i:Int),sN b d+stp b+1+2*i,(a9 b).sum,0]
theorem Es (b:Book) (d:Nat):sN b (d+1)=sN b d+stp b:=by
 unfold sN stp
 rw[show((d+1:Nat):Int)=(d:Int)+1 by lia,Int.add_mul,Int.one_mul]
 lia
theorem Et (b:Book) (d:Nat):(c6 b d).map (·.1)=x6 b d:=by
 unfold c6 x6
 rw[AL,CJ,List.singleton_append]
 congr 1
 ·show [sN b d,sN b (d+1),b.store,0]=_
  rw[Es]
 ·refine GA λi _=>?_
  show [fN b i d,tN b i (d+1),(a9 b).sum,0]=_
  rw[fN,tN,Es]
theorem G5 (b:Book) (d:Nat) (y:Day):(cg b d y).Perm ((vg b d y).map (·.1)++if d+1<b.days.length then x6 b d else []):=by
 have e1:(A8 b d y).map (·.1)=dz b d y:=by
  show [[0,sN b d,y.boat,0],[0,sN b d,y.most,y.price],[nN b d,1,y.wanted*y.length,0]]=_
  unfold dz
  rw[nN,stp,show sN b d+2*(b.lamps.length:Int)+1=sN b d+(2*(b.lamps.length:Int)+2)-1 by lia]
 have e2:∀(i:Nat) (l:Lamp),(ja b i d l y).map (·.1)=[[sN b d,sN b d+1+2*(i:Int),(a9 b).sum,0],[sN b d+1+2*(i:Int),sN b d+2+2*i,l.tank,0],[sN b d+2+2*(i:Int),sN b d+stp b-1,jo l d y,0]]:=λi l=>by
  show [[sN b d,tN b i d,(a9 b).sum,0],[tN b i d,fN b i d,l.tank,0],[fN b i d,nN b d,jo l d y,0]]=_
  rw[tN,fN,nN,stp,show sN b d+2*(b.lamps.length:Int)+1=sN b d+(2*(b.lamps.length:Int)+2)-1 by lia]
 unfold cg vg
 rw[BR,Er,e1]
 have e3:(zl b.lamps).flatMap (λq=>bq b d q.1 q.2 y)=(zl b.lamps).flatMap λq=>(ja b q.1 d q.2 y).map (·.1)++(if d+1<b.days.length then [[sN b d+2+2*(q.1:Int),sN b d+stp b+1+2*q.1,(a9 b).sum,0]]else []):=by
  congr 1
  funext q
  rw[e2];rfl
 rw[e3]
 have p:=Eo (λq:Nat×Lamp=>(ja b q.1 d q.2 y).map (·.1)) (λq:Nat×Lamp=>if d+1<b.days.length then [[sN b d+2+2*(q.1:Int),sN b d+stp b+1+2*q.1,(a9 b).sum,0]]else []) (zl b.lamps)
 generalize (zl b.lamps).flatMap (λq:Nat×Lamp=>(ja b q.1 d q.2 y).map (·.1))=P at *
 rw[AC,AC]
 refine AZ _ ?_
 refine(p.append_right _).trans ?_
 rw[AC]
 refine AZ _ ?_
 by_cases h:d+1<b.days.length
 ·simp![h,if_true]
  rw[Q0 (λi:Nat=>[[sN b d+2+2*(i:Int),sN b d+stp b+1+2*i,(a9 b).sum,0]]) b.lamps,Q2]
  exact CB
 ·simp![h,if_false,DN]
  have:((zl b.lamps).flatMap λ_:Nat×Lamp=>([]:List (List Int)))=[]:=by simp
  rw[this]
theorem A0 (b:Book):((dk b).map (·.1)).Perm (En b):=by
 unfold dk En
 rw[BR,BR,Er,Er]
 have e0:(firstM b).map (·.1)=de b:=by
  unfold firstM de
  rw[AL,CJ]
  congr 1
  ·show [0,sN b 0,b.oil,0]=_
   unfold sN
   rw[show(2:Int)+((0:Nat):Int)*(2*(b.lamps.length:Int)+2)=2 by simp]
  refine GA λp _=>?_
  show [0,tN b p.1 0,p.2.oil,0]=_
  unfold tN sN
  rw[show(2:Int)+((0:Nat):Int)*(2*(b.lamps.length:Int)+2)+1+2*(p.1:Int)=3+2*(p.1:Int)by simp]
 rw[e0,AC]
 refine AZ _ ?_
 have e1:(List.range (b.days.length-1)).flatMap (λd=>(c6 b d).map (·.1))=(List.range (b.days.length-1)).flatMap (x6 b):=by
  congr 1
  funext d
  exact Et b d
 rw[e1]
 have p1:((zl b.days).flatMap λp=>cg b p.1 p.2).Perm ((zl b.days).flatMap λp=>(vg b p.1 p.2).map (·.1)++if p.1+1<b.days.length then x6 b p.1 else []):=Ep λp _=>G5 b p.1 p.2
 have p2:=Eo (λp:Nat×Day=>(vg b p.1 p.2).map (·.1)) (λp:Nat×Day=>if p.1+1<b.days.length then x6 b p.1 else []) (zl b.days)
 rw[Q0 (λd=>if d+1<b.days.length then x6 b d else []) b.days,Q1]at p2
 exact(CB.trans p2.symm).trans p1.symm
theorem Jt {x y:NR} (h:ltN y x=false):Lp.lexLt y.1 x.1=false:=by
 unfold ltN at h
 by_cases e:y.1=x.1
 ·rw[e];exact Srt.o6 _
 ·rwa [if_neg e]at h
theorem zt (b:Book):br b=eh Lp.lexLt (En b):=by
 refine rz Ts ?_ ?_
 ·unfold br
  exact((da (dk b)).map _).trans (A0 b)
 ·unfold br
  rw[GQ]
  exact(ny Rk (dk b)).imp λh=>Jt h
open PySem
theorem Ju {m:Mk} {c:Bool} {μ:Sto}:btD .int m [.bl c] μ=.ok (.int (if c=true then 1 else 0)) μ:=by
 cases c<;>rfl
section
variable {n : Nat} {μ : Sto} {b : Book}
theorem A1 (hb:Wf b):ak GL (n+1) ia [ar b] μ=.ok (.int (a9 b).sum) μ:=by
 rw[aj Aw,run_eq rfl]
 have hl:=hb.lamps.2
 have c1:me (ak GL n) .z (.one 0) .nil i4 [none] (b.days.map qh,none) μ=.ok (.lst ((a9 b).map D.int)) μ:=by
  rw[comp_map (g:=λy:Day=>D.int (y.wanted*y.length)) λy hy=>by
   have q:=hb.day y hy
   have hm:CMul y.length y.wanted:=.right (by lia) (by lia)
   simp! only[wz,i4,Gj,Ue,op_mul hm,Int.mul_comm y.length y.wanted]]
  rw[je,a9,CJ];rfl
 simp! only[D_law_need,kr,c1,bt_sum cy (kq _)]
theorem A3 (hr:iu μ) (hb:Wf b):gk (ak GL (n+1)) false ia [ar b] μ=.ok (.int (a9 b).sum) μ:=ax (A1 hb) rfl rfl hr
theorem ky (k:Nat) (r:List Int):D.pureN (k+1) (di r)=true:=by rw[gm,DI,AS];exact λ_ _=>d9
theorem zu:∀rs:List (List Int),rowsOf (rs.map di)=some rs
 | []=>rfl
 | x::r=>by
  rw[AL]
  unfold rowsOf
  rw[zu r]
  simp![kq,CO,DR]
theorem zv {rs:List (List Int)} (hl:rs.length<=1000) (hn:∀r∈rs,r.length=4):btD .sortedT .z [.loc μ.length] (μ++[.l (rs.map di)])=.ok (.lst ((eh Lp.lexLt rs).map di)) (μ++[.l (rs.map di)]):=by
 have ha:(rs.all λr=>!r.isEmpty)=true:=by
  rw[AS]
  intro r hr
  have:=hn r hr
  cases r with
  | nil=>simp at this
  | cons=>rfl
 simp![btD,nr,By,Lp.listOf,i9,CO,zu,hl,ha,and_self,if_true,je]
theorem gj {X:List (List Int)} {r:List Int} (hl:X.length<=900):mtD .append (.loc μ.length) [di r] (μ++[.l (X.map di)])=.ok .non (μ++[.l ((X++[r]).map di)]):=by
 rw[Ed (ky 7 r) (by rw[AD];lia),BR];rfl
theorem x8 (b:Book) (d i:Nat) (l:Lamp) (y:Day):(bq b d i l y).length<=4:=by
 unfold bq
 split<;>simp
theorem jq (b:Book) (d j:Nat) (y:Day):(((zl b.lamps).take j).flatMap λq=>bq b d q.1 q.2 y).length<=b.lamps.length*4:=by
 have:=qj (c:=4) (l:=(zl b.lamps).take j) (f:=λq=>bq b d q.1 q.2 y) λx _=>x8 b d x.1 x.2 y
 have h2:((zl b.lamps).take j).length<=b.lamps.length:=by rw[BJ,jc];lia
 have h3:=Nat.mul_le_mul_right 4 h2
 lia
theorem x9 (b:Book) (d:Nat) (y:Day):(cg b d y).length<=b.lamps.length*4+4:=by
 have:=jq b d (zl b.lamps).length y
 rw[BN]at this
 unfold cg
 rw[AO,AO]
 have h3:(dz b d y).length=3:=rfl
 split
 ·simp![BC,BU];lia
 ·simp![BU];lia
theorem qm (b:Book) (j:Nat) (hb:Wf b):(de b++((zl b.days).take j).flatMap λp=>cg b p.1 p.2).length<=600:=by
 have hl:=hb.lamps.2
 have hd:=hb.days.2
 have:=qj (c:=36) (l:=(zl b.days).take j) (f:=λp=>cg b p.1 p.2) λx _=>by have:=x9 b x.1 x.2;lia
 have h2:((zl b.days).take j).length<=b.days.length:=by rw[BJ,jc];lia
 have h3:(de b).length<=9:=by simp[de,jc];lia
 rw[AO]
 lia
theorem Eu (b:Book) (hb:Wf b):(En b).length<=600:=by
 have:=qm b (zl b.days).length hb
 rwa [BN]at this
theorem G6 (b:Book):∀r∈En b,r.length=4:=by
 intro r hr
 unfold En de cg dz bq at hr
 simp![BX,AV,CZ,FO]at hr
 rcases hr with(rfl | ⟨p,_,rfl⟩) | ⟨p,_,(h | ⟨q,_,h | h⟩) | h⟩
 ·rfl
 ·rfl
 ·rcases h with rfl | rfl | rfl | h
  ·rfl
  ·rfl
  ·rfl
  ·cases h
 ·rcases h with rfl | rfl | rfl | h
  ·rfl
  ·rfl
  ·rfl
  ·cases h
 ·split at h
  ·rcases FE.mp h with rfl;rfl
  ·cases h
 ·split at h
  ·rcases FE.mp h with rfl;rfl
  ·cases h
theorem Ew (hr:iu μ) (hb:Wf b):∃ρ,ak GL (n+2) iy [ar b] μ=.ok (.tup [.int (2+stp b*b.days.length),.tup ((eh Lp.lexLt (En b)).map di)]) (μ++ρ):=by
 have hl:=hb.lamps.2
 have hd:=hb.days
 rw[aj xm,run_eq rfl]
 have e0:mkL .l [di [0,2,b.oil,0]] μ=.ok (.loc μ.length) (μ++[.l [di [0,2,b.oil,0]]]):=Qw (by simp[ky 7])
 have m2:∀i:Int,CMul 2 i:=λi=>.left (by decide) (by decide)
 obtain⟨σ1,μ1,el1,v5,rfl,rfl⟩:=gz (φ:=ak GL (n+1)) (μ:=μ++[.l [di [0,2,b.oil,0]]]) (tg:=.one 5) (b:=gy) (xs:=zl b.lamps) (en:=λp:Nat×Lamp=>D.int (p.1:Int))
  (σ:=[some (ar b),some (.int b.lamps.length),some (.int (stp b)),some (.int (a9 b).sum),some (.loc μ.length),none,none,none,none,none,none,none,none,none])
  (λj σ μ'=>∃v5,σ=[some (ar b),some (.int b.lamps.length),some (.int (stp b)),some (.int (a9 b).sum),some (.loc μ.length),v5,none,none,none,none,none,none,none,none]/\μ'=μ++[.l (([0,2,b.oil,0]::((zl b.lamps).take j).map λp:Nat×Lamp=>[0,3+2*(p.1:Int),p.2.oil,0]).map di)]) ⟨none,rfl,by simp⟩ (by
   rintro j ⟨i,l⟩ σ μ' hk ⟨v5,rfl,rfl⟩
   obtain⟨f1,f2,f3⟩:=xu hk
   dsimp only at f1 f2
   subst f1
   refine⟨[some (ar b),some (.int b.lamps.length),some (.int (stp b)),some (.int (a9 b).sum),some (.loc μ.length),some (.int i),none,none,none,none,none,none,none,none],_,?_,_,rfl,rfl⟩
   rw[mh hk,BR]
   generalize hX:([0,2,b.oil,0]::((zl b.lamps).take i).map λp:Nat×Lamp=>[0,3+2*(p.1:Int),p.2.oil,0])=X
   have eX:([0,2,b.oil,0]::(((zl b.lamps).take i).map (λp:Nat×Lamp=>[0,3+2*(p.1:Int),p.2.oil,0])++[(i,l)].map λp:Nat×Lamp=>[0,3+2*(p.1:Int),p.2.oil,0]))=X++[[0,3+2*(i:Int),l.oil,0]]:=by rw[<-hX];rfl
   rw[eX]
   have lX:X.length<=900:=by rw[<-hX];simp[jc];lia
   have et:(D.tup [.int 0,.int (3+2*(i:Int)),.int l.oil,.int 0])=di [0,3+2*(i:Int),l.oil,0]:=rfl
   simp![fLp,gy,EV1,EV2,EV3,EV4,EV5,Nat.reduceSub,decide_true,decide_false,AY,AW,qi,op_mul (m2 _),nh,h8 f2,Qu,et,gj lX])
 rw[BN]at el1
 have er:(zl b.lamps).map (λp:Nat×Lamp=>D.int (p.1:Int))=(List.range b.lamps.length).map fun(k:Nat)=>D.int k:=by
  rw[show(λp:Nat×Lamp=>D.int (p.1:Int))=(λk:Nat=>D.int k)∘Prod.fst from rfl,<-CJ]
  congr 1
  simp[zl,EV]
 rw[er,show([0,2,b.oil,0]::(zl b.lamps).map λp:Nat×Lamp=>[0,3+2*(p.1:Int),p.2.oil,0])=de b from rfl]at el1
 obtain⟨σ2,μ2,el2,w5,w6,w7,w8,w9,w10,w11,w12,w13,rfl,rfl⟩:=gz (φ:=ak GL (n+1)) (μ:=μ++[.l ((de b).map di)]) (tg:=.one 6) (b:=fc) (xs:=zl b.days) (en:=λp:Nat×Day=>D.int (p.1:Int))
  (σ:=[some (ar b),some (.int b.lamps.length),some (.int (stp b)),some (.int (a9 b).sum),some (.loc μ.length),v5,none,none,none,none,none,none,none,none])
  (λj σ μ'=>∃w5 w6 w7 w8 w9 w10 w11 w12 w13,σ=[some (ar b),some (.int b.lamps.length),some (.int (stp b)),some (.int (a9 b).sum),some (.loc μ.length),w5,w6,w7,w8,w9,w10,w11,w12,w13]/\μ'=μ++[.l ((de b++((zl b.days).take j).flatMap λp=>cg b p.1 p.2).map di)]) ⟨_,_,_,_,_,_,_,_,_,rfl,by simp⟩ (by
   rintro j ⟨d,y⟩ σ μ' hk ⟨w5,w6,w7,w8,w9,w10,w11,w12,w13,rfl,rfl⟩
   obtain⟨f1,f2,f3⟩:=xu hk
   dsimp only at f1 f2
   subst f1
   rw[mh hk,CT,<-AC]
   have lX:=qm b d hb
   generalize de b++((zl b.days).take d).flatMap (λp=>cg b p.1 p.2)=X at lX ⊢
   have ex:([(d,y)].flatMap λp=>cg b p.1 p.2)=cg b d y:=by simp
   rw[ex]
   have q:=hb.day y (CK f2)
   have h13:(dz b d y).length=3:=rfl
   have dlt:(((d:Int)<(b.days.length:Int)-1))↔d+1<b.days.length:=by lia
   obtain⟨σ3,μ3,el3,x5,x13,rfl,rfl⟩:=gz (φ:=ak GL (n+1)) (μ:=μ++[.l ((X++dz b d y).map di)]) (tg:=.one 5) (b:=fb) (xs:=zl b.lamps) (en:=λp:Nat×Lamp=>D.int (p.1:Int))
    (σ:=[some (ar b),some (.int b.lamps.length),some (.int (stp b)),some (.int (a9 b).sum),some (.loc μ.length),w5,some (.int d),some (.int y.boat),some (.int y.most),some (.int y.price),some (.int y.length),some (.int y.wanted),some (.int (sN b d)),w13])
    (λj σ μ'=>∃x5 x13,σ=[some (ar b),some (.int b.lamps.length),some (.int (stp b)),some (.int (a9 b).sum),some (.loc μ.length),x5,some (.int d),some (.int y.boat),some (.int y.most),some (.int y.price),some (.int y.length),some (.int y.wanted),some (.int (sN b d)),x13]/\μ'=μ++[.l ((X++dz b d y++((zl b.lamps).take j).flatMap λq=>bq b d q.1 q.2 y).map di)]) ⟨_,_,rfl,by simp⟩ (by
     rintro j ⟨i,l⟩ σ μ' hk3 ⟨x5,x13,rfl,rfl⟩
     obtain⟨g1,g2,g3⟩:=xu hk3
     dsimp only at g1 g2
     subst g1
     refine⟨[some (ar b),some (.int b.lamps.length),some (.int (stp b)),some (.int (a9 b).sum),some (.loc μ.length),some (.int i),some (.int d),some (.int y.boat),some (.int y.most),some (.int y.price),some (.int y.length),some (.int y.wanted),some (.int (sN b d)),some (.int (jo l d y))],_,?_,_,_,rfl,rfl⟩
     rw[mh hk3,CT,<-AC]
     have lZ:=jq b d i y
     have lW:(X++dz b d y++((zl b.lamps).take i).flatMap λq=>bq b d q.1 q.2 y).length<=700:=by rw[AO,AO,h13];lia
     generalize X++dz b d y++((zl b.lamps).take i).flatMap (λq=>bq b d q.1 q.2 y)=Z at lW ⊢
     have ez:([(i,l)].flatMap λq=>bq b d q.1 q.2 y)=bq b d i l y:=by simp
     rw[ez]
     have eb:y.length*(if(!decide ((d:Int)∈l.away))=true then 1 else 0)=jo l d y:=by
      unfold jo
      by_cases h:(d:Int)∈l.away
      ·simp[h]
      ·simp[h]
     have cb:CMul y.length (if(!decide ((d:Int)∈l.away))=true then 1 else 0):=.right (by split<;>decide) (by split<;>decide)
     have t1:(D.tup [.int (sN b d),.int (sN b d+1+2*(i:Int)),.int (a9 b).sum,.int 0])=di [sN b d,sN b d+1+2*(i:Int),(a9 b).sum,0]:=rfl
     have t2:(D.tup [.int (sN b d+1+2*(i:Int)),.int (sN b d+2+2*(i:Int)),.int l.tank,.int 0])=di [sN b d+1+2*(i:Int),sN b d+2+2*i,l.tank,0]:=rfl
     have t3:(D.tup [.int (sN b d+2+2*(i:Int)),.int (sN b d+stp b-1),.int (jo l d y),.int 0])=di [sN b d+2+2*(i:Int),sN b d+stp b-1,jo l d y,0]:=rfl
     have t4:(D.tup [.int (sN b d+2+2*(i:Int)),.int (sN b d+stp b+1+2*(i:Int)),.int (a9 b).sum,.int 0])=di [sN b d+2+2*(i:Int),sN b d+stp b+1+2*i,(a9 b).sum,0]:=rfl
     have a1:=gj (μ:=μ) (X:=Z) (r:=[sN b d,sN b d+1+2*(i:Int),(a9 b).sum,0]) (by lia)
     have a2:=gj (μ:=μ) (X:=Z++[[sN b d,sN b d+1+2*(i:Int),(a9 b).sum,0]]) (r:=[sN b d+1+2*(i:Int),sN b d+2+2*i,l.tank,0]) (by simp;lia)
     have a3:=gj (μ:=μ) (X:=Z++[[sN b d,sN b d+1+2*(i:Int),(a9 b).sum,0]]++[[sN b d+1+2*(i:Int),sN b d+2+2*i,l.tank,0]]) (r:=[sN b d+2+2*(i:Int),sN b d+stp b-1,jo l d y,0]) (by simp;lia)
     have a4:=gj (μ:=μ) (X:=Z++[[sN b d,sN b d+1+2*(i:Int),(a9 b).sum,0]]++[[sN b d+1+2*(i:Int),sN b d+2+2*i,l.tank,0]]++[[sN b d+2+2*(i:Int),sN b d+stp b-1,jo l d y,0]]) (r:=[sN b d+2+2*(i:Int),sN b d+stp b+1+2*i,(a9 b).sum,0]) (by simp;lia)
     have kA:∀(es:Exs) (σ:Sl) (W:List (List Int)),kM (ak GL (n+1)) .append es σ (.loc μ.length) (μ++[.l (W.map di)])=(fi (ak GL (n+1)) es σ (μ++[.l (W.map di)])).bind (mtD .append (.loc μ.length)):=λ_ _ _=>qi
     by_cases hc:d+1<b.days.length
     ·have hc':=dlt.mpr hc
      have el:Z++bq b d i l y=Z++[[sN b d,sN b d+1+2*(i:Int),(a9 b).sum,0]]++[[sN b d+1+2*(i:Int),sN b d+2+2*i,l.tank,0]]++[[sN b d+2+2*(i:Int),sN b d+stp b-1,jo l d y,0]]++[[sN b d+2+2*(i:Int),sN b d+stp b+1+2*i,(a9 b).sum,0]]:=by
       unfold bq;rw[if_pos hc];simp
      rw[el]
      generalize Z++[[sN b d,sN b d+1+2*(i:Int),(a9 b).sum,0]]=Z1 at *
      generalize Z1++[[sN b d+1+2*(i:Int),sN b d+2+2*i,l.tank,0]]=Z2 at *
      generalize Z2++[[sN b d+2+2*(i:Int),sN b d+stp b-1,jo l d y,0]]=Z3 at *
      generalize Z3++[[sN b d+2+2*(i:Int),sN b d+stp b+1+2*i,(a9 b).sum,0]]=Z4 at *
      simp![fLp,fb,EV1,EV2,EV3,EV4,EV5,Nat.reduceSub,decide_true,decide_false,AY,AW,nh,h8 g2,Qv,i8,Ju,op_mul cb,eb,kA,op_mul (m2 _),t1,a1,Gi,t2,a2,t3,a3,kr,bt_len a8,AD,hc',t4,a4]
     ·have hc':¬((d:Int)<(b.days.length:Int)-1):=λz=>hc (dlt.mp z)
      have el:Z++bq b d i l y=Z++[[sN b d,sN b d+1+2*(i:Int),(a9 b).sum,0]]++[[sN b d+1+2*(i:Int),sN b d+2+2*i,l.tank,0]]++[[sN b d+2+2*(i:Int),sN b d+stp b-1,jo l d y,0]]:=by
       unfold bq;rw[if_neg hc];simp
      rw[el]
      generalize Z++[[sN b d,sN b d+1+2*(i:Int),(a9 b).sum,0]]=Z1 at *
      generalize Z1++[[sN b d+1+2*(i:Int),sN b d+2+2*i,l.tank,0]]=Z2 at *
      generalize Z2++[[sN b d+2+2*(i:Int),sN b d+stp b-1,jo l d y,0]]=Z3 at *
      simp![fLp,fb,EV1,EV2,EV3,EV4,EV5,Nat.reduceSub,decide_true,decide_false,AY,AW,nh,h8 g2,Qv,i8,Ju,op_mul cb,eb,kA,op_mul (m2 _),t1,a1,Gi,t2,a2,t3,a3,kr,bt_len a8,AD,hc'])
   rw[BN,er]at el3
   have lZ:=jq b d (zl b.lamps).length y
   rw[BN]at lZ
   have lW:(X++dz b d y++(zl b.lamps).flatMap λq=>bq b d q.1 q.2 y).length<=700:=by rw[AO,AO,h13];lia
   have es:2+(d:Int)*stp b=sN b d:=rfl
   have cm:CMul y.wanted y.length:=.left (by lia) (by lia)
   have cd:CMul (d:Int) (stp b):=.right (by unfold stp;lia) (by unfold stp;lia)
   have t1:(D.tup [.int 0,.int (sN b d),.int y.boat,.int 0])=di [0,sN b d,y.boat,0]:=rfl
   have t2:(D.tup [.int 0,.int (sN b d),.int y.most,.int y.price])=di [0,sN b d,y.most,y.price]:=rfl
   have t3:(D.tup [.int (sN b d+stp b-1),.int 1,.int (y.wanted*y.length),.int 0])=di [sN b d+stp b-1,1,y.wanted*y.length,0]:=rfl
   have t4:(D.tup [.int (sN b d),.int (sN b d+stp b),.int b.store,.int 0])=di [sN b d,sN b d+stp b,b.store,0]:=rfl
   have a1:=gj (μ:=μ) (X:=X) (r:=[0,sN b d,y.boat,0]) (by lia)
   have a2:=gj (μ:=μ) (X:=X++[[0,sN b d,y.boat,0]]) (r:=[0,sN b d,y.most,y.price]) (by simp;lia)
   have a3:=gj (μ:=μ) (X:=X++[[0,sN b d,y.boat,0]]++[[0,sN b d,y.most,y.price]]) (r:=[sN b d+stp b-1,1,y.wanted*y.length,0]) (by simp;lia)
   have kA:∀(es:Exs) (σ:Sl) (W:List (List Int)),kM (ak GL (n+1)) .append es σ (.loc μ.length) (μ++[.l (W.map di)])=(fi (ak GL (n+1)) es σ (μ++[.l (W.map di)])).bind (mtD .append (.loc μ.length)):=λ_ _ _=>qi
   have eD:X++[[0,sN b d,y.boat,0]]++[[0,sN b d,y.most,y.price]]++[[sN b d+stp b-1,1,y.wanted*y.length,0]]=X++dz b d y:=by simp[dz]
   rw[eD]at a3
   generalize X++[[0,sN b d,y.boat,0]]=X1 at *
   generalize X1++[[0,sN b d,y.most,y.price]]=X2 at *
   have a4:=gj (μ:=μ) (X:=X++dz b d y++(zl b.lamps).flatMap λq=>bq b d q.1 q.2 y) (r:=[sN b d,sN b d+stp b,b.store,0]) (by lia)
   refine⟨[some (ar b),some (.int b.lamps.length),some (.int (stp b)),some (.int (a9 b).sum),some (.loc μ.length),x5,some (.int d),some (.int y.boat),some (.int y.most),some (.int y.price),some (.int y.length),some (.int y.wanted),some (.int (sN b d)),x13],μ++[.l ((X++cg b d y).map di)],?_,_,_,_,_,_,_,_,_,_,rfl,rfl⟩
   by_cases hc:d+1<b.days.length
   ·have hc':=dlt.mpr hc
    have el:X++cg b d y=X++dz b d y++(zl b.lamps).flatMap (λq=>bq b d q.1 q.2 y)++[[sN b d,sN b d+stp b,b.store,0]]:=by unfold cg;rw[if_pos hc];simp
    rw[el]
    generalize X++dz b d y++(zl b.lamps).flatMap (λq=>bq b d q.1 q.2 y)=Y1 at *
    generalize Y1++[[sN b d,sN b d+stp b,b.store,0]]=Y2 at *
    generalize X++dz b d y=Y0 at *
    simp![fLp,fc,EV1,EV2,EV3,EV4,EV5,Nat.reduceSub,decide_true,decide_false,AY,AW,kr,h8 f2,xw,op_mul cd,es,kA,t1,a1,t2,a2,op_mul cm,t3,a3,dm (show b.lamps.length<=1000000 by lia),el3,bt_len a8,AD,hc',Qt,t4,a4]
   ·have hc':¬((d:Int)<(b.days.length:Int)-1):=λz=>hc (dlt.mp z)
    have el:X++cg b d y=X++dz b d y++(zl b.lamps).flatMap (λq=>bq b d q.1 q.2 y):=by unfold cg;rw[if_neg hc];simp
    rw[el]
    generalize X++dz b d y++(zl b.lamps).flatMap (λq=>bq b d q.1 q.2 y)=Y1 at *
    generalize X++dz b d y=Y0 at *
    simp![fLp,fc,EV1,EV2,EV3,EV4,EV5,Nat.reduceSub,decide_true,decide_false,AY,AW,kr,h8 f2,xw,op_mul cd,es,kA,t1,a1,t2,a2,op_mul cm,t3,a3,dm (show b.lamps.length<=1000000 by lia),el3,bt_len a8,AD,hc'])
 rw[BN]at el2
 have er2:(zl b.days).map (λp:Nat×Day=>D.int (p.1:Int))=(List.range b.days.length).map fun(k:Nat)=>D.int k:=by
  rw[show(λp:Nat×Day=>D.int (p.1:Int))=(λk:Nat=>D.int k)∘Prod.fst from rfl,<-CJ]
  congr 1
  simp[zl,EV]
 rw[er2,show de b++(zl b.days).flatMap (λp=>cg b p.1 p.2)=En b from rfl]at el2
 refine⟨[.l ((En b).map di)],?_⟩
 have bs:=zv (μ:=μ) (rs:=En b) (by have:=Eu b hb;lia) (G6 b)
 have et:(D.tup [.int 0,.int 2,.int b.oil,.int 0])=di [0,2,b.oil,0]:=rfl
 have est:2*(b.lamps.length:Int)+2=stp b:=rfl
 have cs:CMul (stp b) (b.days.length:Int):=.left (by unfold stp;lia) (by unfold stp;lia)
 generalize En b=W at *
 generalize (de b).map di=F at *
 simp![D_law_web_3,EV1,EV2,EV3,EV4,EV5,Nat.reduceSub,decide_true,decide_false,AY,AW,nh,bt_len a8,AD,op_mul (m2 _),est,A3 (n:=n) hr hb,Ud,et,e0,dm (show b.lamps.length<=1000000 by lia),el1,kr,dm (show b.days.length<=1000000 by lia),el2,op_mul cs,bs,bt_tuple cy]
end
open PySem
theorem Ug {μ:Sto} {xs ys:List D} (h:xs.length+ys.length<=1000000):opD .Add .z (.lst xs) (.lst ys) μ=.ok (.lst (xs++ys)) μ:=by
 simp![opD,Lp.listOf,lim,je]
 rw[if_pos (by omega)]
abbrev sj (N:Int) (T:List (List Int)):D:=.tup [.int N,.tup (T.map di)]
theorem kz (N:Int) (T:List (List Int)) (k:Nat):D.pureN (k+3) (sj N T)=true:=by
 show(D.pureN (k+2) (.int N)&&(D.pureN (k+2) (.tup (T.map di))&&true))=true
 rw[d9,gm,DI]
 have:(T.all (D.pureN (k+1)∘di))=true:=by rw[AS];exact λx _=>ky k x
 rw[this];rfl
open PySem
section
variable {n : Nat} {μ ρ : Sto}
theorem A4 {m:Nat} (hm:m<=1000):opD .Mult .l (.lst [.int 0]) (.int m) μ=.ok (.loc μ.length) (μ++[.l ((List.replicate m (0:Int)).map D.int)]):=by
 have:=oi
 have e:(List.replicate m [D.int 0]).flatten=(List.replicate m (0:Int)).map D.int:=by
  induction m with
  | zero=>rfl
  | succ m ih=>rw[CS,DB,ih (by omega),CS,AL];rfl
 simp![opD,Lp.listOf,DU]
 rw[if_pos ⟨by simp;omega,by omega,by omega⟩,e,Qw (by rw[AS];intro x hx;obtain⟨i,_,rfl⟩:=CZ.mp hx;rfl)]
theorem Q3 {o:List Int} {k:Nat} {v:Int} (hk:k<o.length):E5 (.loc μ.length) (.int k) (.int v) (μ++[.l (o.map D.int)])=.ok () (μ++[.l ((o.set k v).map D.int)]):=by
 have e1:ixN (o.map D.int).length (k:Int)=some k:=by simp[ixN];omega
 simp![E5,i9,g7,e1,fits,Gc,if_true,putL,Res.cq,ku,List.map_set]
theorem deqs_ints:∀xs ys:List Int,lg (xs.map D.int) (ys.map D.int)=decide (xs=ys)
 | [],[]=>by simp[lg]
 | [],_::_=>by simp[lg]
 | _::_,[]=>by simp[lg]
 | x::xs,y::ys=>by simp[lg,deq,deqs_ints xs ys]
theorem Q4 (ns:List Int) {i j:Int} {w:Nat} (hi:0<=i) (hj:j=i+w):∃cs:List Int,cs.length<=w/\∀μ,slD .z (.lst (ns.map D.int)) (some i) (some j) μ=.ok (.lst (cs.map D.int)) μ:=by
 subst hj
 refine⟨(ns.drop (sIx ns.length 0 (some i))).take (sIx ns.length ns.length (some (i+w))-sIx ns.length 0 (some i)),?_,λμ=>?_⟩
 ·rw[BJ]
  unfold sIx
  simp![show ¬i<0 by omega,show ¬i+(w:Int)<0 by omega,if_false]
  omega
 ·simp![slD,Lp.listOf,je,cut,AD,List.map_take,IC]
end
open PySem
def ic (c:Int):Int:=((c % 998244353+1)*69621 % 2147483647)*((c % 998244353+1)*69621 % 2147483647) % 1000000007 / 7
def k8 (c:Int):Int:=if ic c % 11=4 then c / 13 % (10 ^ 30+1)else ic c / 11 % 13
theorem jx (c:Int):0<=k8 c/\k8 c<=10 ^ 30:=by
 unfold k8
 split
 ·have h1:=DF (c / 13) (show(10 ^ 30+1:Int)≠0 by decide)
  have h2:=CM (c / 13) (show(0:Int)<10 ^ 30+1 by decide)
  lia
 ·have h1:=DF (ic c / 11) (show(13:Int)≠0 by decide)
  have h2:=CM (ic c / 11) (show(0:Int)<13 by decide)
  have h3:(13:Int)<=10 ^ 30:=by decide
  lia
def A5 (a:Int) (days:Nat):List Int:=((List.range days).filter λk=>decide (a % 3=1/\a / 3 / 2 ^ k % 2=1)).map λk:Nat=>(k:Int)
theorem G7 (a:Int) (days:Nat):(A5 a days).Pairwise (· < ·)/\∀x∈A5 a days,0<=x/\x<days:=by
 unfold A5
 constructor
 ·rw[GQ]
  refine(List.pairwise_lt_range.sublist List.filter_sublist).imp λh=>?_
  lia
 ·intro x hx
  obtain⟨k,hk,rfl⟩:=CZ.mp hx
  have:=(HK.mp hk).1
  rw[HW]at this
  lia
def Ey (a b c:Int) (days:Nat):Lamp:=⟨k8 a,min (k8 a) (k8 b),A5 (ic c) days⟩
def Ml (a b c d e:Int) (lamps:Nat):Day:=⟨k8 a,k8 b,if ic c / 7 % 9=2 then c / 13 % (10 ^ 15+1)else ic c % 7,if ic d / 6 % 13=2 then 1+d / 13 % 10 ^ 15 else 1+ic d % 6,ic e % (lamps+1)⟩
section
variable {n : Nat} {μ : Sto}
theorem Q5 (c:Int):ak GL (n+1) aq [.int c] μ=.ok (.int (ic c)) μ:=by
 rw[aj r9,run_eq rfl]
 have h1:=DF ((c % 998244353+1)*69621) (show(2147483647:Int)≠0 by decide)
 have h2:=CM ((c % 998244353+1)*69621) (show(0:Int)<2147483647 by decide)
 have c1:CMul (c % 998244353+1) 69621:=.right (by decide) (by decide)
 have c2:CMul ((c % 998244353+1)*69621 % 2147483647) ((c % 998244353+1)*69621 % 2147483647):=.left (by lia) (by lia)
 simp! only[D_law_mixed_3,op_mod (show(0:Int)<998244353 by decide),op_mul c1,op_mod (show(0:Int)<2147483647 by decide),op_mul c2,op_mod (show(0:Int)<1000000007 by decide),pe (show(0:Int)<7 by decide) (show(7:Int)<1073741824 by decide),ic]
theorem mz (hr:iu μ) (c:Int):gk (ak GL (n+1)) false aq [.int c] μ=.ok (.int (ic c)) μ:=ax (Q5 c) rfl rfl hr
theorem Mm (hr:iu μ) (c:Int):ak GL (n+2) cj [.int c] μ=.ok (.int (k8 c)) μ:=by
 rw[aj Av,run_eq rfl]
 by_cases h:ic c % 11=4
 ·simp! only[D_law_much,mz hr,op_mod (show(0:Int)<11 by decide),h,pe (show(0:Int)<13 by decide) (show(13:Int)<1073741824 by decide),p30,op_mod (show(0:Int)<10 ^ 30+1 by decide),k8,if_true]
 ·simp! only[D_law_much,mz hr,op_mod (show(0:Int)<11 by decide),h,pe (show(0:Int)<11 by decide) (show(11:Int)<1073741824 by decide),op_mod (show(0:Int)<13 by decide),k8,if_false]
theorem ya (hr:iu μ) (c:Int):gk (ak GL (n+2)) false cj [.int c] μ=.ok (.int (k8 c)) μ:=ax (Mm hr c) rfl rfl hr
theorem Ez (hr:iu μ) (a b c:Int) (days:Nat) (hd:days<=100):ak GL (n+3) gq [.lst ([a,b,c].map D.int),.int days] μ=.ok (i7 (Ey a b c days)) μ:=by
 rw[aj vc,run_eq rfl]
 have x0:ixD (.lst ([a,b,c].map D.int)) (.int 0) μ=.ok (.int a) μ:=rfl
 have x1:ixD (.lst ([a,b,c].map D.int)) (.int 1) μ=.ok (.int b) μ:=rfl
 have x2:ixD (.lst ([a,b,c].map D.int)) (.int 2) μ=.ok (.int c) μ:=rfl
 have c1:me (ak GL (n+2)) .z (.one 1) cz c4 [some (.int (ic c)),none] ((List.range days).map fun(k:Nat)=>D.int k,none) μ=.ok (.lst ((A5 (ic c) days).map D.int)) μ:=by
  rw[pf (en:=fun(k:Nat)=>D.int k) (g:=fun(k:Nat)=>D.int k) (p:=λk=>decide (ic c % 3=1/\ic c / 3 / 2 ^ k % 2=1))]
  ·simp![mkL,A5,CJ];rfl
  ·intro k _
   have ek:((k:Int)).toNat=k:=by lia
   by_cases h1:ic c % 3=1
   ·by_cases h2:ic c / 3 / 2 ^ k % 2=1
    ·simp! only[wz,cz,c4,op_mod (show(0:Int)<3 by decide),h1,pe (show(0:Int)<3 by decide) (show(3:Int)<1073741824 by decide),op_shr (show(0:Int)<=(k:Int)by lia),ek,op_mod (show(0:Int)<2 by decide),h2,and_self,if_true]
    ·simp! only[wz,cz,c4,op_mod (show(0:Int)<3 by decide),h1,pe (show(0:Int)<3 by decide) (show(3:Int)<1073741824 by decide),op_shr (show(0:Int)<=(k:Int)by lia),ek,op_mod (show(0:Int)<2 by decide),h2,and_false,if_false,BB]
   ·simp! only[wz,cz,c4,op_mod (show(0:Int)<3 by decide),h1,false_and,if_false,BB]
 generalize hq:D.lst ([a,b,c].map D.int)=q at *
 simp! only[D_law_lamp_2,x0,x1,x2,ya hr,mz (n:=n+1) hr,dm (show days<=1000000 by lia),c1,bt_tuple cy,Ey,i7,xp]
theorem G8 (hr:iu μ) (a b c d e:Int) (lamps:Nat):ak GL (n+3) iw [.lst ([a,b,c,d,e].map D.int),.int lamps] μ=.ok (qh (Ml a b c d e lamps)) μ:=by
 rw[aj xk,run_eq rfl]
 have x0:ixD (.lst ([a,b,c,d,e].map D.int)) (.int 0) μ=.ok (.int a) μ:=rfl
 have x1:ixD (.lst ([a,b,c,d,e].map D.int)) (.int 1) μ=.ok (.int b) μ:=rfl
 have x2:ixD (.lst ([a,b,c,d,e].map D.int)) (.int 2) μ=.ok (.int c) μ:=rfl
 have x3:ixD (.lst ([a,b,c,d,e].map D.int)) (.int 3) μ=.ok (.int d) μ:=rfl
 have x4:ixD (.lst ([a,b,c,d,e].map D.int)) (.int 4) μ=.ok (.int e) μ:=rfl
 generalize hq:D.lst ([a,b,c,d,e].map D.int)=q at *
 have fm:∀(x y:Int) μ,0<y->opI .Mod x y μ=.ok (.int (x % y)) μ:=λx y μ h=>op_mod h
 have fd:∀(x y:Int) μ,0<y->y<1073741824->opI .FloorDiv x y μ=.ok (.int (x / y)) μ:=λx y μ h h2=>pe h h2
 by_cases h1:ic d / 6 % 13=2<;>by_cases h2:ic c / 7 % 9=2 <;>
  simp! only[D_law_day_2,x0,x1,x2,x3,x4,ya hr,mz (n:=n+1) hr,p15,fm _ _ _ (show(0:Int)<6 by decide),fm _ _ _ (show(0:Int)<13 by decide),fm _ _ _ (show(0:Int)<7 by decide),fm _ _ _ (show(0:Int)<9 by decide),fm _ _ _ (show(0:Int)<10 ^ 15 by decide),fm _ _ _ (show(0:Int)<10 ^ 15+1 by decide),fm _ _ _ (show(0:Int)<(lamps:Int)+1 by lia),
   fd _ _ _ (show(0:Int)<6 by decide) (by decide),fd _ _ _ (show(0:Int)<7 by decide) (by decide),fd _ _ _ (show(0:Int)<13 by decide) (by decide),h1,h2,Ml,qh,if_true,if_false]
theorem zw {ns:List Int} {k:Nat} {a:Int} (h:ns[k]? = some a):ixD (.lst (ns.map D.int)) (.int k) μ=.ok (.int a) μ:=Mc h
theorem E1 (ns:List Int) (m:Nat) (h1:1<=m) (h2:m<=100) (hn:ns.length<=1000):∃cs:List Int,cs.length=m/\ak GL (n+1) gp [.lst (ns.map D.int),.int m] μ=.ok (.lst (cs.map D.int)) (μ++[.dead]):=by
 rw[aj u9,run_eq rfl]
 obtain⟨σ',μ',el,cs,v3,hl,rfl,rfl⟩:=gz (φ:=ak GL n) (μ:=μ++[.l ((List.replicate m (0:Int)).map D.int)]) (tg:=.one 3) (b:=gg) (xs:=List.range ns.length) (en:=λk:Nat=>D.int k)
  (σ:=[some (.lst (ns.map D.int)),some (.int m),some (.loc μ.length),none])
  (λ_ σ μ'=>∃(cs:List Int) (v3:Option D),cs.length=m/\σ=[some (.lst (ns.map D.int)),some (.int m),some (.loc μ.length),v3]/\μ'=μ++[.l (cs.map D.int)]) ⟨_,none,by simp,rfl,rfl⟩ (by
   rintro j k σ μ' hk ⟨cs,v3,hl,rfl,rfl⟩
   have hj:=(AI.mp hk).1
   rw[CU]at hj
   rw[Gt hj]at hk
   cases hk
   obtain⟨a,ha⟩:∃a,ns[j]? = some a:=⟨ns[j],AA hj⟩
   obtain⟨q,hq,hqm⟩:∃q:Nat,(j:Int) % (m:Int)=(q:Int)/\q<m:=⟨j % m,by lia,Nat.mod_lt _ (by lia)⟩
   have hql:q<cs.length:=by lia
   have c1:CMul (cs.getD q 0) 31:=.right (by decide) (by decide)
   refine⟨[some (.lst (ns.map D.int)),some (.int m),some (.loc μ.length),some (.int j)],_,?_,cs.set q (cs.getD q 0*31+a),_,by simp[hl],rfl,rfl⟩
   have ixq:ixD (.loc μ.length) (.int q) (μ++[.l (cs.map D.int)])=.ok (.int (cs.getD q 0)) (μ++[.l (cs.map D.int)]):=zj Gm (by rw[BM,AA hql];simp[hql])
   simp! only[fLp,gg,op_mod (show(0:Int)<(m:Int)by lia),hq,ixq,op_mul c1,zw ha,Q3 hql])
 refine⟨cs,hl,?_⟩
 have ef:∀v3 (ds:List D),evE (ak GL n) (.frz 2) [some (.lst (ns.map D.int)),some (.int m),some (.loc μ.length),v3] (μ++[.l ds])=.ok (.lst ds) (μ++[.dead]):=λv3 ds=>by
  rw[Qx rfl i9,ku]
 simp! only[D_law_folded,je,A4 (show m<=1000 by lia),bt_len cy,AD,dm (show ns.length<=1000000 by lia),el,ef]
theorem E2 {cs:List Int} {p q:Nat} (h1:p<=q) (h2:q<=cs.length):slD .z (.lst (cs.map D.int)) (some (p:Int)) (some (q:Int)) μ=.ok (.lst (((cs.drop p).take (q-p)).map D.int)) μ:=by
 have e1:sIx (cs.map D.int).length 0 (some (p:Int))=p:=by simp[sIx];lia
 have e2:sIx (cs.map D.int).length (cs.map D.int).length (some (q:Int))=q:=by simp[sIx];lia
 simp![slD,Lp.listOf,je,cut,e1,e2,List.map_take,IC]
theorem G9 {cs:List Int} {p:Nat}:slD .z (.lst (cs.map D.int)) (some (p:Int)) none μ=.ok (.lst ((cs.drop p).map D.int)) μ:=by
 simp![slD,Lp.listOf,je]
 rw[Gk,IC]
theorem W3 {cs:List Int} {p:Nat} (h:p+3<=cs.length):(cs.drop p).take 3=[cs.getD p 0,cs.getD (p+1) 0,cs.getD (p+2) 0]:=by
 apply DC
 intro i
 match i with
 | 0=>simp[show p<cs.length by lia]
 | 1=>simp[show p+1<cs.length by lia]
 | 2=>simp[show p+2<cs.length by lia]
 | i+3=>rw[CV (by simp;lia),CV (by simp)]
theorem W4 {cs:List Int} {p:Nat} (h:p+5<=cs.length):(cs.drop p).take 5=[cs.getD p 0,cs.getD (p+1) 0,cs.getD (p+2) 0,cs.getD (p+3) 0,cs.getD (p+4) 0]:=by
 apply DC
 intro i
 match i with
 | 0=>simp[show p<cs.length by lia]
 | 1=>simp[show p+1<cs.length by lia]
 | 2=>simp[show p+2<cs.length by lia]
 | 3=>simp[show p+3<cs.length by lia]
 | 4=>simp[show p+4<cs.length by lia]
 | i+5=>rw[CV (by simp;lia),CV (by simp)]
theorem zx (ns:List Int) (k:Nat):ak GL (n+1) eg [.lst (ns.map D.int),.int k] μ=.ok (.int (ns.getD k 0)) μ:=by
 rw[aj r8,run_eq rfl]
 by_cases h:k<ns.length
 ·have h':(k:Int)<(ns.length:Int):=by lia
  have e:ns[k]? = some (ns.getD k 0):=by rw[AA h];simp[h]
  simp! only[D_law_cell_at,bt_len cy,AD,h',zw e]
 ·have h':¬(k:Int)<(ns.length:Int):=by lia
  have e:ns.getD k 0=0:=by simp[h]
  simp! only[D_law_cell_at,bt_len cy,AD,h',e]
theorem E3 (hr:iu μ) (ns:List Int) (hn:ns.length<=1000):∃b,Wf b/\ak GL (n+4) gr [.lst (ns.map D.int),.int 4] μ=.ok (ar b) μ:=by
 rw[aj vd,run_eq rfl]
 obtain⟨L,hL⟩:∃L:Nat,(L:Int)=1+ic (ns.getD 0 0) % 3:=⟨(1+ic (ns.getD 0 0) % 3).toNat,by lia⟩
 obtain⟨Y,hY⟩:∃Y:Nat,(Y:Int)=1+ic (ns.getD 1 0) % 4:=⟨(1+ic (ns.getD 1 0) % 4).toNat,by lia⟩
 have hL1:1<=L/\L<=3:=by lia
 have hY1:1<=Y/\Y<=4:=by lia
 obtain⟨cs,hc,ef⟩:=E1 (n:=n+2) (μ:=μ) (ns.drop 2) (2+3*L+5*Y) (by lia) (by lia) (by simp;lia)
 have cf:=ib ef (by show((cs.map D.int).all (D.pureN 7))=true;rw[DI,AS];exact λ_ _=>d9) hr
 have z0:=ax (zx (n:=n+2) (μ:=μ) ns 0) rfl rfl hr
 have z1:=ax (zx (n:=n+2) (μ:=μ) ns 1) rfl rfl hr
 have em:2+3*(L:Int)+5*(Y:Int)=((2+3*L+5*Y:Nat):Int):=by lia
 have m3:∀i:Int,CMul 3 i:=λi=>.left (by decide) (by decide)
 have m5:∀i:Int,CMul 5 i:=λi=>.left (by decide) (by decide)
 have c1:me (ak GL (n+3)) .z (.one 2) .nil gh [some (.lst (cs.map D.int)),some (.int Y),none] ((List.range L).map fun(k:Nat)=>D.int k,none) μ=.ok (.lst (((List.range L).map λk=>Ey (cs.getD (2+3*k) 0) (cs.getD (2+3*k+1) 0) (cs.getD (2+3*k+2) 0) Y).map i7)) μ:=by
  rw[comp_map (en:=fun(k:Nat)=>D.int k) (g:=λk:Nat=>i7 (Ey (cs.getD (2+3*k) 0) (cs.getD (2+3*k+1) 0) (cs.getD (2+3*k+2) 0) Y)) λk hk=>by
   have hk':k<L:=by simpa using hk
   have e1:2+3*(k:Int)=((2+3*k:Nat):Int):=by lia
   have e2:5+3*(k:Int)=((2+3*k+3:Nat):Int):=by lia
   have sl:=E2 (μ:=μ) (cs:=cs) (p:=2+3*k) (q:=2+3*k+3) (by lia) (by lia)
   rw[show 2+3*k+3-(2+3*k)=3 by lia,W3 (by lia)]at sl
   have kl:=ax (Ez (n:=n) hr (cs.getD (2+3*k) 0) (cs.getD (2+3*k+1) 0) (cs.getD (2+3*k+2) 0) Y (by lia)) (Ay _) rfl hr
   generalize D.lst ([cs.getD (2+3*k) 0,cs.getD (2+3*k+1) 0,cs.getD (2+3*k+2) 0].map D.int)=q at *
   simp! only[wz,gh,op_mul (m3 _),e1,e2,sl,kl]]
  rw[je,CJ];rfl
 have c2:me (ak GL (n+3)) .z (.one 3) .nil gi [some (.lst (cs.map D.int)),some (.int ((2+3*L:Nat):Int)),some (.int L),none] ((List.range Y).map fun(k:Nat)=>D.int k,none) μ=.ok (.lst (((List.range Y).map λk=>Ml (cs.getD (2+3*L+5*k) 0) (cs.getD (2+3*L+5*k+1) 0) (cs.getD (2+3*L+5*k+2) 0) (cs.getD (2+3*L+5*k+3) 0) (cs.getD (2+3*L+5*k+4) 0) L).map qh)) μ:=by
  rw[comp_map (en:=fun(k:Nat)=>D.int k) (g:=λk:Nat=>qh (Ml (cs.getD (2+3*L+5*k) 0) (cs.getD (2+3*L+5*k+1) 0) (cs.getD (2+3*L+5*k+2) 0) (cs.getD (2+3*L+5*k+3) 0) (cs.getD (2+3*L+5*k+4) 0) L)) λk hk=>by
   have hk':k<Y:=by simpa using hk
   have e1:((2+3*L:Nat):Int)+5*(k:Int)=((2+3*L+5*k:Nat):Int):=by lia
   have e2:((2+3*L:Nat):Int)+5+5*(k:Int)=((2+3*L+5*k+5:Nat):Int):=by lia
   have sl:=E2 (μ:=μ) (cs:=cs) (p:=2+3*L+5*k) (q:=2+3*L+5*k+5) (by lia) (by lia)
   rw[show 2+3*L+5*k+5-(2+3*L+5*k)=5 by lia,W4 (by lia)]at sl
   have kl:=ax (G8 (n:=n) hr (cs.getD (2+3*L+5*k) 0) (cs.getD (2+3*L+5*k+1) 0) (cs.getD (2+3*L+5*k+2) 0) (cs.getD (2+3*L+5*k+3) 0) (cs.getD (2+3*L+5*k+4) 0) L) (Ea _) rfl hr
   generalize D.lst ([cs.getD (2+3*L+5*k) 0,cs.getD (2+3*L+5*k+1) 0,cs.getD (2+3*L+5*k+2) 0,cs.getD (2+3*L+5*k+3) 0,cs.getD (2+3*L+5*k+4) 0].map D.int)=q at *
   generalize ((2+3*L:Nat):Int)=st at *
   simp! only[wz,gi,op_mul (m5 _),e1,e2,sl,kl]]
  rw[je,CJ];rfl
 refine⟨⟨k8 (cs.getD 0 0),k8 (cs.getD 1 0),(List.range L).map λk=>Ey (cs.getD (2+3*k) 0) (cs.getD (2+3*k+1) 0) (cs.getD (2+3*k+2) 0) Y,(List.range Y).map λk=>Ml (cs.getD (2+3*L+5*k) 0) (cs.getD (2+3*L+5*k+1) 0) (cs.getD (2+3*L+5*k+2) 0) (cs.getD (2+3*L+5*k+3) 0) (cs.getD (2+3*L+5*k+4) 0) L⟩,?_,?_⟩
 ·refine⟨jx _,jx _,by simp;lia,by simp;lia,λl hl=>?_,λy hy=>?_⟩
  ·obtain⟨k,_,rfl⟩:=CZ.mp hl
   have h1:=jx (cs.getD (2+3*k) 0)
   have h2:=jx (cs.getD (2+3*k+1) 0)
   have h3:=G7 (ic (cs.getD (2+3*k+2) 0)) Y
   refine⟨h1,⟨Int.le_min.mpr ⟨h1.1,h2.1⟩,Int.min_le_left _ _⟩,h3.1,λa ha=>?_⟩
   have:=h3.2 a ha
   simp![AD,CU]
   exact this
  ·obtain⟨k,_,rfl⟩:=CZ.mp hy
   refine⟨jx _,jx _,?_,?_,?_,?_⟩
   ·simp![Ml]
    split
    ·have h1:=DF (cs.getD (2+3*L+5*k+2) 0 / 13) (show(10 ^ 15+1:Int)≠0 by decide)
     have h2:=CM (cs.getD (2+3*L+5*k+2) 0 / 13) (show(0:Int)<10 ^ 15+1 by decide)
     lia
    ·have h1:=DF (ic (cs.getD (2+3*L+5*k+2) 0)) (show(7:Int)≠0 by decide)
     have h2:=CM (ic (cs.getD (2+3*L+5*k+2) 0)) (show(0:Int)<7 by decide)
     have h3:(7:Int)<=10 ^ 15:=by decide
     lia
   ·simp![Ml]
    split
    ·have h1:=DF (cs.getD (2+3*L+5*k+3) 0 / 13) (show(10 ^ 15:Int)≠0 by decide)
     have h2:=CM (cs.getD (2+3*L+5*k+3) 0 / 13) (show(0:Int)<10 ^ 15 by decide)
     lia
    ·have h1:=DF (ic (cs.getD (2+3*L+5*k+3) 0)) (show(6:Int)≠0 by decide)
     have h2:=CM (ic (cs.getD (2+3*L+5*k+3) 0)) (show(0:Int)<6 by decide)
     have h3:(7:Int)<=10 ^ 15:=by decide
     lia
   ·exact DF _ (by lia)
   ·have h2:=CM (ic (cs.getD (2+3*L+5*k+4) 0)) (show(0:Int)<(L:Int)+1 by lia)
    simp![AD,CU]
    show ic _ % _<=_
    lia
 ·have i0:ixD (.lst (cs.map D.int)) (.int 0) μ=.ok (.int (cs.getD 0 0)) μ:=zw (k:=0) (by rw[AA (by lia)];simp[show 0<cs.length by lia])
  have i1:ixD (.lst (cs.map D.int)) (.int 1) μ=.ok (.int (cs.getD 1 0)) μ:=zw (k:=1) (by rw[AA (by lia)];simp[show 1<cs.length by lia])
  have es:2+3*(L:Int)=((2+3*L:Nat):Int):=by lia
  have s2:slD .z (.lst (ns.map D.int)) (some 2) none μ=.ok (.lst ((ns.drop 2).map D.int)) μ:=G9 (p:=2)
  have em2:((2+3*L:Nat):Int)+5*(Y:Int)=((2+3*L+5*Y:Nat):Int):=by lia
  rw[show((0:Nat):Int)=0 from rfl]at z0
  rw[show((1:Nat):Int)=1 from rfl]at z1
  generalize ((2+3*L+5*Y:Nat):Int)=M at *
  generalize ((2+3*L:Nat):Int)=S at *
  simp! only[D_law_book_2,z0,z1,mz (n:=n+2) hr,op_mod (show(0:Int)<3 by decide),op_mod (show(0:Int)<4 by decide),<-hL,<-hY,s2,op_mul (m3 _),op_mul (m5 _),es,em2,cf,dm (show L<=1000000 by lia),dm (show Y<=1000000 by lia),c1,c2,i0,i1,ya (n:=n+1) hr,bt_tuple cy,ar]
end
open PySem
def yb (st a e:Int):Prop:=1<a/\(2<=(a-2) % st/\(a-2) % st<st-1/\((a-2) % st-2) % 2=0)/\(e-2) % st=st-1
instance (st a e:Int):Decidable (yb st a e):=by unfold yb;infer_instance
def ml (st t:Int):List Int->List Int
 | [a,e,c,p]=>if yb st a e then [a,e,min c t,p]else [a,e,c,p]
 | r=>r
def zy (t:Int) (x:NR):List Int:=match x.1 with
 | [a,e,c,p]=>if x.2.1=wBurnt then [a,e,min c t,p]else [a,e,c,p]
 | r=>r
theorem modS (b:Book) (d:Nat) {r:Int} (h0:0<=r) (h1:r<stp b):(sN b d+r-2) % stp b=r:=by
 rw[show sN b d+r-2=r+(d:Int)*stp b by show 2+(d:Int)*stp b+r-2=_;lia,Int.add_mul_emod_self_right,Int.emod_eq_of_lt h0 h1]
theorem zz {b:Book} {d:Nat} {r e:Int} (h0:0<=r) (h1:r<stp b) (h:¬(2<=r/\r<stp b-1/\(r-2) % 2=0)):¬yb (stp b) (sN b d+r) e:=λz=>by
 have:=z.2.1
 rw[modS b d h0 h1]at this
 exact h this
theorem Q6 (b:Book) (d:Nat):2<=sN b d:=by
 have:0<=(d:Int)*stp b:=Int.mul_nonneg (by lia) (by unfold stp;lia)
 show 2<=2+(d:Int)*stp b
 lia
theorem ie (b:Book):∀x∈dk b,∃a e c p,x.1=[a,e,c,p]/\(x.2.1=wBurnt↔yb (stp b) a e)/\(yb (stp b) a e->p=0):=by
 have st:stp b=2*(b.lamps.length:Int)+2:=rfl
 have no:∀{a e c p:Int} {w:Str} {ns:List Int},w≠wBurnt->¬yb (stp b) a e->∃a' e' c' p',(([a,e,c,p],w,ns):NR).1=[a',e',c',p']/\((([a,e,c,p],w,ns):NR).2.1=wBurnt↔yb (stp b) a' e')/\(yb (stp b) a' e'->p'=0):=λ{a e c p w ns} h1 h2 =>
  ⟨a,e,c,p,rfl,⟨λz=>absurd z h1,λz=>absurd z h2⟩,λz=>absurd z h2⟩
 have zero:∀e:Int,¬yb (stp b) 0 e:=λe z=>absurd z.1 (by decide)
 have k1:Gr≠wBurnt:=by decide
 have k2:Gs≠wBurnt:=by decide
 have k3:Jr≠wBurnt:=by decide
 have k4:Ei≠wBurnt:=by decide
 have k5:Js≠wBurnt:=by decide
 have k6:Qy≠wBurnt:=by decide
 have k7:Qz≠wBurnt:=by decide
 have zlt:∀{q:Nat×Lamp},q∈zl b.lamps->q.1<b.lamps.length:=λ{q} hq=>by
  obtain⟨j,hj,e⟩:=CH.mp hq
  have:=xu (l:=b.lamps) (j:=j) (p:=q) (by rw[AA hj,e])
  lia
 intro x hx
 unfold dk at hx
 rcases BX.mp hx with hx | hx
 ·rcases BX.mp hx with hx | hx
  ·unfold firstM at hx
   rcases AV.mp hx with rfl | hx
   ·exact no k1 (zero _)
   ·obtain⟨p,_,rfl⟩:=CZ.mp hx
    exact no k2 (zero _)
  ·obtain⟨d,_,hx⟩:=FO.mp hx
   unfold c6 at hx
   rcases AV.mp hx with rfl | hx
   ·refine no k1 ?_
    have:=zz (b:=b) (d:=d) (r:=0) (e:=sN b (d+1)) (by lia) (by lia) (by lia)
    rwa [Int.add_zero]at this
   ·obtain⟨i,hi,rfl⟩:=CZ.mp hx
    have hi':i<b.lamps.length:=by simpa using hi
    refine no k2 λz=>?_
    have z2:=z.2.2
    rw[tN,Int.add_assoc,modS b (d+1) (by lia) (by lia)]at z2
    lia
 ·obtain⟨⟨d,y⟩,_,hx⟩:=FO.mp hx
  unfold vg at hx
  rcases BX.mp hx with hx | hx
  ·unfold A8 at hx
   simp![AV,CP,or_false]at hx
   rcases hx with rfl | rfl | rfl
   ·exact no k3 (zero _)
   ·exact no k4 (zero _)
   ·refine no k5 ?_
    rw[nN,Int.add_assoc]
    exact zz (by lia) (by lia) (by lia)
  ·obtain⟨⟨i,l⟩,hq,hx⟩:=FO.mp hx
   have hi':i<b.lamps.length:=zlt hq
   unfold ja at hx
   simp![AV,CP,or_false]at hx
   rcases hx with rfl | rfl | rfl
   ·refine no k6 ?_
    have:=zz (b:=b) (d:=d) (r:=0) (e:=tN b i d) (by lia) (by lia) (by lia)
    rwa [Int.add_zero]at this
   ·refine no k7 ?_
    rw[show tN b i d=sN b d+(1+2*(i:Int))by unfold tN;lia]
    exact zz (by lia) (by lia) (by lia)
   ·have c1:yb (stp b) (fN b i d) (nN b d):=by
     have sp:=Q6 b d
     rw[show fN b i d=sN b d+(2+2*(i:Int))by unfold fN;lia,show nN b d=sN b d+(2*(b.lamps.length:Int)+1)by unfold nN;lia]
     refine⟨by lia,?_,?_⟩
     ·rw[modS b d (by lia) (by lia)]
      lia
     ·rw[modS b d (by lia) (by lia)]
      lia
    exact⟨_,_,_,_,rfl,⟨λ_=>c1,λ_=>rfl⟩,λ_=>rfl⟩
theorem Q7 (b:Book) (t:Int) {x:NR} (hx:x∈dk b):zy t x=ml (stp b) t x.1:=by
 obtain⟨a,e,c,p,e1,e2,_⟩:=ie b x hx
 unfold zy
 rw[e1]
 simp![ml]
 by_cases h:x.2.1=wBurnt
 ·rw[if_pos h,if_pos (e2.mp h)]
 ·rw[if_neg h,if_neg λz=>h (e2.mpr z)]
theorem Q8 (a b c d a' b' c' d':Int):Lp.lexLt [a,b,c,d] [a',b',c',d']=if a=a' then(if b=b' then(if c=c' then(if d=d' then false else decide (d<d'))else decide (c<c'))else decide (b<b'))else decide (a<a'):=by
 simp![Lp.lexLt]
theorem Ha {st t a e c p a' e' c' p':Int} (h:Lp.lexLt [a',e',c',p'] [a,e,c,p]=false) (h1:yb st a e->p=0) (h2:yb st a' e'->p'=0):Lp.lexLt (ml st t [a',e',c',p']) (ml st t [a,e,c,p])=false:=by
 simp![ml]
 by_cases ea:a'=a
 ·by_cases ee:e'=e
  ·subst ea ee
   by_cases hc:yb st a' e'
   ·rw[if_pos hc,if_pos hc]
    have:=h1 hc
    have:=h2 hc
    subst p p'
    rw[Q8]at h ⊢
    simp![if_true]at h ⊢
    by_cases hcc:c'=c
    ·subst hcc;simp
    ·rw[if_neg hcc]at h
     have h:=of_decide_eq_false h
     by_cases hm:min c' t=min c t
     ·rw[if_pos hm]
     ·rw[if_neg hm];exact decide_eq_false (by lia)
   ·rw[if_neg hc,if_neg hc];exact h
  ·subst ea
   rw[Q8,if_pos rfl,if_neg ee]at h
   split<;>split<;>rw[Q8,if_pos rfl,if_neg ee]<;>exact h
 ·rw[Q8,if_neg ea]at h
  split<;>split<;>rw[Q8,if_neg ea]<;>exact h
theorem Hb (b:Book) (t:Int):(eh ltN (dk b)).map (zy t)=eh Lp.lexLt ((br b).map (ml (stp b) t)):=by
 have e:(eh ltN (dk b)).map (zy t)=(br b).map (ml (stp b) t):=by
  unfold br
  rw[CJ]
  exact GA λx hx=>Q7 b t ((da _).mem_iff.mp hx)
 rw[e]
 refine rz Ts (.refl _) ?_
 unfold br
 rw[CJ,GQ]
 refine List.Pairwise.imp_of_mem (λ{x y} hx hy h=>?_) (ny Rk (dk b))
 obtain⟨a,e,c,p,e1,_,e3⟩:=ie b x ((da _).mem_iff.mp hx)
 obtain⟨a',e',c',p',f1,_,f3⟩:=ie b y ((da _).mem_iff.mp hy)
 have:=Jt h
 show Lp.lexLt (ml (stp b) t y.1) (ml (stp b) t x.1)=false
 rw[e1,f1]at this ⊢
 exact Ha this e3 f3
section
variable {n : Nat} {μ : Sto} {b : Book}
theorem sk {a e c p:Int} {i j k l:Nat} {σ:Sl}:d7 (.many [i,j,k,l]) (di [a,e,c,p]) σ=some ((((σ.set i (some (.int a))).set j (some (.int e))).set k (some (.int c))).set l (some (.int p))):=rfl
theorem E4 (a e c p t:Int) (w:Str) (ns:List Int):ak GL (n+1) n3 [di [a,e,c,p],.tup (.str w::ns.map D.int),.int t] μ=.ok (di (zy t ([a,e,c,p],w,ns))) μ:=by
 rw[aj Gf,run_eq rfl]
 have x0:ixD (.tup (.str w::ns.map D.int)) (.int 0) μ=.ok (.str w) μ:=zj (k:=0) a8 rfl
 have e1:cpD .eq (.str w) (.str (PySem.Str.ofString "burnt")) μ=.ok (.bl (decide (w=wBurnt))) μ:=by rw[T3 rfl rfl];rfl
 have et:(D.tup [.int a,.int e,.int (min c t),.int p])=di [a,e,min c t,p]:=rfl
 generalize hN:D.tup (.str w::ns.map D.int)=N at *
 by_cases h:w=wBurnt
 ·have ec:zy t ([a,e,c,p],w,ns)=[a,e,min c t,p]:=by simp[zy,h]
  rw[ec]
  rw[decide_eq_true h]at e1
  generalize hT:di [a,e,c,p]=T
  have ub:∀{σ:Sl},d7 (.many [3,4,5,6]) T σ=some ((((σ.set 3 (some (.int a))).set 4 (some (.int e))).set 5 (some (.int c))).set 6 (some (.int p))):=by rw[<-hT];exact sk
  simp! only[D_evened,ub,x0,e1,et]
 ·have ec:zy t ([a,e,c,p],w,ns)=[a,e,c,p]:=by simp[zy,h]
  rw[ec]
  rw[decide_eq_false h]at e1
  generalize hT:di [a,e,c,p]=T
  have ub:∀{σ:Sl},d7 (.many [3,4,5,6]) T σ=some ((((σ.set 3 (some (.int a))).set 4 (some (.int e))).set 5 (some (.int c))).set 6 (some (.int p))):=by rw[<-hT];exact sk
  simp! only[D_evened,ub,x0,e1]
theorem Mn (hr:iu μ) (hb:Wf b) (t:Int):ak GL (n+5) jw [ar b,.int t] μ=.ok (sj (sN b b.days.length) ((eh ltN (dk b)).map (zy t))) μ:=by
 rw[aj Ax,run_eq rfl]
 have c1:me (ak GL (n+4)) .z (.many [1,2]) .nil i6 [some (.int t),none,none] ((eh ltN (dk b)).map dj,none) μ=.ok (.lst (((eh ltN (dk b)).map (zy t)).map di)) μ:=by
  rw[comp_map (g:=λx:NR=>di (zy t x)) λx hx=>by
   obtain⟨a,e,c,p,e1,_,_⟩:=ie b x ((da _).mem_iff.mp hx)
   obtain⟨x1,w,ns⟩:=x
   dsimp only at e1
   subst e1
   have kc:=ax (E4 (n:=n+3) (μ:=μ) a e c p t w ns) (ky 7 _) rfl hr
   generalize zy t ([a,e,c,p],w,ns)=R at *
   have eb:dj ([a,e,c,p],w,ns)=.tup [di [a,e,c,p],.tup (.str w::ns.map D.int)]:=rfl
   rw[eb]
   generalize di [a,e,c,p]=T at *
   generalize D.tup (.str w::ns.map D.int)=N at *
   simp![wz,i6,EV1,EV2,EV3,EV4,EV5,Nat.reduceSub,decide_true,decide_false,AY,AW,w4,kc]]
  rw[je,CJ];rfl
 simp![D_even_web,EV1,EV2,EV3,EV4,EV5,Nat.reduceSub,decide_true,decide_false,AY,AW,ax (Mj (n:=n+2) hr hb) rfl rfl hr,G4 hr hb,c1,bt_tuple cy]
theorem Q9 {x j:Int} (hj:0<=j) (hj2:j<1000):btD .inR3 .z [.int x,.int 2,.int j,.int 2] μ=.ok (.bl (decide (2<=x/\x<j/\(x-2) % 2=0))) μ:=by
 simp![btD,Kp]
 rw[if_pos ⟨by decide,by decide,hj,by lia,by decide,by decide⟩]
theorem Ra (hr:iu μ) (hb:Wf b) (t:Int):∃ρ,ak GL (n+3) iz [ar b,.int t] μ=.ok (sj (sN b b.days.length) (eh Lp.lexLt ((br b).map (ml (stp b) t)))) (μ++ρ):=by
 rw[aj xn,run_eq rfl]
 obtain⟨ρ,el⟩:=Ew (n:=n) (μ:=μ) hr hb
 have kl:=ib el (kz _ _ 5) hr
 have eN:2+stp b*(b.days.length:Int)=sN b b.days.length:=by
  show _=2+(b.days.length:Int)*stp b
  rw[Int.mul_comm]
 rw[eN,<-zt b]at kl
 have hl:=hb.lamps
 have st:stp b=2*(b.lamps.length:Int)+2:=rfl
 have four:∀r∈br b,∃a e c p,r=[a,e,c,p]:=λr hr=>by
  unfold br at hr
  obtain⟨x,hx,rfl⟩:=CZ.mp hr
  obtain⟨a,e,c,p,e1,_⟩:=ie b x ((da _).mem_iff.mp hx)
  exact⟨a,e,c,p,e1⟩
 have tl:(br b).length<=600:=by rw[zt,(da _).length_eq];exact Eu b hb
 have tlm:(((br b).map (ml (stp b) t))).length<=1000:=by rw[AD];lia
 have m4:∀r∈(br b).map (ml (stp b) t),r.length=4:=λr hr=>by
  obtain⟨x,hx,rfl⟩:=CZ.mp hr
  obtain⟨a,e,c,p,rfl⟩:=four x hx
  simp![ml]
  split<;>rfl
 obtain⟨σ',μ',el2,v6,v7,v8,v9,rfl,rfl⟩:=gz (φ:=ak GL (n+2)) (μ:=μ++[.l []]) (tg:=.many [6,7,8,9]) (b:=ck) (xs:=br b) (en:=di)
  (σ:=[some (ar b),some (.int t),some (.int (sN b b.days.length)),some (.tup ((br b).map di)),some (.int (stp b)),some (.loc μ.length),none,none,none,none])
  (λj σ μ'=>∃v6 v7 v8 v9,σ=[some (ar b),some (.int t),some (.int (sN b b.days.length)),some (.tup ((br b).map di)),some (.int (stp b)),some (.loc μ.length),v6,v7,v8,v9]/\μ'=μ++[.l ((((br b).take j).map (ml (stp b) t)).map di)]) ⟨_,_,_,_,rfl,by simp⟩ (by
   rintro j r σ μ' hj ⟨v6,v7,v8,v9,rfl,rfl⟩
   obtain⟨a,e,c,p,rfl⟩:=four r (CK hj)
   have et:(br b).take (j+1)=(br b).take j++[[a,e,c,p]]:=by rw[List.take_add_one,hj];rfl
   rw[et,BR]
   have lX:(((br b).take j).map (ml (stp b) t)).length<=900:=by rw[AD,BJ];lia
   generalize ((br b).take j).map (ml (stp b) t)=X at lX ⊢
   have em:[[a,e,c,p]].map (ml (stp b) t)=[ml (stp b) t [a,e,c,p]]:=rfl
   rw[em]
   have kA:∀(es:Exs) (σ:Sl) (W:List (List Int)),kM (ak GL (n+2)) .append es σ (.loc μ.length) (μ++[.l (W.map di)])=(fi (ak GL (n+2)) es σ (μ++[.l (W.map di)])).bind (mtD .append (.loc μ.length)):=λ_ _ _=>qi
   have sp:(0:Int)<stp b:=by lia
   have j1:=Q9 (μ:=μ++[.l (X.map di)]) (x:=(a-2) % stp b) (j:=stp b-1) (by lia) (by lia)
   have ub:∀{σ:Sl},d7 (.many [6,7,8,9]) (di [a,e,c,p]) σ=some ((((σ.set 6 (some (.int a))).set 7 (some (.int e))).set 8 (some (.int c))).set 9 (some (.int p))):=sk
   have t1:(D.tup [.int a,.int e,.int c,.int p])=di [a,e,c,p]:=rfl
   have t2:(D.tup [.int a,.int e,.int (min c t),.int p])=di [a,e,min c t,p]:=rfl
   have a1:=gj (μ:=μ) (X:=X) (r:=[a,e,c,p]) lX
   have a2:=gj (μ:=μ) (X:=X) (r:=[a,e,min c t,p]) lX
   by_cases hc:yb (stp b) a e
   ·have ec:ml (stp b) t [a,e,c,p]=[a,e,min c t,p]:=by simp![ml];rw[if_pos hc]
    rw[ec]
    obtain⟨h1,h2,h3⟩:=hc
    refine⟨[some (ar b),some (.int t),some (.int (sN b b.days.length)),some (.tup ((br b).map di)),some (.int (stp b)),some (.loc μ.length),some (.int a),some (.int e),some (.int (min c t)),some (.int p)],_,?_,_,_,_,_,rfl,rfl⟩
    generalize X++[[a,e,min c t,p]]=Y at *
    rw[decide_eq_true h2]at j1
    simp! only[fLp,ck,ub,h1,op_mod sp,j1,h3,kA,t2,a2]
   ·have ec:ml (stp b) t [a,e,c,p]=[a,e,c,p]:=by simp![ml];rw[if_neg hc]
    rw[ec]
    refine⟨[some (ar b),some (.int t),some (.int (sN b b.days.length)),some (.tup ((br b).map di)),some (.int (stp b)),some (.loc μ.length),some (.int a),some (.int e),some (.int c),some (.int p)],_,?_,_,_,_,_,rfl,rfl⟩
    generalize X++[[a,e,c,p]]=Y at *
    by_cases h1:1<a
    ·by_cases h2:2<=(a-2) % stp b/\(a-2) % stp b<stp b-1/\((a-2) % stp b-2) % 2=0
     ·have h3:¬(e-2) % stp b=stp b-1:=λz=>hc ⟨h1,h2,z⟩
      rw[decide_eq_true h2]at j1
      simp! only[fLp,ck,ub,h1,op_mod sp,j1,h3,kA,t1,a1]
     ·rw[decide_eq_false h2]at j1
      simp! only[fLp,ck,ub,h1,op_mod sp,j1,kA,t1,a1]
    ·simp! only[fLp,ck,ub,h1,kA,t1,a1])
 rw[BN]at el2
 have bs:=zv (μ:=μ) (rs:=(br b).map (ml (stp b) t)) tlm m4
 refine⟨[.l (((br b).map (ml (stp b) t)).map di)],?_⟩
 have e0:mkL .l [] μ=.ok (.loc μ.length) (μ++[.l []]):=Qw rfl
 have m2:∀i:Int,CMul 2 i:=λi=>.left (by decide) (by decide)
 have ub2:∀{σ:Sl} {x y:D},d7 (.many [2,3]) (.tup [x,y]) σ=some ((σ.set 2 (some x)).set 3 (some y)):=rfl
 show _=Res.ok (D.tup [.int (sN b b.days.length),.tup ((eh Lp.lexLt ((br b).map (ml (stp b) t))).map di)]) _
 generalize (eh Lp.lexLt ((br b).map (ml (stp b) t))).map di=Z at *
 generalize ((br b).map (ml (stp b) t)).map di=Y at *
 generalize (br b).map di=T at *
 simp! only[D_law_due_3,kl,ub2,nh,bt_len a8,AD,op_mul (m2 _),<-st,e0,el2,bs,bt_tuple cy]
theorem Hc (hr:iu μ) (hb:Wf b) (cell:Int):∃t,ak GL (n+2) fu [.int cell,ar b] μ=.ok (.int t) μ:=by
 rw[aj sd,run_eq rfl]
 have p16:opI .Pow 10 16 μ=.ok (.int (10 ^ 16)) μ:=op_pow (by decide)
 have hd:=hb.days
 have fm:∀(x y:Int),0<y->opI .Mod x y μ=.ok (.int (x % y)) μ:=λx y h=>op_mod h
 have fd:∀(x y:Int),0<y->y<1073741824->opI .FloorDiv x y μ=.ok (.int (x / y)) μ:=λx y h h2=>pe h h2
 by_cases h0:ic cell % 4=0
 ·refine⟨ic cell / 4 % 8,?_⟩
  simp! only[D_law_ticks_2,mz (n:=n) hr,fm _ _ (show(0:Int)<4 by decide),fd _ _ (show(0:Int)<4 by decide) (by decide),h0,fm _ _ (show(0:Int)<8 by decide)]
 ·by_cases h1:ic cell % 4=1
  ·refine⟨cell / 5 % 10 ^ 16,?_⟩
   have h01:¬(1:Int)=0:=by decide
   simp! only[D_law_ticks_2,mz (n:=n) hr,fm _ _ (show(0:Int)<4 by decide),fd _ _ (show(0:Int)<4 by decide) (by decide),h1,h01,fd _ _ (show(0:Int)<5 by decide) (by decide),p16,fm _ _ (show(0:Int)<10 ^ 16 by decide)]
  ·obtain⟨q,hq,hql⟩:∃q:Nat,(q:Int)=ic cell / 4 % (b.days.length:Int)/\q<b.days.length:=by
    have h1:=DF (ic cell / 4) (show(b.days.length:Int)≠0 by lia)
    have h2:=CM (ic cell / 4) (show(0:Int)<(b.days.length:Int)by lia)
    exact⟨(ic cell / 4 % (b.days.length:Int)).toNat,by lia,by lia⟩
   obtain⟨y,hy⟩:∃y,b.days[q]? = some y:=⟨b.days[q],AA hql⟩
   refine⟨max 0 (y.length+ic cell / 4 / 16 % 3-1),?_⟩
   simp! only[D_law_ticks_2,mz (n:=n) hr,fm _ _ (show(0:Int)<4 by decide),fd _ _ (show(0:Int)<4 by decide) (by decide),h0,h1,kr,bt_len a8,AD,fm _ _ (show(0:Int)<(b.days.length:Int)by lia),<-hq,h8 hy,Gj,fd _ _ (show(0:Int)<16 by decide) (by decide),fm _ _ (show(0:Int)<3 by decide)]
theorem Uh (ns:List Int) (hn:ns.length<=63):∃μ',ak GL 8 pg [.lst (ns.map D.int)] []=.ok (.bl true) μ':=by
 rw[aj D7,run_eq rfl]
 have hr:iu []:=rfl
 obtain⟨b,hb,eb⟩:=E3 (n:=3) (μ:=[]) hr ns (by lia)
 have kb:=ax eb (D9 b) rfl hr
 obtain⟨cs,_,hs⟩:=Q4 ns (i:=2) (j:=8) (w:=6) (by decide) (by decide)
 have ec:opD .Add .z (.lst (cs.map D.int)) (.lst [.int 0]) []=.ok (.lst ((cs++[0]).map D.int)) []:=by
  rw[Ug (by simp;lia),BR];rfl
 obtain⟨σ',el,v2,v3,v4,v5,rfl⟩:=Dk (φ:=ak GL 7) (μ:=[]) (tg:=.one 2) (b:=jn) (xs:=cs++[0]) (en:=D.int) (σ:=[some (.lst (ns.map D.int)),some (ar b),none,none,none,none])
  (λ_ σ=>∃v2 v3 v4 v5,σ=[some (.lst (ns.map D.int)),some (ar b),v2,v3,v4,v5]) ⟨_,_,_,_,rfl⟩ (by
   rintro j cell σ _ ⟨v2,v3,v4,v5,rfl⟩
   obtain⟨t,et⟩:=Hc (n:=5) (μ:=[]) hr hb cell
   have kt:=ax et rfl rfl hr
   have ke:=ax (Mn (n:=2) (μ:=[]) hr hb t) (kz _ _ 5) rfl hr
   obtain⟨ρ,ed⟩:=Ra (n:=4) (μ:=[]) hr hb t
   have kd:=ib ed (kz _ _ 5) hr
   rw[<-Hb b t]at kd
   generalize (eh ltN (dk b)).map (zy t)=T at *
   have pw:(sj (sN b b.days.length) T).pure=true:=kz _ _ 5
   have en:cpD .ne (sj (sN b b.days.length) T) (sj (sN b b.days.length) T) []=.ok (.bl false) []:=by rw[Mb pw pw,se 8 _ pw];rfl
   have x1:ixD (sj (sN b b.days.length) T) (.int 1) []=.ok (.tup (T.map di)) []:=rfl
   have it:Ks .tuple (sj (sN b b.days.length) T) []=.ok (.bl true) []:=rfl
   generalize sj (sN b b.days.length) T=W at *
   obtain⟨σ3,el3,v5',rfl⟩:=Dk (φ:=ak GL 7) (μ:=[]) (tg:=.one 5) (b:=jm) (xs:=T) (en:=di) (σ:=[some (.lst (ns.map D.int)),some (ar b),some (.int cell),some (.int t),some W,v5])
    (λ_ σ=>∃v5,σ=[some (.lst (ns.map D.int)),some (ar b),some (.int cell),some (.int t),some W,v5]) ⟨_,rfl⟩ (by
     rintro i r σ _ ⟨v5,rfl⟩
     have cn:me (ak GL 7) .z (.one 0) jl mv [none] (r.map D.int,none) []=.ok (.lst []) []:=by
      rw[Ee λx _=>by simp![wz,jl,EV1,EV2,EV3,EV4,EV5,Nat.reduceSub,decide_true,decide_false,AY,AW,Gh (n:=6) hr]]
      rfl
     have l0:btD .len .z [.lst []] []=.ok (.int 0) []:=rfl
     have z0:decide ((0:Int)<0)=false:=rfl
     refine⟨[some (.lst (ns.map D.int)),some (ar b),some (.int cell),some (.int t),some W,some (di r)],?_,_,rfl⟩
     simp![fLp,jm,EV1,EV2,EV3,EV4,EV5,Nat.reduceSub,decide_true,decide_false,AY,AW,Jq,cn,l0,z0])
   refine⟨[some (.lst (ns.map D.int)),some (ar b),some (.int cell),some (.int t),some W,v5'],?_,_,_,_,_,rfl⟩
   simp![fLp,jn,EV1,EV2,EV3,EV4,EV5,Nat.reduceSub,decide_true,decide_false,AY,AW,kt,ke,kd,en,it,x1,Jq,el3])
 refine⟨[],?_⟩
 generalize (cs++[0]).map D.int=C at *
 simp![D_law_k49,EV1,EV2,EV3,EV4,EV5,Nat.reduceSub,decide_true,decide_false,AY,AW,kb,hs,je,ec,el]
end
end Lr
namespace Lp.Law
open PySem PySem.Spec PyProof.Rows L2 Lp
def top (i:Nat):Stmt:=PySem.Challenge.pw_lamprota_k49_even_webs.main.body.getD i (.Pass ⟨0,0,0,0⟩)
def e0:Ent:=⟨ff,"night_need",top 1,["book","day","boat","most","price","length","wanted"],["book","day"],D_night_need⟩
def e1:Ent:=⟨qg,"need",top 2,["book"],["book"],D_need⟩
def e2:Ent:=⟨jv,"can_burn",top 3,["book","lamp","day","tank","oil","away"],["book","lamp","day"],D_can_burn⟩
def e3:Ent:=⟨aw,"store_node",top 7,["book","day"],["book","day"],D_store_node⟩
def e4:Ent:=⟨dn,"tank_node",top 8,["book","lamp","day"],["book","lamp","day"],D_tank_node⟩
def e5:Ent:=⟨dw,"flame_node",top 9,["book","lamp","day"],["book","lamp","day"],D_flame_node⟩
def e6:Ent:=⟨dy,"night_node",top 10,["book","day"],["book","day"],D_night_node⟩
def e7:Ent:=⟨ay,"first_morning_ties",top 11,["book","store","oil","lamps","days","ties","lamp","parts"],["book"],D_first_morning_ties⟩
def e8:Ent:=⟨bb,"later_morning_ties",top 12,["book","day","ties","lamp","flame"],["book","day"],D_later_morning_ties⟩
def e9:Ent:=⟨h9,"day_ties",top 13,["book","day","boat","most","price","length","wanted","store"],["book","day"],D_day_ties⟩
def e10:Ent:=⟨f9,"lamp_ties",top 14,["book","lamp","day","tank","flame","length"],["book","lamp","day"],D_lamp_ties⟩
def e11:Ent:=⟨fg,"named_ties",top 15,["book","ties","day","lamp"],["book"],D_named_ties⟩
def e12:Ent:=⟨gn,"many_nodes",top 16,["book"],["book"],D_many_nodes⟩
def e13:Ent:=⟨n3,"evened",top 18,["tie","name","ticks","tail","head","bound","price"],["tie","name","ticks"],D_evened⟩
def e14:Ent:=⟨jw,"even_web",top 19,["book","ticks"],["book","ticks"],D_even_web⟩
def e15:Ent:=⟨eg,"_law_cell_at",top 21,["script","k"],["script","k"],D_law_cell_at⟩
def e16:Ent:=⟨aq,"_law_mixed",top 22,["cell","stir"],["cell"],D_law_mixed_3⟩
def e17:Ent:=⟨cj,"_law_much",top 23,["cell"],["cell"],D_law_much⟩
def e18:Ent:=⟨gp,"_law_folded",top 24,["script","many","cells","k"],["script","many"],D_law_folded⟩
def e19:Ent:=⟨gq,"_law_lamp",top 25,["cells","days","tank","away","gone"],["cells","days"],D_law_lamp_2⟩
def e20:Ent:=⟨iw,"_law_day",top 26,["cells","lamps","length","price"],["cells","lamps"],D_law_day_2⟩
def e21:Ent:=⟨gr,"_law_book",top 27,["script","most","lamps","days","cells","told_lamps","start","told_days"],["script","most"],D_law_book_2⟩
def e22:Ent:=⟨ia,"_law_need",top 28,["book"],["book"],D_law_need⟩
def e23:Ent:=⟨iy,"_law_web",top 29,["book","lamps","step","need_all","ties","i","d","boat","most","price","length","wanted","s","burns"],["book"],D_law_web_3⟩
def e24:Ent:=⟨f6,"_law_whole",top 30,["found"],["found"],D_law_whole⟩
def e25:Ent:=⟨iz,"_law_due",top 31,["book","ticks","many","ties","step","made","one","other","bound","price"],["book","ticks"],D_law_due_3⟩
def e26:Ent:=⟨fu,"_law_ticks",top 32,["cell","book","way","rest"],["cell","book"],D_law_ticks_2⟩
def e27:Ent:=⟨pg,"law",top 33,["script","book","cell","ticks","found","tie"],["script"],D_law_k49⟩
def ents:List Ent:=[e0,e1,e2,e3,e4,e5,e6,e7,e8,e9,e10,e11,e12,e13,e14,e15,e16,e17,e18,e19,e20,e21,e22,e23,e24,e25,e26,e27]
def k9:List Str:=["len","range","sum","enumerate","sorted","min","tuple","int","isinstance","bool","max"]
def cns:List (Str×Int):=[("SEA",0),("LIGHT",1)]
theorem arS {k:Nat} {Q:List Value->Prop} (h:∀a us,us.length=k->Q (a::us)):∀us:List Value,us.length=k+1->Q us
 | [],e=>nomatch e
 | a::us,e=>h a us (Nat.succ.inj e)
theorem ar0 {Q:List Value->Prop} (h:∀(_:Unit),Q []):∀us:List Value,us.length=0->Q us
 | [],_=>h ()
theorem ar1 {Q:List Value->Prop} (h:∀(a0:Value),Q [a0]):∀us:List Value,us.length=1->Q us:=arS λa0=>ar0 (Q:=λus=>Q (a0::us)) (λ_=>h a0)
theorem ar2 {Q:List Value->Prop} (h:∀(a0 a1:Value),Q [a0,a1]):∀us:List Value,us.length=2->Q us:=arS λa0=>ar1 (Q:=λus=>Q (a0::us)) (h a0)
theorem ar3 {Q:List Value->Prop} (h:∀(a0 a1 a2:Value),Q [a0,a1,a2]):∀us:List Value,us.length=3->Q us:=arS λa0=>ar2 (Q:=λus=>Q (a0::us)) (h a0)
section
variable {P : Program} {w : World} {K : PySem.W.Frag} {mg : Str -> Option Value} {base : Heap}
theorem dv0 (B:∀(j:Nat) x,k9[j]? = some x->mg x=none) (cn:ko cns mg):Derived GL P w K mg base ents e0:=dmk λn fa cdv A outer s H E hu C =>
 (az (wj (j5 (au 2 (au 3 (au 4 (au 5 (au 6 j3)))))) (dg (dg (ae 0) af) (ae 1))) (az (c7 (ah (ae 6) (ae 5))) du))
theorem dv1 (B:∀(j:Nat) x,k9[j]? = some x->mg x=none) (cn:ko cns mg):Derived GL P w K mg base ents e1:=dmk λn fa cdv A outer s H E hu C =>
 (az (c7 (Ck (B 2 _ rfl) (aa (yt ["book","day"] (ji (B 1 _ rfl) (cu (B 0 _ rfl) (aa (dg (ae 0) af) ag))) (λ_ _ _ _=>⟨(dh 1),ka,(ao (C 0 _ rfl) (aa (ae 0) (aa (ae 1) ag)))⟩)) ag))) du)
theorem dv2 (B:∀(j:Nat) x,k9[j]? = some x->mg x=none) (cn:ko cns mg):Derived GL P w K mg base ents e2:=dmk λn fa cdv A outer s H E hu C =>
 (az (wj (j5 (au 3 (au 4 (au 5 j3)))) (dg (dg (ae 0) af) (ae 1))) (az (c7 (Pe (ae 2) (Pc hu .notin (ae 5)))) du))
theorem dv3 (B:∀(j:Nat) x,k9[j]? = some x->mg x=none) (cn:ko cns mg):Derived GL P w K mg base ents e3:=dmk λn fa cdv A outer s H E hu C =>
 (az (c7 (ah af (ah (ae 1) (ah (ah af (cu (B 0 _ rfl) (aa (dg (ae 0) af) ag))) af)))) du)
theorem dv4 (B:∀(j:Nat) x,k9[j]? = some x->mg x=none) (cn:ko cns mg):Derived GL P w K mg base ents e4:=dmk λn fa cdv A outer s H E hu C =>
 (az (c7 (ah (ah (ao (C 3 _ rfl) (aa (ae 0) (aa (ae 2) ag))) af) (ah af (ae 1)))) du)
theorem dv5 (B:∀(j:Nat) x,k9[j]? = some x->mg x=none) (cn:ko cns mg):Derived GL P w K mg base ents e5:=dmk λn fa cdv A outer s H E hu C =>
 (az (c7 (ah (ah (ao (C 3 _ rfl) (aa (ae 0) (aa (ae 2) ag))) af) (ah af (ae 1)))) du)
theorem dv6 (B:∀(j:Nat) x,k9[j]? = some x->mg x=none) (cn:ko cns mg):Derived GL P w K mg base ents e6:=dmk λn fa cdv A outer s H E hu C =>
 (az (c7 (ah (ah (ao (C 3 _ rfl) (aa (ae 0) (aa (ae 1) ag))) (ah af (cu (B 0 _ rfl) (aa (dg (ae 0) af) ag)))) af)) du)
theorem dv7 (B:∀(j:Nat) x,k9[j]? = some x->mg x=none) (cn:ko cns mg):Derived GL P w K mg base ents e7:=dmk λn fa cdv A outer s H E hu C =>
 (az (wj (j5 (au 1 (au 2 (au 3 (au 4 j3))))) (ae 0)) (az (c8 5 (ui (aa (bo (aa (bo (aa (uu (cn 0 _ rfl)) (aa (ao (C 3 _ rfl) (aa (ae 0) (aa af ag))) (aa (ae 2) (aa af ag))))) (aa (bo (aa oz (aa af ag))) ag))) ag))) (az (nc (Ls (B 3 _ rfl) (ae 3)) (j5 (au 6 (au 7 j3))) (az (we (ba (ae 5) (aa (bo (aa (bo (aa (uu (cn 0 _ rfl)) (aa (ao (C 4 _ rfl) (aa (ae 0) (aa (ae 6) (aa af ag)))) (aa (dg (ae 7) af) (aa af ag))))) (aa (bo (aa oz (aa af (aa (ae 6) ag)))) ag))) ag))) du)) (az (c7 (ae 5)) du))))
theorem dv8 (B:∀(j:Nat) x,k9[j]? = some x->mg x=none) (cn:ko cns mg):Derived GL P w K mg base ents e8:=dmk λn fa cdv A outer s H E hu C =>
 (az (c8 2 (ui (aa (bo (aa (bo (aa (ao (C 3 _ rfl) (aa (ae 0) (aa (ah (ae 1) af) ag))) (aa (ao (C 3 _ rfl) (aa (ae 0) (aa (ae 1) ag))) (aa (dg (ae 0) af) (aa af ag))))) (aa (bo (aa oz (aa (ae 1) ag))) ag))) ag))) (az (nc (ji (B 1 _ rfl) (cu (B 0 _ rfl) (aa (dg (ae 0) af) ag))) (dh 3) (az (c8 4 (ao (C 5 _ rfl) (aa (ae 0) (aa (ae 3) (aa (ah (ae 1) af) ag))))) (az (we (ba (ae 2) (aa (bo (aa (bo (aa (ae 4) (aa (ao (C 4 _ rfl) (aa (ae 0) (aa (ae 3) (aa (ae 1) ag)))) (aa (ao (C 1 _ rfl) (aa (ae 0) ag)) (aa af ag))))) (aa (bo (aa oz (aa (ae 1) (aa (ae 3) ag)))) ag))) ag))) du))) (az (c7 (O9 2)) du)))
theorem dv9 (B:∀(j:Nat) x,k9[j]? = some x->mg x=none) (cn:ko cns mg):Derived GL P w K mg base ents e9:=dmk λn fa cdv A outer s H E hu C =>
 (az (wj (j5 (au 2 (au 3 (au 4 (au 5 (au 6 j3)))))) (dg (dg (ae 0) af) (ae 1))) (az (c8 7 (ao (C 3 _ rfl) (aa (ae 0) (aa (ae 1) ag)))) (az (c7 (ui (aa (bo (aa (bo (aa (uu (cn 0 _ rfl)) (aa (ae 7) (aa (ae 2) (aa af ag))))) (aa (bo (aa oz (aa (ae 1) ag))) ag))) (aa (bo (aa (bo (aa (uu (cn 0 _ rfl)) (aa (ae 7) (aa (ae 3) (aa (ae 4) ag))))) (aa (bo (aa oz (aa (ae 1) ag))) ag))) (aa (bo (aa (bo (aa (ao (C 6 _ rfl) (aa (ae 0) (aa (ae 1) ag))) (aa (uu (cn 1 _ rfl)) (aa (ao (C 0 _ rfl) (aa (ae 0) (aa (ae 1) ag))) (aa af ag))))) (aa (bo (aa oz (aa (ae 1) ag))) ag))) ag))))) du)))
theorem W5 (B:∀(j:Nat) x,k9[j]? = some x->mg x=none) (cn:ko cns mg):Derived GL P w K mg base ents e10:=dmk λn fa cdv A outer s H E hu C =>
 (az (c8 3 (ao (C 4 _ rfl) (aa (ae 0) (aa (ae 1) (aa (ae 2) ag))))) (az (c8 4 (ao (C 5 _ rfl) (aa (ae 0) (aa (ae 1) (aa (ae 2) ag))))) (az (c8 5 (Pb (o4 (ao (C 2 _ rfl) (aa (ae 0) (aa (ae 1) (aa (ae 2) ag))))) (dg (dg (dg (ae 0) af) (ae 2)) af) af)) (az (c7 (ui (aa (bo (aa (bo (aa (ao (C 3 _ rfl) (aa (ae 0) (aa (ae 2) ag))) (aa (ae 3) (aa (ao (C 1 _ rfl) (aa (ae 0) ag)) (aa af ag))))) (aa (bo (aa oz (aa (ae 2) (aa (ae 1) ag)))) ag))) (aa (bo (aa (bo (aa (ae 3) (aa (ae 4) (aa (dg (dg (dg (ae 0) af) (ae 1)) af) (aa af ag))))) (aa (bo (aa oz (aa (ae 2) (aa (ae 1) ag)))) ag))) (aa (bo (aa (bo (aa (ae 4) (aa (ao (C 6 _ rfl) (aa (ae 0) (aa (ae 2) ag))) (aa (ae 5) (aa af ag))))) (aa (bo (aa oz (aa (ae 2) (aa (ae 1) ag)))) ag))) ag))))) du))))
theorem W6 (B:∀(j:Nat) x,k9[j]? = some x->mg x=none) (cn:ko cns mg):Derived GL P w K mg base ents e11:=dmk λn fa cdv A outer s H E hu C =>
 (az (c8 1 (ao (C 7 _ rfl) (aa (ae 0) ag))) (az (nc (Li (B 1 _ rfl) af (cu (B 0 _ rfl) (aa (dg (ae 0) af) ag))) (dh 2) (az (we (kf (ae 1) (aa (ao (C 8 _ rfl) (aa (ae 0) (aa (ae 2) ag))) ag))) du)) (az (nc (ji (B 1 _ rfl) (cu (B 0 _ rfl) (aa (dg (ae 0) af) ag))) (dh 2) (az (we (kf (ae 1) (aa (ao (C 9 _ rfl) (aa (ae 0) (aa (ae 2) ag))) ag))) (az (nc (ji (B 1 _ rfl) (cu (B 0 _ rfl) (aa (dg (ae 0) af) ag))) (dh 3) (az (we (kf (ae 1) (aa (ao (C 10 _ rfl) (aa (ae 0) (aa (ae 3) (aa (ae 2) ag)))) ag))) du)) du))) (az (c7 (C6 hu (B 4 _ rfl) (aa (ae 1) ag))) du))))
theorem W7 (B:∀(j:Nat) x,k9[j]? = some x->mg x=none) (cn:ko cns mg):Derived GL P w K mg base ents e12:=dmk λn fa cdv A outer s H E hu C =>
 (az (c7 (ao (C 3 _ rfl) (aa (ae 0) (aa (cu (B 0 _ rfl) (aa (dg (ae 0) af) ag)) ag)))) du)
theorem W8 (B:∀(j:Nat) x,k9[j]? = some x->mg x=none) (cn:ko cns mg):Derived GL P w K mg base ents e13:=dmk λn fa cdv A outer s H E hu C =>
 (az (wj (j5 (au 3 (au 4 (au 5 (au 6 j3))))) (ae 0)) (az (c7 (Pb (fz (dg (ae 1) af) (j9 hu .eq oz)) (bo (aa (ae 3) (aa (ae 4) (aa (wd (B 5 _ rfl) (aa (ae 5) (aa (ae 2) ag))) (aa (ae 6) ag))))) (ae 0))) du))
theorem W9 (B:∀(j:Nat) x,k9[j]? = some x->mg x=none) (cn:ko cns mg):Derived GL P w K mg base ents e14:=dmk λn fa cdv A outer s H E hu C =>
 (az (c7 (bo (aa (ao (C 12 _ rfl) (aa (ae 0) ag)) (aa (h7 (B 6 _ rfl) (aa (yt ["ticks","tie","name"] (qd (ao (C 11 _ rfl) (aa (ae 0) ag))) (λ_ _ _ _=>⟨(j5 (au 1 (au 2 j3))),ka,(ao (C 13 _ rfl) (aa (ae 1) (aa (ae 2) (aa (ae 0) ag))))⟩)) ag)) ag)))) du)
theorem Xa (B:∀(j:Nat) x,k9[j]? = some x->mg x=none) (cn:ko cns mg):Derived GL P w K mg base ents e15:=dmk λn fa cdv A outer s H E hu C =>
 (az (Co (fz (ae 1) (j9 hu .lt (cu (B 0 _ rfl) (aa (ae 0) ag)))) (az (c7 (dg (ae 0) (ae 1))) du) du) (az (c7 af) du))
theorem Xb (B:∀(j:Nat) x,k9[j]? = some x->mg x=none) (cn:ko cns mg):Derived GL P w K mg base ents e16:=dmk λn fa cdv A outer s H E hu C =>
 (az (c8 1 (ah (ah (ah (ah (ae 0) af) af) af) af)) (az (c7 (ah (ah (ah (ae 1) (ae 1)) af) af)) du))
theorem Xc (B:∀(j:Nat) x,k9[j]? = some x->mg x=none) (cn:ko cns mg):Derived GL P w K mg base ents e17:=dmk λn fa cdv A outer s H E hu C =>
 (az (Co (fz (ah (ao (C 16 _ rfl) (aa (ae 0) ag)) af) (j9 hu .eq af)) (az (c7 (ah (ah (ae 0) af) (ah (ah af af) af))) du) du) (az (c7 (ah (ah (ao (C 16 _ rfl) (aa (ae 0) ag)) af) af)) du))
theorem Xd (B:∀(j:Nat) x,k9[j]? = some x->mg x=none) (cn:ko cns mg):Derived GL P w K mg base ents e18:=dmk λn fa cdv A outer s H E hu C =>
 (az (c8 2 (ah (ui (aa af ag)) (ae 1))) (az (nc (ji (B 1 _ rfl) (cu (B 0 _ rfl) (aa (ae 0) ag))) (dh 3) (az (Pg hu (ae 2) (ah (ae 3) (ae 1)) (ah (ah (dg (ae 2) (ah (ae 3) (ae 1))) af) (dg (ae 0) (ae 3)))) du)) (az (c7 (O9 2)) du)))
theorem Xe (B:∀(j:Nat) x,k9[j]? = some x->mg x=none) (cn:ko cns mg):Derived GL P w K mg base ents e19:=dmk λn fa cdv A outer s H E hu C =>
 (az (c8 2 (ao (C 17 _ rfl) (aa (dg (ae 0) af) ag))) (az (c8 3 (ao (C 16 _ rfl) (aa (dg (ae 0) af) ag))) (az (o5 4 ["away","day"] (ji (B 1 _ rfl) (ae 1)) (λ_ _ _ _=>⟨(dh 1),(yr (Ri (Cj (fz (ah (ae 0) af) (j9 hu .eq af)) (Ci (fz (ah (ah (ah (ae 0) af) (ae 1)) af) (j9 hu .eq af))))) ka),(ae 1)⟩)) (az (c7 (bo (aa (ae 2) (aa (wd (B 5 _ rfl) (aa (ae 2) (aa (ao (C 17 _ rfl) (aa (dg (ae 0) af) ag)) ag))) (aa (h7 (B 6 _ rfl) (aa (ae 4) ag)) ag))))) du))))
theorem Xf (B:∀(j:Nat) x,k9[j]? = some x->mg x=none) (cn:ko cns mg):Derived GL P w K mg base ents e20:=dmk λn fa cdv A outer s H E hu C =>
 (az (c8 2 (ah af (ah (ao (C 16 _ rfl) (aa (dg (ae 0) af) ag)) af))) (az (Co (fz (ah (ah (ao (C 16 _ rfl) (aa (dg (ae 0) af) ag)) af) af) (j9 hu .eq af)) (az (c8 2 (ah af (ah (ah (dg (ae 0) af) af) (ah af af)))) du) du) (az (c8 3 (ah (ao (C 16 _ rfl) (aa (dg (ae 0) af) ag)) af)) (az (Co (fz (ah (ah (ao (C 16 _ rfl) (aa (dg (ae 0) af) ag)) af) af) (j9 hu .eq af)) (az (c8 3 (ah (ah (dg (ae 0) af) af) (ah (ah af af) af))) du) du) (az (c7 (bo (aa (ao (C 17 _ rfl) (aa (dg (ae 0) af) ag)) (aa (ao (C 17 _ rfl) (aa (dg (ae 0) af) ag)) (aa (ae 3) (aa (ae 2) (aa (ah (ao (C 16 _ rfl) (aa (dg (ae 0) af) ag)) (ah (ae 1) af)) ag))))))) du)))))
theorem Xg (B:∀(j:Nat) x,k9[j]? = some x->mg x=none) (cn:ko cns mg):Derived GL P w K mg base ents e21:=dmk λn fa cdv A outer s H E hu C =>
 (az (c8 2 (ah af (ah (ao (C 16 _ rfl) (aa (ao (C 15 _ rfl) (aa (ae 0) (aa af ag))) ag)) af))) (az (c8 3 (ah af (ah (ao (C 16 _ rfl) (aa (ao (C 15 _ rfl) (aa (ae 0) (aa af ag))) ag)) (ae 1)))) (az (c8 4 (ao (C 18 _ rfl) (aa (Rh (ae 0) (Ld af) Wv) (aa (ah (ah af (ah af (ae 2))) (ah af (ae 3))) ag)))) (az (o5 5 ["cells","days","k"] (ji (B 1 _ rfl) (ae 2)) (λ_ _ _ _=>⟨(dh 2),ka,(ao (C 19 _ rfl) (aa (Rh (ae 0) (Ld (ah af (ah af (ae 2)))) (Ld (ah af (ah af (ae 2))))) (aa (ae 1) ag)))⟩)) (az (c8 6 (ah af (ah af (ae 2)))) (az (o5 7 ["cells","start","lamps","k"] (ji (B 1 _ rfl) (ae 3)) (λ_ _ _ _=>⟨(dh 3),ka,(ao (C 20 _ rfl) (aa (Rh (ae 0) (Ld (ah (ae 1) (ah af (ae 3)))) (Ld (ah (ah (ae 1) af) (ah af (ae 3))))) (aa (ae 2) ag)))⟩)) (az (c7 (bo (aa (ao (C 17 _ rfl) (aa (dg (ae 4) af) ag)) (aa (ao (C 17 _ rfl) (aa (dg (ae 4) af) ag)) (aa (h7 (B 6 _ rfl) (aa (ae 5) ag)) (aa (h7 (B 6 _ rfl) (aa (ae 7) ag)) ag)))))) du)))))))
theorem Xh (B:∀(j:Nat) x,k9[j]? = some x->mg x=none) (cn:ko cns mg):Derived GL P w K mg base ents e22:=dmk λn fa cdv A outer s H E hu C =>
 (az (c7 (Ck (B 2 _ rfl) (aa (yt ["day"] (qd (dg (ae 0) af)) (λ_ _ _ _=>⟨(dh 0),ka,(ah (dg (ae 0) af) (dg (ae 0) af))⟩)) ag))) du)
theorem Xi (B:∀(j:Nat) x,k9[j]? = some x->mg x=none) (cn:ko cns mg):Derived GL P w K mg base ents e23:=dmk λn fa cdv A outer s H E hu C =>
 (az (c8 1 (cu (B 0 _ rfl) (aa (dg (ae 0) af) ag))) (az (c8 2 (ah (ah af (ae 1)) af)) (az (c8 3 (ao (C 22 _ rfl) (aa (ae 0) ag))) (az (c8 4 (ui (aa (bo (aa af (aa af (aa (dg (ae 0) af) (aa af ag))))) ag))) (az (nc (ji (B 1 _ rfl) (ae 1)) (dh 5) (az (we (ba (ae 4) (aa (bo (aa af (aa (ah af (ah af (ae 5))) (aa (dg (dg (dg (ae 0) af) (ae 5)) af) (aa af ag))))) ag))) du)) (az (nc (ji (B 1 _ rfl) (cu (B 0 _ rfl) (aa (dg (ae 0) af) ag))) (dh 6) (az (wj (j5 (au 7 (au 8 (au 9 (au 10 (au 11 j3)))))) (dg (dg (ae 0) af) (ae 6))) (az (c8 12 (ah af (ah (ae 6) (ae 2)))) (az (we (ba (ae 4) (aa (bo (aa af (aa (ae 12) (aa (ae 7) (aa af ag))))) ag))) (az (we (ba (ae 4) (aa (bo (aa af (aa (ae 12) (aa (ae 8) (aa (ae 9) ag))))) ag))) (az (we (ba (ae 4) (aa (bo (aa (ah (ah (ae 12) (ae 2)) af) (aa af (aa (ah (ae 11) (ae 10)) (aa af ag))))) ag))) (az (nc (ji (B 1 _ rfl) (ae 1)) (dh 5) (az (c8 13 (ah (ae 10) (Lg (B 7 _ rfl) (aa (Pe (ae 6) (Pc hu .notin (dg (dg (dg (ae 0) af) (ae 5)) af))) ag)))) (az (we (ba (ae 4) (aa (bo (aa (ae 12) (aa (ah (ah (ae 12) af) (ah af (ae 5))) (aa (ae 3) (aa af ag))))) ag))) (az (we (ba (ae 4) (aa (bo (aa (ah (ah (ae 12) af) (ah af (ae 5))) (aa (ah (ah (ae 12) af) (ah af (ae 5))) (aa (dg (dg (dg (ae 0) af) (ae 5)) af) (aa af ag))))) ag))) (az (we (ba (ae 4) (aa (bo (aa (ah (ah (ae 12) af) (ah af (ae 5))) (aa (ah (ah (ae 12) (ae 2)) af) (aa (ae 13) (aa af ag))))) ag))) (az (Co (fz (ae 6) (j9 hu .lt (ah (cu (B 0 _ rfl) (aa (dg (ae 0) af) ag)) af))) (az (we (ba (ae 4) (aa (bo (aa (ah (ah (ae 12) af) (ah af (ae 5))) (aa (ah (ah (ah (ae 12) (ae 2)) af) (ah af (ae 5))) (aa (ae 3) (aa af ag))))) ag))) du) du) du)))))) (az (Co (fz (ae 6) (j9 hu .lt (ah (cu (B 0 _ rfl) (aa (dg (ae 0) af) ag)) af))) (az (we (ba (ae 4) (aa (bo (aa (ae 12) (aa (ah (ae 12) (ae 2)) (aa (dg (ae 0) af) (aa af ag))))) ag))) du) du) du)))))))) (az (c7 (bo (aa (ah af (ah (ae 2) (cu (B 0 _ rfl) (aa (dg (ae 0) af) ag)))) (aa (h7 (B 6 _ rfl) (aa (ur hu (B 4 _ rfl) (aa (ae 4) ag)) ag)) ag)))) du)))))))
theorem Xj (B:∀(j:Nat) x,k9[j]? = some x->mg x=none) (cn:ko cns mg):Derived GL P w K mg base ents e24:=dmk λn fa cdv A outer s H E hu C =>
 (az (c7 (Tp (Cm (ae 0) (B 8 _ rfl) (B 7 _ rfl)) (Pa (To (Cm (ae 0) (B 8 _ rfl) (B 9 _ rfl)))))) du)
theorem Xk (B:∀(j:Nat) x,k9[j]? = some x->mg x=none) (cn:ko cns mg):Derived GL P w K mg base ents e25:=dmk λn fa cdv A outer s H E hu C =>
 (az (wj (j5 (au 2 (au 3 j3))) (ao (C 23 _ rfl) (aa (ae 0) ag))) (az (c8 4 (ah (ah af (cu (B 0 _ rfl) (aa (dg (ae 0) af) ag))) af)) (az (c8 5 (ui ag)) (az (nc (qd (ae 3)) (j5 (au 6 (au 7 (au 8 (au 9 j3))))) (az (Co (Ri (Cj (fz (ae 6) (j9 hu .gt af)) (Cj (Pn (B 1 _ rfl) (ah (ah (ae 6) af) (ae 4)) (aa af (aa (ah (ae 4) af) (aa af ag)))) (Ci (fz (ah (ah (ae 7) af) (ae 4)) (j9 hu .eq (ah (ae 4) af))))))) (az (c8 8 (wd (B 5 _ rfl) (aa (ae 8) (aa (ae 1) ag)))) du) du) (az (we (ba (ae 5) (aa (bo (aa (ae 6) (aa (ae 7) (aa (ae 8) (aa (ae 9) ag))))) ag))) du))) (az (c7 (bo (aa (ae 2) (aa (h7 (B 6 _ rfl) (aa (ur hu (B 4 _ rfl) (aa (ae 5) ag)) ag)) ag)))) du)))))
theorem Xl (B:∀(j:Nat) x,k9[j]? = some x->mg x=none) (cn:ko cns mg):Derived GL P w K mg base ents e26:=dmk λn fa cdv A outer s H E hu C =>
 (az (c8 2 (ah (ao (C 16 _ rfl) (aa (ae 0) ag)) af)) (az (c8 3 (ah (ao (C 16 _ rfl) (aa (ae 0) ag)) af)) (az (Co (fz (ae 2) (j9 hu .eq af)) (az (c7 (ah (ae 3) af)) du) du) (az (Co (fz (ae 2) (j9 hu .eq af)) (az (c7 (ah (ah (ae 0) af) (ah af af))) du) du) (az (c7 (Lh (B 10 _ rfl) (aa af (aa (ah (ah (dg (dg (dg (ae 1) af) (ah (ae 3) (cu (B 0 _ rfl) (aa (dg (ae 1) af) ag)))) af) (ah (ah (ae 3) af) af)) af) ag)))) du)))))
theorem Xm (B:∀(j:Nat) x,k9[j]? = some x->mg x=none) (cn:ko cns mg):Derived GL P w K mg base ents e27:=dmk λn fa cdv A outer s H E hu C =>
 (az (c8 1 (ao (C 21 _ rfl) (aa (ae 0) (aa af ag)))) (az (nc (qd (ah (Rh (ae 0) (Ld af) (Ld af)) (ui (aa af ag)))) (dh 2) (az (c8 3 (ao (C 26 _ rfl) (aa (ae 2) (aa (ae 1) ag)))) (az (c8 4 (ao (C 14 _ rfl) (aa (ae 1) (aa (ae 3) ag)))) (az (Co (Ri (Le (fz (ae 4) (j9 hu .ne (ao (C 25 _ rfl) (aa (ae 1) (aa (ae 3) ag))))) (Le (yq (o4 (Cm (ae 4) (B 8 _ rfl) (B 6 _ rfl)))) (Hv (yq (o4 (Cm (dg (ae 4) af) (B 8 _ rfl) (B 6 _ rfl)))))))) (az (c7 Tn) du) du) (az (nc (qd (dg (ae 4) af)) (dh 5) (az (Co (Ri (Le (yq (o4 (Cm (ae 5) (B 8 _ rfl) (B 6 _ rfl)))) (Hv (fz (cu (B 0 _ rfl) (aa (yt ["part"] (qd (ae 5)) (λ_ _ _ _=>⟨(dh 0),(yr (yq (o4 (ao (C 24 _ rfl) (aa (ae 0) ag)))) ka),(ae 0)⟩)) ag)) (j9 hu .gt af))))) (az (c7 Tn) du) du) du)) du))))) (az (c7 Tn) du)))
theorem dvs (B:∀(j:Nat) x,k9[j]? = some x->mg x=none) (cn:ko cns mg):∀(j:Nat) e,ents[j]? = some e->Derived GL P w K mg base ents e:=(Lp.c9 (dv0 B cn) (Lp.c9 (dv1 B cn) (Lp.c9 (dv2 B cn) (Lp.c9 (dv3 B cn) (Lp.c9 (dv4 B cn) (Lp.c9 (dv5 B cn) (Lp.c9 (dv6 B cn) (Lp.c9 (dv7 B cn) (Lp.c9 (dv8 B cn) (Lp.c9 (dv9 B cn) (Lp.c9 (W5 B cn) (Lp.c9 (W6 B cn) (Lp.c9 (W7 B cn) (Lp.c9 (W8 B cn) (Lp.c9 (W9 B cn) (Lp.c9 (Xa B cn) (Lp.c9 (Xb B cn) (Lp.c9 (Xc B cn) (Lp.c9 (Xd B cn) (Lp.c9 (Xe B cn) (Lp.c9 (Xf B cn) (Lp.c9 (Xg B cn) (Lp.c9 (Xh B cn) (Lp.c9 (Xi B cn) (Lp.c9 (Xj B cn) (Lp.c9 (Xk B cn) (Lp.c9 (Xl B cn) (Lp.c9 (Xm B cn) Lp.Rj))))))))))))))))))))))))))))
end
end Lp.Law
namespace PySem.W.Fast
def tw17880033716605355551:=0
def tw15083459314906624427:=0
def tw9223441725306372907:=0
def tw12805897842232647049:=0
def tw3606400722890502001:=0
def tw6915941858865502122:=0
def tw15142951731437421909:=0
def tw14954942577296894340:=0
def tw12938141380155646976:=0
def tw5752152253134617282:=0
def tw9166792237219134066:=0
def tw9434638711898459580:=0
def tw17135867447276057711:=0
def tw16372739095086677125:=0
def tw17715681090237524524:=0
def tw2039733733156993751:=0
def tw4631137741786505269:=0
def tw17650232744342375478:=0
def tw17064476071703929946:=0
def tw15398520005414246266:=0
def tw18426188711036910895:=0
def tw6756343780261629707:=0
def tw16489124772900301902:=0
def tw3267497376435651917:=0
def tw15952999289138882273:=0
def tw13573996022039923703:=0
def tw12105355389497504889:=0
def tw5516394565281165598:=0
def tw6446779094156669900:=0
def tw10434080548061999553:=0
def tw7320284463756479847:=0
def tw2445317522383736208:=0
def tw11228323555867147835:=0
def tw13770933122676124652:=0
def tw11987960390437244139:=0
def tw1619042157625163421:=0
def tw2199537846725895380:=0
def tw2611204042366100056:=0
def tw305005731837856652:=0
def tw3442947182560045415:=0
def tw17462664751032244001:=0
def tw5229362386860254471:=0
def tw17703555718131770959:=0
def tw10626856697376129350:=0
def tw17078224692924787507:=0
def tw9392849624133098009:=0
end PySem.W.Fast
open PySem PySem.W PyProof.Rows Lp.Law
open Lp (ModOf)
set_option maxHeartbeats 0 in
theorem PySem.Challenge.cw_lamprota_k49_even_webs_holds : PySem.Challenge.rw_lamprota_k49_even_webs.Holds := by
 w_on;o_law;k_head;(case hw=>w_witness2)
 k_fill
 refine Lp.F6 (l:=PySem.Challenge.rw_lamprota_k49_even_webs) (n:=8) ⟨rfl,by decide,by decide⟩ rfl rfl (λw h Y=>PySem.W.kIn_of Y) ?F
 case F =>
  intro w mg fa h KX G hmg
  have m0:ModOf (L2.KOf KX) mg e0:=by
   dsimp only[L2.KOf]
   refine' Lp.bt (e:=e0) KX G ?a ?l ?c ?k λ_ _ _ _ _ _=>ar2 λ_ _=>rfl
   all_goals try dsimp only[e0]
   (case a=>k_is);(case l=>k_is);(case c=>k_is);(case k=>k_is)
  have m1:ModOf (L2.KOf KX) mg e1:=by
   dsimp only[L2.KOf]
   refine' Lp.bt (e:=e1) KX G ?a ?l ?c ?k λ_ _ _ _ _ _=>ar1 λ_=>rfl
   all_goals try dsimp only[e1]
   (case a=>k_is);(case l=>k_is);(case c=>k_is);(case k=>k_is)
  have m2:ModOf (L2.KOf KX) mg e2:=by
   dsimp only[L2.KOf]
   refine' Lp.bt (e:=e2) KX G ?a ?l ?c ?k λ_ _ _ _ _ _=>ar3 λ_ _ _=>rfl
   all_goals try dsimp only[e2]
   (case a=>k_is);(case l=>k_is);(case c=>k_is);(case k=>k_is)
  have m3:ModOf (L2.KOf KX) mg e3:=by
   dsimp only[L2.KOf]
   refine' Lp.bt (e:=e3) KX G ?a ?l ?c ?k λ_ _ _ _ _ _=>ar2 λ_ _=>rfl
   all_goals try dsimp only[e3]
   (case a=>k_is);(case l=>k_is);(case c=>k_is);(case k=>k_is)
  have m4:ModOf (L2.KOf KX) mg e4:=by
   dsimp only[L2.KOf]
   refine' Lp.bt (e:=e4) KX G ?a ?l ?c ?k λ_ _ _ _ _ _=>ar3 λ_ _ _=>rfl
   all_goals try dsimp only[e4]
   (case a=>k_is);(case l=>k_is);(case c=>k_is);(case k=>k_is)
  have m5:ModOf (L2.KOf KX) mg e5:=by
   dsimp only[L2.KOf]
   refine' Lp.bt (e:=e5) KX G ?a ?l ?c ?k λ_ _ _ _ _ _=>ar3 λ_ _ _=>rfl
   all_goals try dsimp only[e5]
   (case a=>k_is);(case l=>k_is);(case c=>k_is);(case k=>k_is)
  have m6:ModOf (L2.KOf KX) mg e6:=by
   dsimp only[L2.KOf]
   refine' Lp.bt (e:=e6) KX G ?a ?l ?c ?k λ_ _ _ _ _ _=>ar2 λ_ _=>rfl
   all_goals try dsimp only[e6]
   (case a=>k_is);(case l=>k_is);(case c=>k_is);(case k=>k_is)
  have m7:ModOf (L2.KOf KX) mg e7:=by
   dsimp only[L2.KOf]
   refine' Lp.bt (e:=e7) KX G ?a ?l ?c ?k λ_ _ _ _ _ _=>ar1 λ_=>rfl
   all_goals try dsimp only[e7]
   (case a=>k_is);(case l=>k_is);(case c=>k_is);(case k=>k_is)
  have m8:ModOf (L2.KOf KX) mg e8:=by
   dsimp only[L2.KOf]
   refine' Lp.bt (e:=e8) KX G ?a ?l ?c ?k λ_ _ _ _ _ _=>ar2 λ_ _=>rfl
   all_goals try dsimp only[e8]
   (case a=>k_is);(case l=>k_is);(case c=>k_is);(case k=>k_is)
  have m9:ModOf (L2.KOf KX) mg e9:=by
   dsimp only[L2.KOf]
   refine' Lp.bt (e:=e9) KX G ?a ?l ?c ?k λ_ _ _ _ _ _=>ar2 λ_ _=>rfl
   all_goals try dsimp only[e9]
   (case a=>k_is);(case l=>k_is);(case c=>k_is);(case k=>k_is)
  have m10:ModOf (L2.KOf KX) mg e10:=by
   dsimp only[L2.KOf]
   refine' Lp.bt (e:=e10) KX G ?a ?l ?c ?k λ_ _ _ _ _ _=>ar3 λ_ _ _=>rfl
   all_goals try dsimp only[e10]
   (case a=>k_is);(case l=>k_is);(case c=>k_is);(case k=>k_is)
  have m11:ModOf (L2.KOf KX) mg e11:=by
   dsimp only[L2.KOf]
   refine' Lp.bt (e:=e11) KX G ?a ?l ?c ?k λ_ _ _ _ _ _=>ar1 λ_=>rfl
   all_goals try dsimp only[e11]
   (case a=>k_is);(case l=>k_is);(case c=>k_is);(case k=>k_is)
  have m12:ModOf (L2.KOf KX) mg e12:=by
   dsimp only[L2.KOf]
   refine' Lp.bt (e:=e12) KX G ?a ?l ?c ?k λ_ _ _ _ _ _=>ar1 λ_=>rfl
   all_goals try dsimp only[e12]
   (case a=>k_is);(case l=>k_is);(case c=>k_is);(case k=>k_is)
  have m13:ModOf (L2.KOf KX) mg e13:=by
   dsimp only[L2.KOf]
   refine' Lp.bt (e:=e13) KX G ?a ?l ?c ?k λ_ _ _ _ _ _=>ar3 λ_ _ _=>rfl
   all_goals try dsimp only[e13]
   (case a=>k_is);(case l=>k_is);(case c=>k_is);(case k=>k_is)
  have m14:ModOf (L2.KOf KX) mg e14:=by
   dsimp only[L2.KOf]
   refine' Lp.bt (e:=e14) KX G ?a ?l ?c ?k λ_ _ _ _ _ _=>ar2 λ_ _=>rfl
   all_goals try dsimp only[e14]
   (case a=>k_is);(case l=>k_is);(case c=>k_is);(case k=>k_is)
  have m15:ModOf (L2.KOf KX) mg e15:=by
   dsimp only[L2.KOf]
   refine' Lp.bt (e:=e15) KX G ?a ?l ?c ?k λ_ _ _ _ _ _=>ar2 λ_ _=>rfl
   all_goals try dsimp only[e15]
   (case a=>k_is);(case l=>k_is);(case c=>k_is);(case k=>k_is)
  have m16:ModOf (L2.KOf KX) mg e16:=by
   dsimp only[L2.KOf]
   refine' Lp.bt (e:=e16) KX G ?a ?l ?c ?k λ_ _ _ _ _ _=>ar1 λ_=>rfl
   all_goals try dsimp only[e16]
   (case a=>k_is);(case l=>k_is);(case c=>k_is);(case k=>k_is)
  have m17:ModOf (L2.KOf KX) mg e17:=by
   dsimp only[L2.KOf]
   refine' Lp.bt (e:=e17) KX G ?a ?l ?c ?k λ_ _ _ _ _ _=>ar1 λ_=>rfl
   all_goals try dsimp only[e17]
   (case a=>k_is);(case l=>k_is);(case c=>k_is);(case k=>k_is)
  have m18:ModOf (L2.KOf KX) mg e18:=by
   dsimp only[L2.KOf]
   refine' Lp.bt (e:=e18) KX G ?a ?l ?c ?k λ_ _ _ _ _ _=>ar2 λ_ _=>rfl
   all_goals try dsimp only[e18]
   (case a=>k_is);(case l=>k_is);(case c=>k_is);(case k=>k_is)
  have m19:ModOf (L2.KOf KX) mg e19:=by
   dsimp only[L2.KOf]
   refine' Lp.bt (e:=e19) KX G ?a ?l ?c ?k λ_ _ _ _ _ _=>ar2 λ_ _=>rfl
   all_goals try dsimp only[e19]
   (case a=>k_is);(case l=>k_is);(case c=>k_is);(case k=>k_is)
  have m20:ModOf (L2.KOf KX) mg e20:=by
   dsimp only[L2.KOf]
   refine' Lp.bt (e:=e20) KX G ?a ?l ?c ?k λ_ _ _ _ _ _=>ar2 λ_ _=>rfl
   all_goals try dsimp only[e20]
   (case a=>k_is);(case l=>k_is);(case c=>k_is);(case k=>k_is)
  have m21:ModOf (L2.KOf KX) mg e21:=by
   dsimp only[L2.KOf]
   refine' Lp.bt (e:=e21) KX G ?a ?l ?c ?k λ_ _ _ _ _ _=>ar2 λ_ _=>rfl
   all_goals try dsimp only[e21]
   (case a=>k_is);(case l=>k_is);(case c=>k_is);(case k=>k_is)
  have m22:ModOf (L2.KOf KX) mg e22:=by
   dsimp only[L2.KOf]
   refine' Lp.bt (e:=e22) KX G ?a ?l ?c ?k λ_ _ _ _ _ _=>ar1 λ_=>rfl
   all_goals try dsimp only[e22]
   (case a=>k_is);(case l=>k_is);(case c=>k_is);(case k=>k_is)
  have m23:ModOf (L2.KOf KX) mg e23:=by
   dsimp only[L2.KOf]
   refine' Lp.bt (e:=e23) KX G ?a ?l ?c ?k λ_ _ _ _ _ _=>ar1 λ_=>rfl
   all_goals try dsimp only[e23]
   (case a=>k_is);(case l=>k_is);(case c=>k_is);(case k=>k_is)
  have m24:ModOf (L2.KOf KX) mg e24:=by
   dsimp only[L2.KOf]
   refine' Lp.bt (e:=e24) KX G ?a ?l ?c ?k λ_ _ _ _ _ _=>ar1 λ_=>rfl
   all_goals try dsimp only[e24]
   (case a=>k_is);(case l=>k_is);(case c=>k_is);(case k=>k_is)
  have m25:ModOf (L2.KOf KX) mg e25:=by
   dsimp only[L2.KOf]
   refine' Lp.bt (e:=e25) KX G ?a ?l ?c ?k λ_ _ _ _ _ _=>ar2 λ_ _=>rfl
   all_goals try dsimp only[e25]
   (case a=>k_is);(case l=>k_is);(case c=>k_is);(case k=>k_is)
  have m26:ModOf (L2.KOf KX) mg e26:=by
   dsimp only[L2.KOf]
   refine' Lp.bt (e:=e26) KX G ?a ?l ?c ?k λ_ _ _ _ _ _=>ar2 λ_ _=>rfl
   all_goals try dsimp only[e26]
   (case a=>k_is);(case l=>k_is);(case c=>k_is);(case k=>k_is)
  have m27:ModOf (L2.KOf KX) mg e27:=by
   dsimp only[L2.KOf]
   refine' Lp.bt (e:=e27) KX G ?a ?l ?c ?k λ_ _ _ _ _ _=>ar1 λ_=>rfl
   all_goals try dsimp only[e27]
   (case a=>k_is);(case l=>k_is);(case c=>k_is);(case k=>k_is)
  have b0:mg "len"=none:=BZ KX G (by k_is)
  have b1:mg "range"=none:=BZ KX G (by k_is)
  have b2:mg "sum"=none:=BZ KX G (by k_is)
  have b3:mg "enumerate"=none:=BZ KX G (by k_is)
  have b4:mg "sorted"=none:=BZ KX G (by k_is)
  have b5:mg "min"=none:=BZ KX G (by k_is)
  have b6:mg "tuple"=none:=BZ KX G (by k_is)
  have b7:mg "int"=none:=BZ KX G (by k_is)
  have b8:mg "isinstance"=none:=BZ KX G (by k_is)
  have b9:mg "bool"=none:=BZ KX G (by k_is)
  have b10:mg "max"=none:=BZ KX G (by k_is)
  have c0:∃t,mg "SEA"=some (.int 0 t):=⟨_,Ix KX G (by k_is)⟩
  have c1:∃t,mg "LIGHT"=some (.int 1 t):=⟨_,Ix KX G (by k_is)⟩
  exact Lp.Lc (T:=Lp.GL) (es:=ents) (n:=8) (j:=27) (e:=e27) (Lp.c9 m0 (Lp.c9 m1 (Lp.c9 m2 (Lp.c9 m3 (Lp.c9 m4 (Lp.c9 m5 (Lp.c9 m6 (Lp.c9 m7 (Lp.c9 m8 (Lp.c9 m9 (Lp.c9 m10 (Lp.c9 m11 (Lp.c9 m12 (Lp.c9 m13 (Lp.c9 m14 (Lp.c9 m15 (Lp.c9 m16 (Lp.c9 m17 (Lp.c9 m18 (Lp.c9 m19 (Lp.c9 m20 (Lp.c9 m21 (Lp.c9 m22 (Lp.c9 m23 (Lp.c9 m24 (Lp.c9 m25 (Lp.c9 m26 (Lp.c9 m27 Lp.Rj)))))))))))))))))))))))))))) (λbase=>dvs (Lp.c9 b0 (Lp.c9 b1 (Lp.c9 b2 (Lp.c9 b3 (Lp.c9 b4 (Lp.c9 b5 (Lp.c9 b6 (Lp.c9 b7 (Lp.c9 b8 (Lp.c9 b9 (Lp.c9 b10 Lp.Rj))))))))))) (Lp.c9 c0 (Lp.c9 c1 Lp.Rj))) rfl hmg rfl (λns hn=>Lr.Uh ns hn)
