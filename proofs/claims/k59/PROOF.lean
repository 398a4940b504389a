import PyProof.Rows.All
import Wide.All
import OpenK.AllK
import Wide.FinOn
import Lean
import PyProof.EqAt
import PyProof.EqKinds
import PyProof.TupleCall
import PySem.Syntax
import KE.BitLaws
import PyProof.Rows.ZipGen
import PyProof.EnumMake
import PyProof.EnumFor
import PyProof.Rows.EnumRows
import PyProof.DictValues
import KE.KSortTup
import PyProof.Rows.SetFrom
import PyProof.WalksMore
import PyProof.FactsAll.set
import PyProof.ForAny
import PyProof.CollectWalk
import PyProof.ListRange
import PyProof.Rows.SortShell
import PyProof.TupleKey
import PyProof.IsRules
import KE.KIntText
import PyProof.AttrMissHeap
import PyProof.ExcClass3
import PyProof.ExcInit
import PyProof.InstStoreFacts
import PyProof.InstLoad
import PyProof.ExcArgsOwn
import PyProof.ExcAttrAll.ValueError
import PyProof.StationsW
import KE.KDictList
import PyProof.MaxThree
import PyProof.Rows.SortRuns
import PyProof.Rows.SeqRoads
import PyProof.FactsAll.range_1
import PySem.Challenge.RW_lamprota_k59_books_written
noncomputable section
local macro_rules | `(tactic| simp! [$ls,*] $[$l:location]?) => `(tactic| simp only [$ls,*] $[$l]?)
open PySem renaming wpAny_bind -> AB, wpAny_pure -> AI, wpAny_field -> BK, wpAny_setField_rec -> BM, wpAny_callSpecial?_slot -> BQ, mem_of_lookup -> CB, wpAny_loadPart' -> CF, sizeLine_eq -> CJ, wpAny_truthy_bool -> CM, wpAny_call_entry -> CN, wpAny_seqItems -> CO, wpAny_newObj_type -> CQ, wpAny_pyIter_tuple -> CW, wpAny_mono -> Do, wpAny_Call_Name_kw -> DA, call_meets -> DC, wpAny_passesOwn -> DT, richCompare_meets_room -> DY, wpAny_updateSeq_pair -> EH, wpAny_ite_split -> EM, typeIs_str -> EY, wpAny_rule -> FA, wpAny_pyIter_list -> FM, wpAny_letGo -> FO, wpAny_holding -> FU, wpAny_attempt -> FW, wpAny_onRaise -> FX, wpAny_forIn_list -> FY, noFill_tuple_add -> FZ, wpAny_isInstance -> GB, wpAny_typeOf -> GG
open PySem.Heap renaming get?_push_of_some -> AC, lt_size -> AH, get?_push_size -> AL, size_push -> CA, get?_update_other -> GI, get?_update_self -> GW
open List renaming getElem?_eq_getElem -> AE, size_toArray -> AF, prefix_refl -> AG, mem_cons -> AJ, getElem?_eq_some_iff -> AK, mem_cons_of_mem -> AO, length_cons -> AQ, mem_cons_self -> AR, getElem?_append_left -> AS, all_eq_true -> AT, not_mem_nil -> AU, length_map -> AV, length_nil -> AZ, length_append -> BA, take_of_length_le -> BC, all_cons -> BI, mem_append_right -> BJ, map_cons -> BL, mem_map -> BS, map_map -> BU, getElem?_map -> BX, getElem?_append_right -> BY, mem_of_getElem? -> BZ, mem_append -> CC, nil_prefix -> CG, getElem?_set_ne -> CI, length_take -> CK, getElem?_replicate -> CP, take_add_one -> CS, replicate_succ -> CT, getElem?_set_self -> CU, zip_cons_cons -> CV, map_append -> CZ, lookup_cons -> Db, map_nil -> DB, find?_cons -> DE, flatten_cons -> DJ, getD_eq_getElem?_getD -> DL, all_map -> DM, getElem?_zip_eq_some -> DO, forIn_cons -> DU, lookup_append -> DV, append_assoc -> Ev, eraseIdxIfInBounds_toArray -> EB, getElem?_toArray -> EC, length_drop -> ED, cons_append -> EE, getElem_mem -> EF, mem_of_mem_take -> EI, append_nil -> EJ, nodup_cons -> EK, foldl_cons -> EL, filterMap_cons -> ES, zip_nil_right -> EX, mem_singleton -> EZ, isPrefixOf_iff_prefix -> FB, drop_zero -> FC, pairwise_cons -> FF, exists_cons_of_ne_nil -> FG, drop_eq_getElem_cons -> FH, zip_nil_left -> FK, reverse_cons -> FL, getElem?_take_of_lt -> FT, any_cons -> FV, eraseIdx_cons_succ -> Go, prefix_iff_eq_take -> GD, range_succ_eq_map -> GJ, mem_filter -> GM, of_mem_zip -> GN, nil_append -> GQ, length_replicate -> GS, dropLast_eq_take -> GU, getElem?_eq_none -> GV, mem_range -> GY, forIn_nil -> HB, all_nil -> HI
open Nat renaming le_refl -> AM, lt_of_lt_of_le -> AN, ne_of_lt -> AX, mul_le_mul_right -> BR, le_trans -> BV, ne_of_gt -> CD, lt_irrefl -> CL, le_of_lt -> DX, lt_succ_self -> Gt, le_succ -> GZ, zero_le -> HA
open Bool renaming and_eq_true -> AY, false_ne_true -> BF, false_eq_true -> CH, beq_eq_decide_eq -> DH, not_eq_true' -> FN, eq_iff_iff -> GR, and_true -> HD, true_and -> HE
open Option.some renaming injEq -> BB, inj -> BP
open PySem.W renaming mg_none_of -> BH, kia_one -> DF, cellsFrom_some -> GF
open PyProof.Rows renaming slot_tuple_getitem -> BN, callWith_type1 -> BW
open Array renaming length_toList -> BO, toList_append -> Da, getElem?_toList -> DG
open PySem.F renaming slot_tuple_iterator_next -> CY, slot_enumerate_next -> DI, plainAttrs_str -> DN, args_tuple_add_2 -> DQ, entry_tuple_add -> DW, slot_tuple_add -> DZ, slot_str_split -> EG, args_tuple_iterator_next_1 -> EN, slot_zip_next -> EO, entry_tuple_iterator_next -> ET, args_str_split_2 -> FD, plainAttrs_list -> FP, entry_str_split -> FR, slot_list_pop -> GO
open Int renaming toNat_natCast -> DK, emod_nonneg -> ER, fdiv_eq_ediv_of_nonneg -> EV, emod_lt_of_pos -> FE
open PySem.AutoSeq1 renaming sub_tuple_tuple -> DP
open Prod.mk renaming injEq -> DR
open PySem.Str renaming cps_append -> EA
open PySem.Calls renaming Name_function_global -> EU, spliced_cons -> EW, spliced_nil -> FJ, callWith_builtin -> GH
open Classical renaming byContradiction -> FI
open Option renaming isSome_iff_exists -> FS, bind_some -> GA, map_eq_some_iff -> GK, map_some -> GP
open PySem.StrLaws renaming partsBetween_eq -> GC, strSub_toList -> GX
open PySem.Heap.SameBut renaming update -> HC
open PySem.SeqAt.EqAt renaming int_str -> HF, str_int -> HG, int_int -> HH
set_option Elab.async false
set_option linter.all false
set_option maxRecDepth 100000
namespace L2
open PySem PySem.Spec PyProof.Rows
noncomputable abbrev Key:=Sum Int Str
noncomputable def wa:Key->Value->Bool
 |.inl k,v=>Value.isInt k v
 |.inr x,v=>Value.isStrOf x v
noncomputable def Q7(w:World):Key->Int
 |.inl k=>hashInt k
 |.inr x=>hashStr w x
theorem ck:∀{k:Key} {v:Value},wa k v=true->(∃i t,k=Sum.inl i/\v=Value.int i t)\/(∃x t,k=Sum.inr x/\v=Value.str x t)
 |.inl i,v,h=>by
  obtain⟨t,e⟩:=Value.isInt_shape (k:=i) (v:=v) h
  exact .inl ⟨i,t,rfl,e⟩
 |.inr x,v,h=>by
  obtain⟨t,e⟩:=Value.isStrOf_shape (x:=x) (v:=v) h
  exact .inr ⟨x,t,rfl,e⟩
theorem yr(i:Int)(t:Tok):wa (.inl i) (.int i t)=true:=by simp[wa,Value.isInt]
theorem yt(x:Str)(t:Tok):wa (.inr x) (.str x t)=true:=by simp[wa,Value.isStrOf]
theorem G3(a b:Int):decide ((Sum.inl a:Key)=Sum.inl b)=(a==b):=by
 by_cases e:a=b
 ·subst e;simp
 ·have h:¬(Sum.inl a:Key)=Sum.inl b:=λq=>e (Sum.inl.inj q)
  rw[decide_eq_false h]
  exact(beq_eq_false_iff_ne.mpr e).symm
theorem G4(a b:Str):decide ((Sum.inr a:Key)=Sum.inr b)=decide (a=b):=by
 by_cases e:a=b
 ·subst e;simp
 ·have h:¬(Sum.inr a:Key)=Sum.inr b:=λq=>e (Sum.inr.inj q)
  rw[decide_eq_false h,decide_eq_false e]
theorem G5(a:Int)(b:Str):decide ((Sum.inl a:Key)=Sum.inr b)=false:=decide_eq_false (λq=>nomatch q)
theorem G6(a:Str)(b:Int):decide ((Sum.inr a:Key)=Sum.inl b)=false:=decide_eq_false (λq=>nomatch q)
noncomputable def fk(prog:Program)(w:World):PySem.KeyKind prog w Key where
 is:=wa
 hash:=Q7 w
 inj:=λv a b ha hb=>by
  rcases ck ha with⟨i,t,rfl,rfl⟩ | ⟨x,t,rfl,rfl⟩
  ·rcases ck hb with⟨j,u,rfl,e⟩ | ⟨y,u,rfl,e⟩
   ·injection e with e1 _;rw[e1]
   ·exact nomatch e
  ·rcases ck hb with⟨j,u,rfl,e⟩ | ⟨y,u,rfl,e⟩
   ·exact nomatch e
   ·injection e with e1 _;rw[e1]
 byValue:=λk v h=>by
  rcases ck h with⟨i,t,rfl,rfl⟩ | ⟨x,t,rfl,rfl⟩<;>rfl
 pyHash:=λhv h=>by
  rcases ck hv with⟨i,t,rfl,rfl⟩ | ⟨x,t,rfl,rfl⟩
  ·exact wpAny_pyHash_int h
  ·exact wpAny_pyHash_str h
 eqBool:=λhu hv h=>by
  rcases ck hu with⟨i,t,rfl,rfl⟩ | ⟨x,t,rfl,rfl⟩
  ·rcases ck hv with⟨j,u,rfl,rfl⟩ | ⟨y,u,rfl,rfl⟩
   ·rw[G3]at h;exact wpAny_eqBool_int h
   ·rw[G5]at h;exact HF i t y u _ _ _ _ h
  ·rcases ck hv with⟨j,u,rfl,rfl⟩ | ⟨y,u,rfl,rfl⟩
   ·rw[G6]at h;exact HG x t j u _ _ _ _ h
   ·rw[G4]at h;exact wpAny_eqBool_str h
 «strs»:=λk x t v h=>by
  rcases ck h with⟨i,u,rfl,e⟩ | ⟨y,u,rfl,e⟩
  ·exact nomatch e
  ·injection e with e1 _
   subst e1
   cases v<;>rfl
theorem ti(prog:Program)(w:World)(i:Int)(t:Tok):(fk prog w).is (.inl i) (.int i t)=true:=yr i t
theorem tj(prog:Program)(w:World)(x:Str)(t:Tok):(fk prog w).is (.inr x) (.str x t)=true:=yt x t
inductive V where
 |non | bl (b:Bool) | int (i:Int) | str (x:Str) | byt (b:Array UInt8) | flt (b:UInt64) | ref (a:Addr) | ty (n:String)
 deriving DecidableEq
noncomputable def RelV:V->Value->Prop
 |.non,u=>u=Value.none
 |.bl b,u=>u=Value.bool b
 |.int i,u=>∃t,u=Value.int i t
 |.str x,u=>∃t,u=Value.str x t
 |.byt b,u=>∃t,u=Value.bytes b t
 |.flt b,u=>∃t,u=Value.float b t
 |.ref a,u=>u=Value.ref a
 |.ty n,u=>u=Value.type n
noncomputable abbrev bz:List V->List Value->Prop:=Paired RelV
theorem bz.length{xs:List V}{us:List Value}(r:bz xs us):xs.length=us.length:=Paired.length r
theorem bz.get:∀{xs:List V} {us:List Value} {i:Nat} {x:V},bz xs us->xs[i]? = some x->∃u,us[i]? = some u/\RelV x u
 |_,_,_,_,.nil,e=>by simp at e
 |_,_,0,_,.cons r _,e=>by simp at e;subst e;exact⟨_,rfl,r⟩
 |_,_,i+1,x,.cons _ t,e=>by
  obtain⟨u,h1,h2⟩:=bz.get (i:=i) (x:=x) t (by simpa using e)
  exact⟨u,by simpa using h1,h2⟩
theorem bz.set{x:V}{u:Value}(r:RelV x u):∀{xs:List V} {us:List Value} (i:Nat),bz xs us->bz (xs.set i x) (us.set i u)
 |_,_,_,.nil=>.nil
 |_,_,0,.cons _ t=>.cons r t
 |_,_,i+1,.cons q t=>.cons q (bz.set r i t)
theorem bz.append:∀{xs ys:List V} {us ws:List Value},bz xs us->bz ys ws->bz (xs++ys) (us++ws)
 |_,_,_,_,.nil,s=>s
 |_,_,_,_,.cons r t,s=>.cons r (bz.append t s)
theorem bz.take:∀{xs:List V} {us:List Value} (n:Nat),bz xs us->bz (xs.take n) (us.take n)
 |_,_,0,_=>.nil
 |_,_,_+1,.nil=>.nil
 |_,_,n+1,.cons r t=>.cons r (bz.take n t)
theorem bz.drop:∀{xs:List V} {us:List Value} (n:Nat),bz xs us->bz (xs.drop n) (us.drop n)
 |_,_,0,r=>r
 |_,_,_+1,.nil=>.nil
 |_,_,n+1,.cons _ t=>bz.drop n t
noncomputable def Gw:Option V->Option Value->Prop
 |some v,some u=>RelV v u
 |none,none=>True
 |_,_=>False
noncomputable def KV{κ:Type}:List (κ×V)->List (κ×Value)->Prop:=Paired fun(p:κ×V) (q:κ×Value)=>p.1=q.1/\RelV p.2 q.2
noncomputable def kV:Key->V
 |.inl i=>.int i
 |.inr x=>.str x
inductive HO where
 /-- a list -/
 |lst (xs:List V)
 /-- a tuple (never changes) -/
 |tup (xs:List V)
 /-- a dict whose keys are ints and texts;one whose keys are tuples of ints and texts (the empty one is both) -/
 |dK (kvs:List (Key×V)) | dT (kvs:List (List Key×V))
 /-- a set of ints: its members,its size -/
 |set (S:Int->Bool) (n:Nat)
 /-- an instance of the class at C,its dict at dx,its attributes -/
 |ins (C dx:Addr) (fs:List (Str×V))
 /-- the dict of the instance at x -/
 |own (x:Addr)
 /-- the dict of an exception -/
 |xd (fs:List (Str×V))
 /-- a bound method,f of x -/
 |met (f x:Addr)
 /-- a range object lo,lo+1,.. below hi -/
 |rng (lo hi:Int)
 /-- a thing that is known to the object (the script;a dict while a loop walks it): read,never written while it is so -/
 |frz (o:Obj) (u:HO)
 /-- a code object's table -/
 |tbl (ps:Array Value)
 /-- any other thing,by what is true of its one object (a def of one's own: SetO a S n:=HO.ext λh=>..) -/
 |ext (φ:Heap->Prop)
noncomputable abbrev Hp:=Addr->Option HO
noncomputable def upd(H:Hp)(a:Addr)(o:HO):Hp:=λb=>if b=a then some o else H b
theorem bj{H:Hp}{a:Addr}{o:HO}:upd H a o a=some o:=by unfold upd;rw[if_pos rfl]
theorem av{H:Hp}{a b:Addr}{o:HO}(h:b≠a):upd H a o b=H b:=by unfold upd;rw[if_neg h]
theorem D4{H:Hp}{a:Addr}{o u:HO}:upd (upd H a o) a u=upd H a u:=by
 funext b;unfold upd;split<;>rfl
theorem tm{H:Hp}{a b:Addr}{o u:HO}(h:H a=some o)(h':H b=some u)(d:o≠u):a≠b:=by
 intro e;subst e;rw[h]at h';exact d (BP h')
theorem bg{H:Hp}{a b:Addr}{o:HO}(h:H a=some o)(h':H b=none):a≠b:=by
 intro e;subst e;rw[h]at h';cases h'
noncomputable def lh(h:Heap)(a:Addr)(items:Array Value):Prop:=∃o,h.get? a=some o/\o.cls=.type "tuple"/\o.dict=none/\∃n,o.data=.seq items n
theorem lh.tup{h:Heap}{a:Addr}{items:Array Value}(x:lh h a items):IsTup h a items:=let ⟨o,e,c,_,d⟩:=x;⟨o,e,c,d⟩
theorem lh.new(h:Heap)(items:Array Value):lh (h.push {cls:=.type "tuple",data:=.seq items}) h.objs.size items:=⟨_,AL _ rfl,rfl,rfl,_,rfl⟩
section
variable(P:Program)(w:World)
noncomputable def ip(H:Hp)(h:Heap)(a:Addr):HO->Prop
 |.lst xs=>xs.length<=sizeLine/\∃(its:List Value) (n:Nat),bz xs its/\h.get? a=some {cls:=.type "list",data:=.seq its.toArray n}
 |.tup xs=>xs.length<=sizeLine/\∃its:List Value,bz xs its/\lh h a its.toArray
 |.dK kvs=>kvs.length<=sizeLine/\(a==sysModules)=false/\∃vs,KV kvs vs/\h.DictOf (fk P w) a vs
 |.dT kvs=>kvs.length<=sizeLine/\(a==sysModules)=false/\∃xs:List (List Key×Addr×Value),
   Paired (fun(p:List Key×V) (q:List Key×Addr×Value)=>p.1=q.1/\H q.2.1=some (.tup (p.1.map kV))/\RelV p.2 q.2.2) kvs xs /\
   ∃o es ep,h.get? a=some o/\o.ExactDict/\o.data=.dict es ep/\es.toList=xs.map (entryOfKey (tupleKind (fk P w)))/\(xs.map (·.1)).Nodup
 |.set S n=>h.SetOf (intKind P w) a S n
 |.ins C dx fs=>H dx=some (.own a)/\fs.length<=1000/\dx≠a/\h.get? a=some (PySem.W.instObj C dx) /\
   ∃mA,h.Ns1 dx mA/\(∀f,Gw (fs.lookup f) (mA f))/\PySem.Within mA (fs.map (·.1))
 |.own _=>∃o,h.get? a=some o
 |.xd fs=>∃mA,h.Ns1 a mA/\∀f,Gw (fs.lookup f) (mA f)
 |.rng lo hi=>∃t u v,h.get? a=some {cls:=.type "range",data:=.fields #[.int lo t,.int hi u,.int 1 v]}
 |.frz o u=>h.get? a=some o/\ip H h a u
 |.tbl ps=>h.get? a=some {cls:=.none,data:=.fields ps}
 |.met f x=>h.get? a=some (PySem.W.methodObj (.ref f) (.ref x))
 |.ext φ=>φ h/\(∃o,h.get? a=some o)/\∀h1 h2:Heap,φ h1->(∀o,h1.get? a=some o->h2.get? a=some o)->φ h2
noncomputable def HOk(H:Hp)(h:Heap):Prop:=∀a o,H a=some o->ip P w H h a o
end
section
variable{P:Program}{w:World}{H H' : Hp}{h h' : Heap}{a:Addr}{o:HO}
theorem ip.lt(x:ip P w H h a o):a<h.objs.size:=by
 cases o with
 |lst xs=>obtain⟨_,_,_,_,e⟩:=x;exact AH e
 |tup xs=>obtain⟨_,_,_,p⟩:=x;exact p.tup.lt
 |dK kvs=>obtain⟨_,_,_,_,o,_,_,e,_⟩:=x;exact AH e
 |dT kvs=>obtain⟨_,_,_,_,o,_,_,e,_⟩:=x;exact AH e
 |set S n=>obtain⟨o,_,_,_,e,_⟩:=x;exact AH e
 |ins C dx fs=>obtain⟨_,_,_,e,_⟩:=x;exact AH e
 |own y=>obtain⟨_,e⟩:=x;exact AH e
 |xd fs=>obtain⟨_,⟨_,_,_,e,_⟩,_⟩:=x;exact AH e
 |rng lo hi=>obtain⟨_,_,_,e⟩:=x;exact AH e
 |frz ob u=>obtain⟨e,_⟩:=x;exact AH e
 |tbl ps=>exact AH (show h.get? a=some _ from x)
 |met f y=>exact AH (show h.get? a=some _ from x)
 |ext φ=>obtain⟨_,⟨_,e⟩,_⟩:=x;exact AH e
theorem Paired.mapP{α β:Type}{F G:α->β->Prop}:∀{l₁:List α} {l₂:List β},Paired F l₁ l₂->(∀a b,F a b->G a b)->Paired G l₁ l₂
 |_,_,.nil,_=>.nil
 |_,_,.cons r t,f=>.cons (f _ _ r) (Paired.mapP t f)
theorem ip.stay (x:ip P w H h a o) (k:∀b u,(b=a\/H b=some (.own a))->h.get? b=some u->h'.get? b=some u)
  (ho:∀b,H b=some (.own a)->H' b=some (.own a)) (ht:∀b xs,H b=some (.tup xs)->H' b=some (.tup xs)):ip P w H' h' a o:=by
 induction o with
 |lst xs=>obtain⟨z,its,n,r,e⟩:=x;exact⟨z,its,n,r,k _ _ (.inl rfl) e⟩
 |tup xs=>obtain⟨z,its,r,ob,e,c⟩:=x;exact⟨z,its,r,ob,k _ _ (.inl rfl) e,c⟩
 |dK kvs=>obtain⟨z,y,vs,r,ob,es,ep,e,c⟩:=x;exact⟨z,y,vs,r,ob,es,ep,k _ _ (.inl rfl) e,c⟩
 |dT kvs =>
  obtain⟨z,y,xs,r,ob,es,ep,e,c⟩:=x
  exact⟨z,y,xs,Paired.mapP r λp q z=>⟨z.1,ht _ _ z.2.1,z.2.2⟩,ob,es,ep,k _ _ (.inl rfl) e,c⟩
 |set S n=>obtain⟨ob,es,ep,t,e,c⟩:=x;exact⟨ob,es,ep,t,k _ _ (.inl rfl) e,c⟩
 |ins C dx fs =>
  obtain⟨d,z,ne,e,mA,⟨od,es,ep,e2,c⟩,r⟩:=x
  exact⟨ho _ d,z,ne,k _ _ (.inl rfl) e,mA,⟨od,es,ep,k _ _ (.inr d) e2,c⟩,r⟩
 |own y=>obtain⟨ob,e⟩:=x;exact⟨ob,k _ _ (.inl rfl) e⟩
 |xd fs=>obtain⟨mA,⟨od,es,ep,e,c⟩,r⟩:=x;exact⟨mA,⟨od,es,ep,k _ _ (.inl rfl) e,c⟩,r⟩
 |rng lo hi=>obtain⟨t,u,v,e⟩:=x;exact⟨t,u,v,k _ _ (.inl rfl) e⟩
 |frz ob u ih=>obtain⟨e,q⟩:=x;exact⟨k _ _ (.inl rfl) e,ih q⟩
 |tbl ps =>
  have e:h.get? a=some {cls:=.none,data:=.fields ps}:=x
  show h'.get? a=some {cls:=.none,data:=.fields ps}
  exact k a _ (.inl rfl) e
 |met f y =>
  have e:h.get? a=some (PySem.W.methodObj (.ref f) (.ref y)):=x
  show h'.get? a=some (PySem.W.methodObj (.ref f) (.ref y))
  exact k a _ (.inl rfl) e
 |ext φ=>obtain⟨p,⟨o,e⟩,st⟩:=x;exact⟨st _ _ p λo q=>k _ _ (.inl rfl) q,⟨o,k _ _ (.inl rfl) e⟩,st⟩
theorem HOk.lt(x:HOk P w H h)(e:H a=some o):a<h.objs.size:=(x a o e).lt
theorem HOk.fresh(x:HOk P w H h)(e:h.objs.size<=a):H a=none:=by
 cases q:H a with
 |none=>rfl
 |some u=>exact absurd (AN (x.lt q) e) (CL _)
theorem HOk.kept(x:HOk P w H h)(k:∀b u,h.get? b=some u->h'.get? b=some u):HOk P w H h':=λa o e =>
 (x a o e).stay (λb u _ q=>k b u q) (λ_ q=>q) λ_ _ q=>q
theorem HOk.laid(x:HOk P w H h)(k:∀b u,h.get? b=some u->h'.get? b=some u)(hp:h.objs.size<=a)(new:ip P w (upd H a o) h' a o):HOk P w (upd H a o) h':=λb u e=>by
 have hn:=x.fresh hp
 by_cases hb:b=a
 ·subst hb;rw[bj]at e;cases e;exact new
 ·rw[av hb]at e
  exact(x b u e).stay (λc v _ q=>k c v q) (λc q=>by rw[av (bg q hn)];exact q) λc xs q=>by rw[av (bg q hn)];exact q
end
noncomputable def Rd(H:Hp)(a:Addr)(u:HO):Prop:=H a=some u\/∃o,H a=some (.frz o u)
theorem Rd.ok{P:Program}{w:World}{H:Hp}{h:Heap}{a:Addr}{u:HO}(r:Rd H a u)(x:HOk P w H h):ip P w H h a u:=by
 rcases r with r | ⟨o,r⟩
 ·exact x a u r
 ·obtain⟨_,q⟩:=x a _ r
  exact q
noncomputable def Mut:Option HO->Prop
 |some (.lst _)=>True
 |some (.dK _)=>True
 |some (.dT _)=>True
 |some (.set _ _)=>True
 |some (.ins _ _ _)=>True
 |some (.ext _)=>True
 |_=>False
section
variable{P:Program}{w:World}{H:Hp}{h h' : Heap}{x e:Addr}{o' : HO}
theorem HOk.write (ok:HOk P w H h) (mu:Mut (H x)) (he:e=x\/H e=some (.own x)) (k:∀b u,b≠e->h.get? b=some u->h'.get? b=some u) (heo:∃u,h'.get? e=some u)
  (new:ip P w (upd H x o') h' x o'):HOk P w (upd H x o') h':=λb u q=>by
 have nown:∀c y,H c=some (.own y)->c≠x:=λc y r z=>by subst z;rw[r]at mu;exact mu
 have ntup:∀c xs,H c=some (.tup xs)->c≠x:=λc xs r z=>by subst z;rw[r]at mu;exact mu
 by_cases hb:b=x
 ·subst hb;rw[bj]at q;cases q;exact new
 ·rw[av hb]at q
  by_cases hbe:b=e
  ·have q':H b=some (.own x):=by
    rcases he with z | z
    ·exact absurd (hbe.trans z) hb
    ·rw[hbe];exact z
   rw[q]at q';cases q'
   obtain⟨v,hv⟩:=heo
   exact⟨v,by rw[hbe];exact hv⟩
  ·refine(ok b u q).stay (λc v hc r=>k c v ?_ r) (λc r=>by rw[av (nown c b r)];exact r) λc xs r=>by rw[av (ntup c xs r)];exact r
   rcases hc with rfl | hc
   ·exact hbe
   ·rintro rfl
    rcases he with z | z
    ·exact nown c b hc z
    ·rw[hc]at z;cases z;exact hb rfl
end
structure Un (fs ex:List Addr) (H H':Hp) (h h':Heap):Prop where
 keep:∀b o,h.get? b=some o->H b=none->b∉fs->b∉ex->h'.get? b=some o
 slot:∀b o,h.get? b=some o->H b=none->b∈fs->b∉ex->∃sl,h'.get? b=some {o with slots:=sl}
 free:∀b o,h.get? b=some o->H b=none->b∉ex->H' b=none
 there:∀b o,h.get? b=some o->b∉ex->∃o',h'.get? b=some o'
 tups:∀b xs,H b=some (.tup xs)->H' b=some (.tup xs)
 frzs:∀b o u,H b=some (.frz o u)->H' b=some (.frz o u)
 tbls:∀b ps,H b=some (.tbl ps)->∃more,H' b=some (.tbl (ps++more))
section
variable{fs fs' ex ex' : List Addr}{H H1 H2:Hp}{h h1 h2 h' : Heap}{a x e:Addr}{o:HO}
theorem Un.any(u:Un fs ex H H1 h h1){b:Addr}{ob:Obj}(q:h.get? b=some ob)(n:H b=none)(hx:b∉ex):∃sl,h1.get? b=some {ob with slots:=sl}:=by
 by_cases hb:b∈fs
 ·exact u.slot b ob q n hb hx
 ·exact⟨ob.slots,u.keep b ob q n hb hx⟩
theorem Un.kept(k:∀b u,h.get? b=some u->h'.get? b=some u):Un fs ex H H h h' :=
 ⟨λb ob q _ _ _=>k b ob q,λb ob q _ _ _=>⟨ob.slots,k b ob q⟩,λ_ _ _ n _=>n,λb ob q _=>⟨ob,k b ob q⟩,λ_ _ q=>q,λ_ _ _ q=>q,λ_ ps q=>⟨#[],by rw[q];simp⟩⟩
theorem Un.refl:Un fs ex H H h h:=Un.kept λ_ _ q=>q
theorem Un.laid(k:∀b u,h.get? b=some u->h'.get? b=some u)(hp:h.objs.size<=a)(hn:H a=none):Un fs ex H (upd H a o) h h' where
 keep:=λb u q _ _ _=>k b u q
 slot:=λb u q _ _ _=>⟨u.slots,k b u q⟩
 free:=λb u q n _=>by rw[av (AX (AN (AH q) hp))];exact n
 there:=λb u q _=>⟨u,k b u q⟩
 tups:=λb xs q=>by rw[av (bg q hn)];exact q
 frzs:=λb u xs q=>by rw[av (bg q hn)];exact q
 tbls:=λb ps q=>⟨#[],by rw[av (bg q hn),q];simp⟩
theorem Un.write(mu:Mut (H x))(he:e=x\/H e=some (.own x))(k:∀b u,b≠e->h.get? b=some u->h'.get? b=some u)(heo:∃u,h'.get? e=some u):Un fs ex H (upd H x o) h h':=by
 have hx:∀b,H b=none->b≠x:=λb n z=>by subst z;rw[n]at mu;exact mu
 have hb:∀b,H b=none->b≠e:=λb n z=>by
  subst z
  rcases he with r | r
  ·exact hx b n r
  ·rw[n]at r;cases r
 have hm:∀b u,H b=some u->¬Mut (some u)->b≠x:=λb u q nm z=>by subst z;rw[q]at mu;exact nm mu
 refine⟨λb u q n _ _=>k b u (hb b n) q,λb u q n _ _=>⟨u.slots,k b u (hb b n) q⟩,λb u q n _=>by rw[av (hx b n)];exact n,λb u q _=>?_,
  λb xs q=>by rw[av (hm b _ q λz=>z)];exact q,λb u xs q=>by rw[av (hm b _ q λz=>z)];exact q,λb ps q=>⟨#[],by rw[av (hm b _ q λz=>z),q];simp⟩⟩
 by_cases hbe:b=e
 ·subst hbe;exact heo
 ·exact⟨u,k b u hbe q⟩
end
noncomputable def trk(h:Heap)(H:Hp):List Addr:=(List.range h.objs.size).filter λa=>(H a).isSome
noncomputable def Bf(h:Heap)(H:Hp):Heap:=PySem.W.hideAll h (trk h H)
theorem yu(h:Heap)(H:Hp):(Bf h H).objs.size=h.objs.size:=PySem.W.hideAll_size _ _
theorem Bg{h:Heap}{H:Hp}{b:Addr}{o:Obj}(e:h.get? b=some o)(n:H b=none):(Bf h H).get? b=some o :=
 PySem.W.hideAll_get _ e λhm=>by
  have q:(H b).isSome=true:=(GM.mp hm).2
  rw[n]at q;simp at q
theorem D5{h:Heap}{H:Hp}{b:Addr}{o:Obj}(e:(Bf h H).get? b=some o):h.get? b=some o/\H b=none:=by
 have e':h.get? b=some o:=PySem.W.of_hideAll (trk h H) e
 refine⟨e',?_⟩
 cases q:H b with
 |none=>rfl
 |some x =>
  have hm:b∈trk h H:=GM.mpr ⟨GY.mpr (AH e'),by simp[q]⟩
  have z:(Bf h H).get? b=none:=PySem.W.hideAll_none (trk h H) hm
  rw[z]at e;cases e
noncomputable def D6(g h:Heap)(L:Addr):List (Addr×Obj):=(List.range h.objs.size).filterMap λa=>if a=L\/(g.get? a).isSome=true then none else(h.get? a).map λo=>(a,o)
noncomputable def rest(g h:Heap)(L d:Addr):List (Addr×Obj):=(D6 g h L).filter λp=>decide (p.1≠d)
structure Mod (K:PySem.W.Frag) (mg:Str->Option Value) (base:Heap):Prop where
 kin:K.In base
 glob:base.Ns mainGlobals mg
 blt:∃mb,base.Ns builtinsNs mb/\∀x:Str,x≠"__name__"->mb x=bootBuiltins x
 nolimit:base.NoLimit
structure Cx where
 prog:Program
 w:World
 K:PySem.W.Frag
 mg:Str->Option Value
 base:Heap
 A:Around
 N:List Str
 s₀:Shared
 H₀:Hp
 env:Env
 outer:List Env
 stack:List Env
 ex:List Addr
 fn:Str->Bool
 calm:Bool
 pn:List (Addr×Obj)
 xe:Value->Shared->Prop
noncomputable def frs(l:List Env):List Addr:=l.filterMap (·.frame)
noncomputable abbrev Cx.fs(X:Cx):List Addr:=frs X.outer
noncomputable def Vis(sc:Scope)(x:Str):Prop:=sc.names.lookup x=some .local\/sc.names.lookup x=some .cell\/sc.names.lookup x=some .free
noncomputable def Loc(sc:Scope)(x:Str):Prop:=sc.names.lookup x=some .local\/sc.names.lookup x=some .cell
noncomputable def Look(env:Env)(h:Heap)(m:Str->Option Value)(x:Str)(u:Value):Prop :=
 (env.kindOf x=some .local/\m x=some u)\/((env.kindOf x=some .cell\/env.kindOf x=some .free)/\∃c,env.cells.lookup x=some c/\h.IsCell c (some u))
structure Cx.Ok (X:Cx):Prop where
 mod:Mod X.K X.mg X.base
 kind:X.env.scope.kind=.function
 glob:X.env.globals=mainGlobals
 blt:X.env.builtins=builtinsNs
 above:X.s₀.heap.objs.size<=X.env.locals
 inj:∀x y c,X.env.cells.lookup x=some c->X.env.cells.lookup y=some c->x=y
 has:∀x,(X.env.kindOf x=some .cell\/X.env.kindOf x=some .free)->∃c,X.env.cells.lookup x=some c
 cab:∀x c,X.fn x=true->X.env.cells.lookup x=some c->X.s₀.heap.objs.size<=c
 hd:X.calm=true->X.A.handled=none
 frames:X.A.frames=some X.stack
 stk:X.stack=X.outer\/(X.stack=X.env::X.outer/\X.env.frame=some X.env.locals)
 exf:∀b∈X.ex,b≠X.env.locals/\∀x c,X.env.cells.lookup x=some c->c≠b
 bs:∀b o,X.base.get? b=some o->X.s₀.heap.get? b=some o/\X.H₀ b=none
 bsz:X.base.objs.size<=X.s₀.heap.objs.size
 noex:∀b o,X.base.get? b=some o->b∉X.ex
 exfs:∀b∈X.ex,b∉X.fs
 funs:X.s₀.heap.FunFrames X.base X.outer
 frf:∀b∈X.fs,X.H₀ b=none
structure Inv (X:Cx) (pins:List (Addr×Obj)) (σ:List (Option V)) (H:Hp) (s:Shared):Prop where
 ok:X.Ok
 os:s.os=X.s₀.os
 bare:AllBare s.gens
 base:Un X.fs X.ex X.H₀ H X.s₀.heap s.heap
 loc:∃m,s.heap.Ns X.env.locals m/\∀(i:Nat) (x:Str) (v:V),X.N[i]? = some x->σ[i]? = some (some v)->Vis X.env.scope x->∃u,RelV v u/\Look X.env s.heap m x u
 cell:∀x c,X.env.cells.lookup x=some c->∃v,s.heap.IsCell c v
 free:H X.env.locals=none
 freeC:∀x c,X.env.cells.lookup x=some c->H c=none
 pin:∀p∈X.pn++pins,s.heap.get? p.1=some p.2/\H p.1=none/\p.1≠X.env.locals/\p.1∉X.fs/\∀v,p.2.data≠.cell v
 hok:HOk X.prog X.w H s.heap
 len:σ.length=X.N.length
section
variable{X:Cx}{pins:List (Addr × Obj)}{σ:List (Option V)}{H H' : Hp}{s:Shared}{h' : Heap}
theorem Cx.Ok.nofr(ok:X.Ok){b:Addr}{o:Obj}(e:X.base.get? b=some o):b∉X.fs:=λhb=>by
 have:=(ok.funs.mem hb).1
 rw[e]at this;cases this
theorem Inv.bs(I:Inv X pins σ H s):∀b o,X.base.get? b=some o->s.heap.get? b=some o/\H b=none:=λb o e =>
 ⟨I.base.keep b o (I.ok.bs b o e).1 (I.ok.bs b o e).2 (I.ok.nofr e) (I.ok.noex b o e),I.base.free b o (I.ok.bs b o e).1 (I.ok.bs b o e).2 (I.ok.noex b o e)⟩
theorem Inv.bk(I:Inv X pins σ H s):∀b o,X.base.get? b=some o->s.heap.get? b=some o:=λb o e=>(I.bs b o e).1
theorem Inv.mod(I:Inv X pins σ H s):Mod X.K X.mg X.base:=I.ok.mod
theorem Inv.kIn(I:Inv X pins σ H s):X.K.In s.heap:=I.ok.mod.kin.keeps I.bk
theorem Inv.fr(I:Inv X pins σ H s):∃m,Fr X.base X.env.locals s.heap m :=
 let ⟨m,hn,_⟩:=I.loc
 ⟨m,hn,I.bk,BV I.ok.bsz I.ok.above⟩
theorem Inv.lt(I:Inv X pins σ H s):X.env.locals<s.heap.objs.size:=let ⟨_,hn,_⟩:=I.loc;hn.lt
theorem Inv.sz(I:Inv X pins σ H s):X.s₀.heap.objs.size<=s.heap.objs.size:=BV I.ok.above (DX I.lt)
theorem Inv.nofs(I:Inv X pins σ H s){a:Addr}(h:s.heap.objs.size<=a):a∉X.fs:=λhb=>by
 obtain⟨_,o,ho,_⟩:=I.ok.funs.mem hb
 exact absurd (AN (AH ho) (BV I.sz h)) (CL _)
theorem Inv.cne(I:Inv X pins σ H s):∀x c,X.env.cells.lookup x=some c->c≠X.env.locals:=λx c e z=>by
 obtain⟨v,o,ho,hd⟩:=I.cell x c e
 obtain⟨m,⟨o',es,ep,ho',hd',_⟩,_⟩:=I.loc
 rw[z,ho']at ho;cases ho;rw[hd']at hd;cases hd
theorem Inv.funs(I:Inv X pins σ H s):s.heap.FunFrames X.base X.outer:=by
 have all:∀(l:List Env),(∀b∈frs l,b∈X.fs)->X.s₀.heap.FunFrames X.base l->s.heap.FunFrames X.base l:=by
  intro l
  induction l with
  |nil=>intro _ _;trivial
  |cons env r ih =>
   intro hs hl
   obtain⟨hk,⟨L,o,hf,hn,ho,hd⟩,hr⟩:=hl
   have hL:L∈X.fs:=hs L (by unfold frs;rw[ES,hf];exact AR)
   obtain⟨sl,e⟩:=I.base.slot L o ho (I.ok.frf L hL) hL λz=>I.ok.exfs L z hL
   exact⟨hk,⟨L,_,hf,hn,e,hd⟩,ih (λb hb=>hs b (by unfold frs;rw[ES,hf];exact AO _ hb)) hr⟩
 exact all X.outer (λ_ hb=>hb) I.ok.funs
theorem Inv.stack(I:Inv X pins σ H s):s.heap.FunFrames X.base X.stack:=by
 rcases I.ok.stk with e | ⟨e,hf⟩
 ·rw[e];exact I.funs
 ·rw[e]
  obtain⟨m,hn,_⟩:=I.loc
  refine .cons (by rw[I.ok.kind];decide) hf hn ?_ I.funs
  exact Heap.get?_none_of_le (BV I.ok.bsz I.ok.above)
theorem Inv.stkSub(I:Inv X pins σ H s):∀b∈frs X.stack,b∈X.env.locals::X.fs:=λb hb=>by
 rcases I.ok.stk with e | ⟨e,hf⟩
 ·rw[e]at hb;exact AO _ hb
 ·rw[e]at hb
  unfold frs at hb
  rw[ES,hf]at hb
  exact hb
theorem Inv.stkFree(I:Inv X pins σ H s):∀b∈frs X.stack,H b=none:=λb hb=>by
 rcases AJ.mp (I.stkSub b hb)with e | hb
 ·rw[e];exact I.free
 ·obtain⟨_,o,ho,_⟩:=I.ok.funs.mem hb
  exact I.base.free b o ho (I.ok.frf b hb) λz=>I.ok.exfs b z hb
theorem Inv.step {g':Array GenState} {t':Nat} {d':Drawn} {ch:List Addr} (I:Inv X pins σ H s)
  (hch:∀b∈ch,(b∈X.ex\/X.s₀.heap.objs.size<=b)/\b≠X.env.locals/\(∀x c,X.env.cells.lookup x=some c->c≠b)/\∀p∈X.pn++pins,p.1≠b)
  (keep:∀b o,b≠X.env.locals->b∉X.fs->b∉ch->s.heap.get? b=some o->H b=none->h'.get? b=some o)
  (slot:∀b o,b≠X.env.locals->b∈X.fs->b∉ch->s.heap.get? b=some o->H b=none->∃sl,h'.get? b=some {o with slots:=sl}) (free:∀b o,b∉ch->s.heap.get? b=some o->H b=none->H' b=none)
  (there:∀b o,b∉ch->s.heap.get? b=some o->∃o',h'.get? b=some o')
  (tups:∀b xs,H b=some (.tup xs)->H' b=some (.tup xs)) (frzs:∀b o u,H b=some (.frz o u)->H' b=some (.frz o u)) (tbls:∀b ps,H b=some (.tbl ps)->∃more,H' b=some (.tbl (ps++more)))
  (ns:∀m,s.heap.Ns X.env.locals m->h'.Ns X.env.locals m) (hok:HOk X.prog X.w H' h') (hg:AllBare g') :
  Inv X pins σ H' {s with heap:=h',gens:=g',drawn:=d',toks:=t'}:=by
 have neL:∀b o,X.s₀.heap.get? b=some o->b≠X.env.locals:=λb o e=>AX (AN (AH e) I.ok.above)
 have neC:∀b o,X.s₀.heap.get? b=some o->b∉X.ex->b∉ch:=λb o e hx hb=>by
  rcases(hch b hb).1 with z | z
  ·exact hx z
  ·exact absurd (AN (AH e) z) (CL _)
 have cellK:∀x c,X.env.cells.lookup x=some c->∀v,s.heap.IsCell c v->h'.IsCell c v:=λx c e v ⟨o,ho,hd⟩=>by
  have nch:c∉ch:=λz=>(hch c z).2.2.1 x c e rfl
  by_cases hc:c∈X.fs
  ·obtain⟨sl,q⟩:=slot c o (I.cne x c e) hc nch ho (I.freeC x c e)
   exact⟨_,q,hd⟩
  ·exact⟨o,keep c o (I.cne x c e) hc nch ho (I.freeC x c e),hd⟩
 refine⟨I.ok,I.os,hg,⟨λb o e n hb hx=>?_,λb o e n hb hx=>?_,λb o e n hx=>?_,λb o e hx=>?_,λb xs e=>tups b xs (I.base.tups b xs e),λb o xs e=>frzs b o xs (I.base.frzs b o xs e),λb ps e=>?_⟩,?_,λx c e=>?_,?_,λx c e=>?_,λp hp=>?_,hok,I.len⟩
 ·exact keep b o (neL b o e) hb (neC b o e hx) (I.base.keep b o e n hb hx) (I.base.free b o e n hx)
 ·obtain⟨sl,e1⟩:=I.base.slot b o e n hb hx
  obtain⟨sl',e2⟩:=slot b _ (neL b o e) hb (neC b o e hx) e1 (I.base.free b o e n hx)
  exact⟨sl',e2⟩
 ·obtain⟨o',e1⟩:=I.base.there b o e hx
  exact free b o' (neC b o e hx) e1 (I.base.free b o e n hx)
 ·obtain⟨o',e1⟩:=I.base.there b o e hx
  exact there b o' (neC b o e hx) e1
 ·obtain⟨m1,e1⟩:=I.base.tbls b ps e
  obtain⟨m2,e2⟩:=tbls b _ e1
  exact⟨m1++m2,by rw[e2,Array.append_assoc]⟩
 ·obtain⟨m,hn,hl⟩:=I.loc
  refine⟨m,ns m hn,λi x v e1 e2 e3=>?_⟩
  obtain⟨u,r,l⟩:=hl i x v e1 e2 e3
  refine⟨u,r,?_⟩
  rcases l with l | ⟨k,c,e,z⟩
  ·exact .inl l
  ·exact .inr ⟨k,c,e,cellK x c e _ z⟩
 ·obtain⟨v,z⟩:=I.cell x c e
  exact⟨v,cellK x c e v z⟩
 ·obtain⟨m,⟨o,_,_,ho,_⟩,_⟩:=I.loc
  exact free _ o (λz=>(hch _ z).2.1 rfl) ho I.free
 ·obtain⟨v,o,ho,hd⟩:=I.cell x c e
  exact free c o (λz=>(hch c z).2.2.1 x c e rfl) ho (I.freeC x c e)
 ·obtain⟨e,n,ne,nf,d⟩:=I.pin p hp
  have nch:p.1∉ch:=λz=>(hch p.1 z).2.2.2 p hp rfl
  exact⟨keep p.1 p.2 ne nf nch e n,free p.1 p.2 nch e n,ne,nf,d⟩
theorem Inv.un{t':Nat}(I:Inv X pins σ H s)(u:Un X.fs [] H H' s.heap h')(hok:HOk X.prog X.w H' h'):Inv X pins σ H' {s with heap:=h',toks:=t'}:=by
 obtain⟨m,⟨o,es,ep,ho,r⟩,_⟩:=id I.loc
 obtain⟨sl,hL⟩:=u.any ho I.free (by simp)
 exact I.step (g':=s.gens) (d':=s.drawn) (ch:=[]) (λ_ z=>nomatch z) (λb o _ hb _ e n=>u.keep b o e n hb (by simp)) (λb o _ hb _ e n=>u.slot b o e n hb (by simp)) (λb o _ e n=>u.free b o e n (by simp)) (λb o _ e=>u.there b o e (by simp)) u.tups u.frzs u.tbls (λm' hm=>by
  obtain⟨o',es',ep',ho',r'⟩:=hm
  rw[ho]at ho';cases ho'
  exact⟨_,es',ep',hL,r'⟩) hok I.bare
theorem Inv.call {g':Array GenState} {t':Nat} {d':Drawn} {ch:List Addr} (I:Inv X pins σ H s) (u:Un (frs X.stack) ch H H' s.heap h') (hok:HOk X.prog X.w H' h') (hg:AllBare g')
  (hch:∀b∈ch,(b∈X.ex\/X.s₀.heap.objs.size<=b)/\b≠X.env.locals/\(∀x c,X.env.cells.lookup x=some c->c≠b)/\∀p∈X.pn++pins,p.1≠b) :
  Inv X pins σ H' {s with heap:=h',gens:=g',drawn:=d',toks:=t'}:=by
 obtain⟨m,⟨o,es,ep,ho,r⟩,_⟩:=id I.loc
 obtain⟨sl,hL⟩:=u.any ho I.free λz=>(hch _ z).2.1 rfl
 exact I.step (ch:=ch) hch (λb o hL hb hc e n=>u.keep b o e n (λz=>(AJ.mp (I.stkSub b z)).elim hL hb) hc) (λb o _ _ hc e n=>u.any e n hc) (λb o hc e n=>u.free b o e n hc) (λb o hc e=>u.there b o e hc) u.tups u.frzs u.tbls (λm' hm=>by
  obtain⟨o',es',ep',ho',r'⟩:=hm
  rw[ho]at ho';cases ho'
  exact⟨_,es',ep',hL,r'⟩) hok hg
theorem Inv.turned {t':Nat} {it:Addr} (I:Inv X pins σ H s) (k:∀b o,b≠it->s.heap.get? b=some o->h'.get? b=some o) (hn:H it=none) (hL:it≠X.env.locals)
  (h1:it∈X.ex\/X.s₀.heap.objs.size<=it) (h2:∀x c,X.env.cells.lookup x=some c->c≠it) (h3:∀p∈X.pn++pins,p.1≠it):Inv X pins σ H {s with heap:=h',toks:=t'}:=by
 have nit:∀b u,H b=some u->b≠it:=λb u e z=>by rw[z,hn]at e;cases e
 refine I.step (g':=s.gens) (d':=s.drawn) (ch:=[it]) (λb hb=>?_) (λb o _ _ hc e _=>k b o (λz=>hc (by simp[z])) e) (λb o _ _ hc e _=>⟨o.slots,k b o (λz=>hc (by simp[z])) e⟩) (λ_ _ _ _ n=>n)
  (λb o hc e=>⟨o,k b o (λz=>hc (by simp[z])) e⟩) (λ_ _ e=>e) (λ_ _ _ e=>e) (λb ps e=>⟨#[],by rw[e];simp⟩) (λm hm=>?_) (λb u e=>?_) I.bare
 ·have e:b=it:=by simpa using hb
  subst e
  exact⟨h1,hL,h2,h3⟩
 ·obtain⟨o,es,ep,ho,r⟩:=hm
  exact⟨o,es,ep,k _ o (Ne.symm hL) ho,r⟩
 ·refine(I.hok b u e).stay (λc v hc q=>k c v ?_ q) (λ_ q=>q) λ_ _ q=>q
  rcases hc with z | z
  ·rw[z];exact nit b u e
  ·exact nit c _ z
theorem Inv.tok(I:Inv X pins σ H s)(t:Nat):Inv X pins σ H {s with toks:=t}:=I.un (h':=s.heap) (t':=t) Un.refl I.hok
theorem Inv.kept{t':Nat}(I:Inv X pins σ H s)(k:∀b u,s.heap.get? b=some u->h'.get? b=some u):Inv X pins σ H {s with heap:=h',toks:=t'}:=I.un (Un.kept k) (I.hok.kept k)
theorem Inv.laid{a:Addr}{o:HO}{t':Nat}(I:Inv X pins σ H s)(k:∀b u,s.heap.get? b=some u->h'.get? b=some u)(hp:s.heap.objs.size<=a)(new:ip X.prog X.w (upd H a o) h' a o) :
  Inv X pins σ (upd H a o) {s with heap:=h',toks:=t'}:=I.un (Un.laid k hp (I.hok.fresh hp)) (I.hok.laid k hp new)
theorem Inv.write {x e:Addr} {o:HO} {t':Nat} (I:Inv X pins σ H s) (mu:Mut (H x)) (he:e=x\/H e=some (.own x)) (k:∀b u,b≠e->s.heap.get? b=some u->h'.get? b=some u) (heo:∃u,h'.get? e=some u)
  (new:ip X.prog X.w (upd H x o) h' x o):Inv X pins σ (upd H x o) {s with heap:=h',toks:=t'}:=I.un (Un.write mu he k heo) (I.hok.write mu he k heo new)
theorem Inv.weak{σ':List (Option V)}(I:Inv X pins σ H s)(hl:σ'.length=σ.length)(w:∀(i:Nat) v,σ'[i]? = some (some v)->σ[i]? = some (some v)):Inv X pins σ' H s :=
 ⟨I.ok,I.os,I.bare,I.base,let ⟨m,hn,hl'⟩:=I.loc;⟨m,hn,λi x v e1 e2 e3=>hl' i x v e1 (w i v e2) e3⟩,I.cell,I.free,I.freeC,I.pin,I.hok,hl.trans I.len⟩
theorem Inv.pins_of{pins':List (Addr×Obj)}(I:Inv X pins σ H s)(h:∀p∈pins',s.heap.get? p.1=some p.2/\H p.1=none/\p.1≠X.env.locals/\p.1∉X.fs/\∀v,p.2.data≠.cell v):Inv X pins' σ H s :=
 ⟨I.ok,I.os,I.bare,I.base,I.loc,I.cell,I.free,I.freeC,λp hp=>(CC.mp hp).elim (λz=>I.pin p (List.mem_append_left _ z)) (h p),I.hok,I.len⟩
theorem va{N:List Str}(hN:N.Nodup){i j:Nat}{x:Str}(a:N[i]? = some x)(b:N[j]? = some x):i=j:=by
 obtain⟨h1,e1⟩:=AK.mp a
 obtain⟨h2,e2⟩:=AK.mp b
 exact(List.getElem_inj hN).mp (e1.trans e2.symm)
theorem qr {M:Model} {A:Around} {E:Value->Shared->Prop} {i:Nat} {x:Str} {v:V} {u:Value} {Q:Unit->Shared->Prop} (I:Inv X pins σ H s) (hN:X.N.Nodup) (hi:X.N[i]? = some x) (hx:Loc X.env.scope x) (r:RelV v u)
  (h:∀s',Inv X pins (σ.set i (some v)) H s'->(∃a,Heap.SameBut a s.heap s'.heap/\(a=X.env.locals\/X.env.cells.lookup x=some a))->Q () s') (hf:X.fn x=true\/X.env.scope.names.lookup x=some .local:=by first | exact .inl rfl | exact .inr rfl | assumption):wpAny M A (storeName X.env x u) Q E s:=by
 obtain⟨m,hn,hl⟩:=id I.loc
 have hcls:(X.env.scope.kind==.class || (X.env.scope.kind==.module&&X.env.locals != X.env.globals))=false:=by rw[I.ok.kind];rfl
 have hiσ:i<σ.length:=by rw[I.len];exact(AK.mp hi).1
 have cne:=I.cne
 have tracked:∀{a:Addr} {h':Heap},(∃o,s.heap.get? a=some o/\H a=none)->Heap.SameBut a s.heap h'->HOk X.prog X.w H h':=λ{a h'} ha hs b ob e=>by
  obtain⟨_,_,hfree⟩:=ha
  refine(I.hok b ob e).stay (λc w' hc q=>(hs.2 c ?_).trans q) (λ_ q=>q) λ_ _ q=>q
  rintro rfl
  rcases hc with rfl | hc
  ·rw[hfree]at e;cases e
  ·rw[hfree]at hc;cases hc
 rcases hx with hk | hk
 ·refine wpAny_storeName_local hk hn (λh' hn' hs=>?_) hcls
  obtain⟨oL,_,_,hoL,_⟩:=id hn
  refine h _ ⟨I.ok,I.os,I.bare,⟨λb o e n hb hx=>?_,λb o e n hb hx=>?_,I.base.free,λb o e hx=>?_,I.base.tups,I.base.frzs,I.base.tbls⟩,⟨_,hn',λj y v' e1 e2 e3=>?_⟩,λy c e=>?_,I.free,I.freeC,λp hp=>?_,tracked ⟨oL,hoL,I.free⟩ hs,by simpa using I.len⟩ ⟨_,hs,.inl rfl⟩
  ·exact(hs.2 b (AX (AN (AH e) I.ok.above))).trans (I.base.keep b o e n hb hx)
  ·obtain⟨sl,e1⟩:=I.base.slot b o e n hb hx
   exact⟨sl,(hs.2 b (AX (AN (AH e) I.ok.above))).trans e1⟩
  ·obtain⟨o',e1⟩:=I.base.there b o e hx
   exact⟨o',(hs.2 b (AX (AN (AH e) I.ok.above))).trans e1⟩
  ·by_cases hj:j=i
   ·subst hj
    rw[hi]at e1;cases e1
    rw[CU hiσ]at e2
    cases e2
    exact⟨u,r,.inl ⟨hk,by simp⟩⟩
   ·rw[CI (Ne.symm hj)]at e2
    obtain⟨u',r',q⟩:=hl j y v' e1 e2 e3
    refine⟨u',r',?_⟩
    rcases q with⟨k,e⟩ | ⟨k,c,e,z⟩
    ·refine .inl ⟨k,?_⟩
     have:y≠x:=λe=>hj (va hN e1 (e ▸ hi))
     simp[this,e]
    ·exact .inr ⟨k,c,e,z.sameBut hs (cne y c e)⟩
  ·obtain⟨w',z⟩:=I.cell y c e
   exact⟨w',z.sameBut hs (cne y c e)⟩
  ·obtain⟨e,n,ne,nf,d⟩:=I.pin p hp
   exact⟨(hs.2 p.1 ne).trans e,n,ne,nf,d⟩
 ·have hfn:X.fn x=true:=by
   rcases hf with z | z
   ·exact z
   ·rw[z]at hk;cases hk
  obtain⟨c,hc⟩:=I.ok.has x (.inl hk)
  obtain⟨w',z⟩:=I.cell x c hc
  refine wpAny_storeName_cell I.ok.kind hk hc z (λh' hc' hs=>?_)
  obtain⟨oc,hoc,hocd⟩:=id z
  refine h {s with heap:=h'} ⟨I.ok,I.os,I.bare,⟨λb o e n hb hx=>?_,λb o e n hb hx=>?_,I.base.free,λb o e hx=>?_,I.base.tups,I.base.frzs,I.base.tbls⟩,⟨m,hn.sameBut hs (Ne.symm (cne x c hc)),λj y v' e1 e2 e3=>?_⟩,λy c' e=>?_,I.free,I.freeC,λp hp=>?_,tracked ⟨oc,hoc,I.freeC x c hc⟩ hs,by simpa using I.len⟩ ⟨c,hs,.inr hc⟩
  ·exact(hs.2 b (AX (AN (AH e) (I.ok.cab x c hfn hc)))).trans (I.base.keep b o e n hb hx)
  ·obtain⟨sl,e1⟩:=I.base.slot b o e n hb hx
   exact⟨sl,(hs.2 b (AX (AN (AH e) (I.ok.cab x c hfn hc)))).trans e1⟩
  ·obtain⟨o',e1⟩:=I.base.there b o e hx
   exact⟨o',(hs.2 b (AX (AN (AH e) (I.ok.cab x c hfn hc)))).trans e1⟩
  ·by_cases hj:j=i
   ·subst hj
    rw[hi]at e1;cases e1
    rw[CU hiσ]at e2
    cases e2
    exact⟨u,r,.inr ⟨.inl hk,c,hc,hc'⟩⟩
   ·rw[CI (Ne.symm hj)]at e2
    obtain⟨u',r',q⟩:=hl j y v' e1 e2 e3
    refine⟨u',r',?_⟩
    rcases q with q | ⟨k,c',e,z'⟩
    ·exact .inl q
    ·refine .inr ⟨k,c',e,z'.sameBut hs ?_⟩
     rintro rfl
     exact hj (va hN e1 (I.ok.inj _ _ _ e hc ▸ hi))
  ·by_cases hcc:c'=c
   ·subst hcc;exact⟨_,hc'⟩
   ·obtain⟨w2,z2⟩:=I.cell y c' e
    exact⟨w2,z2.sameBut hs hcc⟩
  ·obtain⟨e,n,ne,nf,d⟩:=I.pin p hp
   refine⟨(hs.2 p.1 ?_).trans e,n,ne,nf,d⟩
   intro q
   rw[q,hoc]at e
   have q':oc=p.2:=BP e
   exact d w' (by rw[<-q'];exact hocd)
theorem vb {M:Model} {A:Around} {E:Value->Shared->Prop} {i:Nat} {x:Str} {v:V} {u:Value} {Q:Unit->Shared->Prop} (I:Inv X pins σ H s) (hN:X.N.Nodup) (hi:X.N[i]? = some x) (hx:Loc X.env.scope x) (r:RelV v u)
  (h:∀s',Inv X pins (σ.set i (some v)) H s'->Q () s') (hf:X.fn x=true\/X.env.scope.names.lookup x=some .local:=by first | exact .inl rfl | exact .inr rfl | assumption):wpAny M A (storeName X.env x u) Q E s :=
 qr I hN hi hx r (λs' I' _=>h s' I') hf
theorem Inv.call' {s':Shared} {ch:List Addr} (I:Inv X pins σ H s) (ho:s'.os=s.os) (u:Un (frs X.stack) ch H H' s.heap s'.heap) (hok:HOk X.prog X.w H' s'.heap) (hg:AllBare s'.gens)
  (hch:∀b∈ch,(b∈X.ex\/X.s₀.heap.objs.size<=b)/\b≠X.env.locals/\(∀x c,X.env.cells.lookup x=some c->c≠b)/\∀p∈X.pn++pins,p.1≠b):Inv X pins σ H' s':=by
 obtain⟨h',g',d',t',o'⟩:=s'
 have e:o'=s.os:=ho
 subst e
 exact I.call (g':=g') (t':=t') (d':=d') u hok hg hch
end
noncomputable abbrev XK:=Value->Option Addr->Hp->Prop
noncomputable abbrev St:=List (Option V)
noncomputable abbrev VK:=V->Hp->Prop
noncomputable abbrev TE:=St->Hp->VK->Prop
noncomputable abbrev TT:=St->Hp->(Bool->Hp->Prop)->Prop
noncomputable abbrev TA:=St->Hp->(List V->Hp->Prop)->Prop
structure Ends where
 nx:St->Hp->Prop
 rt:VK
 bk:St->Hp->Prop:=λ_ _=>False
 ct:St->Hp->Prop:=λ_ _=>False
noncomputable abbrev TS:=Ends->St->Hp->Prop
noncomputable def EP(X:Cx)(pins:List (Addr×Obj))(σ:St)(Q:VK)(u:Value)(s':Shared):Prop:=∃v H',Inv X pins σ H' s'/\RelV v u/\Q v H'
noncomputable def TP(X:Cx)(pins:List (Addr×Obj))(σ:St)(Q:Bool->Hp->Prop)(b:Bool)(s':Shared):Prop:=∃H',Inv X pins σ H' s'/\Q b H'
noncomputable def AP(X:Cx)(pins:List (Addr×Obj))(σ:St)(Q:List V->Hp->Prop)(us:List Value)(s':Shared):Prop:=∃vs H',Inv X pins σ H' s'/\bz vs us/\Q vs H'
noncomputable def SP(X:Cx)(pins:List (Addr×Obj))(D:Ends)(f:Flow)(s':Shared):Prop :=
 match f with
 |.next=>∃σ' H',Inv X pins σ' H' s'/\D.nx σ' H'
 |.brk=>∃σ' H',Inv X pins σ' H' s'/\D.bk σ' H'
 |.cont=>∃σ' H',Inv X pins σ' H' s'/\D.ct σ' H'
 |.ret u=>∃v σ' H',Inv X pins σ' H' s'/\RelV v u/\D.rt v H'
noncomputable def PE(X:Cx)(e:Expr)(t:TE):Prop :=
 ∀(pins:List (Addr×Obj)) (s:Shared) (σ:St) (H:Hp) (Q:VK),Inv X pins σ H s->t σ H Q->wpAny (model X.prog X.w) X.A (eval e X.env) (EP X pins σ Q) X.xe s
noncomputable def PT(X:Cx)(e:Expr)(t:TT):Prop :=
 ∀(pins:List (Addr×Obj)) (s:Shared) (σ:St) (H:Hp) (Q:Bool->Hp->Prop),Inv X pins σ H s->t σ H Q->wpAny (model X.prog X.w) X.A (isTrue e X.env (eval e X.env)) (TP X pins σ Q) X.xe s
noncomputable def PW(X:Cx)(e:Expr)(t:TT):Prop :=
 ∀(whole:Sem Value) (pins:List (Addr×Obj)) (s:Shared) (σ:St) (H:Hp) (Q:Bool->Hp->Prop),Inv X pins σ H s->t σ H Q->wpAny (model X.prog X.w) X.A (isTrue e X.env whole) (TP X pins σ Q) X.xe s
theorem PW.pt{X:Cx}{e:Expr}{t:TT}(h:PW X e t):PT X e t:=h _
noncomputable def PA(X:Cx)(es:List Expr)(t:TA):Prop :=
 ∀(pos:Pos) (pins:List (Addr×Obj)) (s:Shared) (σ:St) (H:Hp) (Q:List V->Hp->Prop),Inv X pins σ H s->t σ H Q->wpAny (model X.prog X.w) X.A (spliced (backTo pos (starEach es X.env))) (AP X pins σ Q) X.xe s
noncomputable def PS(X:Cx)(st:Stmt)(t:TS):Prop :=
 ∀(pins:List (Addr×Obj)) (s:Shared) (σ:St) (H:Hp) (D:Ends),Inv X pins σ H s->t D σ H->wpAny (model X.prog X.w) X.A (exec st X.env) (SP X pins D) X.xe s
noncomputable def PSs(X:Cx)(st:List Stmt)(t:TS):Prop :=
 ∀(pins:List (Addr×Obj)) (s:Shared) (σ:St) (H:Hp) (D:Ends),Inv X pins σ H s->t D σ H->wpAny (model X.prog X.w) X.A (execs st X.env) (SP X pins D) X.xe s
theorem thn{α:Type}{t:Sem α}{Q Q':α->Shared->Prop}{M:Model}{A:Around}{E:Value->Shared->Prop}{s:Shared}(h:wpAny M A t Q E s)(hQ:∀a s,Q a s->Q' a s):wpAny M A t Q' E s:=Do h hQ λ_ _ x=>x
section
variable{X:Cx}
theorem bin {a b:Expr} {ta tb:TE} (ha:PE X a ta) (hb:PE X b tb) {pins:List (Addr×Obj)} {s:Shared} {σ:St} {H:Hp} {R:V->V->Hp->Prop} (I:Inv X pins σ H s) (h:ta σ H λx H1=>tb σ H1 λy H2=>R x y H2)
  {α:Type} {Q:α->Shared->Prop} {f:Value->Value->Sem α}
  (hf:∀v u s2 x y H2,Inv X pins σ H2 s2->RelV x v->RelV y u->R x y H2->wpAny (model X.prog X.w) X.A (f v u) Q X.xe s2) :
  wpAny (model X.prog X.w) X.A (eval a X.env) (λv s₁=>wpAny (model X.prog X.w) X.A (eval b X.env) (λu s₂=>wpAny (model X.prog X.w) X.A (f v u) Q X.xe s₂) X.xe s₁) X.xe s:=by
 refine thn (ha pins s σ H _ I h) λv s1 ⟨x,H1,I1,r1,q1⟩=>?_
 refine thn (hb pins s1 σ H1 _ I1 q1) λu s2 ⟨y,H2,I2,r2,q2⟩=>?_
 exact hf v u s2 x y H2 I2 r1 r2 q2
noncomputable def Ox(i:Nat):TE:=λσ H Q=>∃v,σ[i]? = some (some v)/\Q v H
noncomputable def tC(v:V):TE:=λ_ H Q=>Q v H
theorem yv{i:Nat}{x:Str}{pos:Pos}(hN:X.N[i]? = some x)(hv:Vis X.env.scope x)(hd:(x==("__debug__":Str))=false:=by decide)(hcd:(x==("__classdict__":Str))=false:=by decide):PE X (.Name x pos) (Ox i):=by
 intro pins s σ H Q I h
 obtain⟨v,e,h⟩:=h
 obtain⟨m,hn,hl⟩:=I.loc
 obtain⟨u,r,l⟩:=hl i x v hN e hv
 have fin:EP X pins σ Q u s:=⟨v,H,I,r,h⟩
 rcases l with⟨hk,hm⟩ | ⟨hk,c,hc,hcell⟩
 ·exact wpAny_Name (wpAny_loadName_local I.ok.kind hk hn hm fin) hd
 ·rcases hk with hk | hk
  ·exact wpAny_Name (wpAny_loadName_cell I.ok.kind hk hc hcell fin) hd
  ·exact wpAny_Name (wpAny_loadName_free I.ok.kind hk hc hcell fin hcd) hd
theorem G7{i j pos}:PE X (.Constant (.int i) j pos) (tC (.int i)):=λ_ _ _ H _ I h=>wpAny_Constant_int ⟨.int i,H,I.tok _,⟨_,rfl⟩,h⟩
theorem La{b j pos}:PE X (.Constant (.bool b) j pos) (tC (.bl b)):=λ_ _ _ H _ I h=>Constant_bool ⟨.bl b,H,I,rfl,h⟩
theorem G8{j pos}:PE X (.Constant .none j pos) (tC .non):=λ_ _ _ H _ I h=>Constant_none ⟨.non,H,I,rfl,h⟩
theorem G9{x j pos}:PE X (.Constant (.str x) j pos) (tC (.str x)):=λ_ _ _ H _ I h=>Calls.Constant_str ⟨.str x,H,I.tok _,⟨_,rfl⟩,h⟩
noncomputable def Gl(X:Cx)(x:Str):Prop:=X.env.kindOf x=some .globalImplicit
theorem yw {E:Value->Shared->Prop} {pins:List (Addr×Obj)} {s:Shared} {σ:St} {H:Hp} {x:Str} {u:Value} {pos:Pos} {Q:Value->Shared->Prop} (I:Inv X pins σ H s) (hg:Gl X x) (hm:X.mg x=some u) (h:Q u s)
  (hd:(x==("__debug__":Str))=false:=by decide):wpAny (model X.prog X.w) X.A (eval (.Name x pos) X.env) Q E s :=
 EU I.ok.kind hg (Calls.loadGlobal_global (by rw[I.ok.glob];exact I.mod.glob.keeps I.bk) hm h) hd
theorem lj {E:Value->Shared->Prop} {pins:List (Addr×Obj)} {s:Shared} {σ:St} {H:Hp} {x:Str} {u:Value} {pos:Pos} {Q:Value->Shared->Prop} (I:Inv X pins σ H s) (hg:Gl X x) (hm:X.mg x=none) (hv:bootBuiltins x=some u) (h:Q u s)
  (hn:x≠"__name__":=by decide) (hd:(x==("__debug__":Str))=false:=by decide):wpAny (model X.prog X.w) X.A (eval (.Name x pos) X.env) Q E s:=by
 obtain⟨mb,h1,h2⟩:=I.mod.blt
 exact EU I.ok.kind hg (Calls.loadGlobal_builtin (by rw[I.ok.glob];exact I.mod.glob.keeps I.bk) hm (by rw[I.ok.blt];exact h1.keeps I.bk) ((h2 x hn).trans hv) h) hd
theorem D7{x:Str}{v:V}{u:Value}{pos:Pos}(hg:Gl X x)(hm:X.mg x=some u)(r:RelV v u)(hd:(x==("__debug__":Str))=false:=by decide):PE X (.Name x pos) (tC v) :=
 λ_ _ _ H _ I h=>yw I hg hm ⟨v,H,I,r,h⟩ hd
theorem D8{x:Str}{v:V}{u:Value}{pos:Pos}(hg:Gl X x)(hm:X.mg x=none)(hv:bootBuiltins x=some u)(r:RelV v u)(hn:x≠"__name__":=by decide)(hd:(x==("__debug__":Str))=false:=by decide):PE X (.Name x pos) (tC v) :=
 λ_ _ _ H _ I h=>lj I hg hm hv ⟨v,H,I,r,h⟩ hn hd
variable{a b:Expr}{ta tb:TE}{pos:Pos}
noncomputable def tB(t:TE):TT:=λσ H Q=>t σ H λx H1=>∃c,x=.bl c/\Q c H1
variable{tA tB' : TT}{rest:List Expr}
noncomputable def Q8(t u:TT):TT:=λσ H Q=>t σ H λc H1=>if c=true then u σ H1 Q else Q false H1
noncomputable def tOr(t u:TT):TT:=λσ H Q=>t σ H λc H1=>if c=true then Q true H1 else u σ H1 Q
noncomputable def Q9(t:TT):TT:=λσ H Q=>t σ H λc H1=>Q (!c) H1
theorem D9(ha:PT X a tA):PW X (.BoolOp .And [a] pos) tA:=by
 intro wh pins s σ H Q I h
 refine isTrue_and (thn (ha pins s σ H Q I h) λc s1 e=>?_)
 cases c with
 |true=>exact isTrue_and_nil e
 |false=>exact e
theorem Ha(ha:PT X a tA):PW X (.BoolOp .Or [a] pos) tA:=by
 intro wh pins s σ H Q I h
 refine isTrue_or (thn (ha pins s σ H Q I h) λc s1 e=>?_)
 cases c with
 |false=>exact isTrue_or_nil e
 |true=>exact e
theorem Hb(ha:PT X a tA)(hb:PW X (.BoolOp .And (b::rest) pos) tB'):PW X (.BoolOp .And (a::b::rest) pos) (Q8 tA tB'):=by
 intro wh pins s σ H Q I h
 refine isTrue_and (thn (ha pins s σ H _ I h) λc s1 ⟨H1,I1,q1⟩=>?_)
 cases c with
 |true=>exact hb wh pins s1 σ H1 Q I1 q1
 |false=>exact⟨H1,I1,q1⟩
theorem Lb(ha:PT X a tA)(hb:PW X (.BoolOp .Or (b::rest) pos) tB'):PW X (.BoolOp .Or (a::b::rest) pos) (tOr tA tB'):=by
 intro wh pins s σ H Q I h
 refine isTrue_or (thn (ha pins s σ H _ I h) λc s1 ⟨H1,I1,q1⟩=>?_)
 cases c with
 |true=>exact⟨H1,I1,q1⟩
 |false=>exact hb wh pins s1 σ H1 Q I1 q1
theorem Hc(ha:PT X a tA):PT X (.UnaryOp .Not a pos) (Q9 tA):=by
 intro pins s σ H Q I h
 exact isTrue_not (ha pins s σ H (λc H1=>Q (!c) H1) I h)
noncomputable def Lc(ta tb:TE):TE:=λσ H Q=>ta σ H λx H1=>∃c,x=.bl c/\if c=true then tb σ H1 Q else Q (.bl false) H1
noncomputable def Ra(ta tb:TE):TE:=λσ H Q=>ta σ H λx H1=>∃c,x=.bl c/\if c=true then Q (.bl true) H1 else tb σ H1 Q
noncomputable def Ld(ta:TE):TE:=λσ H Q=>ta σ H λx H1=>∃c,x=.bl c/\Q (.bl (!c)) H1
theorem De{op}{t:TE}(h:PE X a t):PE X (.BoolOp op [a] pos) t:=λpins s σ H Q I hw=>BoolOp_one (h pins s σ H Q I hw)
theorem Hd(ha:PE X a ta)(hb:PE X (.BoolOp .And (b::rest) pos) tb):PE X (.BoolOp .And (a::b::rest) pos) (Lc ta tb):=by
 intro pins s σ H Q I h
 refine BoolOp_and (thn (ha pins s σ H _ I h) λv s1 ⟨x,H1,I1,r1,q1⟩=>?_)
 obtain⟨c,rfl,q1⟩:=q1
 cases r1
 refine CM ?_
 cases c with
 |true=>exact hb pins s1 σ H1 Q I1 q1
 |false=>exact⟨.bl false,H1,I1,rfl,q1⟩
theorem Le(ha:PE X a ta)(hb:PE X (.BoolOp .Or (b::rest) pos) tb):PE X (.BoolOp .Or (a::b::rest) pos) (Ra ta tb):=by
 intro pins s σ H Q I h
 refine BoolOp_or (thn (ha pins s σ H _ I h) λv s1 ⟨x,H1,I1,r1,q1⟩=>?_)
 obtain⟨c,rfl,q1⟩:=q1
 cases r1
 refine CM ?_
 cases c with
 |false=>exact hb pins s1 σ H1 Q I1 q1
 |true=>exact⟨.bl true,H1,I1,rfl,q1⟩
theorem He(ha:PE X a ta):PE X (.UnaryOp .Not a pos) (Ld ta):=by
 intro pins s σ H Q I h
 refine UnaryOp_ (thn (ha pins s σ H _ I h) λv s1 ⟨x,H1,I1,r1,q1⟩=>?_)
 obtain⟨c,rfl,q1⟩:=q1
 cases r1
 exact not_of (CM ⟨.bl (!c),H1,I1,rfl,q1⟩)
noncomputable def tIf(t:TT)(ta tb:TE):TE:=λσ H Q=>t σ H λc H1=>if c=true then ta σ H1 Q else tb σ H1 Q
theorem Bh{c:Expr}(hc:PT X c tA)(ha:PE X a ta)(hb:PE X b tb):PE X (.IfExp c a b pos) (tIf tA ta tb):=by
 intro pins s σ H Q I h
 refine wpAny_IfExp (thn (hc pins s σ H _ I h) λd s1 ⟨H1,I1,q1⟩=>?_)
 cases d with
 |true=>exact ha pins s1 σ H1 Q I1 q1
 |false=>exact hb pins s1 σ H1 Q I1 q1
end
noncomputable def SqL(K:PySem.W.Frag)(H:Hp)(a:Addr)(xs:List V):Prop :=
 Rd H a (.lst xs) \/
  ∃(o:Obj) (its:Array Value) (n:Nat),K.lookup a=some o/\o.cls=.type "list"/\o.dict=none/\o.data=.seq its n/\its.size<=sizeLine/\bz xs its.toList
noncomputable def SqT(K:PySem.W.Frag)(H:Hp)(a:Addr)(xs:List V):Prop :=
 Rd H a (.tup xs) \/
  ∃(o:Obj) (its:Array Value) (n:Nat),K.lookup a=some o/\o.cls=.type "tuple"/\o.data=.seq its n/\its.size<=sizeLine/\bz xs its.toList/\o.dict=none
noncomputable def Rb:Value->Option V
 |.none=>some .non
 |.bool b=>some (.bl b)
 |.int i _=>some (.int i)
 |.str x _=>some (.str x)
 |.bytes b _=>some (.byt b)
 |.float b _=>some (.flt b)
 |.ref a=>some (.ref a)
 |.type n=>some (.ty n)
 |_=>none
theorem RelV.abs{x:V}{u:Value}(r:RelV x u):Rb u=some x:=by
 cases x with
 |non=>cases r;rfl
 |bl _=>cases r;rfl
 |int _=>obtain⟨t,rfl⟩:=r;rfl
 |str _=>obtain⟨t,rfl⟩:=r;rfl
 |byt _=>obtain⟨t,rfl⟩:=r;rfl
 |flt _=>obtain⟨t,rfl⟩:=r;rfl
 |ref _=>cases r;rfl
 |ty _=>cases r;rfl
theorem RelV.inj{x y:V}{u:Value}(r:RelV x u)(q:RelV y u):x=y:=BP (r.abs.symm.trans q.abs)
theorem bz.inj:∀{xs ys:List V} {us:List Value},bz xs us->bz ys us->xs=ys
 |_,_,_,.nil,.nil=>rfl
 |_,_,_,.cons r t,.cons r' t'=>by rw[r.inj r',bz.inj t t']
section
variable{X:Cx}{pins:List (Addr × Obj)}{σ:St}{H:Hp}{s:Shared}{a:Addr}{xs ys:List V}
theorem SqL.of{K:PySem.W.Frag}(h:H a=some (.lst xs)):SqL K H a xs:=.inl (.inl h)
theorem SqT.of{K:PySem.W.Frag}(h:H a=some (.tup xs)):SqT K H a xs:=.inl (.inl h)
theorem Inv.list(I:Inv X pins σ H s)(h:SqL X.K H a xs):∃its:List Value,bz xs its/\PlainL s.heap a its.toArray/\xs.length<=sizeLine:=by
 rcases h with h | ⟨o,its,n,hk,hc,hd,hs,hz,r⟩
 ·obtain⟨z,its,n,r,e⟩:=h.ok I.hok
  exact⟨its,r,⟨_,n,e,rfl,rfl,rfl⟩,z⟩
 ·refine⟨its.toList,r,⟨o,n,I.kIn a o hk,hc,hd,by simpa using hs⟩,?_⟩
  have e:=r.length
  simp![BO]at e
  lia
theorem Inv.tuple(I:Inv X pins σ H s)(h:SqT X.K H a xs):∃its:List Value,bz xs its/\IsTup s.heap a its.toArray/\xs.length<=sizeLine:=by
 rcases h with h | ⟨o,its,n,hk,hc,hs,hz,r,_⟩
 ·obtain⟨z,its,r,p⟩:=h.ok I.hok
  exact⟨its,r,p.tup,z⟩
 ·refine⟨its.toList,r,⟨o,I.kIn a o hk,hc,n,by simpa using hs⟩,?_⟩
  have e:=r.length
  simp![BO]at e
  lia
theorem Inv.list_inj(I:Inv X pins σ H s)(h:SqL X.K H a xs)(h':SqL X.K H a ys):xs=ys:=by
 obtain⟨its,r,⟨o,n,e,_,_,d⟩,_⟩:=I.list h
 obtain⟨its',r',⟨o',n',e',_,_,d'⟩,_⟩:=I.list h'
 rw[e]at e';cases e'
 rw[d]at d'
 injection d' with d1 _
 have:its=its':=by simpa using congrArg Array.toList d1
 subst this
 exact r.inj r'
theorem Inv.tuple_inj(I:Inv X pins σ H s)(h:SqT X.K H a xs)(h':SqT X.K H a ys):xs=ys:=by
 obtain⟨its,r,⟨o,e,_,n,d⟩,_⟩:=I.tuple h
 obtain⟨its',r',⟨o',e',_,n',d'⟩,_⟩:=I.tuple h'
 rw[e]at e';cases e'
 rw[d]at d'
 injection d' with d1 _
 have:its=its':=by simpa using congrArg Array.toList d1
 subst this
 exact r.inj r'
end
noncomputable abbrev Cx.wish(X:Cx)(E:Value->Shared->Prop):Cx:={X with xe:=E}
noncomputable abbrev Cx.nox(X:Cx):Cx:=X.wish λ_ _=>False
theorem Cx.Ok.wish{X:Cx}(ok:X.Ok)(E:Value->Shared->Prop):(X.wish E).Ok :=
 ⟨ok.mod,ok.kind,ok.glob,ok.blt,ok.above,ok.inj,ok.has,ok.cab,ok.hd,ok.frames,ok.stk,ok.exf,ok.bs,ok.bsz,ok.noex,ok.exfs,ok.funs,ok.frf⟩
theorem Cx.Ok.unwish{X:Cx}{E:Value->Shared->Prop}(ok:(X.wish E).Ok):X.Ok :=
 ⟨ok.mod,ok.kind,ok.glob,ok.blt,ok.above,ok.inj,ok.has,ok.cab,ok.hd,ok.frames,ok.stk,ok.exf,ok.bs,ok.bsz,ok.noex,ok.exfs,ok.funs,ok.frf⟩
section
variable{X:Cx}{pins:List (Addr × Obj)}{σ:St}{H:Hp}{s:Shared}{E:Value -> Shared -> Prop}
theorem Inv.wish(I:Inv X pins σ H s)(E:Value->Shared->Prop):Inv (X.wish E) pins σ H s:=⟨I.ok.wish E,I.os,I.bare,I.base,I.loc,I.cell,I.free,I.freeC,I.pin,I.hok,I.len⟩
theorem Inv.unwish(I:Inv (X.wish E) pins σ H s):Inv X pins σ H s:=⟨I.ok.unwish,I.os,I.bare,I.base,I.loc,I.cell,I.free,I.freeC,I.pin,I.hok,I.len⟩
theorem SP.unwish{D:Ends}{f:Flow}{s':Shared}(h:SP (X.wish E) pins D f s'):SP X pins D f s':=by
 cases f with
 |next=>obtain⟨σ',H',I,q⟩:=h;exact⟨σ',H',I.unwish,q⟩
 |brk=>obtain⟨σ',H',I,q⟩:=h;exact⟨σ',H',I.unwish,q⟩
 |cont=>obtain⟨σ',H',I,q⟩:=h;exact⟨σ',H',I.unwish,q⟩
 |ret u=>obtain⟨v,σ',H',I,r,q⟩:=h;exact⟨v,σ',H',I.unwish,r,q⟩
theorem PSs.nox{st:List Stmt}{t:TS}(h:PSs X.nox st t):PSs X st t:=λpins s σ H D I hw =>
 Do (h pins s σ H D (I.wish _) hw) (λ_ _ q=>q.unwish) λ_ _ z=>False.elim z
end
section
variable{X:Cx}{st:Stmt}{rest:List Stmt}{t u:TS}{e:Expr}{te:TE}{pos:Pos}
noncomputable def tNext:TS:=λD σ H=>D.nx σ H
noncomputable def Rc(t u:TS):TS:=λD σ H=>t {D with nx:=u D} σ H
theorem Ea:PSs X [] tNext:=λ_ _ σ H _ I h=>wpAny_execs_nil ⟨σ,H,I,h⟩
theorem Bi(h1:PS X st t)(h2:PSs X rest u):PSs X (st::rest) (Rc t u):=by
 intro pins s σ H D I h
 refine wpAny_execs_cons (thn (h1 pins s σ H {D with nx:=u D} I h) λf s1 q=>?_)
 cases f with
 |next =>
  obtain⟨σ',H',I',q⟩:=q
  exact h2 pins s1 σ' H' D I' q
 |ret v=>exact q
 |brk=>exact q
 |cont=>exact q
theorem Inv.quiet{pins:List (Addr×Obj)}{σ:St}{H:Hp}{s:Shared}(I:Inv X pins σ H s):interactive X.env=false:=by simp[interactive,I.ok.kind]
noncomputable def Lg(te:TE):TS:=λD σ H=>te σ H λ_ H1=>D.nx σ H1
theorem Eb(he:PE X e te)(hs:swapsWith e none pos.line X.env=pure false:=by rfl):PS X (.Expr e pos) (Lg te):=by
 intro pins s σ H D I h
 exact wpAny_Expr_any (thn (he pins s σ H _ I h) λv s1 ⟨x,H1,I1,r1,q1⟩=>⟨σ,H1,I1,q1⟩) I.quiet hs
noncomputable def Rf(te:TE):TS:=λD σ H=>te σ H D.rt
theorem Hf(he:PE X e te):PS X (.Return (some e) pos) (Rf te):=by
 intro pins s σ H D I h
 exact wpAny_Return_some (thn (he pins s σ H _ I h) λv s1 ⟨x,H1,I1,r1,q1⟩=>⟨x,σ,H1,I1,r1,q1⟩)
noncomputable def Rg(c:TT)(t u:TS):TS:=λD σ H=>c σ H λb H1=>if b=true then t D σ H1 else u D σ H1
theorem Lh{c:Expr}{a b:List Stmt}{tc:TT}(hc:PT X c tc)(ha:PSs X a t)(hb:PSs X b u):PS X (.If c a b pos) (Rg tc t u):=by
 intro pins s σ H D I h
 refine wpAny_If (thn (hc pins s σ H _ I h) λd s1 ⟨H1,I1,q1⟩=>?_)
 cases d with
 |true=>exact ha pins s1 σ H1 D I1 q1
 |false=>exact hb pins s1 σ H1 D I1 q1
noncomputable def tNever:TS:=λ_ _ _=>False
theorem Bj:PS X st tNever:=λ_ _ _ _ _ _ h=>h.elim
end
noncomputable abbrev TG:=V->St->Hp->(St->Hp->Prop)->Prop
noncomputable abbrev TGs:=List V->St->Hp->(St->Hp->Prop)->Prop
noncomputable def PG(X:Cx)(target:Expr)(t:TG):Prop :=
 ∀(pins:List (Addr×Obj)) (s:Shared) (σ:St) (H:Hp) (v:V) (u:Value) (Q:St->Hp->Prop),Inv X pins σ H s->RelV v u->t v σ H Q ->
  wpAny (model X.prog X.w) X.A (assign target X.env u) (λ_ s'=>∃σ' H',Inv X pins σ' H' s'/\Q σ' H') X.xe s
noncomputable def PGs(X:Cx)(ts:List Expr)(t:TGs):Prop :=
 ∀(pins:List (Addr×Obj)) (s:Shared) (σ:St) (H:Hp) (vs:List V) (us:List Value) (Q:St->Hp->Prop),Inv X pins σ H s->bz vs us->t vs σ H Q ->
  wpAny (model X.prog X.w) X.A (assignInOrder ((assignEach ts X.env).map (·.2)) us) (λ_ s'=>∃σ' H',Inv X pins σ' H' s'/\Q σ' H') X.xe s
section
variable{X:Cx}{pos:Pos}
noncomputable def Ec(i:Nat):TG:=λv σ H Q=>Q (σ.set i (some v)) H
theorem yx{i:Nat}{x:Str}(hN:X.N.Nodup)(hi:X.N[i]? = some x)(hx:Loc X.env.scope x)(hf:X.fn x=true\/X.env.scope.names.lookup x=some .local:=by first | exact .inl rfl | exact .inr rfl | assumption):PG X (.Name x pos) (Ec i):=by
 intro pins s σ H v u Q I r h
 exact wpAny_assign_Name (vb I hN hi hx r (λs' I'=>⟨_,H,I',h⟩) hf)
noncomputable def gNil:TGs:=λvs σ H Q=>vs=[]/\Q σ H
noncomputable def Li(t:TG)(u:TGs):TGs:=λvs σ H Q=>∃v r,vs=v::r/\t v σ H λσ' H'=>u r σ' H' Q
theorem Ed:PGs X [] gNil:=by
 intro pins s σ H vs us Q I r h
 obtain⟨e,h⟩:=h
 subst e
 cases r
 exact assignInOrder_nil ⟨σ,H,I,h⟩
theorem Bk {e:Expr} {es:List Expr} {t:TG} {u:TGs} (h1:PG X e t) (h2:PGs X es u)
  (hs:(assignEach (e::es) X.env).map (·.2)=assign e X.env::(assignEach es X.env).map (·.2):=by rfl):PGs X (e::es) (Li t u):=by
 intro pins s σ H vs us Q I r h
 obtain⟨v,vr,e1,h⟩:=h
 subst e1
 cases r with
 |cons r rr =>
  rw[hs]
  refine assignInOrder_cons (thn (h1 pins s σ H _ _ _ I r h) λ_ s1 ⟨σ1,H1,I1,q1⟩=>?_)
  exact h2 pins s1 σ1 H1 _ _ Q I1 rr q1
noncomputable def Rh(K:PySem.W.Frag)(n:Nat)(t:TGs):TG:=λv σ H Q=>∃a xs,v=.ref a/\SqT K H a xs/\xs.length=n/\t xs σ H Q
theorem Hg {es:List Expr} {k:Nat} {t:TGs} {n:Nat} (hc:X.calm=true) (h:PGs X es t)
  (hn:(assignEach es X.env).length=n:=by rfl) (hst:(assignEach es X.env).findIdx? (·.1)=none:=by rfl):PG X (.Tuple es k pos) (Rh X.K n t):=by
 intro pins s σ H v u Q I r hw
 obtain⟨a,xs,e1,hq,hl,hw⟩:=hw
 subst e1
 cases r
 obtain⟨its,rv,ht,hz⟩:=I.tuple hq
 refine assign_Tuple_tuple (I.ok.hd hc) ht (by simp[hn,<-hl,rv.length]) hst λh' hx=>?_
 have I1:Inv X pins σ H {s with heap:=h'}:=I.kept (t':=s.toks) λb o e=>hx b o (AX (AH e)) e
 exact h pins _ σ H xs _ Q I1 (by simpa using rv) hw
noncomputable def Oy(te:TE)(g:TG):TS:=λD σ H=>te σ H λx H1=>g x σ H1 D.nx
theorem Hh {tg e:Expr} {te:TE} {g:TG} (he:PE X e te) (hg:PG X tg g) (hs:swapsWithSole [tg] e pos.line X.env=pure false:=by rfl) (hw:swappedStores [tg] e X.env=pure none:=by rfl)
  (h1:(assignEach [tg] X.env).map (·.2)=[assign tg X.env]:=by rfl):PS X (.Assign [tg] e pos) (Oy te g):=by
 intro pins s σ H D I h
 refine wpAny_Assign_stores (thn (he pins s σ H _ I h) λv s1 ⟨x,H1,I1,r1,q1⟩=>?_) hs hw
 rw[h1]
 exact thn (hg pins s1 σ H1 x v _ I1 r1 q1) λ_ s2 q=>q
theorem Hi{i:Nat}{x:Str}{e:Expr}{te:TE}{pos':Pos}(hN:X.N.Nodup)(hi:X.N[i]? = some x)(hx:Loc X.env.scope x)(he:PE X e te)(hs:swapsWith e (some (.Name x pos')) pos.line X.env=pure false:=by rfl)(hf:X.fn x=true\/X.env.scope.names.lookup x=some .local:=by first | exact .inl rfl | exact .inr rfl | assumption) :
  PS X (.Assign [.Name x pos'] e pos) (Oy te (Ec i)):=by
 intro pins s σ H D I h
 refine wpAny_Assign_Name (thn (he pins s σ H _ I h) λv s1 ⟨y,H1,I1,r1,q1⟩=>?_) hs
 exact vb I1 hN hi hx r1 (λs2 I2=>⟨_,H1,I2,q1⟩) hf
end
structure It where
 go:Nat->Hp->Prop
 yld:Nat->Hp->V->Hp->Prop
 stop:Nat->Hp->Prop
noncomputable def wb(X:Cx)(pins:List (Addr×Obj))(H:Hp)(b:Addr):Prop :=
 H b=none/\b≠X.env.locals/\b∉X.fs/\(b∈X.ex\/X.s₀.heap.objs.size<=b)/\(∀x c,X.env.cells.lookup x=some c->c≠b)/\∀p∈X.pn++pins,p.1≠b
theorem Inv.fpOk{X:Cx}{pins:List (Addr×Obj)}{σ:St}{H H':Hp}{s:Shared}{b:Addr}(I:Inv X pins σ H s)(hb:s.heap.objs.size<=b)(hn:H' b=none):wb X pins H' b:=by
 refine⟨hn,CD (AN I.lt hb),I.nofs hb,.inr (BV I.sz hb),λx c e z=>?_,λp hp z=>?_⟩
 ·obtain⟨v,q⟩:=I.cell x c e
  exact absurd (AN q.lt (by rw[z];exact hb)) (CL _)
 ·exact absurd (AN (AH (I.pin p hp).1) (by rw[z];exact hb)) (CL _)
structure Turn (P:Program) (w:World) (K:PySem.W.Frag) (tg:Expr) (J:It) (fp:List Addr) (it:Addr) (tn:Nat->Heap->Prop):Prop where
 mem:it∈fp
 obj:∀i h,tn i h->∀b∈fp,∃o,h.get? b=some o/\∀v,o.data≠.cell v
 keep:∀i h h',tn i h->(∀b∈fp,∀o,h.get? b=some o->h'.get? b=some o)->tn i h'
 item:∀(X:Cx),X.prog=P->X.w=w->X.K=K->X.calm=true->∀(i:Nat) (pins:List (Addr×Obj)) (s:Shared) (σ:St) (H:Hp) (E:Value->Shared->Prop),Inv X pins σ H s->(∀b∈fp,wb X pins H b)->tn i s.heap->J.go i H ->
  wpAny (model P w) X.A (pyNext (.ref it)) (λr s1=>∃u,r=some u /\
   wpAny (model P w) X.A (letOwnedTupleGo tg (.ref it) u) (λ_ s2=>∃x H',Inv X pins σ H' s2/\RelV x u/\J.yld i H x H'/\tn (i+1) s2.heap/\∀b∈fp,H' b=none) E s1) E s
 done:∀(X:Cx),X.prog=P->X.w=w->X.K=K->X.calm=true->∀(i:Nat) (pins:List (Addr×Obj)) (s:Shared) (σ:St) (H:Hp) (E:Value->Shared->Prop),Inv X pins σ H s->(∀b∈fp,wb X pins H b)->tn i s.heap->J.stop i H ->
  wpAny (model P w) X.A (pyNext (.ref it)) (λr s1=>r=none/\Inv X pins σ H s1) E s
 self:∀(A:Around) (i:Nat) (s:Shared) (Q:Value->Shared->Prop) (E:Value->Shared->Prop),tn i s.heap->Q (.ref it) s->wpAny (model P w) A (pyIter (.ref it)) Q E s
noncomputable abbrev TI:=St->Hp->(It->Hp->Prop)->Prop
noncomputable def PIE(X:Cx)(pins:List (Addr×Obj))(σ:St)(tg:Expr)(R:It->Hp->Prop)(itv:Value)(s2:Shared):Prop :=
 ∃(it:Addr) (fp:List Addr) (tn:Nat->Heap->Prop) (J:It) (H':Hp),itv=.ref it/\Inv X pins σ H' s2/\Turn X.prog X.w X.K tg J fp it tn/\tn 0 s2.heap/\(∀b∈fp,wb X pins H' b)/\R J H'
noncomputable def PI(X:Cx)(tg iter:Expr)(wi:TI):Prop :=
 ∀(pins:List (Addr×Obj)) (s:Shared) (σ:St) (H:Hp) (R:It->Hp->Prop),Inv X pins σ H s->wi σ H R ->
  wpAny (model X.prog X.w) X.A (eval iter X.env) (λv s1=>wpAny (model X.prog X.w) X.A (pyIter v) (PIE X pins σ tg R) X.xe s1) X.xe s
theorem Ee {M:Model} {A:Around} {E:Value->Shared->Prop} {s:Shared} {tg:Expr} {it:Addr} {u:Value} {o:Obj} {n:String} {vs:Array Value} {Q:Unit->Shared->Prop} (ho:s.heap.get? it=some o) (hc:o.cls=.type n) (hd:o.data=.fields vs)
  (hn:["enumerate","zip","dict_itemiterator","dict_reverseitemiterator","odict_iterator","itertools.zip_longest","itertools.pairwise"].contains n=false) (hQ:Q () s):wpAny M A (letOwnedTupleGo tg (.ref it) u) Q E s:=by
 unfold letOwnedTupleGo
 cases tg<;>first
  |exact AI hQ
  |(cases u<;>first
    |exact AI hQ
    |(
     refine AB (wpAny_load ho ?_)
     rw[hc,hd]
     show wpAny M A (if(["enumerate","zip","dict_itemiterator","dict_reverseitemiterator","odict_iterator","itertools.zip_longest","itertools.pairwise"].contains n&&vs[0]?==some (rawInt _))=true then _ else _) Q E s
     rw[if_neg (by intro h;rw[hn,Bool.false_and]at h;cases h)]
     exact AI hQ))
noncomputable def Itl(K:PySem.W.Frag)(a:Addr):It :=
 ⟨λi H=>∃xs x,SqL K H a xs/\xs[i]? = some x,λi H x H'=>H'=H/\∀xs,SqL K H a xs->xs[i]? = some x,λi H=>∃xs,SqL K H a xs/\xs.length<=i⟩
noncomputable def Itt(K:PySem.W.Frag)(a:Addr):It :=
 ⟨λi H=>∃xs x,SqT K H a xs/\xs[i]? = some x,λi H x H'=>H'=H/\∀xs,SqT K H a xs->xs[i]? = some x,λi H=>∃xs,SqT K H a xs/\xs.length<=i⟩
noncomputable def Itr(lo:Int)(n:Nat):It:=⟨λi _=>i<n,λi H x H'=>H'=H/\x=.int (lo+i),λi _=>n<=i⟩
theorem yy{P:Program}{w:World}{K:PySem.W.Frag}{tg:Expr}(a it:Addr):Turn P w K tg (Itl K a) [it] it (λi h=>h.IsListIter it a i) where
 mem:=by simp
 obj:=λi h st b hb=>by
  have e:b=it:=by simpa using hb
  subst e
  obtain⟨o,e,c,d⟩:=st
  exact⟨o,e,λv z=>by rw[d]at z;cases z⟩
 keep:=λi h h' st k=>st.at λo e=>k it (by simp) o e
 item:=by
  intro X hP hw hK hc i pins s σ H E I hf st hg
  subst hP hw hK
  obtain⟨xs,x,hq,hx⟩:=hg
  obtain⟨its,rv,p,hz⟩:=I.list hq
  obtain⟨u,hu,ru⟩:=rv.get hx
  obtain⟨f0,f1,f2,f3,f4,f5⟩:=hf it (by simp)
  refine wpAny_pyNext_list_item st p.isList (x:=u) (by simpa using hu) λh' st' sb=>?_
  have I1:Inv X pins σ H {s with heap:=h'}:=I.turned (t':=s.toks) (λb o hb e=>(sb.2 b hb).trans e) f0 f1 f3 f4 f5
  obtain⟨o,e,c,d⟩:=id st'
  exact⟨u,rfl,Ee (s:={s with heap:=h'}) e c d (by decide) ⟨x,H,I1,ru,⟨rfl,λys hy=>by rw[I.list_inj hy hq];exact hx⟩,st',λb hb=>(hf b hb).1⟩⟩
 done:=by
  intro X hP hw hK hc i pins s σ H E I hf st hg
  subst hP hw hK
  obtain⟨xs,hq,hx⟩:=hg
  obtain⟨its,rv,p,hz⟩:=I.list hq
  obtain⟨f0,f1,f2,f3,f4,f5⟩:=hf it (by simp)
  have hl:=rv.length
  exact wpAny_pyNext_list_end (I.ok.hd hc) st p.isList (by simp;lia) λh' eb=>⟨rfl,I.turned (t':=s.toks) (λb o hb e=>eb b o hb e) f0 f1 f3 f4 f5⟩
 self:=λ_ _ _ _ _ st h=>wpAny_pyIter_listiter st h
theorem wc{P:Program}{w:World}{K:PySem.W.Frag}{tg:Expr}(a it:Addr):Turn P w K tg (Itt K a) [it] it (λi h=>h.IsTupleIter it a i) where
 mem:=by simp
 obj:=λi h st b hb=>by
  have e:b=it:=by simpa using hb
  subst e
  obtain⟨o,e,c,d⟩:=st
  exact⟨o,e,λv z=>by rw[d]at z;cases z⟩
 keep:=λi h h' st k=>st.at λo e=>k it (by simp) o e
 item:=by
  intro X hP hw hK hc i pins s σ H E I hf st hg
  subst hP hw hK
  obtain⟨xs,x,hq,hx⟩:=hg
  obtain⟨its,rv,p,hz⟩:=I.tuple hq
  obtain⟨u,hu,ru⟩:=rv.get hx
  obtain⟨f0,f1,f2,f3,f4,f5⟩:=hf it (by simp)
  refine wpAny_pyNext_tuple_item st (show s.heap.IsTuple a its.toArray from p) (x:=u) (by simpa using hu) λh' st' sb=>?_
  have I1:Inv X pins σ H {s with heap:=h'}:=I.turned (t':=s.toks) (λb o hb e=>(sb.2 b hb).trans e) f0 f1 f3 f4 f5
  obtain⟨o,e,c,d⟩:=id st'
  exact⟨u,rfl,Ee (s:={s with heap:=h'}) e c d (by decide) ⟨x,H,I1,ru,⟨rfl,λys hy=>by rw[I.tuple_inj hy hq];exact hx⟩,st',λb hb=>(hf b hb).1⟩⟩
 done:=by
  intro X hP hw hK hc i pins s σ H E I hf st hg
  subst hP hw hK
  obtain⟨xs,hq,hx⟩:=hg
  obtain⟨its,rv,p,hz⟩:=I.tuple hq
  obtain⟨f0,f1,f2,f3,f4,f5⟩:=hf it (by simp)
  have hl:=rv.length
  exact wpAny_pyNext_tuple_end (I.ok.hd hc) st (show s.heap.IsTuple a its.toArray from p) (by simp;lia) λh' eb=>⟨rfl,I.turned (t':=s.toks) (λb o hb e=>eb b o hb e) f0 f1 f3 f4 f5⟩
 self:=λ_ _ _ _ _ st h=>wpAny_pyIter_tupleiter st h
theorem we{P:Program}{w:World}{K:PySem.W.Frag}{tg:Expr}(it:Addr)(lo:Int)(n:Nat):Turn P w K tg (Itr lo n) [it] it (λi h=>IsRangeIter h it (lo+(i:Nat)*1) ((n:Int)-(i:Nat)) 1) where
 mem:=by simp
 obj:=λi h st b hb=>by
  have e:b=it:=by simpa using hb
  subst e
  exact⟨_,st,λv z=>by
   have z':Data.fields _=Data.cell v:=z
   cases z'⟩
 keep:=λi h h' st k=>k it (by simp) _ st
 item:=by
  intro X hP hw hK hc i pins s σ H E I hf st hg
  subst hP hw hK
  obtain⟨f0,f1,f2,f3,f4,f5⟩:=hf it (by simp)
  have W:=Walks.range (prog:=X.prog) (w:=X.w) (I.ok.hd hc) it lo 1 n
  refine W.item i s _ _ hg st λv h' tk hv st' kk=>?_
  obtain⟨t,rfl⟩:=hv
  have I1:Inv X pins σ H {s with heap:=h',toks:=tk}:=I.turned (λb o hb e=>kk b o (by simpa using hb) e) f0 f1 f3 f4 f5
  refine⟨_,rfl,Ee (s:={s with heap:=h',toks:=tk}) (n:="range_iterator") st' rfl rfl (by decide) ⟨.int (lo+i),H,I1,⟨t,?_⟩,⟨rfl,rfl⟩,st',λb hb=>(hf b hb).1⟩⟩
  rw[Int.mul_one]
 done:=by
  intro X hP hw hK hc i pins s σ H E I hf st hg
  subst hP hw hK
  obtain⟨f0,f1,f2,f3,f4,f5⟩:=hf it (by simp)
  exact wpAny_pyNext_range_end (I.ok.hd hc) st (by have:n<=i:=hg;lia) λh' eb=>⟨rfl,I.turned (t':=s.toks) (λb o hb e=>eb b o hb e) f0 f1 f3 f4 f5⟩
 self:=λ_ _ _ _ _ st h=>wpAny_pyIter_rangeiter st h
section
variable{X:Cx}{tg:Expr}
theorem Bl {pins:List (Addr×Obj)} {σ:St} {H:Hp} {s:Shared} {R:It->Hp->Prop} {E:Value->Shared->Prop} {lo hi:Int} {t u v:Tok} {tk:Nat} (I:Inv X pins σ H s) (h1:-(2 ^ 62)<=lo) (h2:lo<2 ^ 62) (h3:-(2 ^ 62)<=hi) (h4:hi<2 ^ 62)
  (q:R (Itr lo (hi-lo).toNat) H):wpAny (model X.prog X.w) X.A (pyIter (.ref s.heap.objs.size)) (PIE X pins σ tg R) E {s with heap:=s.heap.push {cls:=.type "range",data:=.fields #[.int lo t,.int hi u,.int 1 v]},toks:=tk}:=by
 refine wpAny_pyIter_range (IsRange.new ..) (small_one h1 h2 h3 h4) ?_
 have I1:Inv X pins σ H {s with heap:=s.heap.push {cls:=.type "range",data:=.fields #[.int lo t,.int hi u,.int 1 v]},toks:=tk}:=I.kept λb o e=>AC _ e
 refine⟨(s.heap.push {cls:=.type "range",data:=.fields #[.int lo t,.int hi u,.int 1 v]}).objs.size,[(s.heap.push {cls:=.type "range",data:=.fields #[.int lo t,.int hi u,.int 1 v]}).objs.size],_,_,H,rfl,
  I1.kept (t':=tk) λb o e=>AC _ e,we _ lo (hi-lo).toNat,?_,λb hb=>?_,q⟩
 ·have e1:lo+((0:Nat):Int)*1=lo:=by simp
  have e2:(((hi-lo).toNat:Nat):Int)-((0:Nat):Int)=Builtin.Range.rangeSize lo hi 1:=by rw[rangeSize_one];split<;>lia
  show IsRangeIter _ _ (lo+((0:Nat):Int)*1) ((((hi-lo).toNat:Nat):Int)-((0:Nat):Int)) 1
  rw[e1,e2]
  exact AL _ rfl
 ·have e:b=(s.heap.push {cls:=.type "range",data:=.fields #[.int lo t,.int hi u,.int 1 v]}).objs.size:=by simpa using hb
  subst e
  exact I1.fpOk (AM _) (I1.hok.fresh (AM _))
noncomputable def Lj(ta:TA):TI:=λσ H R=>ta σ H λvs H1=>∃j:Int,vs=[.int j] /\ -(2 ^ 62)<=j/\j<2 ^ 62/\R (Itr 0 j.toNat) H1
theorem yz{a:Expr}{ta:TA}{p pos:Pos}(hg:Gl X "range")(hm:X.mg "range"=none)(ha:PA X [a] ta)(hs:starEach [a] X.env=[(false,eval a X.env)]:=by rfl):PI X tg (.Call (.Name "range" p) [a] [] pos) (Lj ta):=by
 intro pins s σ H R I h
 refine Call_ (lj I hg hm boot_range (BW (thn (ha pos pins s σ H _ I h) λus s1 ⟨vs,H1,I1,r1,q1⟩=>?_) hs rfl))
 obtain⟨j,e,q1,q2,q⟩:=q1
 subst e
 cases r1 with
 |cons r rr =>
  cases rr
  obtain⟨t,rfl⟩:=r
  exact call_range_1 (Bl I1 (by lia) (by lia) q1 q2 (by simpa using q))
noncomputable def Ri(wi:TI)(g:TG)(tb:TS):TS:=λD σ H=>wi σ H λJ H1=>∃W:Nat->Nat->St->Hp->Prop,(∃m,W 0 m σ H1)/\∀i m σ H,W i m σ H ->
 (J.stop i H/\D.nx σ H)\/(J.go i H/\∃N:St->Hp->Prop,(∀σ' H',N σ' H'->∃m',m'<m/\W (i+1) m' σ' H')/\∀x H',J.yld i H x H'->g x σ H' λσ2 H2=>tb {D with nx:=N,ct:=N,bk:=D.nx} σ2 H2)
noncomputable def qt(fp:List Addr)(h:Heap):List (Addr×Obj):=fp.filterMap λb=>(h.get? b).map λo=>(b,o)
theorem ja{fp:List Addr}{h:Heap}{b:Addr}{o:Obj}(hb:b∈fp)(e:h.get? b=some o):(b,o)∈qt fp h:=List.mem_filterMap.mpr ⟨b,hb,by rw[e];rfl⟩
theorem y0{fp:List Addr}{h:Heap}{p:Addr×Obj}(hp:p∈qt fp h):p.1∈fp/\h.get? p.1=some p.2:=by
 obtain⟨b,hb,e⟩:=List.mem_filterMap.mp hp
 cases q:h.get? b with
 |none=>rw[q]at e;cases e
 |some o =>
  rw[q]at e
  have e':(b,o)=p:=BP e
  subst e'
  exact⟨hb,q⟩
theorem Inv.pinned{pins:List (Addr×Obj)}{σ:St}{H:Hp}{s:Shared}{fp:List Addr}(I:Inv X pins σ H s)(hf:∀b∈fp,wb X pins H b)(ho:∀b∈fp,∃o,s.heap.get? b=some o/\∀v,o.data≠.cell v):Inv X (pins++qt fp s.heap) σ H s :=
 I.pins_of λp hp=>(CC.mp hp).elim (λz=>I.pin p (BJ _ z)) λz=>by
  obtain⟨hb,e⟩:=y0 z
  obtain⟨f0,f1,f2,_⟩:=hf p.1 hb
  obtain⟨o,e',d⟩:=ho p.1 hb
  rw[e]at e';cases e'
  exact⟨e,f0,f1,f2,d⟩
theorem Inv.unpinned{pins pl:List (Addr×Obj)}{σ:St}{H:Hp}{s:Shared}(I:Inv X (pins++pl) σ H s):Inv X pins σ H s:=I.pins_of λp hp=>I.pin p (BJ _ (List.mem_append_left _ hp))
theorem Hj {iter:Expr} {body:List Stmt} {wi:TI} {g:TG} {tb:TS} {pos:Pos} (hp:PassesOwn (model X.prog X.w) X.A X.env X.xe) (hc:X.calm=true) (hi:PI X tg iter wi) (hg:PG X tg g) (hb:PSs X body tb)
  (hs:∀x,foldedSetIterable iter X.env x=pure x:=by intro _;rfl):PS X (.For tg iter body [] pos) (Ri wi g tb):=by
 intro pins s σ H D I h
 refine wpAny_For (thn (hi pins s σ H _ I h) λv s1 h1=>thn h1 λitv s2 h2=>?_) hs
 obtain⟨it,fp,tn,J,H2,e,I2,T,st2,f2,W,⟨m0,w0⟩,turn⟩:=h2
 subst e
 -- what stays true of the iterator's objects through the loop
 have stat:∀{H':Hp},(∀b∈fp,H' b=none)->∀b∈fp,wb X pins H' b:=λhn b hb=>⟨hn b hb,(f2 b hb).2⟩
 refine codeAny_forLoop_any (λn s'=>∃i σ' H',Inv X pins σ' H' s'/\tn i s'.heap/\(∀b∈fp,H' b=none)/\W i n σ' H') ?_ m0 ⟨0,σ,H2,I2,st2,λb hb=>(f2 b hb).1,w0⟩
 rintro n s3 ⟨i,σ3,H3,I3,st3,fr3,w3⟩
 rcases turn i n σ3 H3 w3 with⟨stop,qn⟩ | ⟨go,N,hN,step⟩
 ·refine DT hp (thn (T.done X rfl rfl rfl hc i pins s3 σ3 H3 X.xe I3 (stat fr3) st3 stop) λr s4 ⟨hr,I4⟩=>?_)
  subst hr
  exact wpAny_execs_nil ⟨σ3,H3,I4,qn⟩
 ·refine DT hp (thn (T.item X rfl rfl rfl hc i pins s3 σ3 H3 X.xe I3 (stat fr3) st3 go) λr s4 ⟨u,hr,h4⟩=>?_)
  subst hr
  refine DT hp (thn h4 λ_ s5 ⟨x,H5,I5,r5,y5,st5,fr5⟩=>?_)
  have I5':=I5.pinned (stat fr5) (T.obj _ _ st5)
  refine DT hp (thn (hg _ s5 σ3 H5 x u _ I5' r5 (step x H5 y5)) λ_ s6 ⟨σ6,H6,I6,q6⟩=>?_)
  refine DT hp (thn (hb _ s6 σ6 H6 _ I6 q6) λf s7 q7=>?_)
  have again:∀{σ7:St} {H7:Hp},Inv X (pins++qt fp s5.heap) σ7 H7 s7->N σ7 H7->∃m,m<n/\∃i σ' H',Inv X pins σ' H' s7/\tn i s7.heap/\(∀b∈fp,H' b=none)/\W i m σ' H':=λ{σ7 H7} I7 n7=>by
   obtain⟨m',hm,w7⟩:=hN σ7 H7 n7
   refine⟨m',hm,i+1,σ7,H7,I7.unpinned,T.keep _ _ _ st5 λb hb o e=>(I7.pin (b,o) (BJ _ (BJ _ (ja hb e)))).1,λb hb=>?_,w7⟩
   obtain⟨o,e,d⟩:=T.obj _ _ st5 b hb
   exact(I7.pin (b,o) (BJ _ (BJ _ (ja hb e)))).2.1
  cases f with
  |next=>obtain⟨σ7,H7,I7,n7⟩:=q7;exact again I7 n7
  |cont=>obtain⟨σ7,H7,I7,n7⟩:=q7;exact again I7 n7
  |brk=>obtain⟨σ7,H7,I7,q7⟩:=q7;exact⟨σ7,H7,I7.unpinned,q7⟩
  |ret v=>obtain⟨x7,σ7,H7,I7,r7,q7⟩:=q7;exact⟨x7,σ7,H7,I7.unpinned,r7,q7⟩
end
noncomputable abbrev R2:=V->V->Hp->VK->Prop
noncomputable def OpR(X:Cx)(f:Value->Value->Sem Value)(r:R2):Prop :=
 ∀(pins:List (Addr×Obj)) (s:Shared) (σ:St) (H:Hp) (x y:V) (v u:Value) (Q:VK),Inv X pins σ H s->RelV x v->RelV y u->r x y H Q ->
  wpAny (model X.prog X.w) X.A (f v u) (EP X pins σ Q) X.xe s
noncomputable def d7(X:Cx)(f:Value)(r:List V->Hp->VK->Prop):Prop :=
 ∀(pins:List (Addr×Obj)) (s:Shared) (σ:St) (H:Hp) (xs:List V) (us:List Value) (Q:VK),Inv X pins σ H s->bz xs us->r xs H Q ->
  wpAny (model X.prog X.w) X.A (call f us) (EP X pins σ Q) X.xe s
noncomputable def Rj(X:Cx)(r:V->Hp->(Bool->Hp->Prop)->Prop):Prop :=
 ∀(pins:List (Addr×Obj)) (s:Shared) (σ:St) (H:Hp) (x:V) (v:Value) (Q:Bool->Hp->Prop),Inv X pins σ H s->RelV x v->r x H Q ->
  wpAny (model X.prog X.w) X.A (truthy v) (TP X pins σ Q) X.xe s
noncomputable def tOp(r:R2)(ta tb:TE):TE:=λσ H Q=>ta σ H λx H1=>tb σ H1 λy H2=>r x y H2 Q
noncomputable def rI(C:Int->Int->Prop)(g:Int->Int->V):R2:=λx y H Q=>∃i j,x=.int i/\y=.int j/\C i j/\Q (g i j) H
noncomputable def rI0(g:Int->Int->V):R2:=λx y H Q=>∃i j,x=.int i/\y=.int j/\Q (g i j) H
section
variable{X:Cx}{a b c:Expr}{ta tb tc:TE}{pos:Pos}
theorem Oz (ha:PE X a ta) (hb:PE X b tb) {pins:List (Addr×Obj)} {s:Shared} {σ:St} {H:Hp} {R:V->V->Hp->Prop} (I:Inv X pins σ H s)
  (h:ta σ H λx H1=>tb σ H1 λy H2=>R x y H2) {Q:Value->Shared->Prop} {f:Value->Value->Sem Value}
  (hf:∀v u s2 x y H2,Inv X pins σ H2 s2->RelV x v->RelV y u->R x y H2->wpAny (model X.prog X.w) X.A (f v u) Q X.xe s2) :
  wpAny (model X.prog X.w) X.A (eval a X.env) (λv s₁=>wpAny (model X.prog X.w) X.A (eval b X.env) (λu s₂=>wpAny (model X.prog X.w) X.A (f v u) Q X.xe s₂) X.xe s₁) X.xe s:=by
 refine thn (ha pins s σ H _ I h) λv s1 ⟨x,H1,I1,r1,q1⟩=>?_
 refine thn (hb pins s1 σ H1 _ I1 q1) λu s2 ⟨y,H2,I2,r2,q2⟩=>?_
 exact hf v u s2 x y H2 I2 r1 r2 q2
theorem Hk{op:Operator}{r:R2}(ho:OpR X (binaryOp op) r)(ha:PE X a ta)(hb:PE X b tb):PE X (.BinOp a op b pos) (tOp r ta tb):=by
 intro pins s σ H Q I h
 exact wpAny_BinOp (Oz ha hb I h λv u s2 x y H2 I2 rx ry q=>ho pins s2 σ H2 x y v u Q I2 rx ry q)
theorem opI {f:Value->Value->Sem Value} {C:Int->Int->Prop} {g:Int->Int->Int}
  (rule:∀(i j:Int) (t u:Tok) (s:Shared) (Q:Value->Shared->Prop) (E:Value->Shared->Prop),C i j->Q (.int (g i j) s.toks) {s with toks:=s.toks+1}->wpAny (model X.prog X.w) X.A (f (.int i t) (.int j u)) Q E s) :
  OpR X f (rI C λi j=>.int (g i j)):=by
 intro pins s σ H x y v u Q I rx ry h
 obtain⟨i,j,rfl,rfl,hc,q⟩:=h
 obtain⟨t,rfl⟩:=rx
 obtain⟨t',rfl⟩:=ry
 exact rule i j t t' s _ _ hc ⟨.int (g i j),H,I.tok _,⟨_,rfl⟩,q⟩
theorem Lk {f:Value->Value->Sem Value} {g:Int->Int->Int}
  (rule:∀(i j:Int) (t u:Tok) (s:Shared) (Q:Value->Shared->Prop) (E:Value->Shared->Prop),Q (.int (g i j) s.toks) {s with toks:=s.toks+1}->wpAny (model X.prog X.w) X.A (f (.int i t) (.int j u)) Q E s) :
  OpR X f (rI0 λi j=>.int (g i j)):=by
 intro pins s σ H x y v u Q I rx ry h
 obtain⟨i,j,rfl,rfl,q⟩:=h
 obtain⟨t,rfl⟩:=rx
 obtain⟨t',rfl⟩:=ry
 exact rule i j t t' s _ _ ⟨.int (g i j),H,I.tok _,⟨_,rfl⟩,q⟩
theorem Kp {f:Value->Value->Sem Value} {g:Int->Int->Bool}
  (rule:∀(i j:Int) (t u:Tok) (s:Shared) (Q:Value->Shared->Prop) (E:Value->Shared->Prop),Q (.bool (g i j)) s->wpAny (model X.prog X.w) X.A (f (.int i t) (.int j u)) Q E s) :
  OpR X f (rI0 λi j=>.bl (g i j)):=by
 intro pins s σ H x y v u Q I rx ry h
 obtain⟨i,j,rfl,rfl,q⟩:=h
 obtain⟨t,rfl⟩:=rx
 obtain⟨t',rfl⟩:=ry
 exact rule i j t t' s _ _ ⟨.bl (g i j),H,I,rfl,q⟩
noncomputable def Rk(i j:Int):Prop:=0<j/\j<1073741824
noncomputable def O0(i j:Int):Prop:=0<=j/\j<=1000000/\i.natAbs<2 ^ 64
noncomputable def CMul(i j:Int):Prop:=(-(2 ^ 64)<i/\i<2 ^ 64)\/(-(2 ^ 64)<j/\j<2 ^ 64)
theorem CMul.ok{i j:Int}(h:CMul i j):IntMulOk i j:=by
 rcases h with⟨h1,h2⟩ | ⟨h1,h2⟩
 ·exact .of_left (intBits_le_64 h1 h2)
 ·exact .of_right (intBits_le_64 h1 h2)
theorem wj(k:Nat):(0:Int)<=2 ^ k:=by
 rw[two_pow_cast]
 exact Int.natCast_nonneg _
theorem op_add:OpR X (binaryOp .Add) (rI0 λi j=>.int (i+j)):=Lk λ_ _ _ _ _ _ _ q=>add_int q
theorem op_sub:OpR X (binaryOp .Sub) (rI0 λi j=>.int (i-j)):=Lk λ_ _ _ _ _ _ _ q=>sub_int q
theorem op_mul:OpR X (binaryOp .Mult) (rI CMul λi j=>.int (i*j)):=opI λ_ _ _ _ _ _ _ hc q=>mul_int q hc.ok
theorem Ef:OpR X (binaryOp .FloorDiv) (rI Rk λi j=>.int (i / j)):=opI λi j _ _ _ _ _ hc q=>by
 have h1:(0:Int)<j:=hc.1
 have h2:j<1073741824:=hc.2
 exact floordiv_int (by lia) (by rw[EV i (by lia)];exact q) (.inl (PyProof.noPylong_small (by lia)))
theorem op_mod:OpR X (binaryOp .Mod) (rI (λ_ j=>0<j) λi j=>.int (i % j)):=opI λi j _ _ _ _ _ hc q=>by
 have h1:(0:Int)<j:=hc
 exact mod_int' (by lia) (by rw[Int.fmod_eq_emod_of_nonneg i (by lia)];exact q)
theorem op_pow:OpR X (binaryOp .Pow) (rI O0 λi j=>.int (i ^ j.toNat)):=opI λ_ _ _ _ _ _ _ hc q=>pow_int_small hc.1 hc.2.1 hc.2.2 q
theorem Hl:OpR X (binaryOp .LShift) (rI O0 λi j=>.int (i*2 ^ j.toNat)):=opI λ_ _ _ _ _ _ _ hc q=>lshift_int_small hc.1 hc.2.1 hc.2.2 q
theorem op_shr:OpR X (binaryOp .RShift) (rI (λ_ j=>0<=j) λi j=>.int (i / 2 ^ j.toNat)):=opI λi j _ _ _ _ _ hc q =>
 rshift_int hc (by rw[EV i (wj _)];exact q)
theorem Hm:OpR X (binaryOp .BitXor) (rI0 λi j=>.int (Builtin.bitXor i j)):=Lk λ_ _ _ _ _ _ _ q=>xor_int q
theorem Dg{pins:List (Addr×Obj)}{σ:St}{H:Hp}{s:Shared}{Q:VK}{k k':Bool}(I:Inv X pins σ H s)(q:Q (.bl k) H)(e:k=k'):EP X pins σ Q (.bool k') s:=by
 subst e
 exact⟨.bl k,H,I,rfl,q⟩
theorem Ll:OpR X (compareOp .Lt) (rI0 λi j=>.bl (decide (i<j))):=Kp λ_ _ _ _ _ _ _ q=>lt_int q
theorem Lm:OpR X (compareOp .LtE) (rI0 λi j=>.bl (decide (i<=j))):=Kp λ_ _ _ _ _ _ _ q=>le_int q
theorem Ln:OpR X (compareOp .Gt) (rI0 λi j=>.bl (decide (j<i))):=Kp λ_ _ _ _ _ _ _ q=>gt_int q
theorem Lo:OpR X (compareOp .GtE) (rI0 λi j=>.bl (decide (j<=i))):=Kp λ_ _ _ _ _ _ _ q=>ge_int q
theorem Hn:OpR X (compareOp .Is) (λx y H Q=>y=.non/\Q (.bl (decide (x=.non))) H):=by
 intro pins s σ H x y v u Q I rx ry h
 obtain⟨rfl,q⟩:=h
 cases ry
 refine is_none_gen (Dg I q ?_)
 cases x<;>first
  |(cases rx;rfl)
  |(obtain⟨t,rfl⟩:=rx;rfl)
theorem Eg:OpR X (compareOp .IsNot) (λx y H Q=>y=.non/\Q (.bl (!decide (x=.non))) H):=by
 intro pins s σ H x y v u Q I rx ry h
 obtain⟨rfl,q⟩:=h
 cases ry
 refine isnot_none_gen (Dg I q ?_)
 cases x<;>first
  |(cases rx;rfl)
  |(obtain⟨t,rfl⟩:=rx;rfl)
noncomputable def isObj:HO->Bool
 |.lst _=>true
 |.ins _ _ _=>true
 |_=>false
noncomputable def O1(K:PySem.W.Frag)(x:V)(H:Hp)(k:Bool):Prop :=
 match x with
 |.non=>k=false
 |.bl b=>k=b
 |.int i=>k=(i != 0)
 |.str y=>y.length<=sizeLine/\k=((y.length:Int) != 0)
 |.byt y=>y.size<=sizeLine/\k=((y.size:Int) != 0)
 |.ref p=>(∃xs,SqL K H p xs/\k=!xs.isEmpty)\/(∃xs,SqT K H p xs/\k=!xs.isEmpty)\/∃kvs,H p=some (.dK kvs)/\k=!kvs.isEmpty
 |_=>False
theorem wm{κ:Type}{kvs:List (κ×V)}{vs:List (κ×Value)}(r:KV kvs vs):(!vs.isEmpty)=!kvs.isEmpty:=by
 cases r<;>rfl
theorem oj{xs:List V}{its:List Value}(r:bz xs its):(!its.toArray.isEmpty)=!xs.isEmpty:=by
 cases r<;>simp
theorem om:(sizeLine:Nat)<2 ^ 63:=by rw[CJ];decide
theorem Ho:Rj X (λx H Q=>∃k,O1 X.K x H k/\Q k H):=by
 intro pins s σ H x v Q I rx h
 obtain⟨k,e,q⟩:=h
 have hl:=om
 have hs:sizeLine=16777216:=CJ
 cases x with
 |non =>
  cases rx
  have e':k=false:=e
  subst e'
  exact truthy_none ⟨H,I,q⟩
 |bl b =>
  cases rx
  have e':k=b:=e
  subst e'
  exact CM ⟨H,I,q⟩
 |int i =>
  obtain⟨t,rfl⟩:=rx
  have e':k=(i != 0):=e
  subst e'
  exact PySem.P.truthy_int ⟨H,I,q⟩
 |str y =>
  obtain⟨t,rfl⟩:=rx
  obtain⟨hy,e'⟩:y.length<=sizeLine/\k=((y.length:Int) != 0):=e
  subst e'
  exact PySem.P.truthy_str (by lia) ⟨H,I.tok _,q⟩
 |byt y =>
  obtain⟨t,rfl⟩:=rx
  obtain⟨hy,e'⟩:y.size<=sizeLine/\k=((y.size:Int) != 0):=e
  subst e'
  exact PySem.W.truthy_bytes (by lia) ⟨H,I.tok _,q⟩
 |ref p =>
  cases rx
  have e':(∃xs,SqL X.K H p xs/\k=!xs.isEmpty)\/(∃xs,SqT X.K H p xs/\k=!xs.isEmpty)\/∃kvs,H p=some (.dK kvs)/\k=!kvs.isEmpty:=e
  rcases e' with⟨xs,hx,e'⟩ | ⟨xs,hx,e'⟩ | ⟨kvs,hx,e'⟩
  ·subst e'
   obtain⟨its,r,pl,hz⟩:=I.list hx
   have hlen:=r.length
   exact wpAny_truthy_list pl.isList (by simp![AF];lia) ⟨H,I.tok _,by rw[oj r];exact q⟩
  ·subst e'
   obtain⟨its,r,pl,hz⟩:=I.tuple hx
   have hlen:=r.length
   exact truthy_tuple pl (by simp![AF];lia) ⟨H,I.tok _,by rw[oj r];exact q⟩
  ·subst e'
   obtain⟨hz,hS,vs,r,m⟩:kvs.length<=sizeLine/\(p==sysModules)=false/\∃vs,KV kvs vs/\s.heap.DictOf (fk X.prog X.w) p vs:=I.hok p _ hx
   have hlen:kvs.length=vs.length:=Paired.length r
   exact wpAny_truthy_dict hS m (by lia) ⟨H,I.tok _,by rw[wm r];exact q⟩
 |_=>exact(show False from e).elim
theorem o1(ha:PE X a ta)(he:∀whole,isTrue a X.env whole=(do let v <-whole;standAt a.pos;holding [v] (truthy v))) :
  PT X a (λσ H Q=>ta σ H λx H'=>∃k,O1 X.K x H' k/\Q k H'):=by
 intro pins s σ H Q I h
 exact isTrue_plain (thn (ha pins s σ H _ I h) λv s1 ⟨x,H1,I1,r1,q1⟩=>Ho pins s1 σ H1 x v Q I1 r1 q1) (he _)
theorem wo:OpR X (binaryOp .Add) (λx y H Q=>∃i j,x=.str i/\y=.str j/\i.length+j.length<=sizeLine/\Q (.str (i++j)) H):=by
 intro pins s σ H x y v u Q I rx ry h
 obtain⟨i,j,rfl,rfl,hz,q⟩:=h
 obtain⟨t,rfl⟩:=rx
 obtain⟨t',rfl⟩:=ry
 exact add_str (λt' tk=>⟨.str (i++j),H,I.tok _,⟨_,rfl⟩,q⟩) hz
theorem vals1{x:V}{us:List Value}(r:bz [x] us):∃u,us=[u]/\RelV x u:=by
 cases r with
 |cons r1 r2=>cases r2;exact⟨_,rfl,r1⟩
theorem vals2{x y:V}{us:List Value}(r:bz [x,y] us):∃u w',us=[u,w']/\RelV x u/\RelV y w':=by
 cases r with
 |cons r1 r2 =>
  cases r2 with
  |cons r3 r4=>cases r4;exact⟨_,_,rfl,r1,r3⟩
theorem y6(hc:X.calm=true):d7 X (.builtin "max") (λxs H Q=>∃i j,xs=[.int i,.int j]/\Q (.int (if j > i then j else i)) H):=by
 intro pins s σ H xs us Q I r h
 obtain⟨i,j,rfl,q⟩:=h
 obtain⟨u,w',rfl,⟨t,rfl⟩,⟨t',rfl⟩⟩:=vals2 r
 refine max_two_ints (I.ok.hd hc) λh' tk k=>⟨_,H,I.kept k,?_,q⟩
 by_cases hj:j > i
 ·rw[if_pos hj,if_pos hj];exact⟨_,rfl⟩
 ·rw[if_neg hj,if_neg hj];exact⟨_,rfl⟩
theorem y8(hc:X.calm=true):d7 X (.builtin "min") (λxs H Q=>∃i j,xs=[.int i,.int j]/\Q (.int (if j<i then j else i)) H):=by
 intro pins s σ H xs us Q I r h
 obtain⟨i,j,rfl,q⟩:=h
 obtain⟨u,w',rfl,⟨t,rfl⟩,⟨t',rfl⟩⟩:=vals2 r
 refine min_two_ints (I.ok.hd hc) λh' tk k=>⟨_,H,I.kept k,?_,q⟩
 by_cases hj:j<i
 ·rw[if_pos hj,if_pos hj];exact⟨_,rfl⟩
 ·rw[if_neg hj,if_neg hj];exact⟨_,rfl⟩
theorem qu:d7 X (.type "str") (λxs H Q=>∃i,xs=[.int i]/\i.natAbs.log2<1920/\Q (.str (toString i)) H):=by
 intro pins s σ H xs us Q I r h
 obtain⟨i,rfl,hz,q⟩:=h
 obtain⟨u,rfl,t,rfl⟩:=vals1 r
 exact PySem.P.str_of_int hz ⟨.str _,H,I.tok _,⟨_,rfl⟩,q⟩
noncomputable def Rl(K:PySem.W.Frag)(x:V)(H:Hp)(n:Nat):Prop :=
 match x with
 |.str y=>y.length<=sizeLine/\n=y.length
 |.byt y=>y.size<=sizeLine/\n=y.size
 |.ref p=>(∃xs,SqL K H p xs/\n=xs.length)\/∃xs,SqT K H p xs/\n=xs.length
 |_=>False
theorem Bm:d7 X (.builtin "len") (λxs H Q=>∃x n,xs=[x]/\Rl X.K x H n/\Q (.int n) H):=by
 intro pins s σ H xs us Q I r h
 obtain⟨x,n,rfl,e,q⟩:=h
 obtain⟨u,rfl,rx⟩:=vals1 r
 have hl:=om
 have hs:sizeLine=16777216:=CJ
 cases x with
 |str y =>
  obtain⟨t,rfl⟩:=rx
  obtain⟨hy,e'⟩:y.length<=sizeLine/\n=y.length:=e
  subst e'
  exact len_str (by lia) ⟨.int _,H,I.tok _,⟨_,rfl⟩,q⟩
 |byt y =>
  obtain⟨t,rfl⟩:=rx
  obtain⟨hy,e'⟩:y.size<=sizeLine/\n=y.size:=e
  subst e'
  exact PySem.W.len_bytes (by lia) ⟨.int _,H,I.tok _,⟨_,rfl⟩,q⟩
 |ref p =>
  cases rx
  have e':(∃xs,SqL X.K H p xs/\n=xs.length)\/∃xs,SqT X.K H p xs/\n=xs.length:=e
  rcases e' with⟨xs,hx,e'⟩ | ⟨xs,hx,e'⟩
  ·subst e'
   obtain⟨its,r',pl,hz⟩:=I.list hx
   have hlen:=r'.length
   exact Calls.call_len_list pl.isList (by simp![AF];lia) ⟨.int xs.length,H,I.tok _,⟨_,by simp![AF];rw[hlen]⟩,q⟩
  ·subst e'
   obtain⟨its,r',pl,hz⟩:=I.tuple hx
   have hlen:=r'.length
   exact len_tuple pl (by simp![AF];lia) ⟨.int xs.length,H,I.tok _,⟨_,by simp![AF];rw[hlen]⟩,q⟩
 |_=>exact(show False from e).elim
end
structure Room (k:Nat) (A:Around):Prop where
 hd:A.handled=none
 dp:A.depth+3*k+5<recursionLimit
 un:A.units+16*k+200<cLine
theorem Room.deeper{k:Nat}{A:Around}(r:Room (k+1) A)(env:Env):Room k (A.deeper env) :=
 ⟨r.hd,by have:=r.dp;show A.depth+1+3*k+5<_;lia,by have:=r.un;show A.units+3+16*k+200<_;lia⟩
theorem wq{A:Around}{C:Addr}{us:List Value}{kw:List (Str×Value)}:(A.under (.builtin "type.__call__" ⟨.ref C::us,kw⟩)).depth=A.depth+1:=by
 first | rfl | simp[Around.under,Code.weight,Code.isCreation,Code.isGuard,Code.isCaller,Code.frames,Code.isFrame,guardIds]
theorem wt{A:Around}{C:Addr}{us:List Value}{kw:List (Str×Value)}:(A.under (.builtin "type.__call__" ⟨.ref C::us,kw⟩)).units=A.units+1:=by
 first | rfl | simp[Around.under,Code.cUnits,Code.frames,Code.isFrame]
theorem Room.depth{k:Nat}{A:Around}(r:Room k A):A.depth<recursionLimit:=by have:=r.dp;lia
theorem Room.units{k:Nat}{A:Around}(r:Room k A):A.units+64<cLine:=by have:=r.un;lia
noncomputable def y9(k:Nat)(A:Around):Prop:=Room k A/\∀(C:Addr) (us:List Value) (kw:List (Str×Value)),Room k (A.under (.builtin "type.__call__" ⟨.ref C::us,kw⟩))
theorem Room.deeperX{k:Nat}{A:Around}(r:Room (k+1) A)(env:Env):y9 k (A.deeper env) :=
 ⟨r.deeper env,λC us kw=>⟨r.hd,by have:=r.dp;rw[wq];show A.depth+1+1+3*k+5<_;lia,by have:=r.un;rw[wt];show A.units+3+1+16*k+200<_;lia⟩⟩
noncomputable def tNil:TA:=λ_ H Q=>Q [] H
noncomputable def Lq(ta:TE)(tr:TA):TA:=λσ H Q=>ta σ H λx H1=>tr σ H1 λxs H2=>Q (x::xs) H2
section
variable{X:Cx}{e:Expr}{es:List Expr}{te:TE}{t:TA}{pos:Pos}
theorem Dh:PA X [] tNil:=λ_ _ _ _ H Q I h=>FJ ⟨[],H,I,.nil,h⟩
theorem tq(ha:PE X e te)(hr:PA X es t)(hs:starEach (e::es) X.env=(false,eval e X.env)::starEach es X.env:=by rfl):PA X (e::es) (Lq te t):=by
 intro pos pins s σ H Q I h
 rw[hs]
 show wpAny _ _ (spliced ((false,eval e X.env)::backTo pos (starEach es X.env))) _ _ s
 refine EW (thn (ha pins s σ H _ I h) λu s1 ⟨x,H1,I1,r1,q1⟩=>?_)
 exact thn (hr pos pins s1 σ H1 _ I1 q1) λus s2 ⟨xs,H2,I2,r2,q2⟩=>⟨x::xs,H2,I2,.cons r1 r2,q2⟩
noncomputable def Rm(t:TA):TE:=λσ H Q=>t σ H λxs H1=>xs.length<=sizeLine/\∀p,H1 p=none->Q (.ref p) (upd H1 p (.tup xs))
noncomputable def Rn(t:TA):TE:=λσ H Q=>t σ H λxs H1=>xs.length<=sizeLine/\∀p,H1 p=none->Q (.ref p) (upd H1 p (.lst xs))
theorem Hq{x1}(h:PA X es t):PE X (.Tuple es x1 pos) (Rm t):=by
 intro pins s σ H Q I hq
 refine wpAny_Tuple_spliced (thn (h pos pins s σ H _ I hq) λus s1 ⟨xs,H1,I1,r,z,q⟩=>⟨by rw[<-r.length];exact z,?_⟩)
 have hf:H1 s1.heap.objs.size=none:=I1.hok.fresh (AM _)
 refine⟨.ref s1.heap.objs.size,upd H1 s1.heap.objs.size (.tup xs),I1.laid (t':=s1.toks) (λb u e=>AC _ e) (AM _) ?_,rfl,q _ hf⟩
 exact⟨z,us,r,⟨_,AL _ rfl,rfl,rfl,_,rfl⟩⟩
theorem Hr(h:PA X es t):PE X (.List es pos) (Rn t):=by
 intro pins s σ H Q I hq
 refine wpAny_List_spliced (thn (h pos pins s σ H _ I hq) λus s1 ⟨xs,H1,I1,r,z,q⟩=>⟨by rw[<-r.length];exact z,?_⟩)
 have hf:H1 s1.heap.objs.size=none:=I1.hok.fresh (AM _)
 refine⟨.ref s1.heap.objs.size,upd H1 s1.heap.objs.size (.lst xs),I1.laid (t':=s1.toks) (λb u e=>AC _ e) (AM _) ?_,rfl,q _ hf⟩
 exact⟨z,us,0,r,AL _ rfl⟩
end
noncomputable abbrev Sp:=List V->Hp->VK->XK->Prop
noncomputable abbrev CXT:=List Env->Hp->Shared->XK->Value->Shared->Prop
structure Env0 (P:Program) (w:World) (K:PySem.W.Frag) (mg:Str->Option Value) (base:Heap) (A:Around) (outer:List Env) (s:Shared) (H:Hp):Prop where
 frames:A.frames=some outer
 mod:Mod K mg base
 bs:∀b o,base.get? b=some o->s.heap.get? b=some o/\H b=none
 bsz:base.objs.size<=s.heap.objs.size
 funs:s.heap.FunFrames base outer
 frf:∀b∈frs outer,H b=none
 hok:HOk P w H s.heap
 bare:AllBare s.gens
noncomputable def CE(outer:List Env)(P:Program)(w:World)(H:Hp)(s:Shared)(Q:VK)(u:Value)(s':Shared):Prop :=
 ∃v H',s'.os=s.os/\AllBare s'.gens/\Un (frs outer) [] H H' s.heap s'.heap/\HOk P w H' s'.heap/\RelV v u/\Q v H'
noncomputable def CR(CX:CXT)(outer:List Env)(P:Program)(w:World)(H:Hp)(s:Shared)(Q:VK)(E:XK)(r:Result)(s':Shared):Prop :=
 match r with
 |.ok (.ret u)=>CE outer P w H s Q u s'
 |.ok _=>False
 |.error e=>CX outer H s E e s'
structure FnOk (P:Program) (w:World) (K:PySem.W.Frag) (mg:Str->Option Value) (base:Heap) (CX:CXT) (k:Nat) (f:Addr) (fd:FuncData) (ps:List Str) (sp:Sp):Prop where
 len:∀vs H Q E,sp vs H Q E->vs.length=ps.length
 run:∀(A:Around) (outer:List Env) (s:Shared) (H:Hp) (args:Args) (us:List Value) (vs:List V) (Q:VK) (E:XK),Room k A->Env0 P w K mg base A outer s H->BindsTo s fd args (ps.zip us)->bz vs us->sp vs H Q E ->
  codeAny (model P w) A (.call (.ref f) args) (CR CX outer P w H s Q E) s
theorem FnOk.imp {P:Program} {w:World} {K:PySem.W.Frag} {mg:Str->Option Value} {base:Heap} {CX:CXT} {k:Nat} {f:Addr} {fd:FuncData} {ps:List Str} {sp sp':Sp} (F:FnOk P w K mg base CX k f fd ps sp)
  (h:∀vs H Q E,sp' vs H Q E->sp vs H Q E):FnOk P w K mg base CX k f fd ps sp' :=
 ⟨λvs H Q E q=>F.len vs H Q E (h _ _ _ _ q),λA outer s H args us vs Q E hr he hb hv hs=>F.run A outer s H args us vs Q E hr he hb hv (h _ _ _ _ hs)⟩
section
variable{X:Cx}{pins:List (Addr × Obj)}{σ:St}{H:Hp}{s s' : Shared}
theorem Inv.env0(I:Inv X pins σ H s):Env0 X.prog X.w X.K X.mg X.base X.A X.stack s H :=
 ⟨I.ok.frames,I.ok.mod,I.bs,BV I.ok.bsz I.sz,I.stack,I.stkFree,I.hok,I.bare⟩
theorem Inv.after{Q:VK}{u:Value}(I:Inv X pins σ H s)(h:CE X.stack X.prog X.w H s Q u s'):EP X pins σ Q u s':=by
 obtain⟨v,H',os,bare,un,hok,r,q⟩:=h
 obtain⟨hh,g,d,t,os'⟩:=s'
 obtain rfl:os'=s.os:=os
 exact⟨v,H',I.call (h':=hh) (g':=g) (d':=d) (t':=t) (ch:=[]) un hok bare (λb z=>absurd z (by simp)),r,q⟩
end
noncomputable def Ls(sp:Sp)(dvs:List V)(E:XK)(t:TA):TE:=λσ H Q=>t σ H λvs H1=>sp (vs++dvs) H1 Q E
noncomputable def Binds(K:PySem.W.Frag)(fd:FuncData)(ps:List Str)(ds:List Value):Prop :=
 ∀(s:Shared) (us:List Value),K.In s.heap->(us++ds).length=ps.length->BindsTo s fd ⟨us,[]⟩ (ps.zip (us++ds))
theorem Binds.all{K:PySem.W.Frag}{fd:FuncData}{ps:List Str}(h:∀us:List Value,us.length=ps.length->bindArgs fd ⟨us,[]⟩=pure (ps.zip us)):Binds K fd ps []:=λs us _ hl=>by
 rw[EJ]at hl ⊢
 exact .of_eq (h us hl)
noncomputable def za(CX:CXT)(X:Cx)(E:XK):Prop:=∀(pins:List (Addr×Obj)) (σ:St) (H:Hp) (s:Shared) (e:Value) (s':Shared),Inv X pins σ H s->CX X.stack H s E e s'->X.xe e s'
section
variable{X:Cx}{CX:CXT}{k:Nat}{f C:Addr}{fd:FuncData}{ps:List Str}{sp:Sp}{dvs:List V}{ds:List Value}{E:XK}{x m:Str}{p pos apos:Pos}{e o:Expr}{es:List Expr}{ta:TE}{t:TA}
theorem Hs {pins:List (Addr×Obj)} {σ:St} {H:Hp} {s:Shared} {Q:VK} {us:List Value} {vs:List V} (F:FnOk X.prog X.w X.K X.mg X.base CX k f fd ps sp) (hr:Room k X.A) (hb:Binds X.K fd ps ds) (hd:bz dvs ds) (hx:za CX X E)
  (I:Inv X pins σ H s) (r:bz vs us) (h:sp (vs++dvs) H Q E):wpAny (model X.prog X.w) X.A (call (.ref f) us) (EP X pins σ Q) X.xe s:=by
 have r2:bz (vs++dvs) (us++ds):=r.append hd
 have hl:(us++ds).length=ps.length:=by rw[<-r2.length];exact F.len _ _ _ _ h
 refine wpAny_call (codeAny_mono (F.run X.A X.stack s H ⟨us,[]⟩ (us++ds) (vs++dvs) Q E hr I.env0 (hb s us I.kIn hl) r2 h) λr s' hq=>?_)
 cases r with
 |error e=>exact hx pins σ H s e s' I hq
 |ok fl =>
  cases fl with
  |ret u=>exact I.after hq
  |next=>exact False.elim hq
  |brk=>exact False.elim hq
  |cont=>exact False.elim hq
theorem Eh (F:FnOk X.prog X.w X.K X.mg X.base CX k f fd ps sp) (hr:Room k X.A) (hg:Gl X x) (hm:X.mg x=some (.ref f)) (hk:PySem.W.keepIn X.K (.ref f)=true) (hb:Binds X.K fd ps ds) (hd:bz dvs ds) (hx:za CX X E)
  (ha:PA X (e::es) t) (hdb:(x==("__debug__":Str))=false:=by decide) (he:starEach (e::es) X.env=(false,eval e X.env)::starEach es X.env:=by rfl) (hpl:(backTo pos (starEach es X.env)).any (·.1)=false:=by rfl) :
  PE X (.Call (.Name x p) (e::es) [] pos) (Ls sp dvs E t):=by
 intro pins s σ H Q I h
 refine DA (yw I hg hm ?_ hdb)
 refine PySem.W.callWith_K (h₀:=X.base) I.ok.mod.kin hk (thn (ha pos pins s σ H _ I h) λus s1 ⟨vs,H1,I1,r,q⟩=>⟨I1.kIn,?_⟩) he hpl
 exact Hs F hr hb hd hx I1 r q
structure Mk (K:PySem.W.Frag) (C f:Addr):Prop where
 makes:PySem.W.makesIn K C=true
 init:PySem.W.findIn K (.ref C) "__init__"=some (some (.ref f))
 fn:PySem.W.isFn K (.ref f)=true
 kp:PySem.W.keepIn K (.ref C)=true
end
structure FnScope (N P:List Str) (sc:Scope):Prop where
 kind:sc.kind=.function
 co:sc.isCoroutine=false
 gen:sc.isGenerator=false
 nd:N.Nodup
 pre:N.take P.length=P
 par:∀x∈P,sc.names.lookup x=some .local\/sc.names.lookup x=some .cell
 nofree:∀y∈sc.names,y.2≠.free
theorem qw{kindOf:Str->Option NameKind}{x:Str}:∀{binds:List (Str×Value)} {m:Str->Option Value},(∀v,(x,v)∉binds)->bindL kindOf binds m x=m x
 | [],_,_=>rfl
 |(n,v)::r,m,h=>by
  unfold bindL
  rw[qw λw hw=>h w (AO _ hw)]
  split
  ·have:x≠n:=by rintro rfl;exact h v AR
   simp[this]
  ·rfl
theorem qx{kindOf:Str->Option NameKind}{x:Str}:∀{binds:List (Str×Value)} {m:Str->Option Value},(∀v,(x,v)∉binds)->bindC kindOf binds m x=m x
 | [],_,_=>rfl
 |(n,v)::r,m,h=>by
  unfold bindC
  rw[qx λw hw=>h w (AO _ hw)]
  split
  ·rfl
  ·have:x≠n:=by rintro rfl;exact h v AR
   simp[this]
theorem qy{kindOf:Str->Option NameKind}{x:Str}{v:Value}:∀{P:List Str} {vs:List Value} {i:Nat} {m:Str->Option Value},P.Nodup->P[i]? = some x->vs[i]? = some v->kindOf x=some .local ->
  bindL kindOf (P.zip vs) m x=some v
 | [],_,_,_,_,h,_,_=>by simp at h
 |_::_,[],_,_,_,_,h,_=>by simp at h
 |p::P,w::vs,0,m,nd,h1,h2,hk=>by
  simp at h1 h2;subst h1;subst h2
  show bindL kindOf ((p,w)::P.zip vs) m p=_
  unfold bindL
  rw[qw λv hv=>(EK.mp nd).1 (GN hv).1,if_pos hk]
  simp
 |p::P,w::vs,i+1,m,nd,h1,h2,hk=>by
  show bindL kindOf ((p,w)::P.zip vs) m x=_
  unfold bindL
  exact qy (i:=i) (EK.mp nd).2 (by simpa using h1) (by simpa using h2) hk
theorem qz{kindOf:Str->Option NameKind}{x:Str}{v:Value}:∀{P:List Str} {vs:List Value} {i:Nat} {m:Str->Option Value},P.Nodup->P[i]? = some x->vs[i]? = some v->kindOf x≠some .local ->
  bindC kindOf (P.zip vs) m x=some v
 | [],_,_,_,_,h,_,_=>by simp at h
 |_::_,[],_,_,_,_,h,_=>by simp at h
 |p::P,w::vs,0,m,nd,h1,h2,hk=>by
  simp at h1 h2;subst h1;subst h2
  show bindC kindOf ((p,w)::P.zip vs) m p=_
  unfold bindC
  rw[qx λv hv=>(EK.mp nd).1 (GN hv).1,if_neg hk]
  simp
 |p::P,w::vs,i+1,m,nd,h1,h2,hk=>by
  show bindC kindOf ((p,w)::P.zip vs) m x=_
  unfold bindC
  exact qz (i:=i) (EK.mp nd).2 (by simpa using h1) (by simpa using h2) hk
noncomputable def start(N:List Str)(vs:List V):St:=vs.map some++List.replicate (N.length-vs.length) none
noncomputable def Bn(CX:CXT)(P:Program)(w:World)(K:PySem.W.Frag)(mg:Str->Option Value)(base:Heap)(N:List Str)(qual:Str)(scope:Scope)(f:Addr)(cd:Value)(A:Around)(outer:List Env)(s:Shared)(H:Hp)(E:XK):Cx where
 prog:=P
 w:=w
 K:=K
 mg:=mg
 base:=base
 A:=A.deeper (envOfC qual scope s.heap.objs.size f cd)
 N:=N
 s₀:=s
 H₀:=H
 env:=envOfC qual scope s.heap.objs.size f cd
 outer:=outer
 stack:=envOfC qual scope s.heap.objs.size f cd::outer
 ex:=[]
 calm:=true
 fn:=λ_=>true
 pn:=[]
 xe:=λe s'=>wpAny (model P w) (A.deeper (envOfC qual scope s.heap.objs.size f cd)) (leaving (envOfC qual scope s.heap.objs.size f cd) e) (λ_ s''=>CX outer H s E e s'') (λe' s''=>CX outer H s E e' s'') s'
theorem l0{sc:Scope}{n:Nat}{x:Str}(h:sc.names.lookup x=some .cell):∃c,(cellsFrom n sc.names []).lookup x=some c:=by
 have q:=GF sc.names n [] (.inl h)
 exact FS.mp q
theorem zb {CX:CXT} {P:Program} {w:World} {K:PySem.W.Frag} {mg:Str->Option Value} {base:Heap} {N ps:List Str} {qual:Str} {scope:Scope} {f:Addr} {cd:Value} {A:Around} {outer:List Env} {s s1:Shared} {H:Hp} {E:XK} {us:List Value} {vs:List V}
  (S:FnScope N ps scope) (hd:A.handled=none) (e0:Env0 P w K mg base A outer s H) (hl:vs.length=ps.length) (r:bz vs us)
  (x:InCallC s s.heap.objs.size (bindL (envOfC qual scope s.heap.objs.size f cd).kindOf (ps.zip us) λ_=>none) (cellsFrom (s.heap.objs.size+1) scope.names []) (bindC (envOfC qual scope s.heap.objs.size f cd).kindOf (ps.zip us) λ_=>none) s1) :
  Inv (Bn CX P w K mg base N qual scope f cd A outer s H E) [] (start N vs) H s1:=by
 have hpl:ps.length<=N.length:=by have:=congrArg List.length S.pre;rw[CK]at this;lia
 obtain⟨h1,tk,rfl,hk⟩:=x.done
 have noA:∀b:Addr,b∉(Bn CX P w K mg base N qual scope f cd A outer s H E).ex:=λb z=>absurd (show b∈([]:List Addr)from z) (by simp)
 refine⟨⟨e0.mod,S.kind,rfl,rfl,AM _,λy z c h1 h2=>?_,λy hy=>?_,λy c _ h=>?_,λ_=>hd,Around.frames_deeper e0.frames,.inr ⟨rfl,rfl⟩,λb z=>absurd z (noA b),e0.bs,e0.bsz,λb _ _=>noA b,λb z=>absurd z (noA b),e0.funs,e0.frf⟩,
  rfl,e0.bare,Un.kept hk,⟨_,x.toInCall.ns,λi y v h1 h2 h3=>?_⟩,λy c h=>⟨_,x.cell y c h⟩,e0.hok.fresh (AM _),λy c h=>?_,λp hp=>absurd (show p∈([]:List (Addr×Obj))from hp) (by simp),e0.hok.kept hk,?_⟩
 ·exact name_of_addr x.apart (CB h1) (CB h2)
 ·have hy:scope.names.lookup y=some .cell\/scope.names.lookup y=some .free:=hy
  rcases hy with hy | hy
  ·exact l0 hy
  ·exact absurd rfl (S.nofree _ (CB hy))
 ·exact DX (x.above y c (CB h))
 ·have hi:i<vs.length:=by
   unfold start at h2
   by_cases hi:i<vs.length
   ·exact hi
   ·rw[BY (by simpa using hi)]at h2
    rw[CP]at h2
    split at h2<;>cases h2
  have ha:vs[i]? = some v:=by
   unfold start at h2
   rw[AS (by simpa using hi),BX]at h2
   cases e:vs[i]? with
   |none=>rw[e]at h2;cases h2
   |some a=>rw[e]at h2;cases h2;rfl
  obtain⟨u,hu,rv⟩:=r.get ha
  have hp:ps[i]? = some y:=by
   rw[<-S.pre,FT (by lia)];exact h1
  have ndP:ps.Nodup:=by rw[<-S.pre];exact S.nd.sublist (List.take_sublist _ _)
  refine⟨u,rv,?_⟩
  rcases S.par y (BZ hp)with k | k
  ·exact .inl ⟨k,qy ndP hp hu k⟩
  ·obtain⟨c,e⟩:=l0 (n:=s.heap.objs.size+1) k
   refine .inr ⟨.inl k,c,e,?_⟩
   have q:=x.cell y c e
   rw[qz ndP hp hu (by show scope.names.lookup y≠_;rw[k];decide)]at q
   exact q
 ·exact e0.hok.fresh (DX (x.above y c (CB h)))
 ·unfold start
  show _=N.length
  rw[BA,AV,GS]
  lia
theorem Lu {CX:CXT} {P:Program} {w:World} {K:PySem.W.Frag} {mg:Str->Option Value} {base:Heap} {k:Nat} {f:Addr} {name qual:Str} {params:Arguments} {body:List Stmt} {scope:Scope} {dV kV doc pm cdv ct oc:Value} {an od:Option Addr}
  {osl:Array (Option Value)} {N ps:List Str} {sp:Sp} (lk:K.lookup f=some ⟨oc,od,.func (PySem.W.fnOf name qual params body scope dV kV doc pm an cdv ct),osl⟩) (hcd:PySem.W.codeIn K cdv qual=true) (S:FnScope N ps scope)
  (len:∀vs H Q E,sp vs H Q E->vs.length=ps.length)
  (hbody:∀(A:Around) (outer:List Env) (s:Shared) (H:Hp) (vs:List V) (Q:VK) (E:XK),y9 k (A.deeper (envOfC qual scope s.heap.objs.size f cdv))->sp vs H Q E ->
   ∃t,PSs (Bn CX P w K mg base N qual scope f cdv A outer s H E) body t/\t {nx:=λ_ H'=>Q .non H',rt:=Q} (start N vs) H) :
  FnOk P w K mg base CX (k+1) f (PySem.W.fnOf name qual params body scope dV kV doc pm an cdv ct) ps sp:=by
 refine⟨len,λA outer s H args us vs Q E hr e0 hb r hsp=>?_⟩
 have hl:=len _ _ _ _ hsp
 have KX:K.In s.heap:=e0.mod.kin.keeps λb o e=>(e0.bs b o e).1
 have lim:s.heap.NoLimit:=e0.mod.nolimit.keeps λb o e=>(e0.bs b o e).1
 have hkind:∀y∈ps.zip us,scope.names.lookup y.1=some .local\/(scope.names.lookup y.1=some .cell/\((cellsFrom (s.heap.objs.size+1) scope.names []).lookup y.1).isSome=true):=fun⟨n,v⟩ hy=>by
  rcases S.par n (GN hy).1 with q | q
  ·exact .inl q
  ·exact .inr ⟨q,GF _ _ _ (.inl q)⟩
 refine codeAny_call_function hr.depth (KX _ _ lk) rfl S.co S.gen rfl (PySem.W.codeRec_of KX hcd) (hb _ _ _ _ ?_)
 refine wpAny_newFunctionEnv_cells S.kind hkind λenv he s1 x=>?_
 subst he
 refine⟨lim.keeps x.toInCall.keep,codeAny_func ?_⟩
 obtain⟨t,ht,hq⟩:=hbody A outer s H vs Q E (hr.deeperX _) hsp
 have I:Inv (Bn CX P w K mg base N qual scope f cdv A outer s H E) [] (start N vs) H s1:=zb S hr.hd e0 hl r x
 refine Do (ht [] s1 (start N vs) H _ I hq) (λfl s' hs=>?_) λe s' hs=>hs
 have fin:∀{σ':St} {H':Hp} {v:V} {u:Value},Inv (Bn CX P w K mg base N qual scope f cdv A outer s H E) [] σ' H' s'->RelV v u->Q v H'->CE outer P w H s Q u s' :=
  λ{σ' H' v u} J rv q=>⟨v,H',J.os,J.bare,J.base,J.hok,rv,q⟩
 cases fl with
 |ret u =>
  obtain⟨v,σ',H',J,rv,q⟩:=hs
  exact fin J rv q
 |next =>
  obtain⟨σ',H',J,q⟩:=hs
  exact fin (v:=V.non) (u:=Value.none) J rfl q
 |brk =>
  obtain⟨_,_,_,q⟩:=hs
  exact False.elim q
 |cont =>
  obtain⟨_,_,_,q⟩:=hs
  exact False.elim q
section
variable{X:Cx}{x:Str}{p pos:Pos}{e:Expr}{es:List Expr}{t:TA}{id T:String}{r:List V -> Hp -> VK -> Prop}
noncomputable def tCB(r:List V->Hp->VK->Prop)(t:TA):TE:=λσ H Q=>t σ H λvs H1=>r vs H1 Q
theorem jb (hc:d7 X (.builtin id) r) (hg:Gl X x) (hm:X.mg x=none) (hv:bootBuiltins x=some (.builtin id)) (ha:PA X (e::es) t) (hn:x≠"__name__":=by decide) (hdb:(x==("__debug__":Str))=false:=by decide)
  (he:starEach (e::es) X.env=(false,eval e X.env)::starEach es X.env:=by rfl) (hpl:(backTo pos (starEach es X.env)).any (·.1)=false:=by rfl):PE X (.Call (.Name x p) (e::es) [] pos) (tCB r t):=by
 intro pins s σ H Q I h
 refine DA (lj I hg hm hv ?_ hn hdb)
 exact PyProof.Rows.callWith_builtin1 (thn (ha pos pins s σ H _ I h) λus s1 ⟨vs,H1,I1,r1,q1⟩=>hc pins s1 σ H1 vs us Q I1 r1 q1) he hpl
theorem l8 (hc:d7 X (.type T) r) (hg:Gl X x) (hm:X.mg x=none) (hv:bootBuiltins x=some (.type T)) (ha:PA X (e::es) t) (hn:x≠"__name__":=by decide) (hdb:(x==("__debug__":Str))=false:=by decide)
  (he:starEach (e::es) X.env=(false,eval e X.env)::starEach es X.env:=by rfl) (hpl:(backTo pos (starEach es X.env)).any (·.1)=false:=by rfl):PE X (.Call (.Name x p) (e::es) [] pos) (tCB r t):=by
 intro pins s σ H Q I h
 refine DA (lj I hg hm hv ?_ hn hdb)
 exact BW (thn (ha pos pins s σ H _ I h) λus s1 ⟨vs,H1,I1,r1,q1⟩=>hc pins s1 σ H1 vs us Q I1 r1 q1) he hpl
end
end L2
namespace HT
open PySem PyProof.Rows
noncomputable def lexLt:List Int->List Int->Bool
 | [],[]=>false
 | [],_::_=>true
 |_::_,[]=>false
 |x::xs,y::ys=>if x=y then lexLt xs ys else decide (x<y)
theorem fj(x y:Int)(xs ys:List Int):lexLt (x::xs) (y::ys)=if x=y then lexLt xs ys else decide (x<y):=rfl
theorem g7:lexLt [] []=false:=rfl
theorem gh(y:Int)(ys:List Int):lexLt [] (y::ys)=true:=rfl
theorem gi(x:Int)(xs:List Int):lexLt (x::xs) []=false:=rfl
theorem o3(A:Around)(s:Shared)(a:Int)(t:Tok)(c:Int)(u:Tok):∃e,SeqAt.EqAt A s (.int a t) (.int c u) e/\(e=true↔a=c) :=
 ⟨(a==c),HH a t c u,by simp⟩
theorem Bo(A:Around)(s:Shared)(a:Int)(t:Tok)(c:Int)(u:Tok)(prog:Program)(w:World)(E:Value->Shared->Prop)(Q:Value->Shared->Prop)(h:Q (.bool (decide (a<c))) s) :
  wpAny (model prog w) A (richCompare .Lt (.int a t) (.int c u)) Q E s :=
 (PyProof.Rows.lt_int h:wpAny (model prog w) A (compareOp .Lt (.int a t) (.int c u)) Q E s)
section
open PySem.SeqAt
open PySem.AutoSeq1 (wpAny_loadPart')
open PySem.MeetsSeq PySem.MeetsSeq2 PySem.MeetsSeq3
theorem o4(l b:Addr)(items items2:Array Value)(n n2:Nat)(dd dd2:Option Addr)(sl sl2:Array (Option Value))(ns ms:List Int)(hi:IntsAre items.toList ns)(hj:IntsAre items2.toList ms) :
  Meets (Builtin.«tuple.__lt__» ⟨[.ref l,.ref b],[]⟩)
   (λ_ R s=>s.heap.get? l=some {cls:=.type "tuple",dict:=dd,data:=.seq items n,slots:=sl}/\s.heap.get? b=some {cls:=.type "tuple",dict:=dd2,data:=.seq items2 n2,slots:=sl2} /\
    R (.ok (.ret (.bool (lexLt ns ms)))) s) :=
 .of_wp λprog w A R s h=>by
  obtain⟨hp,g,d,tk,os⟩:=s;obtain⟨hl,hb,h⟩:=h
  have f2:=DP
  have z1:items.size=ns.length:=by rw[<-hi.length];simp
  have z2:items2.size=ms.length:=by rw[<-hj.length];simp
  wp_walk using CF hl,CF hb,FY _ (λrest b s'=>b.1=none/\s'=⟨hp,g,d,tk,os⟩/\∃(vs ws:List Value) (ns' ms':List Int),rest=vs.zip ws /\
   IntsAre vs ns'/\IntsAre ws ms'/\ns'.length+items2.size=ms'.length+items.size/\R (.ok (.ret (.bool (lexLt ns' ms')))) ⟨hp,g,d,tk,os⟩) _
  case turn =>
   rintro⟨y,x⟩ rest b s' ⟨hb',rfl,vs,ws,ns',ms',hz,hvi,hwi,hlen,hR⟩
   cases hvi with
   |nil=>rw[FK]at hz;cases hz
   |cons a t hvi' =>
    cases hwi with
    |nil=>rw[EX]at hz;cases hz
    |cons c u hwi' =>
     rw[CV]at hz
     injection hz with hyx hrest
     injection hyx with hy hx
     subst hy hx
     rw[fj]at hR
     simp![AQ]at hlen
     obtain⟨e,he,hiff⟩:=o3 A.in1 ⟨hp,g,d,tk,os⟩ a t c u
     refine AB (he prog w _ _ ?_)
     cases e with
     |true =>
      rw[if_pos (hiff.mp rfl)]at hR
      wp_walk
      exact⟨rfl,rfl,_,_,_,_,hrest,hvi',hwi',by lia,hR⟩
     |false =>
      rw[if_neg (λq=>absurd (hiff.mpr q) BF)]at hR
      have hri:=Bo A.in1 ⟨hp,g,d,tk,os⟩ a t c u prog w
      wp_walk using hri
      exact⟨_,rfl,by simpa using hR⟩
  case fin =>
   rintro⟨b1,b2⟩ s' ⟨hb',rfl,vs,ws,ns',ms',hz,hvi,hwi,hlen,hR⟩
   simp only at hb'
   subst hb'
   have hv:lexLt ns' ms'=decide (items.size<items2.size):=by
    cases hvi with
    |nil =>
     cases hwi with
     |nil =>
      simp![AZ]at hlen
      rw[g7]
      exact(decide_eq_false (by lia)).symm
     |cons c u hw =>
      simp![AZ,AQ]at hlen
      rw[gh]
      exact(decide_eq_true (by lia)).symm
    |cons a t hv =>
     cases hwi with
     |nil =>
      simp![AZ,AQ]at hlen
      rw[gi]
      exact(decide_eq_false (by lia)).symm
     |cons c u hw =>
      rw[CV]at hz
      cases hz
   rw[hv]at hR
   wp_walk
   exact⟨_,rfl,by simpa[Builtin.Tuple.tupleCompareSizes]using hR⟩
  case h =>
   exact⟨rfl,rfl,items.toList,items2.toList,ns,ms,rfl,hi,hj,by lia,h⟩
end
section
variable{prog:Program}{w:World}{A:Around}{E:Value -> Shared -> Prop}{s:Shared}
theorem wu {l b:Addr} {items items2:Array Value} {ns ms:List Int} {Q:Value->Shared->Prop} (hl:IsTup s.heap l items) (hb:IsTup s.heap b items2) (hi:IntsAre items.toList ns) (hj:IntsAre items2.toList ms)
  (hu:A.units<cLine) (h:Q (.bool (lexLt ns ms)) s):wpAny (model prog w) A (compareOp .Lt (.ref l) (.ref b)) Q E s:=by
 obtain⟨⟨cls,dd,data,sl⟩,ho,hc,n,hd⟩:=id hl
 obtain⟨⟨cls2,dd2,data2,sl2⟩,ho2,hc2,n2,hd2⟩:=id hb
 simp only at hc hd hc2 hd2
 subst hc hd hc2 hd2
 exact DY (op:=.Lt) ⟨_,ho,rfl⟩ ⟨_,ho2,rfl⟩ PySem.F.slot_tuple_lt PySem.F.entry_tuple_lt (PySem.F.args_tuple_lt_2 _ _) (o4 l b items items2 n n2 dd dd2 sl sl2 ns ms hi hj)
  ⟨ho,ho2,show Value.bool (lexLt ns ms)≠Value.notImplemented/\Q (.bool (lexLt ns ms)) s from⟨(λx=>nomatch x),h⟩⟩ hu
theorem Ei {t b:Addr} {vs ws:List Value} {Q:Value->Shared->Prop} (ht:IsTup s.heap t vs.toArray) (hb:IsTup s.heap b ws.toArray) (hv:vs≠[])
  (h1:ws=[]->Q (.ref t) s) (h2:ws≠[]->Q (.ref s.heap.objs.size) {s with heap:=s.heap.push {cls:=.type "tuple",data:=.seq (vs++ws).toArray}})
  (hsz:vs.length+ws.length<=sizeLine):wpAny (model prog w) A (binaryOp .Add (.ref t) (.ref b)) Q E s:=by
 obtain⟨⟨cls,dd,data,sl⟩,ho,hc,n,hd⟩:=id ht
 obtain⟨⟨cls2,dd2,data2,sl2⟩,ho2,hc2,n2,hd2⟩:=id hb
 simp only at hc hd hc2 hd2
 subst hc hd hc2 hd2
 have e:vs.toArray++ws.toArray=(vs++ws).toArray:=by simp
 by_cases hw:ws=[]
 ·exact concat_meets ⟨_,ho,rfl⟩ ⟨_,ho2,rfl⟩ FZ seq_tuple_add DZ DW (DQ _ _)
   (tuple_addW1 t b vs.toArray ws.toArray n n2 dd dd2 sl sl2 (by simpa using hv) (by simp[hw])) ⟨ho,ho2,h1 hw⟩
 ·refine concat_meets ⟨_,ho,rfl⟩ ⟨_,ho2,rfl⟩ FZ seq_tuple_add DZ DW (DQ _ _)
   (tuple_addW2 t b vs.toArray ws.toArray n n2 dd dd2 sl sl2 (by simpa using hv) (by simpa using hw) (by rw[AF,AF];exact hsz)) ⟨ho,ho2,?_⟩
  rw[e]
  exact h2 hw
noncomputable def sIx(n d:Nat):Option Int->Nat
 |none=>d
 |some v=>if v<0 then(v+(n:Int)).toNat else min v.toNat n
theorem Ht(n d:Nat)(hd:d<=n)(o:Option Int):sIx n d o<=n:=by
 cases o with
 |none=>exact hd
 |some v =>
  show(if v<0 then(v+(n:Int)).toNat else min v.toNat n)<=n
  by_cases hv:v<0
  ·rw[if_pos hv];lia
  ·rw[if_neg hv];exact Nat.min_le_right _ _
theorem zc(v:Int)(n d:Nat):(if v<0 then max (v+(n:Int)) 0 else min v (n:Int))=((sIx n d (some v):Nat):Int):=by
 show(if v<0 then max (v+(n:Int)) 0 else min v (n:Int))=(((if v<0 then(v+(n:Int)).toNat else min v.toNat n):Nat):Int)
 by_cases hv:v<0
 ·simp![if_pos hv];lia
 ·simp![if_neg hv];lia
theorem wx(lo hi:Option Int)(n:Nat):Builtin.Slice.sliceAdjust lo hi 1 (n:Int)=(((sIx n 0 lo:Nat):Int),((sIx n n hi:Nat):Int)):=by
 have h1:¬((1:Int)<0):=by lia
 unfold Builtin.Slice.sliceAdjust
 simp![h1,if_false]
 refine Prod.ext ?_ ?_
 ·cases lo with
  |none=>rfl
  |some v=>exact zc v n 0
 ·cases hi with
  |none=>rfl
  |some v=>exact zc v n n
theorem wy(i j:Nat):Builtin.Slice.slicePlaces (i:Int) (j:Int) 1=j-i:=by
 unfold Builtin.Slice.slicePlaces
 have h1:(1:Int) > 0:=by lia
 simp![h1,if_true,Int.ediv_one]
 split<;>lia
theorem oo{v:Value}{o:Option Int}{Q:Option Int->Shared->Prop}(p:IsPart v o)(h:Q o s):wpAny (model prog w) A (Builtin.Slice.slicePartIndex v) Q E s:=by
 cases p with
 |none=>exact slicePart_none h
 |int i t=>exact slicePart_int h
theorem il {sl:Addr} {vl vu:Value} {lo hi:Option Int} {n:Nat} {Q:Int×Int×Nat->Shared->Prop} (hs:s.heap.IsSliceOf sl vl vu .none) (pl:IsPart vl lo) (pu:IsPart vu hi)
  (h:Q (((sIx n 0 lo:Nat):Int),1,sIx n n hi-sIx n 0 lo) s):wpAny (model prog w) A (Builtin.Slice.sliceApplied (.ref sl) (pure (n:Int))) Q E s:=by
 obtain⟨os,hos,hcs,hds⟩:=id hs
 unfold Builtin.Slice.sliceApplied Builtin.Slice.sliceFields
 refine AB (AB (BK hos hds (x:=vl) rfl (AB (BK hos hds (x:=vu) rfl (AB (BK hos hds (x:=.none) rfl (AI ?_)))))))
 refine AB (slicePart_none ?_)
 show wpAny _ _ (if((1:Int)==0)=true then _ else _) _ _ s
 rw[if_neg (by decide)]
 refine AB (oo pl (AB (oo pu (AB (AI ?_)))))
 show wpAny _ _ (match Builtin.Slice.sliceAdjust lo hi 1 (n:Int)with | (lo,hi)=>pure (lo,(1:Int),Builtin.Slice.slicePlaces lo hi 1)) _ _ s
 rw[wx lo hi n]
 show wpAny _ _ (pure (((sIx n 0 lo:Nat):Int),(1:Int),Builtin.Slice.slicePlaces ((sIx n 0 lo:Nat):Int) ((sIx n n hi:Nat):Int) 1)) _ _ s
 rw[wy]
 exact AI h
theorem Bp(xs:Array Value)(i k:Nat):((List.range k).filterMap fun(m:Nat)=>xs[((i:Int)+(m:Int)*1).toNat]?).toArray=((xs.toList.drop i).take k).toArray:=by
 have e:(fun(m:Nat)=>xs[((i:Int)+(m:Int)*1).toNat]?)=λm=>xs[i+m]?:=by
  funext m
  have:((i:Int)+(m:Int)*1).toNat=i+m:=by lia
  rw[this]
 rw[e]
 have:=pick_run xs i k
 rw[List.filterMap_map]at this
 have e2:((λx=>xs[x]?)∘λx=>i+x)=λm=>xs[i+m]?:=rfl
 rw[e2]at this
 rw[this]
theorem ki {t sl:Addr} {items:Array Value} {vl vu:Value} {lo hi:Option Int} {Q:Value->Shared->Prop} (ht:IsTup s.heap t items) (hs:s.heap.IsSliceOf sl vl vu .none) (pl:IsPart vl lo) (pu:IsPart vu hi)
  (hw:¬(sIx items.size 0 lo=0/\sIx items.size items.size hi=items.size))
  (h:Q (.ref s.heap.objs.size) {s with heap:=s.heap.push {cls:=.type "tuple",data:=.seq ((items.toList.drop (sIx items.size 0 lo)).take (sIx items.size items.size hi-sIx items.size 0 lo)).toArray}})
  (hsz:items.size<=sizeLine):wpAny (model prog w) A (getItem (.ref t) (.ref sl)) Q E s:=by
 have htake:sizeOk (.seq ((items.toList.drop (sIx items.size 0 lo)).take (sIx items.size items.size hi-sIx items.size 0 lo)).toArray):=by
  show((items.toList.drop (sIx items.size 0 lo)).take (sIx items.size items.size hi-sIx items.size 0 lo)).toArray.size<=sizeLine
  rw[AF,CK,ED,BO]
  lia
 have hj:sIx items.size items.size hi<=items.size:=Ht _ _ (AM _) hi
 obtain⟨os,hos,hcs,hds⟩:=id hs
 have hTs:s.TypeIs (.ref sl) "slice":=⟨os,hos,hcs⟩
 unfold getItem
 try with_reducible refine FU ?_
 first | refine AB (AI ?_) | skip
 refine AB (wpAny_sequenceKey ht.typeIs (by decide) ?_)
 refine AB (BQ (name:=Str.ofString "__getitem__") ht.typeIs BN
  (CN BN ht.typeIs entry_tuple_getitem ?_ (args_tuple_getitem _ _)))
 show wpAny _ _ (Builtin.Tuple.tupleItemsOf (.ref t)>>=_) _ _ s
 refine AB (tupleItemsOf_ ht ?_)
 refine AB (GG hTs ?_)
 rw[if_pos (by decide)]
 refine AB (il hs pl pu ?_)
 have hno:¬((((sIx items.size 0 lo:Nat):Int)==0&&(1:Int)==1&&(sIx items.size items.size hi-sIx items.size 0 lo)==items.size)=true):=by
  intro q
  rw[AY,AY]at q
  have q1:((sIx items.size 0 lo:Nat):Int)=0:=eq_of_beq q.1.1
  have q2:sIx items.size items.size hi-sIx items.size 0 lo=items.size:=eq_of_beq q.2
  exact hw ⟨by lia,by lia⟩
 show wpAny _ _ (if(((sIx items.size 0 lo:Nat):Int)==0&&(1:Int)==1&&(sIx items.size items.size hi-sIx items.size 0 lo)==items.size)=true then _ else _) _ _ s
 rw[if_neg hno,Bp]
 first
  |exact AB (m:=Builtin.Tuple.tupleExact _) (CQ (AI ⟨_,rfl,AI h⟩) htake)
  |exact AB (m:=Builtin.Tuple.tupleExact _) (CQ (AB (AI (AI ⟨_,rfl,AI h⟩))) htake)
  |exact AB (AB (m:=Builtin.Tuple.tupleExact _) (CQ (AI (AI ⟨_,rfl,AI h⟩)) htake))
  |exact AB (AB (m:=Builtin.Tuple.tupleExact _) (CQ (AI ⟨_,rfl,AI h⟩) htake))
end
end HT
namespace L2
open PySem PySem.Spec PyProof.Rows
noncomputable abbrev TO:=St->Hp->(Option Int->Hp->Prop)->Prop
noncomputable def PO(X:Cx)(e:Option Expr)(t:TO):Prop :=
 ∀(pins:List (Addr×Obj)) (s:Shared) (σ:St) (H:Hp) (Q:Option Int->Hp->Prop),Inv X pins σ H s->t σ H Q ->
  wpAny (model X.prog X.w) X.A (evalPart e X.env) (λu s'=>∃o H',Inv X pins σ H' s'/\IsPart u o/\Q o H') X.xe s
noncomputable def tNoPart:TO:=λ_ H Q=>Q none H
noncomputable def Lv(t:TE):TO:=λσ H Q=>t σ H λx H1=>∃i,x=.int i/\Q (some i) H1
theorem intsAre_of{ns:List Int}:∀{us:List Value},bz (ns.map V.int) us->IntsAre us ns:=by
 induction ns with
 |nil=>intro us r;rw[DB]at r;cases r;exact .nil
 |cons n ns ih =>
  intro us r
  rw[BL]at r
  cases r with
  |cons r1 r2 =>
   obtain⟨t,e⟩:=r1
   subst e
   exact .cons n t (ih r2)
section
variable{X:Cx}{e:Expr}{te:TE}{lo hi:Option Expr}{tl th:TO}{pos p2:Pos}
theorem Ej:PO X none tNoPart:=by
 intro pins s σ H Q I h
 rw[evalPart_none]
 exact AI ⟨none,H,I,.none,h⟩
theorem Ek(h:PE X e te):PO X (some e) (Lv te):=by
 intro pins s σ H Q I hw
 rw[evalPart_some]
 refine thn (h pins s σ H _ I hw) λu s1 ⟨x,H1,I1,r1,q1⟩=>?_
 obtain⟨i,rfl,q⟩:=q1
 obtain⟨t,rfl⟩:=r1
 exact⟨some i,H1,I1,.int i t,q⟩
noncomputable def SlR(X:Cx)(r:V->Option Int->Option Int->Hp->VK->Prop):Prop :=
 ∀(pins:List (Addr×Obj)) (s:Shared) (σ:St) (H:Hp) (x:V) (v vl vu:Value) (lo hi:Option Int) (sl:Addr) (Q:VK),Inv X pins σ H s->RelV x v->s.heap.IsSliceOf sl vl vu .none->IsPart vl lo->IsPart vu hi->r x lo hi H Q ->
  ∃T id,typeLookup (.type T) "__getitem__"=pure (some (.builtin id))/\s.TypeIs v T/\wpAny (model X.prog X.w) X.A (getItem v (.ref sl)) (EP X pins σ Q) X.xe s
noncomputable def tSl(r:V->Option Int->Option Int->Hp->VK->Prop)(te:TE)(tl th:TO):TE:=λσ H Q=>te σ H λx H1=>tl σ H1 λl H2=>th σ H2 λu H3=>r x l u H3 Q
theorem Bq{r:V->Option Int->Option Int->Hp->VK->Prop}(hr:SlR X r)(he:PE X e te)(hl:PO X lo tl)(hu:PO X hi th):PE X (.Subscript e (.Slice lo hi none p2) pos) (tSl r te tl th):=by
 intro pins s σ H Q I h
 refine Subscript_ (thn (he pins s σ H _ I h) λv s1 ⟨x,H1,I1,r1,q1⟩=>?_)
 refine wpAny_Slice (thn (hl pins s1 σ H1 _ I1 q1) λvl s2 ⟨l,H2,I2,pl,q2⟩=>thn (hu pins s2 σ H2 _ I2 q2) λvu s3 ⟨u,H3,I3,pu,q3⟩=>?_)
 rw[evalPart_none]
 refine AI ?_
 have I4:Inv X pins σ H3 {s3 with heap:=s3.heap.push {cls:=.type "slice",data:=.fields #[vl,vu,.none]}}:=I3.kept (t':=s3.toks) λb ob q=>AC _ q
 obtain⟨T,id,hT,ht,hg⟩:=hr pins {s3 with heap:=s3.heap.push {cls:=.type "slice",data:=.fields #[vl,vu,.none]}} σ H3 x v vl vu l u s3.heap.objs.size Q I4 r1 (Heap.IsSliceOf.new ..) pl pu q3
 show wpAny (model X.prog X.w) X.A (subscriptTail e (.Slice lo hi none p2) v (.ref s3.heap.objs.size)) (EP X pins σ Q) X.xe {s3 with heap:=s3.heap.push {cls:=.type "slice",data:=.fields #[vl,vu,.none]}}
 exact tail_any (ops:=[.ref s3.heap.objs.size,v]) ht hT hg (by with_unfolding_all rfl)
noncomputable def Di(xs:List V)(lo hi:Option Int):List V:=(xs.drop (HT.sIx xs.length 0 lo)).take (HT.sIx xs.length xs.length hi-HT.sIx xs.length 0 lo)
theorem l9(xs:List V)(lo hi:Option Int):(Di xs lo hi).length<=xs.length:=by
 unfold Di
 rw[CK,ED]
 lia
noncomputable def Ro(K:PySem.W.Frag):V->Option Int->Option Int->Hp->VK->Prop:=λx lo hi H Q=>∃a xs,x=.ref a/\SqT K H a xs /\
 ¬(HT.sIx xs.length 0 lo=0/\HT.sIx xs.length xs.length hi=xs.length)/\∀p,H p=none->Q (.ref p) (upd H p (.tup (Di xs lo hi)))
theorem Hu:SlR X (Ro X.K):=by
 intro pins s σ H x v vl vu lo hi sl Q I rx hs pl pu h
 obtain⟨a,xs,rfl,hx,hw,q⟩:=h
 cases rx
 obtain⟨its,r,ht,hz⟩:=I.tuple hx
 have hlen:its.toArray.size=xs.length:=by rw[AF];exact r.length.symm
 refine⟨"tuple",_,BN.lookup,ht.typeIs,?_⟩
 refine HT.ki ht hs pl pu (by rw[hlen];exact hw) ?_ (by rw[hlen];exact hz)
 rw[hlen]
 refine⟨.ref s.heap.objs.size,_,I.laid (t':=s.toks) (o:=.tup (Di xs lo hi)) (λb ob q=>AC _ q) (AM _) ?_,rfl,q _ (I.hok.fresh (AM _))⟩
 exact⟨BV (l9 xs lo hi) hz,_,(r.drop (HT.sIx xs.length 0 lo)).take (HT.sIx xs.length xs.length hi-HT.sIx xs.length 0 lo),lh.new _ _⟩
noncomputable def Rp(K:PySem.W.Frag):R2:=λx y H Q=>∃a b ns ms,x=.ref a/\y=.ref b/\SqT K H a (ns.map V.int)/\SqT K H b (ms.map V.int)/\Q (.bl (HT.lexLt ns ms)) H
theorem Hv(hu:X.A.units<cLine):OpR X (compareOp .Lt) (Rp X.K):=by
 intro pins s σ H x y v u Q I rx ry h
 obtain⟨a,b,ns,ms,rfl,rfl,ha,hb,q⟩:=h
 cases rx
 cases ry
 obtain⟨its,r1,p1,_⟩:=I.tuple ha
 obtain⟨its2,r2,p2,_⟩:=I.tuple hb
 have i1:IntsAre its.toArray.toList ns:=intsAre_of r1
 have i2:IntsAre its2.toArray.toList ms:=intsAre_of r2
 exact HT.wu p1 p2 i1 i2 hu ⟨.bl (HT.lexLt ns ms),H,I,rfl,q⟩
noncomputable def Lw(K:PySem.W.Frag):R2:=λx y H Q=>∃a b xs ys,x=.ref a/\y=.ref b/\SqT K H a xs/\SqT K H b ys/\xs≠[]/\xs.length+ys.length<=sizeLine /\
 (ys=[]->Q (.ref a) H)/\(ys≠[]->∀p,H p=none->Q (.ref p) (upd H p (.tup (xs++ys))))
theorem bz.nil_iff{xs:List V}{us:List Value}(r:bz xs us):us=[]↔xs=[]:=by
 cases r with
 |nil=>simp
 |cons _ _=>simp
theorem El:OpR X (binaryOp .Add) (Lw X.K):=by
 intro pins s σ H x y v u Q I rx ry h
 obtain⟨a,b,xs,ys,rfl,rfl,ha,hb,hx,hz,q1,q2⟩:=h
 cases rx
 cases ry
 obtain⟨its,r1,p1,_⟩:=I.tuple ha
 obtain⟨its2,r2,p2,_⟩:=I.tuple hb
 refine HT.Ei p1 p2 (λz=>hx (r1.nil_iff.mp z)) (λz=>⟨.ref a,H,I,rfl,q1 (r2.nil_iff.mp z)⟩) (λz=>?_) (by rw[<-r1.length,<-r2.length];exact hz)
 refine⟨.ref s.heap.objs.size,_,I.laid (t':=s.toks) (o:=.tup (xs++ys)) (λb ob q=>AC _ q) (AM _) ?_,rfl,q2 (λw=>z (r2.nil_iff.mpr w)) _ (I.hok.fresh (AM _))⟩
 exact⟨by rw[BA];exact hz,_,r1.append r2,lh.new _ _⟩
end
noncomputable def ixN(n:Nat)(i:Int):Option Nat:=if 0<=i then(if i<n then some i.toNat else none)else if -(n:Int)<=i then some (i+n).toNat else none
noncomputable def atI{α:Type}(xs:List α)(i:Int):Option α:=(ixN xs.length i).bind λj=>xs[j]?
theorem Em{n:Nat}{i:Int}{j:Nat}(h:ixN n i=some j):seqIndex? i n=some j/\j<n /\ -(n:Int)<=i/\i<n:=by
 unfold ixN at h
 by_cases h0:0<=i
 ·rw[if_pos h0]at h
  by_cases h1:i<n
  ·rw[if_pos h1]at h
   have e:i.toNat=j:=BP h
   exact⟨by rw[seqIndex_of h0 h1,e],by lia,by lia,h1⟩
  ·rw[if_neg h1]at h;cases h
 ·rw[if_neg h0]at h
  by_cases h1:-(n:Int)<=i
  ·rw[if_pos h1]at h
   have e:(i+n).toNat=j:=BP h
   exact⟨by rw[seqIndex_neg (by lia) h1,e],by lia,h1,by lia⟩
  ·rw[if_neg h1]at h;cases h
theorem tu{α:Type}{xs:List α}{i:Int}{v:α}(h:atI xs i=some v):∃j,seqIndex? i xs.length=some j/\xs[j]? = some v/\j<xs.length /\ -(xs.length:Int)<=i/\i<xs.length:=by
 unfold atI at h
 cases e:ixN xs.length i with
 |none=>rw[e]at h;cases h
 |some j =>
  rw[e]at h
  obtain⟨h1,h2,h3,h4⟩:=Em e
  exact⟨j,h1,h,h2,h3,h4⟩
noncomputable def tv(b:Expr):Prop:=∀o i,subscripted b false o i=operate [o,i] (getItem o i)
noncomputable def IxR(X:Cx)(r:R2):Prop :=
 ∀(value slice:Expr) (pins:List (Addr×Obj)) (s:Shared) (σ:St) (H:Hp) (x y:V) (v u:Value) (Q:VK),Inv X pins σ H s->RelV x v->RelV y u->r x y H Q ->
  subscripted slice false v u=operate [v,u] (getItem v u)->wpAny (model X.prog X.w) X.A (subscriptTail value slice v u) (EP X pins σ Q) X.xe s
noncomputable def MtR(X:Cx)(id:String)(r:V->List V->Hp->VK->Prop):Prop :=
 ∀(pins:List (Addr×Obj)) (s:Shared) (σ:St) (H:Hp) (x:V) (xs:List V) (v:Value) (us:List Value) (Q:VK),Inv X pins σ H s->RelV x v->bz xs us->r x xs H Q ->
  wpAny (model X.prog X.w) X.A (call (.builtin id) (v::us)) (EP X pins σ Q) X.xe s
section
variable{X:Cx}{a b:Expr}{ta tb:TE}{pos:Pos}
theorem IxR.or{r r':R2}(h:IxR X r)(h':IxR X r'):IxR X (λx y H Q=>r x y H Q\/r' x y H Q):=by
 intro value slice pins s σ H x y v u Q I rx ry q hs
 rcases q with q | q
 ·exact h value slice pins s σ H x y v u Q I rx ry q hs
 ·exact h' value slice pins s σ H x y v u Q I rx ry q hs
theorem Lx{r:R2}(hr:IxR X r)(ha:PE X a ta)(hb:PE X b tb)(hs:tv b):PE X (.Subscript a b pos) (tOp r ta tb):=by
 intro pins s σ H Q I h
 exact Subscript_ (Oz ha hb I h λv u s2 x y H2 I2 rx ry q=>hr a b pins s2 σ H2 x y v u Q I2 rx ry q (hs _ _))
noncomputable def O2(K:PySem.W.Frag):R2:=λx y H Q=>∃p xs i v,x=.ref p/\y=.int i/\SqL K H p xs/\atI xs i=some v/\Q v H
noncomputable def O3(K:PySem.W.Frag):R2:=λx y H Q=>∃p xs i v,x=.ref p/\y=.int i/\SqT K H p xs/\atI xs i=some v/\Q v H
noncomputable def rIxS:R2:=λx y H Q=>∃z i c,x=.str z/\y=.int i/\z.length<=sizeLine/\atI z.cps.toList i=some c/\Q (.str ⟨#[c]⟩) H
theorem En:IxR X (O2 X.K):=by
 intro value slice pins s σ H x y v u Q I rx ry h hs
 obtain⟨p,xs,i,z,rfl,rfl,hq,he,q⟩:=h
 cases rx
 obtain⟨t,rfl⟩:=ry
 obtain⟨its,r,pl,hz⟩:=I.list hq
 obtain⟨j,h1,h2,h3,h4,h5⟩:=tu he
 obtain⟨w,ew,rw'⟩:=r.get h2
 have hl:=r.length
 have hn:=om
 have fin:EP X pins σ Q w s:=⟨z,H,I,rw',q⟩
 by_cases h0:0<=i
 ·have hj:i.toNat=j:=by
   rw[seqIndex_of h0 h5]at h1
   exact BP h1
  exact item_listR pl.isList h0 (by lia) (by rw[hj];simpa using ew) fin hs
 ·have hj:(i+(its.toArray.size:Int)).toNat=j:=by
   rw[seqIndex_neg (by lia) h4]at h1
   rw[AF,<-hl]
   exact BP h1
  exact subscriptTail_builtinR (x:=w) pl.isList.typeIs slot_list_getitem.lookup
   (wpAny_getItem_list_neg (Q:=λr s'=>r=w/\EP X pins σ Q r s') pl.isList (by lia) (by rw[AF]<;>lia) (by lia) (by rw[hj];simpa using ew) ⟨rfl,fin⟩) hs
theorem Hw:IxR X (O3 X.K):=by
 intro value slice pins s σ H x y v u Q I rx ry h hs
 obtain⟨p,xs,i,z,rfl,rfl,hq,he,q⟩:=h
 cases rx
 obtain⟨t,rfl⟩:=ry
 obtain⟨its,r,pl,hz⟩:=I.tuple hq
 obtain⟨j,h1,h2,h3,h4,h5⟩:=tu he
 obtain⟨w,ew,rw'⟩:=r.get h2
 have hl:=r.length
 have hn:=om
 have fin:EP X pins σ Q w s:=⟨z,H,I,rw',q⟩
 exact subscriptTail_builtinR (x:=w) pl.typeIs slot_tuple_getitem.lookup
  (getItem_tuple (j:=j) (Q:=λr s'=>r=w/\EP X pins σ Q r s') pl (by lia) (by lia) (by rw[AF,<-hl];exact h1) (by simpa using ew) ⟨rfl,fin⟩) hs
theorem Hx:IxR X rIxS:=by
 intro value slice pins s σ H x y v u Q I rx ry h hs
 obtain⟨z,i,c,rfl,rfl,hz,he,q⟩:=h
 obtain⟨t,rfl⟩:=rx
 obtain⟨t',rfl⟩:=ry
 obtain⟨j,h1,h2,h3,h4,h5⟩:=tu he
 have hl:z.cps.toList.length=z.length:=by simp[Str.length]
 rw[hl]at h1 h4 h5
 have hn:=om
 exact tail_any (EY s z t) slot_str_getitem.lookup (getItem_str (c:=c) (by
  have e1:decide (i < -(2 ^ 63:Int))=false:=decide_eq_false (by lia)
  have e2:decide (i≥2 ^ 63)=false:=decide_eq_false (by lia)
  rw[e1,e2,Bool.or_false]) (by rw[h1];simpa using h2) ⟨.str ⟨#[c]⟩,H,I.tok _,⟨_,rfl⟩,q⟩) hs
noncomputable def rIx(K:PySem.W.Frag):R2:=λx y H Q=>O2 K x y H Q\/O3 K x y H Q\/rIxS x y H Q
theorem Hy:IxR X (rIx X.K):=En.or (Hw.or Hx)
theorem q0(lo hi:Option Int)(n:Nat):(sliceBounds lo hi none n).1=((HT.sIx n 0 lo:Nat):Int)/\(sliceBounds lo hi none n).2.1=((HT.sIx n n hi:Nat):Int)/\(sliceBounds lo hi none n).2.2=1:=by
 refine⟨?_,?_,rfl⟩
 ·cases lo with
  |none=>simp[sliceBounds,HT.sIx]
  |some i =>
   simp![sliceBounds,HT.sIx,Option.getD_none,show(1:Int) > 0 by decide,if_true]
   by_cases h:i<0
   ·simp![h,if_true]<;>lia
   ·simp![h,if_false]<;>lia
 ·cases hi with
  |none=>simp[sliceBounds,HT.sIx]
  |some i =>
   simp![sliceBounds,HT.sIx,Option.getD_none,show(1:Int) > 0 by decide,if_true]
   by_cases h:i<0
   ·simp![h,if_true]<;>lia
   ·simp![h,if_false]<;>lia
theorem o5(its:List Value)(lo hi:Option Int):slicePick its.toArray lo hi none=((its.drop (HT.sIx its.length 0 lo)).take (HT.sIx its.length its.length hi-HT.sIx its.length 0 lo)).toArray:=by
 obtain⟨h1,h2,h3⟩:=q0 lo hi its.toArray.size
 unfold slicePick
 rw[h1,h2,h3]
 simp![sliceRange_one,pick_run,AF]<;>rfl
noncomputable def Rq(K:PySem.W.Frag):V->Option Int->Option Int->Hp->VK->Prop:=λx lo hi H Q=>∃a xs,x=.ref a/\SqL K H a xs/\∀p,H p=none->Q (.ref p) (upd H p (.lst (Di xs lo hi)))
theorem Eo:SlR X (Rq X.K):=by
 intro pins s σ H x v vl vu lo hi sl Q I rx hs pl pu h
 obtain⟨a,xs,rfl,hx,q⟩:=h
 cases rx
 obtain⟨its,r,ht,hz⟩:=I.list hx
 have hlen:=r.length
 refine⟨"list",_,slot_list_getitem.lookup,ht.isList.typeIs,?_⟩
 refine wpAny_getItem_list_slice ht.isList hs pl pu .none (by simp) ?_ (by rw[AF]<;>lia)
 rw[o5,<-hlen]
 refine⟨.ref s.heap.objs.size,_,I.laid (t':=s.toks) (o:=.lst (Di xs lo hi)) (λb ob q=>AC _ q) (AM _) ?_,rfl,q _ (I.hok.fresh (AM _))⟩
 exact⟨BV (l9 xs lo hi) hz,_,0,(r.drop (HT.sIx xs.length 0 lo)).take (HT.sIx xs.length xs.length hi-HT.sIx xs.length 0 lo),AL _ rfl⟩
noncomputable def n8:V->Bool
 |.non=>true
 |.bl _=>true
 |.int _=>true
 |.str _=>true
 |_=>false
noncomputable def eqV:V->V->Bool
 |.non,.non=>true
 |.bl a,.bl b=>a==b
 |.bl a,.int b=>(if a then 1 else 0)==b
 |.int a,.bl b=>a==(if b then 1 else 0)
 |.int a,.int b=>a==b
 |.str a,.str b=>a==b
 |_,_=>false
theorem Hz{A:Around}{s:Shared}{y x:V}{u v:Value}(ry:RelV y u)(rx:RelV x v)(fy:n8 y=true)(fx:n8 x=true):SeqAt.EqAt A s u v (eqV y x):=by
 cases y with
 |non =>
  cases ry
  cases x with
  |non=>cases rx;exact SeqAt.EqAt.same _
  |bl b=>cases rx;exact SeqAt.EqAt.none_bool b
  |int b=>obtain⟨t,rfl⟩:=rx;exact SeqAt.EqAt.none_int b t
  |str b=>obtain⟨t,rfl⟩:=rx;exact SeqAt.EqAt.none_str b t
  |_=>exact absurd (show false=true from fx) BF
 |bl a =>
  cases ry
  cases x with
  |non=>cases rx;exact SeqAt.EqAt.bool_none a
  |bl b=>cases rx;exact SeqAt.EqAt.bool_bool a b
  |int b=>obtain⟨t,rfl⟩:=rx;exact SeqAt.EqAt.bool_int a b t
  |str b=>obtain⟨t,rfl⟩:=rx;exact SeqAt.EqAt.bool_str a b t
  |_=>exact absurd (show false=true from fx) BF
 |int a =>
  obtain⟨t',rfl⟩:=ry
  cases x with
  |non=>cases rx;exact SeqAt.EqAt.int_none a t'
  |bl b=>cases rx;exact SeqAt.EqAt.int_bool a t' b
  |int b=>obtain⟨t,rfl⟩:=rx;exact HH a t' b t
  |str b=>obtain⟨t,rfl⟩:=rx;exact HF a t' b t
  |_=>exact absurd (show false=true from fx) BF
 |str a =>
  obtain⟨t',rfl⟩:=ry
  cases x with
  |non=>cases rx;exact SeqAt.EqAt.str_none a t'
  |bl b=>cases rx;exact SeqAt.EqAt.str_bool a t' b
  |int b=>obtain⟨t,rfl⟩:=rx;exact HG a t' b t
  |str b=>obtain⟨t,rfl⟩:=rx;exact SeqAt.EqAt.str_str a t' b t
  |_=>exact absurd (show false=true from fx) BF
 |_=>exact absurd (show false=true from fy) BF
noncomputable def eqU(x:V)(u:Value):Bool:=match u with
 |.none=>eqV .non x
 |.bool b=>eqV (.bl b) x
 |.int i _=>eqV (.int i) x
 |.str z _=>eqV (.str z) x
 |_=>false
theorem Dj{x y:V}{u:Value}(r:RelV y u)(f:n8 y=true):eqU x u=eqV y x:=by
 cases y with
 |non=>cases r;rfl
 |bl b=>cases r;rfl
 |int i=>obtain⟨t,rfl⟩:=r;rfl
 |str z=>obtain⟨t,rfl⟩:=r;rfl
 |_=>exact absurd (show false=true from f) BF
theorem ma{x:V}:∀{xs:List V} {us:List Value},bz xs us->xs.all n8=true->us.any (eqU x)=xs.any λy=>eqV y x
 |_,_,.nil,_=>rfl
 |y::xs,u::us,.cons r t,f=>by
  rw[BI,AY]at f
  rw[FV,FV,Dj r f.1,ma t f.2]
theorem jz{A:Around}{s:Shared}{x:V}{v:Value}(rx:RelV x v)(fx:n8 x=true):∀{xs:List V} {us:List Value},bz xs us->xs.all n8=true->∀u∈us,SeqAt.EqAt A s u v (eqU x u)
 |_,_,.nil,_=>λu hu=>by cases hu
 |y::xs,u::us,.cons r t,f=>λu' hu=>by
  rw[BI,AY]at f
  rcases AJ.mp hu with rfl | hu
  ·rw[Dj r f.1];exact Hz r rx f.1 fx
  ·exact jz rx fx t f.2 u' hu
noncomputable def inV(x:V)(xs:List V):Bool:=xs.any λy=>eqV y x
noncomputable def rIn(K:PySem.W.Frag)(neg:Bool):R2:=λx y H Q=>∃p xs,y=.ref p/\(SqL K H p xs\/SqT K H p xs)/\n8 x=true/\xs.all n8=true/\Q (.bl (if neg then !inV x xs else inV x xs)) H
theorem zd:OpR X (compareOp .In) (rIn X.K false):=by
 intro pins s σ H x y v u Q I rx ry h
 obtain⟨p,xs,rfl,hq,fx,fs,q⟩:=h
 cases ry
 rcases hq with hq | hq
 ·obtain⟨its,r,pl,hz⟩:=I.list hq
  refine SeqAt.in_listAt (eqU x) pl.isList (λw hw=>jz rx fx r fs w (by simpa using hw)) ⟨.bl _,H,I,rfl,?_⟩
  rw[show its.toArray.any (eqU x)=its.any (eqU x)by simp,ma r fs]
  exact q
 ·obtain⟨its,r,pl,hz⟩:=I.tuple hq
  refine SeqAt.in_tupleAt (eqU x) pl (λw hw=>jz rx fx r fs w (by simpa using hw)) ⟨.bl _,H,I,rfl,?_⟩
  rw[show its.toArray.any (eqU x)=its.any (eqU x)by simp,ma r fs]
  exact q
theorem rd:OpR X (compareOp .NotIn) (rIn X.K true):=by
 intro pins s σ H x y v u Q I rx ry h
 obtain⟨p,xs,rfl,hq,fx,fs,q⟩:=h
 cases ry
 rcases hq with hq | hq
 ·obtain⟨its,r,pl,hz⟩:=I.list hq
  refine SeqAt.notIn_listAt (eqU x) pl.isList (λw hw=>jz rx fx r fs w (by simpa using hw)) ⟨.bl _,H,I,rfl,?_⟩
  rw[show its.toArray.any (eqU x)=its.any (eqU x)by simp,ma r fs]
  exact q
 ·obtain⟨its,r,pl,hz⟩:=I.tuple hq
  refine SeqAt.notIn_tupleAt (eqU x) pl (λw hw=>jz rx fx r fs w (by simpa using hw)) ⟨.bl _,H,I,rfl,?_⟩
  rw[show its.toArray.any (eqU x)=its.any (eqU x)by simp,ma r fs]
  exact q
theorem rf:d7 X (.builtin "len") (λxs H Q=>∃p ys,xs=[.ref p]/\(SqL X.K H p ys\/SqT X.K H p ys)/\Q (.int ys.length) H):=by
 intro pins s σ H xs us Q I r h
 obtain⟨p,ys,rfl,hq,q⟩:=h
 obtain⟨u,rfl,rx⟩:=vals1 r
 cases rx
 have hn:=om
 rcases hq with hq | hq
 ·obtain⟨its,r',pl,hz⟩:=I.list hq
  have hlen:=r'.length
  exact Calls.call_len_list pl.isList (by simp![AF]<;>lia) ⟨.int ys.length,H,I.tok _,⟨s.toks+1,by rw[AF,hlen]⟩,q⟩
 ·obtain⟨its,r',pl,hz⟩:=I.tuple hq
  have hlen:=r'.length
  exact len_tuple pl (by simp![AF]<;>lia) ⟨.int ys.length,H,I.tok _,⟨s.toks+1,by rw[AF,hlen]⟩,q⟩
theorem o6:d7 X (.type "tuple") (λxs H Q=>∃p ys,xs=[.ref p]/\((SqL X.K H p ys/\∀l,H l=none->Q (.ref l) (upd H l (.tup ys)))\/(SqT X.K H p ys/\Q (.ref p) H))):=by
 intro pins s σ H xs us Q I r h
 obtain⟨p,ys,rfl,h⟩:=h
 obtain⟨u,rfl,rx⟩:=vals1 r
 cases rx
 rcases h with⟨hq,q⟩ | ⟨hq,q⟩
 ·obtain⟨its,r',pl,hz⟩:=I.list hq
  have hlen:=r'.length
  refine call_tuple_list pl.isList (λh' kp=>?_) (by simp![AF]<;>lia)
  have I1:Inv X pins σ H {s with heap:=h'}:=I.kept (t':=s.toks) kp
  have I2:Inv X pins σ (upd H h'.objs.size (.tup ys)) {s with heap:=h'.push {cls:=.type "tuple",data:=.seq its.toArray}} :=
   I1.laid (t':=s.toks) (λb o e=>AC _ e) (AM _) (show ip X.prog X.w _ _ _ (.tup ys)from⟨hz,its,r',lh.new _ _⟩)
  exact⟨.ref h'.objs.size,_,I2,rfl,q _ (I1.hok.fresh (AM _))⟩
 ·obtain⟨its,r',pl,hz⟩:=I.tuple hq
  exact call_tuple_same pl ⟨.ref p,H,I,rfl,q⟩
noncomputable def tyV(K:PySem.W.Frag)(T:String)(x:V)(H:Hp):Prop:=match x with
 |.str _=>T="str"
 |.int _=>T="int"
 |.ref p=>(T="list"/\∃xs,SqL K H p xs)\/(T="tuple"/\∃o,K.lookup p=some o/\o.cls=.type "tuple"/\o.dict=none) \/
   (T="dict"/\((∃kvs,H p=some (.dK kvs))\/∃kvs,H p=some (.dT kvs)))\/(T="set"/\∃S n,H p=some (.set S n))
 |_=>False
theorem Dk{pins:List (Addr×Obj)}{σ:St}{H:Hp}{s:Shared}{T:String}{x:V}{v:Value}(I:Inv X pins σ H s)(r:RelV x v)(ty:tyV X.K T x H) :
  s.TypeIs v T/\∀a,v=.ref a->∃ob,s.heap.get? a=some ob/\ob.dict=none:=by
 cases x with
 |str z =>
  obtain⟨t,rfl⟩:=r
  cases(show T="str" from ty)
  exact⟨EY s z t,λ_ e=>nomatch e⟩
 |int i =>
  obtain⟨t,rfl⟩:=r
  cases(show T="int" from ty)
  exact⟨typeIs_int s i t,λ_ e=>nomatch e⟩
 |ref p =>
  cases r
  rcases ty with⟨rfl,xs,hq⟩ | ⟨rfl,o,hk,hc,hd⟩ | ⟨rfl,hk⟩ | ⟨rfl,S,n,hk⟩
  ·obtain⟨its,_,pl,_⟩:=I.list hq
   refine⟨pl.isList.typeIs,λa e=>?_⟩
   cases e
   obtain⟨o,n,e,c,hd,_⟩:=pl
   exact⟨o,e,hd⟩
  ·refine⟨⟨o,I.kIn p o hk,hc⟩,λa e=>?_⟩
   cases e
   exact⟨o,I.kIn _ o hk,hd⟩
  ·have z:∃o,s.heap.get? p=some o/\o.ExactDict:=by
    rcases hk with⟨kvs,hk⟩ | ⟨kvs,hk⟩
    ·obtain⟨_,_,_,_,o,_,_,e,ex,_⟩:=I.hok p _ hk
     exact⟨o,e,ex⟩
    ·obtain⟨_,_,_,_,o,_,_,e,ex,_⟩:=I.hok p _ hk
     exact⟨o,e,ex⟩
   obtain⟨o,e,ex⟩:=z
   refine⟨⟨o,e,ex.1⟩,λa e2=>?_⟩
   cases e2
   exact⟨o,e,ex.2.1⟩
  ·obtain⟨o,_,_,_,e,ex,_⟩:=I.hok p _ hk
   refine⟨⟨o,e,ex.1⟩,λa e2=>?_⟩
   cases e2
   exact⟨o,e,ex.2.1⟩
 |_=>exact False.elim ty
noncomputable def Ly(K:PySem.W.Frag)(T:String)(r:V->List V->Hp->VK->Prop)(to:TE):TE:=λσ H Q=>to σ H λx H1=>tyV K T x H1/\r x [] H1 Q
noncomputable def tBM(K:PySem.W.Frag)(T:String)(r:V->List V->Hp->VK->Prop)(to:TE)(t:TA):TE:=λσ H Q=>to σ H λx H1=>tyV K T x H1/\t σ H1 λxs H2=>r x xs H2 Q
variable{o e:Expr}{es:List Expr}{to:TE}{t:TA}{name:Str}{apos cpos:Pos}{T id:String}{r:V -> List V -> Hp -> VK -> Prop}
theorem Dl (pa:PlainAttrs T) (slot:Slot T name id) (hty:typeOf (.builtin id)=pure (.type "method_descriptor")) (hm:MtR X id r) (ho:PE X o to)
  (hbase:attributeBase o name X.env (eval o X.env)=eval o X.env:=by rfl) (hline:(apos.endLine==cpos.line)=true:=by rfl):PE X (.Call (.Attribute o name apos) [] [] cpos) (Ly X.K T r to):=by
 intro pins s σ H Q I h
 refine wpAny_Call_method0_late hbase hline (thn (ho pins s σ H _ I h) λv s1 ⟨x,H1,I1,r1,ty,q1⟩=>?_)
 obtain⟨h1,h2⟩:=Dk I1 r1 ty
 exact⟨T,id,pa,slot,hty,h1,h2,GH rfl (PySem.evalArgs_none (hm pins s1 σ H1 x [] v [] Q I1 r1 .nil q1))⟩
theorem wz (pa:PlainAttrs T) (slot:Slot T name id) (hty:typeOf (.builtin id)=pure (.type "method_descriptor")) (hm:MtR X id r) (ho:PE X o to) (ha:PA X (e::es) t)
  (hbase:attributeBase o name X.env (eval o X.env)=eval o X.env:=by rfl)
  (hfew:((backTo cpos (starEach (e::es) X.env)).all (λx=>!x.1)&&(backToKw cpos (keywordEach [] X.env)).all (λx=>x.1.isSome)
   && decide ((e::es).length+([]:List Keyword).length+(if([]:List Keyword).isEmpty then 0 else 1)<30))=true:=by rfl)
  (hline:(apos.endLine==cpos.line)=true:=by rfl) (hs:starEach (e::es) X.env=(false,eval e X.env)::starEach es X.env:=by rfl) (hplain:(backTo cpos (starEach es X.env)).any (·.1)=false:=by rfl) :
  PE X (.Call (.Attribute o name apos) (e::es) [] cpos) (tBM X.K T r to t):=by
 intro pins s σ H Q I h
 refine wpAny_Call_method_late hbase hfew hline rfl (thn (ho pins s σ H _ I h) λv s1 ⟨x,H1,I1,r1,ty,q1⟩=>?_)
 obtain⟨h1,h2⟩:=Dk I1 r1 ty
 refine⟨T,id,pa,slot,hty,h1,h2,?_⟩
 have hA:=ha cpos pins s1 σ H1 _ I1 q1
 rw[hs]at hA ⊢
 refine GH (by show(false || (backTo cpos (starEach es X.env)).any (·.1))=false;rw[hplain]<;>rfl) (Calls.evalArgs_plain ?_)
 exact thn hA λus s2 ⟨vs,H2,I2,r2,q2⟩=>hm pins s2 σ H2 x vs v us Q I2 r1 r2 q2
end
noncomputable def MtM(X:Cx)(id:String)(r:V->List V->Hp->VK->Prop):Prop :=
 ∀(pins:List (Addr×Obj)) (s:Shared) (σ:St) (H:Hp) (x:V) (xs:List V) (v:Value) (us:List Value) (Q:VK),Inv X pins σ H s->RelV x v->bz xs us->r x xs H Q ->
  wpAny (model X.prog X.w) X.A (call (.builtin id) (v::us)) (EP X pins σ Q) X.xe s
theorem bz.one:∀{x:V} {us:List Value},bz [x] us->∃u,us=[u]/\RelV x u
 |_,_,.cons r .nil=>⟨_,rfl,r⟩
theorem bz.zero:∀{us:List Value},bz [] us->us=[]
 |_,.nil=>rfl
theorem bz.dropLast{xs:List V}{us:List Value}(h:bz xs us):bz xs.dropLast us.dropLast:=by
 induction h with
 |nil=>exact .nil
 |cons r t ih =>
  cases t with
  |nil=>exact .nil
  |cons q t'=>exact .cons r ih
theorem bz.eraseIdx:∀{xs:List V} {us:List Value} (i:Nat),bz xs us->bz (xs.eraseIdx i) (us.eraseIdx i)
 |_,_,_,.nil=>.nil
 |_,_,0,.cons _ t=>t
 |_,_,i+1,.cons r t=>.cons r (bz.eraseIdx i t)
theorem bz.reverse{xs:List V}{us:List Value}(h:bz xs us):bz xs.reverse us.reverse:=by
 induction h with
 |nil=>exact .nil
 |cons r t ih=>rw[FL,FL];exact bz.append ih (.cons r .nil)
theorem bz.rep{xs:List V}{us:List Value}(h:bz xs us):∀k:Nat,bz (List.replicate k xs).flatten (List.replicate k us).flatten
 |0=>.nil
 |k+1=>by
  rw[CT,CT,DJ,DJ]
  exact bz.append h (bz.rep h k)
theorem w4{α:Type}(l:List α):l.eraseIdx (l.length-1)=l.dropLast:=by
 induction l with
 |nil=>rfl
 |cons a r ih =>
  cases r with
  |nil=>rfl
  |cons b r =>
   have e:(a::b::r).length-1=((b::r).length-1)+1:=by
    have h1:(a::b::r).length=r.length+2:=rfl
    have h2:(b::r).length=r.length+1:=rfl
    lia
   rw[e,Go,ih]
   all_goals rfl
theorem rg{α:Type}:∀(l:List α) (i:Nat),(l.eraseIdx i).length<=l.length
 | [],_=>AM _
 |_::_,0=>GZ _
 |_::r,i+1=>Nat.succ_le_succ (rg r i)
theorem foldl_rep(its:List Value):∀(k:Nat) (acc:List Value),
  List.foldl (λx1 x2=>x1++x2) acc.toArray (List.replicate k its.toArray)=(acc++(List.replicate k its).flatten).toArray
 |0,acc=>by simp
 |k+1,acc=>by
  have e:acc.toArray++its.toArray=(acc++its).toArray:=by simp
  have e2:(acc++its)++(List.replicate k its).flatten=acc++(List.replicate (k+1) its).flatten:=by
   rw[CT,DJ,Ev]
  rw[<-e2,<-foldl_rep its k (acc++its),<-e,CT,EL]
section
variable{X:Cx}{pins:List (Addr × Obj)}{σ:St}{H:Hp}{s:Shared}{l b:Addr}{xs ys zs:List V}
theorem Inv.lset {its its':List Value} {n:Nat} {f:Array Value->Array Value} {t':Nat} (I:Inv X pins σ H s) (hH:H l=some (.lst xs))
  (e:s.heap.get? l=some {cls:=.type "list",data:=.seq its.toArray n}) (hf:f its.toArray=its'.toArray) (hv:bz ys its') (hz:ys.length<=sizeLine) :
  Inv X pins σ (upd H l (.lst ys)) {s with heap:=s.heap.update l (Obj.mapSeq f),toks:=t'}:=by
 have q:=PySem.IsL.update e f
 rw[hf]at q
 refine I.write (x:=l) (e:=l) (by rw[hH];exact trivial) (.inl rfl) (λb' u hb hu=>(GI s.heap (Obj.mapSeq f) (Ne.symm hb)).trans hu) ⟨_,q⟩ ?_
 exact⟨hz,its',_,hv,q⟩
theorem Inv.lnew{its:List Value}{t':Nat}(I:Inv X pins σ H s)(hv:bz ys its)(hz:ys.length<=sizeLine) :
  Inv X pins σ (upd H s.heap.objs.size (.lst ys)) {s with heap:=s.heap.push {cls:=.type "list",data:=.seq its.toArray},toks:=t'} :=
 I.laid (λ_ _ q=>AC _ q) (AM _) ⟨hz,its,0,hv,AL _ rfl⟩
theorem Inv.fresh(I:Inv X pins σ H s):H s.heap.objs.size=none:=I.hok.fresh (AM _)
theorem Inv.lstM(I:Inv X pins σ H s)(hH:H l=some (.lst xs)):xs.length<=sizeLine/\∃(its:List Value) (n:Nat),bz xs its/\xs.length=its.length/\s.heap.get? l=some {cls:=.type "list",data:=.seq its.toArray n}:=by
 obtain⟨z,its,n,r,e⟩:=I.hok l _ hH
 exact⟨z,its,n,r,r.length,e⟩
theorem vc{n:Nat}(h:n<=sizeLine):Builtin.List.listTooLong n=false:=by
 unfold Builtin.List.listTooLong
 exact decide_eq_false (by lia)
end
section
variable{X:Cx}
noncomputable def rAppend:V->List V->Hp->VK->Prop:=λx vs H Q=>∃l xs y,x=.ref l/\vs=[y]/\H l=some (.lst xs)/\xs.length<sizeLine/\Q .non (upd H l (.lst (xs++[y])))
theorem ze:MtM X "list.append" rAppend:=by
 intro pins s σ H x vs v us Q I rx rv h
 obtain⟨l,xs,y,rfl,rfl,hH,hz,q⟩:=h
 cases rx
 obtain⟨u,rfl,ru⟩:=rv.one
 obtain⟨z,its,n,r,hl,e⟩:=I.lstM hH
 refine DC F.slot_list_append ⟨_,e,rfl⟩ F.entry_list_append (F.args_list_append_2 _ _) (PySem.list_append l its.toArray n u (by rw[AF];lia)) ⟨e,?_⟩
 refine⟨.non,_,I.lset (its':=its++[u]) hH e (by simp) (r.append (.cons ru .nil)) ?_,rfl,q⟩
 rw[BA,List.length_singleton]
 lia
noncomputable def rPop:V->List V->Hp->VK->Prop:=λx vs H Q=>∃l xs y,x=.ref l/\vs=[]/\H l=some (.lst xs)/\xs[xs.length-1]? = some y/\Q y (upd H l (.lst xs.dropLast))
theorem Ia:MtM X "list.pop" rPop:=by
 intro pins s σ H x vs v us Q I rx rv h
 obtain⟨l,xs,y,rfl,rfl,hH,hy,q⟩:=h
 cases rx
 have hus:=rv.zero
 subst hus
 obtain⟨z,its,n,r,hl,e⟩:=I.lstM hH
 obtain⟨u,hu,ru⟩:=r.get hy
 have hy':its.toArray[its.toArray.size-1]? = some u:=by
  show its.toArray[its.length-1]? = some u
  rw[<-DG,<-hl]
  exact hu
 refine DC GO ⟨_,e,rfl⟩ F.entry_list_pop (F.args_list_pop_1 _) (MeetsSeq.list_pop_last l its.toArray n u hy' (by rw[AF];lia)) ⟨e,?_⟩
 refine⟨y,_,I.lset (its':=its.dropLast) hH e ?_ r.dropLast ?_,ru,q⟩
 ·show its.toArray.eraseIdxIfInBounds (its.toArray.size-1)=its.dropLast.toArray
  rw[AF,EB,w4]
 ·rw[List.length_dropLast]
  lia
noncomputable def rPopAt:V->List V->Hp->VK->Prop:=λx vs H Q=>∃l xs i k y,x=.ref l/\vs=[.int i]/\H l=some (.lst xs) /\ -(2 ^ 63)<=i/\i<2 ^ 63/\seqIndex? i xs.length=some k/\xs[k]? = some y/\Q y (upd H l (.lst (xs.eraseIdx k)))
theorem Br:MtM X "list.pop" rPopAt:=by
 intro pins s σ H x vs v us Q I rx rv h
 obtain⟨l,xs,i,k,y,rfl,rfl,hH,h1,h2,hk,hy,q⟩:=h
 cases rx
 obtain⟨u,rfl,ru⟩:=rv.one
 obtain⟨t,rfl⟩:=ru
 obtain⟨z,its,n,r,hl,e⟩:=I.lstM hH
 obtain⟨w,hw,rw'⟩:=r.get hy
 refine DC GO ⟨_,e,rfl⟩ F.entry_list_pop (F.args_list_pop_2 _ _)
  (MeetsSeq.list_pop_at l its.toArray n i t k w (fitsIndex_both h1 h2) (by rw[AF,<-hl];exact hk) (by rw[<-DG];exact hw) (by rw[AF];lia)) ⟨e,?_⟩
 refine⟨y,_,I.lset (its':=its.eraseIdx k) hH e ?_ (r.eraseIdx k) ?_,rw',q⟩
 ·show its.toArray.eraseIdxIfInBounds k=(its.eraseIdx k).toArray
  rw[EB]
 ·have:=rg xs k
  lia
theorem len_rep{α:Type}(xs:List α)(k:Nat):(List.replicate k xs).flatten.length=k*xs.length:=by
 induction k with
 |zero=>simp
 |succ k ih=>rw[CT,DJ,BA,ih,Nat.succ_mul,Nat.add_comm]
end
section
variable{κ:Type}[DecidableEq κ]
noncomputable def yp(kvs:List (κ×V))(k:κ):Option V:=(kvs.find? λkv=>decide (kv.1=k)).map (·.2)
theorem o7{p:κ×V}{r:List (κ×V)}{k:κ}(e:p.1=k):yp (p::r) k=some p.2:=by simp[yp,DE,e]
theorem o8{p:κ×V}{r:List (κ×V)}{k:κ}(e:¬p.1=k):yp (p::r) k=yp r k:=by simp[yp,DE,e]
theorem Gw.isSome_eq{o:Option V}{u:Option Value}(r:Gw o u):o.isSome=u.isSome:=by
 cases o with
 |none=>cases u with
  |none=>rfl
  |some _=>exact(show False from r).elim
 |some _=>cases u with
  |none=>exact(show False from r).elim
  |some _=>rfl
theorem KV.val{kvs:List (κ×V)}{vs:List (κ×Value)}(r:KV kvs vs)(k:κ):Gw (yp kvs k) (valueAt vs k):=by
 unfold KV at r
 induction r with
 |nil=>exact True.intro
 | @cons p q ps qs h t ih =>
  obtain⟨h1,h2⟩:=h
  by_cases e:p.1=k
  ·have e':q.1=k:=h1.symm.trans e
   have b:valueAt (q::qs) k=some q.2:=by simp[valueAt,DE,e']
   rw[o7 e,b];exact h2
  ·have e':¬q.1=k:=λz=>e (h1.trans z)
   have b:valueAt (q::qs) k=valueAt qs k:=by simp[valueAt,DE,e']
   rw[o8 e,b];exact ih
end
theorem Ep{P:Program}{w:World}{k:Key}{u:Value}(r:RelV (kV k) u):(fk P w).is k u=true:=by
 cases k with
 |inl i=>obtain⟨t,e⟩:=(show ∃t,u=Value.int i t from r);subst e;exact ti P w i t
 |inr x=>obtain⟨t,e⟩:=(show ∃t,u=Value.str x t from r);subst e;exact tj P w x t
theorem rh{P:Program}{w:World}:∀{ks:List Key} {us:List Value},bz (ks.map kV) us->ItemsAre (fk P w) ks us
 | [],_,r=>by rw[DB]at r;cases r;exact .nil
 |k::ks,_,r=>by
  rw[BL]at r
  cases r with
  |cons h t=>exact .cons (Ep h) (rh t)
noncomputable abbrev KT(H:Hp):List (List Key×V)->List (List Key×Addr×Value)->Prop:=Paired λp q=>p.1=q.1/\H q.2.1=some (.tup (p.1.map kV))/\RelV p.2 q.2.2
theorem KT.val{H:Hp}{kvs:List (List Key×V)}{xs:List (List Key×Addr×Value)}(r:KT H kvs xs)(k:List Key):Gw (yp kvs k) ((atKey xs k).map (·.2)):=by
 induction r with
 |nil=>exact True.intro
 | @cons p q ps qs h t ih =>
  obtain⟨h1,_,h2⟩:=h
  by_cases e:p.1=k
  ·have e':q.1=k:=h1.symm.trans e
   have b:atKey (q::qs) k=some q.2:=by simp[atKey,DE,e']
   rw[o7 e,b];exact h2
  ·have e':¬q.1=k:=λz=>e (h1.trans z)
   have b:atKey (q::qs) k=atKey qs k:=by simp[atKey,DE,e']
   rw[o8 e,b];exact ih
section
variable{P:Program}{w:World}{H:Hp}{h:Heap}{a:Addr}
theorem Ib{u:HO}(ok:HOk P w H h)(e:Rd H a u):ip P w H h a u:=e.ok ok
theorem Ic{kvs:List (Key×V)}(ok:HOk P w H h)(e:Rd H a (.dK kvs)):kvs.length<=sizeLine/\(a==sysModules)=false/\∃vs,KV kvs vs/\h.DictOf (fk P w) a vs :=
 show ip P w H h a (.dK kvs)from Ib ok e
theorem zf{ks:List Key}(ok:HOk P w H h)(e:H a=some (.tup (ks.map kV))):(tupleKind (fk P w)).is h ks a:=by
 obtain⟨_,its,r,o,h1,h2,_,n,h3⟩:=(show ip P w H h a (.tup (ks.map kV))from ok a _ e)
 exact⟨o,its.toArray,n,h1,h2,h3,by simpa using rh r⟩
theorem Ie{kvs:List (List Key×V)}(ok:HOk P w H h)(e:Rd H a (.dT kvs)):kvs.length<=sizeLine/\(a==sysModules)=false /\
  ∃xs,KT H kvs xs/\h.DictOfH (tupleKind (fk P w)) a xs:=by
 obtain⟨z,y,xs,r,o,es,ep,h1,h2,h3,h4,h5⟩:=(show ip P w H h a (.dT kvs)from Ib ok e)
 refine⟨z,y,xs,r,o,es,ep,h1,h2,h3,h4,λx hx=>?_,h5⟩
 have all:∀{l:List (List Key×V)} {m:List (List Key×Addr×Value)},KT H l m->∀x∈m,(tupleKind (fk P w)).is h x.1 x.2.1:=by
  intro l m q
  induction q with
  |nil=>intro x hx;exact nomatch hx
  | @cons p q ps qs hq t ih =>
   intro x hx
   rcases AJ.mp hx with e | hx
   ·subst e
    exact zf ok (by rw[<-hq.1];exact hq.2.1)
   ·exact ih x hx
 exact all r x hx
end
noncomputable def O4(H:Hp)(a:Addr)(y:V)(r:Option V):Prop :=
 (∃kvs k,Rd H a (.dK kvs)/\y=kV k/\r=yp kvs k)\/∃kvs k b,Rd H a (.dT kvs)/\y=.ref b/\H b=some (.tup (k.map kV))/\r=yp kvs k
section
variable{X:Cx}{pins:List (Addr × Obj)}{σ:St}{H:Hp}{s:Shared}{a:Addr}{y v:V}{u r:Value}{o:Option V}{A:Around}{E:Value -> Shared -> Prop}
theorem Rr{Q:Value->Shared->Prop}(hu:A.units+1<cLine)(I:Inv X pins σ H s)(g:O4 H a y o)(ry:RelV y u)(h:∀s',Inv X pins σ H s'->Q (.bool o.isSome) s') :
  wpAny (model X.prog X.w) A (compareOp .In u (.ref a)) Q E s:=by
 rcases g with⟨kvs,k,e,ey,l⟩ | ⟨kvs,k,b,e,ey,eb,l⟩
 ·subst ey
  obtain⟨z,hd,vs,rel,dd⟩:=Ic I.hok e
  refine wpAny_in_of (Ep ry) hd dd.mapOf ?_
  rw[<-(rel.val k).isSome_eq,<-l]
  exact h _ (I.tok _)
 ·subst ey
  cases(show u=Value.ref b from ry)
  obtain⟨z,hd,xs,rel,dd⟩:=Ie I.hok e
  refine wpAny_in_heap (tupleKind_room_in1 hu) (zf I.hok eb) hd dd ?_
  have q:=(rel.val k).isSome_eq
  rw[Option.isSome_map]at q
  rw[<-q,<-l]
  exact h _ (I.tok _)
theorem Er{Q:Value->Shared->Prop}(hu:A.units+1<cLine)(I:Inv X pins σ H s)(g:O4 H a y o)(ry:RelV y u)(h:∀s',Inv X pins σ H s'->Q (.bool (!o.isSome)) s') :
  wpAny (model X.prog X.w) A (compareOp .NotIn u (.ref a)) Q E s:=by
 rcases g with⟨kvs,k,e,ey,l⟩ | ⟨kvs,k,b,e,ey,eb,l⟩
 ·subst ey
  obtain⟨z,hd,vs,rel,dd⟩:=Ic I.hok e
  refine wpAny_notIn_of (Ep ry) hd dd.mapOf ?_
  rw[<-(rel.val k).isSome_eq,<-l]
  exact h _ (I.tok _)
 ·subst ey
  cases(show u=Value.ref b from ry)
  obtain⟨z,hd,xs,rel,dd⟩:=Ie I.hok e
  refine wpAny_notIn_heap (tupleKind_room_in1 hu) (zf I.hok eb) hd dd ?_
  have q:=(rel.val k).isSome_eq
  rw[Option.isSome_map]at q
  rw[<-q,<-l]
  exact h _ (I.tok _)
end
noncomputable def IsD(H:Hp)(a:Addr):Prop:=(∃kvs,Rd H a (.dK kvs))\/∃kvs,Rd H a (.dT kvs)
end L2
namespace Att
open PySem PySem.W PySem.Calls PyProof.Rows
theorem md{P:Params}{h:Heap}:∀(ns:List Int) (vs:List Value),WellAll P h vs (ns.map WData.int)->IntsAre vs ns:=by
 intro ns
 induction ns with
 |nil =>
  intro vs w
  rw[DB]at w
  cases w
  exact .nil
 |cons n ns ih =>
  intro vs w
  rw[BL]at w
  cases w with
  |cons a b =>
   cases a
   exact .cons _ _ (ih _ b)
theorem zg {l:OpenLaw} {n:Nat} (hn:l.most=some n) {P:Params} {h:Heap} {args:List WData} {vals:List Value}
  (hpre:l.row.toRowW.claim.pre args=true) (hwl:WellAll P h vals args) :
  ∃a vs ns,vals=[Value.ref a]/\args=[WData.list (ns.map WData.int)]/\h.get? a=some {cls:=.type "list",data:=.seq vs.toArray}/\IntsAre vs ns/\ns.length<=n:=by
 have hsh:WShape.hasAll [] args [.list .int]=true:=(pre_splitW hpre).1
 have hc:l.pre.holds [] {args:=args}=true:=(pre_splitW hpre).2
 obtain⟨d,r,rfl,h1,h2⟩:=hasAllW_cons hsh
 obtain rfl:=hasAllW_nil h2
 obtain⟨xs,rfl,h3⟩:=hasW_list h1
 obtain⟨ns,rfl⟩:=items_int h3
 have hlen:ns.length<=n:=by
  unfold OpenLaw.pre at hc
  have h4:(WTm.not (.lt (.lit (.int (n:Int))) (.len (.arg 0)))).holds [] {args:=[.list (ns.map .int)]}=true:=by
   have h4:=(holds_andW hc).1
   rw[hn]at h4
   exact h4
  have h5:=condW_of h4 (w_not (w_lt w_lit (w_len_list (w_arg rfl))))
  rw[AV]at h5
  refine Nat.le_of_not_lt λq=>?_
  have q':(n:Int)<((ns.length:Nat):Int):=by lia
  first
   |(rw[decide_eq_true q']at h5;exact absurd h5 (by decide))
   |(simp at h5;lia)
 cases hwl with
 |cons w1 w2 =>
  cases w2
  cases w1 with
  |list ho hall=>exact⟨_,_,ns,rfl,rfl,ho,md ns _ hall,hlen⟩
theorem zh(l:OpenLaw)(args:List WData):l.row.toRowW.claim.post args (.bool true) args=true :=
 postW_of (r:=l.row.toRowW) (X:=(true==true))
  (show WShape.has [] (.bool true) .bool=true by first | rfl | decide | simp[WShape.has,WShape.arms,WShape.armsAll])
  (show(WTm.eq .res (.lit (.bool true))).value [] {args:=args,res:=some (.bool true),after:=args}=some (.bool (true==true))from w_eq_bool (w_res rfl) w_lit) rfl
theorem tw {l:OpenLaw} {n:Nat} {q:Program} {loose:List Str} {XP:(Str->Option Value)->Heap->Prop} {YP:World->Heap->Prop} {d:DefRec}
  (hn:l.most=some n) (hdf:d.params.defaults=[])
  (call:∀(w:World) (s₀ s₁:Shared) (mg mb:Str->Option Value) (fa:Addr) (o:Obj) (pm cd doc:Value) (a:Addr) (vs:List Value) (ns:List Int),
   Ground q loose [] XP w s₀ mg mb s₁.heap->YP w s₁.heap ->
   s₁.heap.get? fa=some o->o.data=.func (docDef d.name d.params d.body d.scope pm cd doc)->s₁.heap.CodeRec cd d.name->mg d.name=some (.ref fa) ->
   s₁.heap.get? a=some {cls:=.type "list",data:=.seq vs.toArray}->IntsAre vs ns->ns.length<=n->s₁.gens=#[] ->
   codeAny (model l.prog w) callerA (.call (.ref fa) ⟨[.ref a],[]⟩) (λr s'=>r=.ok (.ret (.bool true))/\OldK s₁.heap s'.heap/\s'.os=s₁.os/\AllBare s'.gens) s₁) :
  WalkO q loose XP YP l.row.toRowW d [] (λf vs=>PySem.call f vs):=by
 intro w s₀ s₁ mg mb G Y fa o pm cd doc dV kV ho hd hcd hD hmg hg args vals as hpre hlay hrd hwl hlo
 obtain rfl:dV=.none:=Dflts.none hD hdf
 obtain rfl:kV=.none:=Dflts.noKw hD
 obtain⟨a,vs,ns,rfl,rfl,hobj,hints,hlen⟩:=zg hn hpre hwl
 refine enter_call (codeAny_mono (call w s₀ s₁ mg mb fa o pm cd doc a vs ns G Y ho (fd_plain hd) hcd hmg hobj hints hlen hg) λr s' hq=>?_)
 obtain⟨rfl,h2,h3,h4⟩:=hq
 exact⟨.inl ⟨.bool true,.bool true,[],rfl,λ_=>rfl,.bool true,zh l _,λ_=>⟨List.Pairwise.nil,λ_ hm=>(nomatch hm)⟩⟩,h2,h3,h4⟩
end Att
namespace L2
open PySem PySem.Spec PyProof.Rows
noncomputable def FzL(K:PySem.W.Frag)(H:Hp)(a:Addr)(xs:List V):Prop :=
 (∃o,H a=some (.frz o (.lst xs))) \/
  ∃(its:List Value) (n:Nat),K.lookup a=some {cls:=.type "list",data:=.seq its.toArray n}/\xs.length<=sizeLine/\bz xs its
theorem vals_ints:∀{vs:List Value} {ns:List Int},IntsAre vs ns->bz (ns.map V.int) vs
 |_,_,.nil=>.nil
 |_,_,.cons n t h=>.cons ⟨t,rfl⟩ (vals_ints h)
noncomputable def Lz(H:Hp):Prop:=∀b,H b=none\/∃o xs,H b=some (.frz o (.lst xs))
theorem Bs {P:Program} {w:World} {K:PySem.W.Frag} {mg mb:Str->Option Value} {CX:CXT} {k:Nat} {fa a:Addr} {fd:FuncData} {x:Str} {sp:Sp} {s₁:Shared} {vs:List Value} {ns:List Int}
  (KX:K.In s₁.heap) (hns:s₁.heap.Ns mainGlobals mg) (hb:s₁.heap.Ns builtinsNs mb) (hbb:∀x:Str,x≠"__name__"->mb x=bootBuiltins x) (hlim:s₁.heap.NoLimit) (hg:s₁.gens=#[])
  (ha:s₁.heap.get? a=some {cls:=.type "list",data:=.seq vs.toArray}) (hi:IntsAre vs ns) (hl:ns.length<=sizeLine) (hr:Room k callerA)
  (F:∀base:Heap,K.In base->base.Ns mainGlobals mg->FnOk P w K mg base CX k fa fd [x] sp) (hbind:∀(s:Shared) (u:Value),BindsTo s fd ⟨[u],[]⟩ [(x,u)])
  (hsp:∀H:Hp,Lz H->FzL K H a (ns.map V.int)->sp [.ref a] H (λv _=>v=.bl true) λ_ _ _=>False)
  (hCX:∀H e s',CX [] H s₁ (λ_ _ _=>False) e s'->False) :
  codeAny (model P w) callerA (.call (.ref fa) ⟨[.ref a],[]⟩) (λr s'=>r=.ok (.ret (.bool true))/\OldK s₁.heap s'.heap/\s'.os=s₁.os/\AllBare s'.gens) s₁:=by
 have rv:=vals_ints hi
 have lenV:=hi.length
 -- from an abstract heap in which nothing but the script may be tracked
 have core:∀H:Hp,Lz H->FzL K H a (ns.map V.int)->HOk P w H s₁.heap->(∀b,H b≠none->b=a)->(H a≠none->K.lookup a=none) ->
   codeAny (model P w) callerA (.call (.ref fa) ⟨[.ref a],[]⟩) (λr s'=>r=.ok (.ret (.bool true))/\OldK s₁.heap s'.heap/\s'.os=s₁.os/\AllBare s'.gens) s₁:=by
  intro H hO hS hok hA hK
  have base_of:∀{b:Addr} {o:Obj},s₁.heap.get? b=some o->H b=none->(Bf s₁.heap H).get? b=some o:=λe n=>Bg e n
  have noA:∀{b:Addr} {o:Obj} {es:Array DictEntry} {ep:Nat},s₁.heap.get? b=some o->o.data=.dict es ep->H b=none:=λ{b o es ep} e d=>by
   cases q:H b with
   |none=>rfl
   |some u =>
    have e':b=a:=hA b (by rw[q];simp)
    subst e'
    rw[ha]at e;cases e
    have d':Data.seq vs.toArray _=Data.dict es ep:=d
    cases d'
  have nsK:∀{b:Addr} {m:Str->Option Value},s₁.heap.Ns b m->(Bf s₁.heap H).Ns b m:=λ{b m} ⟨o,es,ep,e,d,r⟩=>⟨o,es,ep,base_of e (noA e d),d,r⟩
  have hKb:K.In (Bf s₁.heap H):=λb o e=>base_of (KX b o e) (by
   cases q:H b with
   |none=>rfl
   |some u =>
    have e':b=a:=hA b (by rw[q];simp)
    subst e'
    rw[hK (by rw[q];simp)]at e;cases e)
  have hM:Mod K mg (Bf s₁.heap H):=⟨hKb,nsK hns,⟨mb,nsK hb,hbb⟩,let ⟨mc,h1,h2⟩:=hlim;⟨mc,nsK h1,h2⟩⟩
  have e0:Env0 P w K mg (Bf s₁.heap H) callerA [] s₁ H:=⟨rfl,hM,λb o e=>D5 e,Nat.le_of_eq (yu _ _),trivial,λb hb=>absurd (show b∈([]:List Addr)from hb) (by simp),hok,.of_eq hg⟩
  refine codeAny_mono ((F _ hKb (nsK hns)).run callerA [] s₁ H ⟨[.ref a],[]⟩ [.ref a] [.ref a] _ _ hr e0 (hbind s₁ (.ref a)) (.cons rfl .nil) (hsp H hO hS)) λr s' h=>?_
  cases r with
  |error e=>exact(hCX H e s' h).elim
  |ok fl =>
   cases fl with
   |next=>exact False.elim h
   |brk=>exact False.elim h
   |cont=>exact False.elim h
   |ret u =>
    obtain⟨v,H',os,bare,un,hok',r',q⟩:=h
    have q':v=.bl true:=q
    subst q'
    obtain rfl:u=Value.bool true:=r'
    refine⟨rfl,OldK.of_keep λb o e=>?_,os,bare⟩
    cases q:H b with
    |none=>exact un.keep b o e q (by intro z;exact absurd (show b∈([]:List Addr)from z) (by simp)) (by simp)
    |some u =>
     rcases hO b with z | ⟨ob,xs,z⟩
     ·rw[q]at z;cases z
     ·have z2:=un.frzs b ob _ z
      obtain⟨e1,_⟩:=hok b _ z
      obtain⟨e2,_⟩:=hok' b _ z2
      rw[e]at e1;cases e1
      exact e2
 cases hk:K.lookup a with
 |some o =>
  -- the script is one of the module's own objects
  have e:=KX a o hk
  rw[ha]at e
  cases e
  refine core (λ_=>none) (λ_=>.inl rfl) (.inr ⟨vs,_,hk,by rw[AV];exact hl,rv⟩) (λb u z=>by have z':(none:Option HO)=some u:=z;cases z') (λb z=>absurd rfl z) λz=>absurd rfl z
 |none =>
  refine core (λb=>if b=a then some (.frz {cls:=.type "list",data:=.seq vs.toArray} (.lst (ns.map V.int)))else none) (λb=>?_) (.inl ⟨{cls:=.type "list",data:=.seq vs.toArray},if_pos rfl⟩) (λb u z=>?_) (λb z=>?_) λ_=>hk
  ·by_cases hb:b=a
   ·exact .inr ⟨_,_,if_pos hb⟩
   ·exact .inl (if_neg hb)
  ·by_cases hb:b=a
   ·have z':=(if_pos hb).symm.trans z
    cases z'
    subst hb
    exact⟨ha,by rw[AV];exact hl,vs,_,rv,ha⟩
   ·have z':=(if_neg hb).symm.trans z
    cases z'
  ·by_cases hb:b=a
   ·exact hb
   ·exact absurd (if_neg hb) z
noncomputable abbrev KOf{K:PySem.W.Frag}{h:Heap}(_:K.In h):PySem.W.Frag:=K
theorem Es {l:PySem.W.OpenLaw} {n k:Nat} {q:Program} {loose:List Str} {XP:(Str->Option Value)->Heap->Prop} {YP:World->Heap->Prop} {d:DefRec} {K:Params->PySem.W.Frag} {CX:World->CXT} {sp:World->Sp} {x:Str}
  (hn:l.most=some n) (hn2:n<=sizeLine) (hdf:d.params.defaults=[]) (hr:Room k callerA)
  (hY:∀(w:World) (h:Heap),YP w h->(K w.params).In h)
  (F:∀(w:World) (mg:Str->Option Value) (fa:Addr) (h:Heap),(K w.params).In h->h.Ns mainGlobals mg->mg d.name=some (.ref fa) ->
   ∃fd:FuncData,(∀(s:Shared) (u:Value),BindsTo s fd ⟨[u],[]⟩ [(x,u)]) /\
    ∀base:Heap,(K w.params).In base->base.Ns mainGlobals mg->FnOk l.prog w (K w.params) mg base (CX w) k fa fd [x] (sp w))
  (hsp:∀(w:World) (H:Hp) (a:Addr) (ns:List Int),ns.length<=n->Lz H->FzL (K w.params) H a (ns.map V.int)->sp w [.ref a] H (λv _=>v=.bl true) λ_ _ _=>False)
  (hCX:∀(w:World) (H:Hp) (s:Shared) (e:Value) (s':Shared),CX w [] H s (λ_ _ _=>False) e s'->False) :
  PySem.W.WalkO q loose XP YP l.row.toRowW d [] (λf vs=>PySem.call f vs):=by
 refine Att.tw hn hdf λw s₀ s₁ mg mb fa o pm cd doc a vs ns G Y ho hd hcd hmg hobj hints hlen hg=>?_
 have KX:=hY w _ Y
 obtain⟨fd,hb,hF⟩:=F w mg fa _ KX G.T.g hmg
 exact Bs KX G.T.g G.T.b G.T.builtins G.T.nolimit hg hobj hints (BV hlen hn2) hr hF hb (λH hO hS=>hsp w H a ns hlen hO hS) λH e s'=>hCX w H s₁ e s'
noncomputable def me(s:Stmt):Arguments:=match s with
 |.FunctionDef _ a _ _ _ _ _ _ _ _=>a
 |_=>{posonlyargs:=[],args:=[],vararg:=none,kwonlyargs:=[],kw_defaults:=[],kwarg:=none,defaults:=[]}
noncomputable def g8(s:Stmt):List Stmt:=match s with
 |.FunctionDef _ _ b _ _ _ _ _ _ _=>b
 |_=>[]
noncomputable def bc(s:Stmt):Scope:=match s with
 |.FunctionDef _ _ _ _ _ _ sc _ _ _=>sc
 |_=>{kind:=.function,names:=[],isGenerator:=false,isCoroutine:=false}
noncomputable abbrev CX0:CXT:=λ_ _ _ _ _ _=>False
noncomputable abbrev E0:XK:=λ_ _ _=>False
theorem L0{X:Cx}:za CX0 X E0:=λ_ _ _ _ _ _ _ h=>h.elim
structure Fun (K:PySem.W.Frag) (x qual:Str) (st:Stmt) (f:Addr) (fd:FuncData):Prop where
 ex:∃(oc:Value) (od:Option Addr) (kV doc pm:Value) (an:Option Addr) (cdv ct:Value) (osl:Array (Option Value)),
  fd=PySem.W.fnOf x qual (me st) (g8 st) (bc st) .none kV doc pm an cdv ct/\K.lookup f=some ⟨oc,od,.func fd,osl⟩/\PySem.W.codeIn K cdv qual=true
 kp:PySem.W.keepIn K (.ref f)=true
section
variable{P:Program}{w:World}{K:PySem.W.Frag}{mg:Str -> Option Value}{base:Heap}
theorem Fun.ok {x qual:Str} {st:Stmt} {f:Addr} {fd:FuncData} {N ps:List Str} {k:Nat} {sp:Sp} (F:Fun K x qual st f fd) (S:FnScope N ps (bc st)) (len:∀vs H Q E,sp vs H Q E->vs.length=ps.length)
  (hbody:∀(cdv:Value) (A:Around) (outer:List Env) (s:Shared) (H:Hp) (vs:List V) (Q:VK) (E:XK),y9 k (A.deeper (envOfC qual (bc st) s.heap.objs.size f cdv))->sp vs H Q E ->
   ∃t,PSs (Bn CX0 P w K mg base N qual (bc st) f cdv A outer s H E).nox (g8 st) t/\t {nx:=λ_ H'=>Q .non H',rt:=Q} (start N vs) H):FnOk P w K mg base CX0 (k+1) f fd ps sp:=by
 obtain⟨oc,od,kV,doc,pm,an,cdv,ct,osl,rfl,lk,hcd⟩:=F.ex
 refine Lu lk hcd S len λA outer s H vs Q E hr hsp=>?_
 obtain⟨t,h,q⟩:=hbody cdv A outer s H vs Q E hr hsp
 exact⟨t,h.nox,q⟩
theorem Ig {x qual:Str} {st:Stmt} {f:Addr} {oc:Value} {od an:Option Addr} {osl:Array (Option Value)} {kV doc pm cdv ct:Value} (l:K.lookup f=some ⟨oc,od,.func (PySem.W.fnOf x qual (me st) (g8 st) (bc st) .none kV doc pm an cdv ct),osl⟩)
  (c:PySem.W.codeIn K cdv qual=true) (k:PySem.W.keepIn K (.ref f)=true):Fun K x qual st f (PySem.W.fnOf x qual (me st) (g8 st) (bc st) .none kV doc pm an cdv ct):=⟨⟨oc,od,kV,doc,pm,an,cdv,ct,osl,rfl,l,c⟩,k⟩
end
theorem ri{n:Nat}(h:n<=1000):n<sizeLine:=Nat.lt_of_le_of_lt h (by decide)
section
variable{X:Cx}
theorem pv (i:Nat) {x:Str} {pos:Pos} (hN:X.N[i]? = some x:=by rfl) (hv:Vis X.env.scope x:=by first | exact Or.inl rfl | exact Or.inr (Or.inl rfl) | exact Or.inr (Or.inr rfl)) (hd:(x==("__debug__":Str))=false:=by decide)
  (hcd:(x==("__classdict__":Str))=false:=by decide):PE X (.Name x pos) (Ox i):=yv hN hv hd hcd
end
end L2
set_option maxHeartbeats 4000000
namespace L2
open PySem PySem.Spec PyProof.Rows
noncomputable def Rt(h0:Heap)(H:Hp)(h:Heap)(e:Addr)(cls:Value):Prop:=∃oe vs T oT ts a0,h.get? e=some oe/\(oe.cls=cls/\vs[0]? = some a0)/\oe.data=.fields vs/\vs[1]? = some (.ref T)/\(h0.get? T=none/\H T=none)/\T≠e/\h.get? T=some oT/\oT.data=.fields ts/\ts[3]? = some Value.none
section
variable{X:Cx}{pins:List (Addr × Obj)}{σ:St}{H H' : Hp}{s:Shared}{e:Addr}{cls:Value}
structure Fl (X:Cx) (H0:Hp) (s0:Shared) (H':Hp) (e:Addr) (cls:Value) (s:Shared):Prop where
 os:s.os=s0.os
 bare:AllBare s.gens
 un:Un (frs X.stack) [] H0 H' s0.heap s.heap
 hok:HOk X.prog X.w H' s.heap
 new:s0.heap.get? e=none
 free:H' e=none
 fly:Rt s0.heap H' s.heap e cls
section
variable{H0:Hp}{s0:Shared}
noncomputable def Ru(e:Addr)(cls:Value):HO:=.ext λh=>∃o vs,h.get? e=some o/\o.cls=cls/\o.data=.fields vs
end
end
end L2
namespace Lp
open PySem
inductive D where
 |non | bl (b:Bool) | int (i:Int) | str (x:Str)
 |tup (ds:List D) | lst (ds:List D) | loc (n:Nat)
 deriving Inhabited
noncomputable def D.pureN:Nat->D->Bool
 |0,d=>match d with | .tup _=>false | .lst _=>false | .loc _=>false | _=>true
 |k+1,d=>match d with | .tup ds=>ds.all (D.pureN k) | .lst ds=>ds.all (D.pureN k) | .loc _=>false | _=>true
noncomputable abbrev D.pure(d:D):Bool:=D.pureN 8 d
inductive O where
 |l (ds:List D)
 |r (ds:List D)
 |d (kvs:List (D×D))
 |dt (kvs:List (D×D))
 |x (c:Str)
 |o (c:Str) (fs:List (Str×D))
 |dr (kvs:List (D×D))
 |fd (kvs:List (D×D))
 |dead
 deriving Inhabited
noncomputable abbrev Sto:=List O
noncomputable abbrev Sl:=List (Option D)
inductive Res (α:Type) where
 |ok (a:α) (μ:Sto)
 |exc (c:Nat) (ds:List D) (μ:Sto)
 |stuck
namespace Res
variable{α β:Type}
noncomputable def bind(x:Res α)(f:α->Sto->Res β):Res β:=match x with
 |.ok a μ=>f a μ
 |.exc c ds μ=>.exc c ds μ
 |.stuck=>.stuck
@[simp] theorem cb (a:α) (μ:Sto) (f:α->Sto->Res β):(Res.ok a μ).bind f=f a μ:=rfl
@[simp] theorem Kq (c:Nat) (ds:List D) (μ:Sto) (f:α->Sto->Res β):(Res.exc c ds μ:Res α).bind f=.exc c ds μ:=rfl
@[simp] theorem Gx (f:α->Sto->Res β):(Res.stuck:Res α).bind f=.stuck:=rfl
theorem bind_assoc{γ:Type}(x:Res α)(f:α->Sto->Res β)(g:β->Sto->Res γ):(x.bind f).bind g=x.bind λa μ=>(f a μ).bind g:=by
 cases x<;>rfl
end Res
inductive Mk where | z | l | r
 deriving DecidableEq,Inhabited
inductive Bt where
 |len | tuple | list | sum | min | min1 | max | all | any | sorted | sortedSet | sortedL | int | listRev | listRange | tupleRange | dictP | sortedI | sortedD | odds | min3 | max1 | sortedN | sortedT | inR3 | sortedST | strI | joinS | isdig | lenS | startS | intS | splitS | partS | catS | truS
 deriving DecidableEq,Inhabited
inductive Mt where
 |append | pop | extend | extendT | insert | remove | reverse | clear | count | countL | get
 deriving DecidableEq,Inhabited
inductive Cl where
 |int | bool | tuple | list | str | own (c:Str)
 deriving DecidableEq,Inhabited
inductive Tg where
 |one (i:Nat) | many (is:List Nat)
 deriving DecidableEq,Inhabited
inductive Cp where
 |eq | ne | eqM | neM | lt | le | gt | ge | is | isnot | in_ | notin
 deriving DecidableEq,Inhabited
mutual
inductive Ex where
 |var (i:Nat)
 |frz (i:Nat)
 |cst (d:D)
 |bin (op:Operator) (m:Mk) (a b:Ex)
 |neg (a:Ex)
 |not (a:Ex)
 |and (a b:Ex)
 |or (a b:Ex)
 |ite (c a b:Ex)
 |cmp (a:Ex) (r:Cps)
 |call (keep:Bool) (f:Nat) (es:Exs)
 |blt (b:Bt) (m:Mk) (es:Exs)
 |isi (a:Ex) (c:Cl)
 |meth (mt:Mt) (o:Ex) (es:Exs)
 |ix (a b:Ex)
 |dix (a b:Ex)
 |sl (m:Mk) (a:Ex) (lo hi:ExO)
 |tup (es:Exs)
 |lst (m:Mk) (es:Exs)
 |dic (t:Bool) (es:Exs)
 |inT (neg:Bool) (es:Exs) (d:Ex)
 |ixT (d:Ex) (es:Exs)
 |getT (d:Ex) (es:Exs) (x:Ex)
 |ixV (d k:Ex)
 |att (e:Ex) (f:Str)
 |mcall (k1:Bool) (c m:Str) (f:Nat) (o:Ex) (es:Exs)
 |make (c:Str) (f:Nat) (es:Exs)
 |callK (f:Nat) (es:Exs)
 |tru (e:Ex)
 |drp (e:Ex)
 |gix (a b:Ex)
 |dicr
 |comp (m:Mk) (cap:List Nat) (nl:Nat) (tg:Tg) (it:It) (cs:Exs) (elt:Ex)
inductive Exs where
 |nil
 |cons (e:Ex) (es:Exs)
inductive Cps where
 |nil
 |cons (op:Cp) (e:Ex) (r:Cps)
inductive ExO where
 |no
 |so (e:Ex)
inductive It where
 |seq (e:Ex)
 |rng (a:Ex)
 |rng2 (a b:Ex)
 |rng3 (a b c:Ex)
 |rngD (a b c:Ex)
 |zip (a b:Ex)
 |enum (a:Ex)
 |rev (a:Ex)
 |vals (a:Ex)
 |keys (a:Ex)
end
mutual
inductive Sm where
 |set (i:Nat) (e:Ex)
 |unp (is:List Nat) (e:Ex)
 |setx (o i v:Ex)
 |augx (op:Operator) (o i v:Ex)
 |setxT (o:Ex) (i:Exs) (v:Ex)
 |ex (e:Ex)
 |ite (c:Ex) (a b:Sms)
 |loop (tg:Tg) (it:It) (b:Sms)
 |ret (e:Ex)
 |raise (c:Str) (es:Exs)
 |pl (s:Sm)
 |callx (f:Nat) (es:Exs)
 |tryc (f:Nat) (es:Exs) (ei:Nat) (h:Sms)
 |mapx (i:Nat) (cap:List Nat) (nl:Nat) (tg:Tg) (it:It) (f:Nat) (es:Exs)
 |tryi (i j:Nat) (e:Ex)
 |seta (o:Ex) (f:Str) (e:Ex)
 |whl (c:Ex) (b:Sms)
 |pass | brk | cont
 |never
inductive Sms where
 |nil
 |cons (s:Sm) (r:Sms)
end
@[irreducible] def lim:Nat:=2 ^ 24
theorem Dm:lim=2 ^ 24:=by with_unfolding_all rfl
theorem kj:1000000<=lim:=by rw[Dm];decide
noncomputable def cw(μ:Sto):D->Option (List D)
 |.tup ds=>some ds
 |.lst ds=>some ds
 |.loc n=>match μ[n]? with
  |some (.l ds)=>some ds
  |some (.r ds)=>some ds
  |_=>none
 |_=>none
noncomputable def listOf(μ:Sto):D->Option (List D)
 |.lst ds=>some ds
 |.loc n=>match μ[n]? with
  |some (.l ds)=>some ds
  |some (.r ds)=>some ds
  |_=>none
 |_=>none
noncomputable def iw{α β:Type}(o:Option α)(k:α->Res β):Res β:=match o with
 |some a=>k a
 |none=>.stuck
@[simp] theorem tx {α β:Type} (a:α) (k:α->Res β):iw (some a) k=k a:=rfl
@[simp] theorem Et {α β:Type} (k:α->Res β):iw none k=.stuck:=rfl
noncomputable def mkL(m:Mk)(ds:List D)(μ:Sto):Res D:=match m with
 |.z=>.ok (.lst ds) μ
 |.l=>if ds.all (D.pureN 8)=true then .ok (.loc μ.length) (μ++[.l ds])else .stuck
 |.r=>.ok (.loc μ.length) (μ++[.r ds])
mutual
noncomputable def deq:D->D->Bool
 |.non,.non=>true
 |.bl a,.bl b=>a==b
 |.int a,.int b=>decide (a=b)
 |.bl a,.int b=>decide ((if a then 1 else 0:Int)=b)
 |.int a,.bl b=>decide (a=(if b then 1 else 0:Int))
 |.str a,.str b=>decide (a=b)
 |.tup a,.tup b=>vd a b
 |.lst a,.lst b=>vd a b
 |_,_=>false
noncomputable def vd:List D->List D->Bool
 | [],[]=>true
 |a::r,b::q=>deq a b&&vd r q
 |_,_=>false
end
noncomputable def rs1(μ:Sto):Nat->D->D
 |0,d=>d
 |_,.loc n=>match μ[n]? with
  |some (.l ds)=>.lst ds
  |some (.r ds)=>.lst ds
  |_=>.loc n
 |k+1,.tup ds=>.tup (ds.map (rs1 μ k))
 |k+1,.lst ds=>.lst (ds.map (rs1 μ k))
 |_,d=>d
noncomputable def rs(μ:Sto)(d:D):D:=rs1 μ 8 (rs1 μ 8 (rs1 μ 8 d))
noncomputable def iq:List D->Option (List Int)
 | []=>some []
 |.int i::r=>(iq r).map (i::·)
 |_=>none
noncomputable def j0:List D->Option (List Bool)
 | []=>some []
 |.bl i::r=>(j0 r).map (i::·)
 |_=>none
noncomputable def lexLt:List Int->List Int->Bool
 |_,[]=>false
 | [],_::_=>true
 |x::xs,y::ys=>if x=y then lexLt xs ys else decide (x<y)
noncomputable def rowsOf:List D->Option (List (List Int))
 | []=>some []
 |.tup ds::r=>(iq ds).bind λx=>(rowsOf r).map (x::·)
 |_=>none
noncomputable def ixN(n:Nat)(i:Int):Option Nat:=if 0<=i then(if i<n then some i.toNat else none)else if -(n:Int)<=i then some (i+n).toNat else none
noncomputable def sIx(n d:Nat):Option Int->Nat
 |none=>d
 |some v=>if v<0 then(v+(n:Int)).toNat else min v.toNat n
noncomputable def cut(ds:List D)(lo hi:Option Int):List D:=(ds.drop (sIx ds.length 0 lo)).take (sIx ds.length ds.length hi-sIx ds.length 0 lo)
noncomputable def CMul(i j:Int):Prop:=(-(2 ^ 64)<i/\i<2 ^ 64)\/(-(2 ^ 64)<j/\j<2 ^ 64)
instance (i j:Int):Decidable (CMul i j):=by unfold CMul;infer_instance
noncomputable def opI(op:Operator)(i j:Int)(μ:Sto):Res D:=match op with
 |.Add=>.ok (.int (i+j)) μ
 |.Sub=>.ok (.int (i-j)) μ
 |.Mult=>if CMul i j then .ok (.int (i*j)) μ else .stuck
 |.FloorDiv=>if 0<j/\j<1073741824 then .ok (.int (i / j)) μ else .stuck
 |.Mod=>if 0<j then .ok (.int (i % j)) μ else .stuck
 |.Pow=>if 0<=j/\j<=1000000/\i.natAbs<2 ^ 64 then .ok (.int (i ^ j.toNat)) μ else .stuck
 |.RShift=>if 0<=j then .ok (.int (i / 2 ^ j.toNat)) μ else .stuck
 |.LShift=>if 0<=j/\j<=1000000/\i.natAbs<2 ^ 64 then .ok (.int (i*2 ^ j.toNat)) μ else .stuck
 |.BitXor=>if 0<=i/\j=1 then .ok (.int (if i % 2=0 then i+1 else i-1)) μ else .stuck
 |_=>.stuck
noncomputable def opD(op:Operator)(m:Mk)(a b:D)(μ:Sto):Res D:=match a,b with
 |.int i,.int j=>opI op i j μ
 |.tup xs,.tup ys=>match op with
  |.Add=>if xs.length+ys.length<=lim then .ok (.tup (xs++ys)) μ else .stuck
  |_=>.stuck
 |x,.int j=>match op,listOf μ x with
  |.Mult,some xs=>if xs.length*j.toNat<=lim /\ -(2 ^ 63)<=j/\j<2 ^ 63 then mkL m (List.replicate j.toNat xs).flatten μ else .stuck
  |_,_=>.stuck
 |x,y=>match op,listOf μ x,listOf μ y with
  |.Add,some xs,some ys=>if xs.length+ys.length<=lim then mkL m (xs++ys) μ else .stuck
  |_,_,_=>.stuck
noncomputable def flat:D->Bool
 |.tup _=>false
 |.lst _=>false
 |.loc _=>false
 |_=>true
noncomputable def aw(μ:Sto)(x:D):Option (List D×Option (Nat×O)):=match x with
 |.tup ds=>some (ds,none)
 |.lst ds=>some (ds,none)
 |.loc n=>match μ[n]? with
  |some (.l ds)=>some (ds,some (n,.l ds))
  |some (.r ds)=>some (ds,some (n,.r ds))
  |_=>none
 |_=>none
noncomputable def yq:D->Bool
 |.int _=>true
 |.str _=>true
 |_=>false
noncomputable def Rv:D->Bool
 |.tup ds=>ds.all yq
 |_=>false
noncomputable def zi(k:D):List (D×D)->Option D
 | []=>none
 |(x,v)::r=>if deq x k then some v else zi k r
noncomputable def dput(k v:D)(kvs:List (D×D)):List (D×D) :=
 if(kvs.any λp=>deq p.1 k)=true then kvs.map (λp=>if deq p.1 k=true then(p.1,v)else p)else kvs++[(k,v)]
noncomputable def dictAt(μ:Sto)(o k:D):Option (List (D×D)):=match o with
 |.loc n=>match μ[n]? with
  |some (.d kvs)=>if yq k=true then some kvs else none
  |some (.dr kvs)=>if yq k=true then some kvs else none
  |some (.fd kvs)=>if yq k=true then some kvs else none
  |_=>none
 |_=>none
noncomputable def t4(μ:Sto)(o:D)(ks:List D):Option (List (D×D)):=match o with
 |.loc n=>match μ[n]? with
  |some (.dt kvs)=>if ks.all yq=true then some kvs else none
  |_=>none
 |_=>none
noncomputable def cu:List (Option D)->Option (List D)
 | []=>some []
 |none::_=>none
 |some d::r=>match cu r with
  |some ds=>some (d::ds)
  |none=>none
noncomputable def ax(μ:Sto):Nat->D->Option D
 |0,d=>if flat d=true then some d else none
 |k+1,d=>match d with
  |.tup ds=>(cu (ds.map (ax μ k))).map .tup
  |.lst ds=>(cu (ds.map (ax μ k))).map .lst
  |.loc n=>match μ[n]? with
   |some (.l ds)=>(cu (ds.map (ax μ k))).map .lst
   |some (.r ds)=>(cu (ds.map (ax μ k))).map .lst
   |_=>none
  |d=>some d
noncomputable def cpD(op:Cp)(a b:D)(μ:Sto):Res D:=match op with
 |.eq=>if a.pure=true/\b.pure=true then .ok (.bl (deq a b)) μ else .stuck
 |.ne=>if a.pure=true/\b.pure=true then .ok (.bl (!deq a b)) μ else .stuck
 |.eqM=>match ax μ 8 a,ax μ 8 b with
  |some x,some y=>.ok (.bl (deq x y)) μ
  |_,_=>.stuck
 |.neM=>match ax μ 8 a,ax μ 8 b with
  |some x,some y=>.ok (.bl (!deq x y)) μ
  |_,_=>.stuck
 |.lt=>match a,b with
  |.int i,.int j=>.ok (.bl (decide (i<j))) μ
  |.tup x,.tup y=>match iq x,iq y with
   |some xs,some ys=>.ok (.bl (lexLt xs ys)) μ
   |_,_=>.stuck
  |_,_=>.stuck
 |.le=>match a,b with
  |.int i,.int j=>.ok (.bl (decide (i<=j))) μ
  |.tup x,.tup y=>match iq x,iq y with
   |some xs,some ys=>.ok (.bl (!lexLt ys xs)) μ
   |_,_=>.stuck
  |_,_=>.stuck
 |.gt=>match a,b with
  |.int i,.int j=>.ok (.bl (decide (j<i))) μ
  |_,_=>.stuck
 |.ge=>match a,b with
  |.int i,.int j=>.ok (.bl (decide (j<=i))) μ
  |.tup x,.tup y=>match iq x,iq y with
   |some xs,some ys=>.ok (.bl (!lexLt xs ys)) μ
   |_,_=>.stuck
  |_,_=>.stuck
 |.is=>match b with
  |.non=>.ok (.bl (match a with | .non=>true | _=>false)) μ
  |.bl k=>match a with
   |.bl j=>.ok (.bl (j==k)) μ
   |.non=>.ok (.bl false) μ
   |_=>.stuck
  |_=>.stuck
 |.isnot=>match b with
  |.non=>.ok (.bl (match a with | .non=>false | _=>true)) μ
  |.bl k=>match a with
   |.bl j=>.ok (.bl (!(j==k))) μ
   |.non=>.ok (.bl true) μ
   |_=>.stuck
  |_=>.stuck
 |.in_=>match cw μ b with
  |some ds=>if flat a=true/\ds.all flat=true then .ok (.bl (ds.any λy=>deq y a)) μ else .stuck
  |none=>match dictAt μ b a with
   |some kvs=>.ok (.bl (zi a kvs).isSome) μ
   |none=>.stuck
 |.notin=>match cw μ b with
  |some ds=>if flat a=true/\ds.all flat=true then .ok (.bl (!ds.any λy=>deq y a)) μ else .stuck
  |none=>match dictAt μ b a with
   |some kvs=>.ok (.bl (!(zi a kvs).isSome)) μ
   |none=>.stuck
noncomputable def insI(x:Int):List Int->List Int
 | []=>[x]
 |y::r=>if x<=y then x::y::r else y::insI x r
noncomputable def sortI:List Int->List Int
 | []=>[]
 |x::r=>insI x (sortI r)
noncomputable def O5(x:List Int):List (List Int)->List (List Int)
 | []=>[x]
 |y::r=>if lexLt y x=true then y::O5 x r else x::y::r
noncomputable def Bu:List (List Int)->List (List Int)
 | []=>[]
 |x::r=>O5 x (Bu r)
noncomputable def O6:Int->List Int->Int
 |x,[]=>x
 |x,y::r=>O6 (if y<x then y else x) r
noncomputable def O7:Int->List Int->Int
 |x,[]=>x
 |x,y::r=>O7 (if y > x then y else x) r
noncomputable def ir(f:D->Sto->Res D)(ds:List D)(μ:Sto):Res D:=match ds with
 | [x]=>f x μ
 |_=>.stuck
@[simp] theorem dy (f:D->Sto->Res D) (x:D) (μ:Sto):ir f [x] μ=f x μ:=rfl
noncomputable def seq1(f:List D->Sto->Res D)(x:D)(μ:Sto):Res D:=match cw μ x with
 |some xs=>f xs μ
 |none=>.stuck
noncomputable def Kr(f:List Int->Sto->Res D)(x:D)(μ:Sto):Res D:=match(cw μ x).bind iq with
 |some ns=>f ns μ
 |none=>.stuck
noncomputable def zj(f:List Bool->Sto->Res D)(x:D)(μ:Sto):Res D:=match(cw μ x).bind j0 with
 |some ns=>f ns μ
 |none=>.stuck
noncomputable def o9(m:Mk)(x:D)(μ:Sto):Res D:=match listOf μ x with
 |some xs=>mkL m xs.reverse μ
 |none=>.stuck
noncomputable def minD(ds:List D)(μ:Sto):Res D:=match ds with
 | [.int i,.int j]=>.ok (.int (if j<i then j else i)) μ
 |_=>.stuck
noncomputable def L3(ds:List D)(μ:Sto):Res D:=match ds with
 | [.int i,.int j,.int k]=>.ok (.int (if k<(if j<i then j else i)then k else(if j<i then j else i))) μ
 |_=>.stuck
noncomputable def maxD(ds:List D)(μ:Sto):Res D:=match ds with
 | [.int i,.int j]=>.ok (.int (if j > i then j else i)) μ
 |_=>.stuck
noncomputable def Eu(m:Mk)(xs:List D)(μ:Sto):Res D:=match rowsOf xs with
 |some rs=>if rs.all (λr=>!r.isEmpty)=true then mkL m ((Bu rs).map λr=>.tup (r.map .int)) μ else .stuck
 |none=>.stuck
noncomputable def Rw(ns:List Int):List Int:=ns.foldl (λσ k=>if σ.any (·==k)then σ else σ++[k]) []
noncomputable def Ih(m:Mk):D->Sto->Res D:=Kr λns μ=>if ns.length<64 then mkL m ((sortI (Rw ns)).map .int) μ else .stuck
noncomputable def Rx(rs:List (List Int)):List (List Int):=rs.foldl (λσ k=>if k∈σ then σ else σ++[k]) []
noncomputable def Ew(m:Mk)(x:D)(μ:Sto):Res D:=match(listOf μ x).bind rowsOf with
 |some rs=>if rs.length<60/\(rs.all λr=>!r.isEmpty)=true then mkL m ((Bu (Rx rs)).map λr=>.tup (r.map .int)) μ else .stuck
 |none=>.stuck
noncomputable def Ii(m:Mk)(x:D)(μ:Sto):Res D:=match listOf μ x with
 |some xs=>if xs.length<64 then Eu m xs μ else .stuck
 |none=>.stuck
noncomputable def L4(ds:List D)(μ:Sto):Res D:=match ds with
 | [.int x,.int i,.int j,.int k]=>if 0<=i/\i<2 ^ 32/\0<=j/\j<2 ^ 32/\1<=k/\k<=1000 then .ok (.bl (decide (i<=x/\x<j/\(x-i) % k=0))) μ else .stuck
 |_=>.stuck
noncomputable def O8{R:Type}(lt:R->R->Bool)(x:R):List R->List R
 | []=>[x]
 |y::r=>if lt y x=true then y::O8 lt x r else x::y::r
noncomputable def Ey{R:Type}(lt:R->R->Bool):List R->List R
 | []=>[]
 |x::r=>O8 lt x (Ey lt r)
noncomputable abbrev NR:=List Int×Str×List Int
noncomputable abbrev Ry(x:NR):D:=.tup [.tup (x.1.map .int),.tup (.str x.2.1::x.2.2.map .int)]
noncomputable def ltN(x y:NR):Bool:=if x.1=y.1 then(if x.2.1=y.2.1 then lexLt x.2.2 y.2.2 else decide (x.2.1.cps.toList<y.2.1.cps.toList))else lexLt x.1 y.1
noncomputable def Ij:List D->Option (List NR)
 | []=>some []
 |.tup [.tup ds,.tup (.str t::es)]::r=>(iq ds).bind λx=>(iq es).bind λy=>(Ij r).map ((x,t,y)::·)
 |_=>none
noncomputable def Ik(m:Mk)(x:D)(μ:Sto):Res D:=match(listOf μ x).bind Ij with
 |some rs=>if rs.length<=1000 then mkL m ((Ey ltN rs).map Ry) μ else .stuck
 |none=>.stuck
noncomputable def Il(m:Mk)(x:D)(μ:Sto):Res D:=match(listOf μ x).bind rowsOf with
 |some rs=>if rs.length<=1000/\(rs.all λr=>!r.isEmpty)=true then mkL m ((Ey lexLt rs).map λr=>.tup (r.map .int)) μ else .stuck
 |none=>.stuck
noncomputable def Im(m:Mk)(x:D)(μ:Sto):Res D:=match(listOf μ x).bind iq with
 |some ns=>if ns.length<64 then mkL m ((sortI ns).map .int) μ else .stuck
 |none=>.stuck
noncomputable def keysOf(μ:Sto):D->Option (List (D×D))
 |.loc n=>match μ[n]? with
  |some (.d kvs)=>some kvs
  |some (.dr kvs)=>some kvs
  |some (.fd kvs)=>some kvs
  |_=>none
 |_=>none
noncomputable def Io(m:Mk)(x:D)(μ:Sto):Res D:=match(keysOf μ x).bind λkvs=>iq (kvs.map (·.1))with
 |some ns=>if ns.length<64 then mkL m ((sortI ns).map .int) μ else .stuck
 |none=>.stuck
noncomputable def L5(xs:List D):List D:=(List.range (xs.length / 2)).filterMap λi=>xs[2*i+1]?
noncomputable def L6(m:Mk)(x:D)(μ:Sto):Res D:=match listOf μ x with
 |some xs=>mkL m (L5 xs) μ
 |none=>.stuck
noncomputable def Ip:List D->Sto->Option (List (List Int)×Sto)
 | [],μ=>some ([],μ)
 |.loc n::r,μ=>match μ[n]? with
  |some (.l ds)=>match iq ds,Ip r (μ.set n .dead)with
   |some x,some p=>some (x::p.1,p.2)
   |_,_=>none
  |_=>none
 |_,_=>none
noncomputable def Ez(m:Mk)(x:D)(μ:Sto):Res D:=match listOf μ x with
 |some xs=>if xs.length<64 then(match Ip xs μ with
  |some p=>mkL m ((Bu p.1).map λr=>.lst (r.map .int)) p.2
  |none=>.stuck)else .stuck
 |none=>.stuck
noncomputable def L7:D->Sto->Res D:=Kr λns μ=>match ns with
 |n::r=>.ok (.int (O6 n r)) μ
 | []=>.stuck
noncomputable def L8:D->Sto->Res D:=Kr λns μ=>match ns with
 |n::r=>.ok (.int (O7 n r)) μ
 | []=>.stuck
noncomputable def Iq(x:D)(μ:Sto):Res D:=match x with
 |.bl b=>.ok (.int (if b then 1 else 0)) μ
 |.int i=>.ok (.int i) μ
 |_=>.stuck
noncomputable def Dn(f:List D->Sto->Res D)(x:D)(μ:Sto):Res D:=match x with
 |.int j=>if -(lim:Int)<=j/\j<=lim then f ((List.range j.toNat).map fun(i:Nat)=>D.int i) μ else .stuck
 |_=>.stuck
noncomputable def Dp:List D->Option (List (D×D))
 | []=>some []
 |.tup [k,v]::r=>if yq k=true/\v.pure=true then(Dp r).map ((k,v)::·)else none
 |_=>none
noncomputable def Ir(x:D)(μ:Sto):Res D:=match(listOf μ x).bind Dp with
 |some ps=>if ps.length<1000 then .ok (.loc μ.length) (μ++[.d (ps.foldl (λm p=>dput p.1 p.2 m) [])])else .stuck
 |none=>.stuck
noncomputable def pd:List D->Option (List Str)
 | []=>some []
 |.str x::r=>(pd r).map (x::·)
 |_=>none
noncomputable def ofL(l:List Nat):Str:=⟨l.toArray⟩
noncomputable def str1(f:Str->Sto->Res D)(x:D)(μ:Sto):Res D:=match x with
 |.str s=>f s μ
 |_=>.stuck
noncomputable def w8(f:Str->Str->Sto->Res D)(ds:List D)(μ:Sto):Res D:=match ds with
 | [.str a,.str b]=>f a b μ
 |_=>.stuck
noncomputable def digs(l:List Nat):Bool:=!l.isEmpty&&l.all λc=>decide (48<=c/\c<=57)
noncomputable def valL(l:List Nat):Nat:=l.foldl (λa c=>a*10+(c-48)) 0
noncomputable def cz(c:Nat):List Nat->List (List Nat)
 | []=>[[]]
 |x::r=>if x=c then []::cz c r else match cz c r with
  | []=>[[x]]
  |w::t=>(x::w)::t
noncomputable def de(p:List Nat):List Nat->Option (List Nat×List Nat)
 | []=>none
 |x::r=>if p.isPrefixOf (x::r)=true then some ([],(x::r).drop p.length)else(de p r).map λq=>(x::q.1,q.2)
noncomputable def E1(x:D)(μ:Sto):Res D:=match x with
 |.int i=>if 0<=i/\i<10 ^ 60 then .ok (.str (Str.ofString (toString i))) μ else .stuck
 |_=>.stuck
noncomputable def rj(ds:List D)(μ:Sto):Res D:=match ds with
 | [.str p,y]=>match(listOf μ y).bind pd with
  |some xs=>if(xs.map (·.length)).sum+xs.length*p.length<=1000000 then .ok (.str (Str.join p xs)) μ else .stuck
  |none=>.stuck
 |_=>.stuck
noncomputable def pe(m:Mk):List D->Sto->Res D:=w8 λs p μ=>match p.cps.toList with
 | [c]=>if s.length<=100000 then mkL m ((cz c s.cps.toList).map λl=>.str (ofL l)) μ else .stuck
 |_=>.stuck
noncomputable def rk:List D->Sto->Res D:=w8 λs p μ=>if 0<p.length/\s.length<=100000 then(match de p.cps.toList s.cps.toList with
 |some q=>.ok (.tup [.str (ofL q.1),.str p,.str (ofL q.2)]) μ
 |none=>.ok (.tup [.str s,.str Str.empty,.str Str.empty]) μ)else .stuck
noncomputable def btD(b:Bt)(m:Mk)(ds:List D)(μ:Sto):Res D:=match b with
 |.len=>ir (seq1 λxs μ=>.ok (.int xs.length) μ) ds μ
 |.tuple=>ir (seq1 λxs μ=>.ok (.tup xs) μ) ds μ
 |.list=>ir (seq1 λxs μ=>mkL m xs μ) ds μ
 |.listRev=>ir (o9 m) ds μ
 |.sum=>ir (Kr λns μ=>.ok (.int ns.sum) μ) ds μ
 |.min=>minD ds μ
 |.max=>maxD ds μ
 |.all=>ir (zj λbs μ=>.ok (.bl (bs.all id)) μ) ds μ
 |.any=>ir (zj λbs μ=>.ok (.bl (bs.any id)) μ) ds μ
 |.sorted=>ir (Ii m) ds μ
 |.min1=>ir L7 ds μ
 |.max1=>ir L8 ds μ
 |.sortedN=>ir (Ik m) ds μ
 |.sortedT=>ir (Il m) ds μ
 |.sortedST=>ir (Ew m) ds μ
 |.inR3=>L4 ds μ
 |.sortedSet=>ir (Ih m) ds μ
 |.sortedL=>ir (Ez m) ds μ
 |.int=>ir Iq ds μ
 |.listRange=>ir (Dn λxs μ=>mkL m xs μ) ds μ
 |.tupleRange=>ir (Dn λxs μ=>.ok (.tup xs) μ) ds μ
 |.dictP=>ir Ir ds μ
 |.sortedI=>ir (Im m) ds μ
 |.sortedD=>ir (Io m) ds μ
 |.odds=>ir (L6 m) ds μ
 |.min3=>L3 ds μ
 |.strI=>ir E1 ds μ
 |.joinS=>rj ds μ
 |.isdig=>ir (str1 λs μ=>if s.cps.toList.all (λc=>decide (c<128))=true then .ok (.bl (digs s.cps.toList)) μ else .stuck) ds μ
 |.lenS=>ir (str1 λs μ=>if s.length<=1000000 then .ok (.int s.length) μ else .stuck) ds μ
 |.startS=>w8 (λs p μ=>.ok (.bl (p.cps.toList.isPrefixOf s.cps.toList)) μ) ds μ
 |.intS=>ir (str1 λs μ=>if digs s.cps.toList=true/\s.length<=600 then .ok (.int (valL s.cps.toList)) μ else .stuck) ds μ
 |.splitS=>pe m ds μ
 |.partS=>rk ds μ
 |.catS=>w8 (λa b μ=>if a.length+b.length<=1000000 then .ok (.str (a++b)) μ else .stuck) ds μ
 |.truS=>ir (str1 λs μ=>if s.length<=1000000 then .ok (.bl (decide (0<s.length))) μ else .stuck) ds μ
noncomputable def O9:List Str:=["BadBook","BadTicks","NoDeed","NoRest","BadRow"]
noncomputable def Rz(k c:Str):Bool:=decide (c=k) || decide (c="LampError") || decide (c="ValueError")
noncomputable def Bc(c:Cl)(d:D)(μ:Sto):Res D:=match d,c with
 |.int _,.int=>.ok (.bl true) μ
 |.bl _,.int=>.ok (.bl true) μ
 |.bl _,.bool=>.ok (.bl true) μ
 |.tup _,.tuple=>.ok (.bl true) μ
 |.lst _,.list=>.ok (.bl true) μ
 |.str _,.str=>.ok (.bl true) μ
 |.loc n,.list=>match μ[n]? with
  |some (.l _)=>.ok (.bl true) μ
  |some (.r _)=>.ok (.bl true) μ
  |_=>.stuck
 |.loc n,.own c=>match μ[n]? with
  |some (.x k)=>if O9.contains k=true then .ok (.bl (Rz k c)) μ else .stuck
  |_=>.stuck
 |.loc _,_=>.stuck
 |_,.own _=>.stuck
 |_,_=>.ok (.bl false) μ
noncomputable def putL(n:Nat)(o:O)(ds:List D)(d:D)(μ:Sto):Res D:=match o with
 |.l _=>.ok d (μ.set n (.l ds))
 |.r _=>.ok d (μ.set n (.r ds))
 |_=>.stuck
noncomputable def fits(o:O)(d:D):Bool:=match o with
 |.l _=>d.pure
 |.r _=>true
 |_=>false
noncomputable def ll:O->Option (List D)
 |.l ds=>some ds
 |.r ds=>some ds
 |_=>none
noncomputable def mtL(mt:Mt)(n:Nat)(ob:O)(xs:List D)(ds:List D)(μ:Sto):Res D:=match mt with
 |.append=>ir (λd μ=>if fits ob d=true/\xs.length<lim then putL n ob (xs++[d]) .non μ else .stuck) ds μ
 |.pop=>match ds with
  | []=>match xs.getLast? with
   |some d=>putL n ob xs.dropLast d μ
   |none=>.stuck
  | [.int i]=>if 0<=i/\i<lim then(match xs[i.toNat]? with
   |some d=>putL n ob (xs.eraseIdx i.toNat) d μ
   |none=>.stuck)else .stuck
  |_=>.stuck
 |.extend=>ir (λy μ=>match listOf μ y with
  |some ys=>if ys.all (fits ob)=true/\xs.length+ys.length<=lim then putL n ob (xs++ys) .non μ else .stuck
  |none=>.stuck) ds μ
 |.extendT=>ir (λy μ=>match y with
  |.tup ys=>if ys.all (fits ob)=true/\xs.length+ys.length<=lim then putL n ob (xs++ys) .non μ else .stuck
  |_=>.stuck) ds μ
 |.insert=>match ds with
  | [.int i,d]=>if 0<=i/\i<=(xs.length:Int)/\fits ob d=true/\xs.length<lim then putL n ob (xs.take i.toNat++d::xs.drop i.toNat) .non μ else .stuck
  |_=>.stuck
 |.remove=>ir (λd μ=>match cu (xs.map (ax μ 8)),ax μ 8 d with
  |some es,some e=>match es.findIdx? (λx=>deq x e)with
   |some j=>putL n ob (xs.eraseIdx j) .non μ
   |none=>.stuck
  |_,_=>.stuck) ds μ
 |.reverse=>match ds with
  | []=>putL n ob xs.reverse .non μ
  |_=>.stuck
 |.clear=>match ds with
  | []=>putL n ob [] .non μ
  |_=>.stuck
 |_=>.stuck
noncomputable def Pa(xs ds:List D)(μ:Sto):Res D:=ir (λx μ=>if flat x=true/\xs.all flat=true then .ok (.int (xs.countP λy=>deq y x)) μ else .stuck) ds μ
noncomputable def R5(o:D)(ds:List D)(μ:Sto):Res D:=match o with
 |.tup xs=>Pa xs ds μ
 |_=>.stuck
noncomputable def R6(o:D)(ds:List D)(μ:Sto):Res D:=match listOf μ o with
 |some xs=>Pa xs ds μ
 |none=>.stuck
noncomputable def iy(mt:Mt)(x:D)(μ:Sto):Bool:=match mt with
 |.get=>match x with
  |.loc n=>match μ[n]? with
   |some (.d _)=>true
   |_=>false
  |_=>false
 |.count=>match x with
  |.tup _=>true
  |_=>false
 |_=>(listOf μ x).isSome
noncomputable def L9(o:D)(ds:List D)(μ:Sto):Res D:=match ds with
 | [k,x]=>match dictAt μ o k with
  |some kvs=>.ok ((zi k kvs).getD x) μ
  |none=>.stuck
 |_=>.stuck
noncomputable def t6(mt:Mt)(o:D)(ds:List D)(μ:Sto):Res D:=match o with
 |.loc n=>match μ[n]? with
  |none=>.stuck
  |some ob=>match ll ob with
   |none=>.stuck
   |some xs=>mtL mt n ob xs ds μ
 |_=>.stuck
noncomputable def mtD(mt:Mt)(o:D)(ds:List D)(μ:Sto):Res D:=match mt with
 |.count=>R5 o ds μ
 |.countL=>R6 o ds μ
 |.get=>L9 o ds μ
 |mt=>t6 mt o ds μ
noncomputable def Mb(a:D)(ks:List D)(v:D)(μ:Sto):Res Unit:=match a with
 |.loc n=>match μ[n]? with
  |some (.dt kvs)=>if ks.all yq=true/\v.pure=true/\kvs.length<lim then .ok () (μ.set n (.dt (dput (.tup ks) v kvs)))else .stuck
  |_=>.stuck
 |_=>.stuck
noncomputable def Pb(a:D)(ks:List D)(μ:Sto):Res D:=match t4 μ a ks with
 |some kvs=>match zi (.tup ks) kvs with
  |some v=>.ok v μ
  |none=>.stuck
 |none=>.stuck
noncomputable def Mc(a:D)(ks:List D)(v:D)(μ:Sto):Res D:=match t4 μ a ks with
 |some kvs=>.ok ((zi (.tup ks) kvs).getD v) μ
 |none=>.stuck
noncomputable def R7(a k:D)(μ:Sto):Res D:=match k with
 |.tup ks=>Pb a ks μ
 |_=>.stuck
noncomputable def R8(a:D)(μ:Sto):Bool:=match a with
 |.loc n=>match μ[n]? with
  |some (.dt _)=>true
  |_=>false
 |_=>false
noncomputable def R9(neg:Bool)(ks:List D)(a:D)(μ:Sto):Res D:=match t4 μ a ks with
 |some kvs=>.ok (.bl (neg ^^ (zi (.tup ks) kvs).isSome)) μ
 |none=>.stuck
noncomputable def ixD(a b:D)(μ:Sto):Res D:=match b with
 |.int i=>match cw μ a with
  |some xs=>match ixN xs.length i with
   |some j=>match xs[j]? with
    |some d=>.ok d μ
    |none=>.stuck
   |none=>.stuck
  |none=>.stuck
 |_=>.stuck
noncomputable def ixL(a b:D)(μ:Sto):Res D:=match a with
 |.loc n=>ixD (.loc n) b μ
 |_=>.stuck
noncomputable def Ks(a b:D)(μ:Sto):Res D:=match dictAt μ a b with
 |some kvs=>match zi b kvs with
  |some v=>.ok v μ
  |none=>.stuck
 |none=>.stuck
noncomputable def Md(a b:D)(μ:Sto):Res D:=match keysOf μ a with
 |some _=>Ks a b μ
 |none=>ixD a b μ
noncomputable def objOf(μ:Sto):D->Option (Nat×Str×List (Str×D))
 |.loc n=>match μ[n]? with
  |some (.o c fs)=>some (n,c,fs)
  |_=>none
 |_=>none
noncomputable def Iu(c f:Str):Bool :=
 if c="Residue" then decide (f="heads") || decide (f="rooms") || decide (f="leaving") || decide (f="surplus")
 else if c="Slope" then decide (f="residue") || decide (f="scale") || decide (f="costs") || decide (f="worths")
 else if c="Watch" then decide (f="rests")else false
noncomputable def Pc(f:Str)(x:D)(μ:Sto):Res D:=match objOf μ x with
 |some (_,c,fs)=>if Iu c f=true then(match fs.lookup f with
  |some v=>.ok v μ
  |none=>.stuck)else .stuck
 |none=>.stuck
noncomputable def Pd(f:Str)(v:D):List (Str×D)->List (Str×D)
 | []=>[(f,v)]
 |(g,x)::r=>if g=f then(g,v)::r else(g,x)::Pd f v r
noncomputable def E2(f:Str)(x v:D)(μ:Sto):Res Unit:=match objOf μ x with
 |some (n,c,fs)=>if Iu c f=true/\fs.length<100 then .ok () (μ.set n (.o c (Pd f v fs)))else .stuck
 |none=>.stuck
noncomputable def isObj(c m:Str)(x:D)(μ:Sto):Bool:=match objOf μ x with
 |some (_,c',fs)=>decide (c'=c)&&(fs.lookup m).isNone
 |none=>false
noncomputable def truD(x:D)(μ:Sto):Res D:=match x with
 |.bl b=>.ok (.bl b) μ
 |x=>match cw μ x with
  |some xs=>.ok (.bl (!xs.isEmpty)) μ
  |none=>.stuck
noncomputable def Pe(op:Operator)(a b:D)(μ:Sto):Res D:=match a,b with
 |.int i,.int j=>match op with
  |.Add=>.ok (.int (i+j)) μ
  |.Sub=>.ok (.int (i-j)) μ
  |_=>.stuck
 |_,_=>.stuck
noncomputable def slD(m:Mk)(a:D)(lo hi:Option Int)(μ:Sto):Res D:=match a with
 |.tup xs=>.ok (.tup (cut xs lo hi)) μ
 |x=>match listOf μ x with
  |some xs=>mkL m (cut xs lo hi) μ
  |none=>.stuck
noncomputable def Gy(a b v:D)(μ:Sto):Res Unit:=match a with
 |.loc n=>match μ[n]? with
  |none=>.stuck
  |some (.d kvs)=>if yq b=true/\v.pure=true/\kvs.length<lim then .ok () (μ.set n (.d (dput b v kvs)))else .stuck
  |some (.dr kvs)=>if yq b=true/\kvs.length<lim then .ok () (μ.set n (.dr (dput b v kvs)))else .stuck
  |some ob=>match ll ob,b with
   |some xs,.int i=>match ixN xs.length i with
    |some j=>if fits ob v=true then(putL n ob (xs.set j v) .non μ).bind λ_ μ=>.ok () μ else .stuck
    |none=>.stuck
   |_,_=>.stuck
 |_=>.stuck
noncomputable def dq(tg:Tg)(d:D)(σ:Sl):Option Sl:=match tg with
 |.one i=>some (σ.set i (some d))
 |.many is=>match d with
  |.tup ds=>if ds.length=is.length then some ((is.zip ds).foldl (λs p=>s.set p.1 (some p.2)) σ)else none
  |_=>none
noncomputable abbrev Gd:=Option (Nat×O)
noncomputable def gd(g:Gd)(μ:Sto):Prop:=match g with
 |none=>True
 |some (n,o)=>μ[n]? = some o
@[simp] theorem pf (μ:Sto):gd none μ=True:=rfl
open Classical in
noncomputable def mapR(g:Gd)(f:D->Sto->Res (List D)):List D->Sto->Res (List D)
 | [],μ=>if gd g μ then .ok [] μ else .stuck
 |d::ds,μ=>if gd g μ then(f d μ).bind λxs μ1=>(mapR g f ds μ1).bind λys μ2=>.ok (xs++ys) μ2 else .stuck
inductive Fl where
 |nx (σ:Sl) | rt (d:D) | bk (σ:Sl) | ct (σ:Sl)
open Classical in
noncomputable def j3(g:Gd)(f:D->Sl->Sto->Res Fl):List D->Sl->Sto->Res Fl
 | [],σ,μ=>if gd g μ then .ok (.nx σ) μ else .stuck
 |d::ds,σ,μ=>if gd g μ then(f d σ μ).bind λfl μ1=>match fl with
  |.nx σ1=>j3 g f ds σ1 μ1
  |.ct σ1=>j3 g f ds σ1 μ1
  |.bk σ1=>.ok (.nx σ1) μ1
  |.rt v=>.ok (.rt v) μ1 else .stuck
noncomputable def Pf(t:Bool)(ds:List D)(μ:Sto):Res D:=match ds with
 | []=>.ok (.loc μ.length) (μ++[if t then .dt []else .d []])
 | [.int a,x]=>if t=false/\x.pure=true then .ok (.loc μ.length) (μ++[.d [(.int a,x)]])else .stuck
 | [.int a,x,.int b,y]=>if t=false/\x.pure=true/\y.pure=true then .ok (.loc μ.length) (μ++[.d (dput (.int b) y [(.int a,x)])])else .stuck
 |_=>.stuck
noncomputable abbrev Phi:=Nat->List D->Sto->Res D
noncomputable def D.belowN(b:Nat):Nat->D->Bool
 |0,d=>match d with | .tup _=>false | .lst _=>false | .loc n=>decide (n<b) | _=>true
 |k+1,d=>match d with | .tup ds=>ds.all (D.belowN b k) | .lst ds=>ds.all (D.belowN b k) | .loc n=>decide (n<b) | _=>true
noncomputable def eo(b:Nat):O->Bool
 |.r ds=>ds.all (D.belowN b 8)
 |.o _ fs=>fs.all λp=>D.belowN b 8 p.2
 |.dr kvs=>kvs.all λp=>D.belowN b 8 p.2
 |_=>true
noncomputable def noR:O->Bool
 |.r _=>false
 |.o _ _=>false
 |.dr _=>false
 |_=>true
noncomputable def km(keep:Bool)(base:Nat)(r:Res D):Res D:=match r with
 |.ok d μ'=>if keep=true then .ok d μ' else if D.belowN base 8 d=true/\(μ'.take base).all (eo base)=true then .ok d (μ'.take base)else .stuck
 |x=>x
noncomputable def Sa:O->Bool
 |.l _=>true
 |.d _=>true
 |.dt _=>true
 |.fd _=>true
 |_=>false
noncomputable def E3(base:Nat)(r:Res D):Res D:=match r with
 |.ok d μ'=>if(μ'.take base).all (eo base)=true then(if D.belowN base 8 d=true then .ok d (μ'.take base)else match d with
  |.loc n=>match μ'[n]? with
   |some o=>if Sa o=true then .ok (.loc base) (μ'.take base++[o])else .stuck
   |none=>.stuck
  |_=>.stuck)else .stuck
 |x=>x
noncomputable def Iv(k1:Bool)(base:Nat)(r:Res D):Res D:=if k1=true then E3 base r else km false base r
noncomputable def Iw(base:Nat)(r:Res D):Res D:=match r with
 |.ok .non μ'=>.ok (.loc base) μ'
 |_=>.stuck
noncomputable def Pg:D->Option (Sum D Str)
 |.non=>some (.inl .non)
 |.tup [.bl true,d]=>some (.inl d)
 |.tup [.bl false,.str c]=>some (.inr c)
 |_=>none
noncomputable def Iy(base:Nat)(r:Res D):Res (Option Str):=match r with
 |.ok d μ'=>if(μ'.take base).all (eo base)=true then(match Pg d with
  |some (.inl _)=>.ok none (μ'.take base)
  |some (.inr c)=>.ok (some c) (μ'.take base)
  |none=>.stuck)else .stuck
 |.exc c ds μ'=>.exc c ds μ'
 |.stuck=>.stuck
noncomputable def kTh(σ:Sl)(r:Option Str)(μ:Sto):Res Fl:=match r with
 |none=>.ok (.nx σ) μ
 |some c=>.ok (.rt (.tup [.bl false,.str c])) μ
noncomputable def kPl(fl:Fl)(μ:Sto):Res Fl:=match fl with
 |.nx σ=>.ok (.nx σ) μ
 |_=>.stuck
noncomputable def kGo(ei:Nat)(fl:Fl)(μ:Sto):Res Fl:=match fl with
 |.nx σ=>.ok (.nx (σ.set ei none)) μ
 |_=>.stuck
noncomputable def kTi(σ:Sl)(i j:Nat)(d:D)(μ:Sto):Res Fl:=match d with
 |.int n=>if i=j then .stuck else .ok (.nx ((σ.set j (some (.int n))).set i none)) μ
 |_=>.stuck
noncomputable def Sb(σ:Sl)(ei:Nat)(h:Sl->Sto->Res Fl)(r:Option Str)(μ:Sto):Res Fl:=match r with
 |none=>.ok (.nx σ) μ
 |some c=>if O9.contains c=true then(h (σ.set ei (some (.loc μ.length))) (μ++[.x c])).bind (kGo ei)else .stuck
noncomputable def Me(base:Nat)(r:Res D):Res (Sum D Str):=match r with
 |.ok d μ'=>if(μ'.take base).all (eo base)=true then(match Pg d with
  |some (.inl d')=>if D.belowN base 8 d'=true then .ok (.inl d') (μ'.take base)else .stuck
  |some (.inr c)=>.ok (.inr c) (μ'.take base)
  |none=>.stuck)else .stuck
 |.exc c ds μ'=>.exc c ds μ'
 |.stuck=>.stuck
noncomputable def kMd(x:D)(q:Sum (List D) Str)(μ:Sto):Res (Sum (List D) Str):=match q with
 |.inl xs=>.ok (.inl (x::xs)) μ
 |.inr c=>.ok (.inr c) μ
noncomputable def kMc(rest:Sto->Res (Sum (List D) Str))(r:Sum D Str)(μ:Sto):Res (Sum (List D) Str):=match r with
 |.inl x=>(rest μ).bind (kMd x)
 |.inr c=>.ok (.inr c) μ
open Classical in
noncomputable def Ph(g:Gd)(f:D->Sto->Res (Sum D Str)):List D->Sto->Res (Sum (List D) Str)
 | [],μ=>if gd g μ then .ok (.inl []) μ else .stuck
 |d::ds,μ=>if gd g μ then(f d μ).bind (kMc λμ=>Ph g f ds μ)else .stuck
noncomputable def kMx(σ:Sl)(i:Nat)(ys:List D)(r:Sum (List D) Str)(μ:Sto):Res Fl:=match r with
 |.inl xs=>.ok (.nx (σ.set i (some (.tup (ys++xs))))) μ
 |.inr c=>.ok (.rt (.tup [.bl false,.str c])) μ
noncomputable def Kt(d:D)(μ:Sto):Res Bool:=match d with
 |.bl b=>.ok b μ
 |_=>.stuck
section
variable(φ:Phi)
mutual
noncomputable def evE:Ex->Sl->Sto->Res D
 |.var i,σ,μ=>match σ[i]? with
  |some (some d)=>.ok d μ
  |_=>.stuck
 |.frz i,σ,μ=>match σ[i]? with
  |some (some (.loc n))=>match μ[n]? with
   |some (.l ds)=>.ok (.lst ds) (μ.set n .dead)
   |some (.r ds)=>.ok (.lst ds) (μ.set n .dead)
   |_=>.stuck
  |_=>.stuck
 |.cst d,_,μ=>.ok d μ
 |.bin op m a b,σ,μ=>(evE a σ μ).bind λx μ=>(evE b σ μ).bind λy μ=>opD op m x y μ
 |.neg a,σ,μ=>(evE a σ μ).bind λx μ=>match x with
  |.int i=>.ok (.int (-i)) μ
  |_=>.stuck
 |.not a,σ,μ=>(evE a σ μ).bind λx μ=>match x with
  |.bl b=>.ok (.bl (!b)) μ
  |_=>.stuck
 |.and a b,σ,μ=>(evE a σ μ).bind λx μ=>match x with
  |.bl c=>if c=true then evE b σ μ else .ok (.bl false) μ
  |_=>.stuck
 |.or a b,σ,μ=>(evE a σ μ).bind λx μ=>match x with
  |.bl c=>if c=true then .ok (.bl true) μ else evE b σ μ
  |_=>.stuck
 |.ite c a b,σ,μ=>(evE c σ μ).bind λx μ=>match x with
  |.bl c=>if c=true then evE a σ μ else evE b σ μ
  |_=>.stuck
 |.cmp a r,σ,μ=>(evE a σ μ).bind λx μ=>evC r x σ μ
 |.call keep f es,σ,μ=>(du es σ μ).bind λds μ=>km keep μ.length (φ f ds μ)
 |.blt b m es,σ,μ=>(du es σ μ).bind λds μ=>btD b m ds μ
 |.isi a c,σ,μ=>(evE a σ μ).bind λx μ=>Bc c x μ
 |.meth mt o es,σ,μ=>(evE o σ μ).bind λx μ=>if iy mt x μ=true then(du es σ μ).bind λds μ=>mtD mt x ds μ else .stuck
 |.ix a b,σ,μ=>(evE a σ μ).bind λx μ=>(evE b σ μ).bind λy μ=>ixD x y μ
 |.dix a b,σ,μ=>(evE a σ μ).bind λx μ=>(evE b σ μ).bind λy μ=>Ks x y μ
 |.sl m a lo hi,σ,μ=>(evE a σ μ).bind λx μ=>(evO lo σ μ).bind λl μ=>(evO hi σ μ).bind λh μ=>slD m x l h μ
 |.tup es,σ,μ=>(du es σ μ).bind λds μ=>.ok (.tup ds) μ
 |.lst m es,σ,μ=>(du es σ μ).bind λds μ=>mkL m ds μ
 |.dic t es,σ,μ=>(du es σ μ).bind λds μ=>Pf t ds μ
 |.ixT d es,σ,μ=>(evE d σ μ).bind λx μ=>(du es σ μ).bind λks μ=>Pb x ks μ
 |.ixV d k,σ,μ=>(evE d σ μ).bind λx μ=>(evE k σ μ).bind λy μ=>R7 x y μ
 |.getT d es e,σ,μ=>(evE d σ μ).bind λx μ=>if R8 x μ=true then(du es σ μ).bind λks μ=>(evE e σ μ).bind λv μ=>Mc x ks v μ else .stuck
 |.inT neg es d,σ,μ=>(du es σ μ).bind λds μ=>(evE d σ μ).bind λx μ=>R9 neg ds x μ
 |.att e f,σ,μ=>(evE e σ μ).bind λx μ=>Pc f x μ
 |.mcall k1 c m f o es,σ,μ=>(evE o σ μ).bind λx μ=>if isObj c m x μ=true then(du es σ μ).bind λds μ=>Iv k1 μ.length (φ f (x::ds) μ)else .stuck
 |.make c f es,σ,μ=>(du es σ μ).bind λds μ=>Iw μ.length (φ f (.loc μ.length::ds) (μ++[.o c []]))
 |.callK f es,σ,μ=>(du es σ μ).bind λds μ=>E3 μ.length (φ f ds μ)
 |.tru e,σ,μ=>(evE e σ μ).bind λx μ=>truD x μ
 |.drp e,σ,μ=>km false μ.length (evE e σ μ)
 |.dicr,_,μ=>.ok (.loc μ.length) (μ++[.dr []])
 |.gix a b,σ,μ=>(evE a σ μ).bind λx μ=>(evE b σ μ).bind λy μ=>Md x y μ
 |.comp m cap nl tg it cs elt,σ,μ=>(evI it σ μ).bind λds μ =>
   (mapR ds.2 (λd μ=>iw (dq tg d (cap.map (λi=>(σ[i]?).getD none)++List.replicate nl none)) λσ' =>
    (xg cs σ' μ).bind λb μ=>if b=true then(evE elt σ' μ).bind λx μ=>.ok [x] μ else .ok [] μ) ds.1 μ).bind λxs μ=>mkL m xs μ
noncomputable def du:Exs->Sl->Sto->Res (List D)
 |.nil,_,μ=>.ok [] μ
 |.cons e es,σ,μ=>(evE e σ μ).bind λd μ=>(du es σ μ).bind λds μ=>.ok (d::ds) μ
noncomputable def evC:Cps->D->Sl->Sto->Res D
 |.nil,_,_,_=>.stuck
 |.cons op e r,x,σ,μ=>(evE e σ μ).bind λy μ=>(cpD op x y μ).bind λz μ=>match r with
  |.nil=>.ok z μ
  |r=>match z with
   |.bl b=>if b=true then evC r y σ μ else .ok (.bl false) μ
   |_=>.stuck
noncomputable def evO:ExO->Sl->Sto->Res (Option Int)
 |.no,_,μ=>.ok none μ
 |.so e,σ,μ=>(evE e σ μ).bind λx μ=>match x with
  |.int i=>.ok (some i) μ
  |_=>.stuck
noncomputable def xg:Exs->Sl->Sto->Res Bool
 |.nil,_,μ=>.ok true μ
 |.cons e es,σ,μ=>(evE e σ μ).bind λx μ=>match x with
  |.bl b=>if b=true then xg es σ μ else .ok false μ
  |_=>.stuck
noncomputable def evI:It->Sl->Sto->Res (List D×Gd)
 |.seq e,σ,μ=>(evE e σ μ).bind λx μ=>match aw μ x with
  |some w=>.ok w μ
  |none=>.stuck
 |.rng a,σ,μ=>(evE a σ μ).bind λx μ=>match x with
  |.int j=>if -(lim:Int)<=j/\j<=lim then .ok ((List.range j.toNat).map fun(i:Nat)=>D.int i,none) μ else .stuck
  |_=>.stuck
 |.rng2 a b,σ,μ=>(evE a σ μ).bind λx μ=>(evE b σ μ).bind λy μ=>match x,y with
  |.int i,.int j=>if -(lim:Int)<=i/\i<=lim/\j<=lim /\ -(lim:Int)<=j/\(j-i)<=lim then .ok ((List.range (j-i).toNat).map fun(k:Nat)=>D.int (i+k),none) μ else .stuck
  |_,_=>.stuck
 |.rng3 a b c,σ,μ=>(evE a σ μ).bind λx μ=>(evE b σ μ).bind λy μ=>(evE c σ μ).bind λz μ=>match x,y,z with
  |.int i,.int j,.int k=>if 0<=i/\i<=lim/\j<=lim/\0<=j/\1<=k/\k<=1000 then .ok ((List.range (if i<j then((j-i-1) / k+1).toNat else 0)).map fun(n:Nat)=>D.int (i+n*k),none) μ else .stuck
  |_,_,_=>.stuck
 |.rngD a b c,σ,μ=>(evE a σ μ).bind λx μ=>(evE b σ μ).bind λy μ=>(evE c σ μ).bind λz μ=>match x,y,z with
  |.int i,.int j,.int k=>if -1<=i/\i<lim/\j = -1/\k = -1 then .ok ((List.range (i+1).toNat).map fun(n:Nat)=>D.int (i-n),none) μ else .stuck
  |_,_,_=>.stuck
 |.zip a b,σ,μ=>(evE a σ μ).bind λx μ=>(evE b σ μ).bind λy μ=>match aw μ x,cw [] y with
  |some w,some ys=>.ok ((w.1.zip ys).map λp=>.tup [p.1,p.2],w.2) μ
  |_,_=>.stuck
 |.enum a,σ,μ=>(evE a σ μ).bind λx μ=>match aw μ x with
  |some w=>.ok ((List.range w.1.length |>.zip w.1).map fun(p:Nat×D)=>.tup [.int p.1,p.2],w.2) μ
  |none=>.stuck
 |.rev _,_,_=>.stuck
 |.vals a,σ,μ=>(evE a σ μ).bind λx μ=>match x with
  |.loc n=>match μ[n]? with
   |some (.d kvs)=>.ok (kvs.map (·.2),none) (μ.set n .dead)
   |_=>.stuck
  |_=>.stuck
 |.keys a,σ,μ=>(evE a σ μ).bind λx μ=>match x with
  |.loc n=>match μ[n]? with
   |some (.d kvs)=>.ok (kvs.map (·.1),none) (μ.set n (.fd kvs))
   |_=>.stuck
  |_=>.stuck
end
noncomputable def whN(c:Sl->Sto->Res Bool)(b:Sl->Sto->Res Fl):Nat->Sl->Sto->Res Fl
 |0,_,_=>.stuck
 |n+1,σ,μ=>(c σ μ).bind λk μ1=>if k=true then(b σ μ1).bind λfl μ2=>match fl with
  |.nx σ1=>whN c b n σ1 μ2
  |.ct σ1=>whN c b n σ1 μ2
  |.bk σ1=>.ok (.nx σ1) μ2
  |.rt v=>.ok (.rt v) μ2 else .ok (.nx σ) μ1
open Classical in
noncomputable def whR(c:Sl->Sto->Res Bool)(b:Sl->Sto->Res Fl)(σ:Sl)(μ:Sto):Res Fl :=
 if h:∃n,whN c b n σ μ≠.stuck then whN c b h.choose σ μ else .stuck
mutual
noncomputable def evS:Sm->Sl->Sto->Res Fl
 |.set i e,σ,μ=>(evE φ e σ μ).bind λd μ=>.ok (.nx (σ.set i (some d))) μ
 |.unp is e,σ,μ=>(evE φ e σ μ).bind λd μ=>match dq (.many is) d σ with
  |some σ'=>.ok (.nx σ') μ
  |none=>.stuck
 |.setx o i v,σ,μ=>(evE φ v σ μ).bind λd μ=>(evE φ o σ μ).bind λx μ=>(evE φ i σ μ).bind λy μ=>(Gy x y d μ).bind λ_ μ=>.ok (.nx σ) μ
 |.augx op o i v,σ,μ=>(evE φ o σ μ).bind λx μ=>(evE φ i σ μ).bind λy μ=>(ixL x y μ).bind λold μ=>(evE φ v σ μ).bind λd μ=>(Pe op old d μ).bind λz μ=>(Gy x y z μ).bind λ_ μ=>.ok (.nx σ) μ
 |.setxT o i v,σ,μ=>(evE φ v σ μ).bind λd μ=>(evE φ o σ μ).bind λx μ=>(du φ i σ μ).bind λy μ=>(Mb x y d μ).bind λ_ μ=>.ok (.nx σ) μ
 |.ex e,σ,μ=>(evE φ e σ μ).bind λ_ μ=>.ok (.nx σ) μ
 |.ite c a b,σ,μ=>(evE φ c σ μ).bind λx μ=>match x with
  |.bl k=>if k=true then jq a σ μ else jq b σ μ
  |_=>.stuck
 |.loop tg it b,σ,μ=>(evI φ it σ μ).bind λds μ=>j3 ds.2 (λd σ μ=>iw (dq tg d σ) λσ'=>jq b σ' μ) ds.1 σ μ
 |.ret e,σ,μ=>(evE φ e σ μ).bind λd μ=>.ok (.rt d) μ
 |.raise c es,σ,μ=>(du φ es σ μ).bind λ_ μ=>.ok (.rt (.tup [.bl false,.str c])) μ
 |.pl s,σ,μ=>(evS s σ μ).bind kPl
 |.callx f es,σ,μ=>(du φ es σ μ).bind λds μ=>(Iy μ.length (φ f ds μ)).bind (kTh σ)
 |.mapx i cap nl tg it f es,σ,μ=>(evI φ it σ μ).bind λds μ =>
   (Ph ds.2 (λd μ=>iw (dq tg d (cap.map (λi=>(σ[i]?).getD none)++List.replicate nl none)) λσ'=>(du φ es σ' μ).bind λas μ=>Me μ.length (φ f as μ)) ds.1 μ).bind (kMx σ i [])
 |.tryi i j e,σ,μ=>(evE φ e σ μ).bind (kTi σ i j)
 |.tryc f es ei h,σ,μ=>(du φ es σ μ).bind λds μ=>(Iy μ.length (φ f ds μ)).bind (Sb σ ei λσ μ=>jq h σ μ)
 |.seta o f e,σ,μ=>(evE φ e σ μ).bind λd μ=>(evE φ o σ μ).bind λx μ=>(E2 f x d μ).bind λ_ μ=>.ok (.nx σ) μ
 |.whl c b,σ,μ=>whR (λσ μ=>(evE φ c σ μ).bind λd μ=>Kt d μ) (λσ μ=>jq b σ μ) σ μ
 |.pass,σ,μ=>.ok (.nx σ) μ
 |.brk,σ,μ=>.ok (.bk σ) μ
 |.cont,σ,μ=>.ok (.ct σ) μ
 |.never,_,_=>.stuck
noncomputable def jq:Sms->Sl->Sto->Res Fl
 |.nil,σ,μ=>.ok (.nx σ) μ
 |.cons s r,σ,μ=>(evS s σ μ).bind λfl μ=>match fl with
  |.nx σ'=>jq r σ' μ
  |fl=>.ok fl μ
end
end
structure Df where
 np:Nat
 nn:Nat
 body:Sms
noncomputable def Gz(φ:Phi)(f:Df)(ds:List D)(μ:Sto):Res D :=
 if ds.length=f.np then(jq φ f.body (ds.map some++List.replicate (f.nn-f.np) none) μ).bind λfl μ=>match fl with
  |.nx _=>.ok .non μ
  |.rt d=>.ok d μ
  |_=>.stuck
 else .stuck
noncomputable def ao(T:List Df):Nat->Phi
 |0=>λ_ _ _=>.stuck
 |n+1=>λf ds μ=>match T[f]? with
  |some d=>Gz (ao T n) d ds μ
  |none=>.stuck
open PySem PySem.Spec PyProof.Rows L2
noncomputable abbrev St:=L2.St
theorem _root_.L2.FzL.sq{K:PySem.W.Frag}{H:Hp}{a:Addr}{xs:List V}(h:FzL K H a xs):SqL K H a xs:=by
 rcases h with⟨o,h⟩ | ⟨its,n,h,hz,hv⟩
 ·exact .inl (.inr ⟨o,h⟩)
 ·exact .inr ⟨_,its.toArray,n,h,rfl,rfl,rfl,by rw[AF,<-hv.length];exact hz,by simpa using hv⟩
noncomputable def LsL(K:PySem.W.Frag)(H:Hp)(a:Addr)(xs:List V):Prop:=H a=some (.lst xs)\/FzL K H a xs
theorem LsL.sq{K:PySem.W.Frag}{H:Hp}{a:Addr}{xs:List V}(h:LsL K H a xs):SqL K H a xs:=by
 rcases h with h | h
 ·exact .of h
 ·exact h.sq
theorem _root_.L2.Inv.ls{X:Cx}{pins:List (Addr×Obj)}{σ:St}{H:Hp}{s:Shared}{a:Addr}{xs:List V}(I:Inv X pins σ H s)(h:LsL X.K H a xs) :
  xs.length<=sizeLine/\∃(its:List Value) (n:Nat),bz xs its/\xs.length=its.length/\s.heap.get? a=some {cls:=.type "list",data:=.seq its.toArray n}:=by
 rcases h with h | ⟨o,h⟩ | ⟨its,n,h,hz,hv⟩
 ·obtain⟨z,its,n,hv,e⟩:=I.hok a _ h
  exact⟨z,its,n,hv,hv.length,e⟩
 ·obtain⟨_,z,its,n,hv,e⟩:=I.hok a _ h
  exact⟨z,its,n,hv,hv.length,e⟩
 ·exact⟨hz,its,n,hv,hv.length,I.kIn a _ h⟩
structure Ext (H H':Hp):Prop where
 tups:∀b xs,H b=some (.tup xs)->H' b=some (.tup xs)
 frzs:∀b o u,H b=some (.frz o u)->H' b=some (.frz o u)
theorem Ext.refl(H:Hp):Ext H H:=⟨λ_ _ h=>h,λ_ _ _ h=>h⟩
theorem Ext.trans{H H1 H2:Hp}(a:Ext H H1)(b:Ext H1 H2):Ext H H2:=⟨λc xs h=>b.tups c xs (a.tups c xs h),λc o u h=>b.frzs c o u (a.frzs c o u h)⟩
theorem Ext.new{H:Hp}{p:Addr}{o:HO}(h:H p=none):Ext H (upd H p o) :=
 ⟨λb xs e=>by rw[av (bg e h)];exact e,λb o u e=>by rw[av (bg e h)];exact e⟩
theorem Ext.lst{H:Hp}{p:Addr}{xs:List V}{o:HO}(h:H p=some (.lst xs)):Ext H (upd H p o) :=
 ⟨λb ys e=>by rw[av (tm e h (by intro z;cases z))];exact e,λb o u e=>by rw[av (tm e h (by intro z;cases z))];exact e⟩
theorem _root_.L2.SqT.ext{K:PySem.W.Frag}{H H':Hp}{a:Addr}{xs:List V}(h:SqT K H a xs)(e:Ext H H'):SqT K H' a xs:=by
 rcases h with(h | ⟨o,h⟩) | h
 ·exact .inl (.inl (e.tups _ _ h))
 ·exact .inl (.inr ⟨o,e.frzs _ _ _ h⟩)
 ·exact .inr h
theorem _root_.L2.FzL.ext{K:PySem.W.Frag}{H H':Hp}{a:Addr}{xs:List V}(h:FzL K H a xs)(e:Ext H H'):FzL K H' a xs:=by
 rcases h with⟨o,h⟩ | h
 ·exact .inl ⟨o,e.frzs _ _ _ h⟩
 ·exact .inr h
section
variable(K:PySem.W.Frag)(ι:List Addr)(H:Hp)
mutual
noncomputable def IsD:D->V->Prop
 |.non,v=>v=.non
 |.bl b,v=>v=.bl b
 |.int i,v=>v=.int i
 |.str x,v=>v=.str x
 |.tup ds,v=>∃a xs,v=.ref a/\SqT K H a xs/\ah ds xs
 |.lst ds,v=>∃a xs,v=.ref a/\FzL K H a xs/\ah ds xs
 |.loc n,v=>∃a,v=.ref a/\ι[n]? = some a
noncomputable def ah:List D->List V->Prop
 | [],xs=>xs=[]
 |d::ds,xs=>∃v r,xs=v::r/\IsD d v/\ah ds r
end
end
section
variable{K:PySem.W.Frag}{ι ι' : List Addr}{H H' : Hp}
mutual
theorem IsD.mono(hp:ι <+: ι')(he:Ext H H'):∀(d:D) (v:V),IsD K ι H d v->IsD K ι' H' d v
 |.non,_,h=>by simpa[IsD]using h
 |.bl b,_,h=>by simpa[IsD]using h
 |.int i,_,h=>by simpa[IsD]using h
 |.str x,_,h=>by simpa[IsD]using h
 |.tup ds,v,h=>by
  simp![IsD]at h ⊢
  obtain⟨a,xs,e,q,r⟩:=h
  exact⟨a,xs,e,q.ext he,ah.mono hp he ds xs r⟩
 |.lst ds,v,h=>by
  simp![IsD]at h ⊢
  obtain⟨a,xs,e,q,r⟩:=h
  exact⟨a,xs,e,q.ext he,ah.mono hp he ds xs r⟩
 |.loc n,v,h=>by
  simp![IsD]at h ⊢
  obtain⟨a,e,q⟩:=h
  obtain⟨t,rfl⟩:=hp
  exact⟨a,e,by rw[AS (AK.mp q).1];exact q⟩
theorem ah.mono(hp:ι <+: ι')(he:Ext H H'):∀(ds:List D) (xs:List V),ah K ι H ds xs->ah K ι' H' ds xs
 | [],xs,h=>by simpa[ah]using h
 |d::ds,xs,h=>by
  simp![ah]at h ⊢
  obtain⟨v,r,e,q,t⟩:=h
  exact⟨v,r,e,IsD.mono hp he d v q,ah.mono hp he ds r t⟩
end
theorem ah.length:∀{ds:List D} {xs:List V},ah K ι H ds xs->xs.length=ds.length
 | [],xs,h=>by simp![ah]at h;subst h;rfl
 |d::ds,xs,h=>by
  simp![ah]at h
  obtain⟨v,r,rfl,_,t⟩:=h
  simp[ah.length t]
theorem ah.get:∀{ds:List D} {xs:List V} {i:Nat} {d:D},ah K ι H ds xs->ds[i]? = some d->∃v,xs[i]? = some v/\IsD K ι H d v
 | [],_,_,_,_,e=>by simp at e
 |d::ds,xs,0,_,h,e=>by
  simp![ah]at h
  obtain⟨v,r,rfl,q,_⟩:=h
  simp at e;subst e
  exact⟨v,rfl,q⟩
 |d::ds,xs,i+1,x,h,e=>by
  simp![ah]at h
  obtain⟨v,r,rfl,_,t⟩:=h
  obtain⟨w,h1,h2⟩:=ah.get (i:=i) (d:=x) t (by simpa using e)
  exact⟨w,by simpa using h1,h2⟩
theorem ah.append:∀{ds es:List D} {xs ys:List V},ah K ι H ds xs->ah K ι H es ys->ah K ι H (ds++es) (xs++ys)
 | [],_,_,_,h,g=>by simp![ah]at h;subst h;exact g
 |d::ds,es,xs,ys,h,g=>by
  simp![ah]at h
  obtain⟨v,r,rfl,q,t⟩:=h
  simp![EE,ah]
  exact⟨v,r++ys,rfl,q,ah.append t g⟩
theorem ah.one{d:D}{v:V}(h:IsD K ι H d v):ah K ι H [d] [v]:=by
 simp![ah];exact⟨v,[],rfl,h,rfl⟩
theorem ah.take:∀{ds:List D} {xs:List V} (n:Nat),ah K ι H ds xs->ah K ι H (ds.take n) (xs.take n)
 |_,_,0,_=>by simp[ah]
 | [],_,n+1,h=>by simp![ah]at h;subst h;simp[ah]
 |d::ds,xs,n+1,h=>by
  simp![ah]at h
  obtain⟨v,r,rfl,q,t⟩:=h
  simp![List.take_succ_cons,ah]
  exact⟨v,_,rfl,q,ah.take n t⟩
theorem ah.drop:∀{ds:List D} {xs:List V} (n:Nat),ah K ι H ds xs->ah K ι H (ds.drop n) (xs.drop n)
 |_,_,0,h=>by simpa using h
 | [],_,n+1,h=>by simp![ah]at h;subst h;simp[ah]
 |d::ds,xs,n+1,h=>by
  simp![ah]at h
  obtain⟨v,r,rfl,q,t⟩:=h
  simpa using ah.drop n t
theorem ah.set{d:D}{v:V}(hd:IsD K ι H d v):∀{ds:List D} {xs:List V} (n:Nat),ah K ι H ds xs->ah K ι H (ds.set n d) (xs.set n v)
 | [],_,n,h=>by simp![ah]at h;subst h;simp[ah]
 |e::ds,xs,0,h=>by
  simp![ah]at h
  obtain⟨w,r,rfl,q,t⟩:=h
  simp![List.set_cons_zero,ah]
  exact⟨v,r,rfl,hd,t⟩
 |e::ds,xs,n+1,h=>by
  simp![ah]at h
  obtain⟨w,r,rfl,q,t⟩:=h
  simp![List.set_cons_succ,ah]
  exact⟨w,_,rfl,q,ah.set hd n t⟩
theorem ah.eraseIdx:∀{ds:List D} {xs:List V} (n:Nat),ah K ι H ds xs->ah K ι H (ds.eraseIdx n) (xs.eraseIdx n)
 | [],_,n,h=>by simp![ah]at h;subst h;simp[ah]
 |e::ds,xs,0,h=>by
  simp![ah]at h
  obtain⟨w,r,rfl,q,t⟩:=h
  simpa using t
 |e::ds,xs,n+1,h=>by
  simp![ah]at h
  obtain⟨w,r,rfl,q,t⟩:=h
  simp![Go,ah]
  exact⟨w,_,rfl,q,ah.eraseIdx n t⟩
theorem ah.reverse:∀{ds:List D} {xs:List V},ah K ι H ds xs->ah K ι H ds.reverse xs.reverse
 | [],_,h=>by simp![ah]at h;subst h;simp[ah]
 |e::ds,xs,h=>by
  simp![ah]at h
  obtain⟨w,r,rfl,q,t⟩:=h
  simp![FL]
  exact(ah.reverse t).append (.one q)
theorem ah.dropLast{ds:List D}{xs:List V}(h:ah K ι H ds xs):ah K ι H ds.dropLast xs.dropLast:=by
 rw[GU,GU,h.length]
 exact h.take _
theorem ah.rep{ds:List D}{xs:List V}(h:ah K ι H ds xs):∀k:Nat,ah K ι H (List.replicate k ds).flatten (List.replicate k xs).flatten
 |0=>by simp[ah]
 |k+1=>by
  simp![CT,DJ]
  exact h.append (ah.rep h k)
theorem ah.ints:∀(ns:List Int),ah K ι H (ns.map D.int) (ns.map V.int)
 | []=>by simp[ah]
 |n::r=>by
  simp![BL,ah]
  exact⟨_,_,rfl,by simp[IsD],ah.ints r⟩
theorem IsD.puren:∀(k:Nat) (d:D) (v:V),D.pureN k d=true->IsD K ι H d v->IsD K ι' H d v:=by
 have list:∀(k:Nat),(∀(d:D) (v:V),D.pureN k d=true->IsD K ι H d v->IsD K ι' H d v) ->
   ∀(ds:List D) (xs:List V),ds.all (D.pureN k)=true->ah K ι H ds xs->ah K ι' H ds xs:=by
  intro k ih ds
  induction ds with
  |nil=>intro xs _ h;simpa[ah]using h
  |cons d ds ihd =>
   intro xs hp h
   simp![ah]at h ⊢
   simp![BI,AY]at hp
   obtain⟨v,r,e,q,t⟩:=h
   exact⟨v,r,e,ih d v hp.1 q,ihd r hp.2 t⟩
 intro k
 induction k with
 |zero =>
  intro d v hp h
  cases d<;>simp_all[D.pureN,IsD]
 |succ k ih =>
  intro d v hp h
  cases d with
  |tup ds =>
   simp![D.pureN]at hp
   simp![IsD]at h ⊢
   obtain⟨a,xs,e,q,r⟩:=h
   exact⟨a,xs,e,q,list k ih ds xs hp r⟩
  |lst ds =>
   simp![D.pureN]at hp
   simp![IsD]at h ⊢
   obtain⟨a,xs,e,q,r⟩:=h
   exact⟨a,xs,e,q,list k ih ds xs hp r⟩
  |loc n=>simp[D.pureN]at hp
  |_=>simpa[IsD]using h
theorem IsD.pur{d:D}{v:V}(hp:d.pure=true)(h:IsD K ι H d v):IsD K ι' H d v:=IsD.puren 8 d v hp h
theorem ah.pur{ds:List D}{xs:List V}(hp:ds.all (D.pureN 8)=true)(h:ah K ι H ds xs):ah K ι' H ds xs:=by
 induction ds generalizing xs with
 |nil=>simpa[ah]using h
 |cons d ds ih =>
  simp![ah]at h ⊢
  simp![BI,AY]at hp
  obtain⟨v,r,e,q,t⟩:=h
  exact⟨v,r,e,IsD.pur hp.1 q,ih hp.2 t⟩
end
section
variable(K:PySem.W.Frag)(ι:List Addr)(H:Hp)
noncomputable def Sd(kvs:List (D×D))(xs:List (List Key×V)):Prop :=
 Paired (fun(p:D×D) (q:List Key×V)=>(∃ds,p.1=.tup ds/\ah K [] H ds (q.1.map kV))/\IsD K [] H p.2 q.2) kvs xs
noncomputable def Bd(kvs:List (D×D))(xs:List (Key×V)):Prop :=
 Paired (fun(p:D×D) (q:Key×V)=>IsD K [] H p.1 (kV q.1)/\IsD K ι H p.2 q.2) kvs xs
noncomputable abbrev Pj(kvs:List (D×D))(xs:List (Key×V)):Prop:=Bd K [] H kvs xs
noncomputable def FsD(fs:List (Str×D))(xs:List (Str×V)):Prop:=Paired (fun(p:Str×D) (q:Str×V)=>p.1=q.1/\IsD K ι H p.2 q.2) fs xs
noncomputable def OIs(a:Addr):O->Prop
 |.l ds=>∃xs,H a=some (.lst xs)/\ah K [] H ds xs
 |.r ds=>∃xs,H a=some (.lst xs)/\ah K ι H ds xs
 |.d kvs=>∃xs,H a=some (.dK xs)/\Pj K H kvs xs
 |.dt kvs=>∃xs,H a=some (.dT xs)/\Sd K H kvs xs
 |.x c=>∃cls,PySem.W.nsIn K mainGlobals c=some (some cls)/\H a=some (Ru a cls)
 |.o c fs=>∃C dx xs,PySem.W.nsIn K mainGlobals c=some (some (.ref C))/\H a=some (.ins C dx xs)/\FsD K ι H fs xs
 |.dr kvs=>∃xs,H a=some (.dK xs)/\Bd K ι H kvs xs
 |.fd kvs=>∃o xs,H a=some (.frz o (.dK xs))/\Pj K H kvs xs
 |.dead=>∃u,H a=some u
structure Sim (μ:Sto):Prop where
 len:ι.length=μ.length
 nd:ι.Nodup
 obj:∀(n:Nat) a o,ι[n]? = some a->μ[n]? = some o->OIs K ι H a o
noncomputable def kg(σ:Sl)(σv:St):Prop:=∀(i:Nat) d,σ[i]? = some (some d)->∃v,σv[i]? = some (some v)/\IsD K ι H d v
end
section
variable{K:PySem.W.Frag}{ι ι' : List Addr}{H H' : Hp}{μ:Sto}{σ:Sl}{σv:St}
theorem kg.mono(h:kg K ι H σ σv)(hp:ι <+: ι')(he:Ext H H'):kg K ι' H' σ σv:=λi d e=>by
 obtain⟨v,q,r⟩:=h i d e
 exact⟨v,q,IsD.mono hp he d v r⟩
theorem kg.set(h:kg K ι H σ σv)(hl:σ.length=σv.length){i:Nat}{d:D}{v:V}(hd:IsD K ι H d v):kg K ι H (σ.set i (some d)) (σv.set i (some v)):=λj e q=>by
 by_cases hj:i=j
 ·subst hj
  by_cases hi:i<σ.length
  ·rw[CU hi]at q
   cases q
   exact⟨v,by rw[CU (by lia)],hd⟩
  ·rw[GV (by simp;lia)]at q;cases q
 ·rw[CI hj]at q
  obtain⟨w,q1,q2⟩:=h j e q
  exact⟨w,by rw[CI hj];exact q1,q2⟩
theorem OIs.ne(h:OIs K ι H a o):∃u,H a=some u:=by
 cases o with
 |l ds=>obtain⟨xs,e,_⟩:=h;exact⟨_,e⟩
 |r ds=>obtain⟨xs,e,_⟩:=h;exact⟨_,e⟩
 |d kvs=>obtain⟨xs,e,_⟩:=h;exact⟨_,e⟩
 |dt kvs=>obtain⟨xs,e,_⟩:=h;exact⟨_,e⟩
 |x c=>obtain⟨_,_,e⟩:=h;exact⟨_,e⟩
 |o c fs=>obtain⟨_,_,_,_,e,_⟩:=h;exact⟨_,e⟩
 |dr kvs=>obtain⟨xs,e,_⟩:=h;exact⟨_,e⟩
 |fd kvs=>obtain⟨_,xs,e,_⟩:=h;exact⟨_,e⟩
 |dead=>exact h
theorem OIs.mono{a:Addr}{o:O}(h:OIs K ι H a o)(hp:ι <+: ι')(he:Ext H H')(ha:H' a=H a):OIs K ι' H' a o:=by
 cases o with
 |l ds=>obtain⟨xs,e,q⟩:=h;exact⟨xs,ha.trans e,ah.mono (AG _) he ds xs q⟩
 |r ds=>obtain⟨xs,e,q⟩:=h;exact⟨xs,ha.trans e,ah.mono hp he ds xs q⟩
 |d kvs =>
  obtain⟨xs,e,q⟩:=h
  exact⟨xs,ha.trans e,Paired.mapP q λp r z=>⟨IsD.mono (AG _) he _ _ z.1,IsD.mono (AG _) he _ _ z.2⟩⟩
 |dt kvs =>
  obtain⟨xs,e,q⟩:=h
  exact⟨xs,ha.trans e,Paired.mapP q λp r z=>⟨let ⟨ds,e,t⟩:=z.1;⟨ds,e,ah.mono (AG _) he _ _ t⟩,IsD.mono (AG _) he _ _ z.2⟩⟩
 |x c=>obtain⟨k,q,e⟩:=h;exact⟨k,q,ha.trans e⟩
 |o c fs=>obtain⟨C,dx,xs,n,e,q⟩:=h;exact⟨C,dx,xs,n,ha.trans e,Paired.mapP q λp r z=>⟨z.1,IsD.mono hp he _ _ z.2⟩⟩
 |dr kvs =>
  obtain⟨xs,e,q⟩:=h
  exact⟨xs,ha.trans e,Paired.mapP q λp r z=>⟨IsD.mono (AG _) he _ _ z.1,IsD.mono hp he _ _ z.2⟩⟩
 |fd kvs =>
  obtain⟨o,xs,e,q⟩:=h
  exact⟨o,xs,ha.trans e,Paired.mapP q λp r z=>⟨IsD.mono (AG _) he _ _ z.1,IsD.mono (AG _) he _ _ z.2⟩⟩
 |dead=>obtain⟨u,e⟩:=h;exact⟨u,ha.trans e⟩
theorem Sim.at(h:Sim K ι H μ){n:Nat}{o:O}(e:μ[n]? = some o):∃a,ι[n]? = some a/\OIs K ι H a o:=by
 have hn:n<ι.length:=by rw[h.len];exact(AK.mp e).1
 exact⟨ι[n],AE hn,h.obj n _ o (AE hn) e⟩
theorem Sim.used(h:Sim K ι H μ){n:Nat}{a:Addr}(e:ι[n]? = some a):∃u,H a=some u:=by
 have hn:n<μ.length:=by rw[<-h.len];exact(AK.mp e).1
 exact(h.obj n a _ e (AE hn)).ne
theorem Sim.new(h:Sim K ι H μ){p:Addr}{o:HO}(hp:H p=none):Sim K ι (upd H p o) μ :=
 ⟨h.len,h.nd,λn a ob e1 e2=>by
  obtain⟨u,hu⟩:=h.used e1
  exact(h.obj n a ob e1 e2).mono (AG _) (.new hp) (av (bg hu hp))⟩
theorem Sim.push(h:Sim K ι H μ){p:Addr}{u:HO}{o:O}(hp:H p=none)(ho:OIs K (ι++[p]) (upd H p u) p o):Sim K (ι++[p]) (upd H p u) (μ++[o]):=by
 have hne:∀a∈ι,a≠p:=λa ha z=>by
  obtain⟨n,hn,e⟩:=List.mem_iff_getElem.mp ha
  obtain⟨u,hu⟩:=h.used (n:=n) (by rw[AE hn,e])
  rw[z,hp]at hu;cases hu
 refine⟨by simp[h.len],?_,λn a ob e1 e2=>?_⟩
 ·refine List.nodup_append.mpr ⟨h.nd,by simp,?_⟩
  intro a ha b hb
  have:b=p:=by simpa using hb
  subst this
  exact hne a ha
 ·by_cases hn:n<ι.length
  ·rw[AS hn]at e1
   rw[AS (by rw[<-h.len];exact hn)]at e2
   exact(h.obj n a ob e1 e2).mono ⟨[p],rfl⟩ (.new hp) (av (hne a (BZ e1)))
  ·have hm:n=ι.length:=by
    have:=(AK.mp e1).1
    simp at this;lia
   subst hm
   simp at e1
   rw[h.len]at e2
   simp at e2
   subst e1;subst e2
   exact ho
theorem Sim.put(h:Sim K ι H μ){n:Nat}{p:Addr}{u:HO}{o:O}(hn:ι[n]? = some p)(he:Ext H (upd H p u))(ho:OIs K ι (upd H p u) p o):Sim K ι (upd H p u) (μ.set n o):=by
 refine⟨by simp[h.len],h.nd,λk a ob e1 e2=>?_⟩
 by_cases hk:n=k
 ·subst hk
  rw[hn]at e1;cases e1
  have:n<μ.length:=by rw[<-h.len];exact(AK.mp hn).1
  rw[CU this]at e2;cases e2
  exact ho
 ·rw[CI hk]at e2
  refine(h.obj k a ob e1 e2).mono (AG _) he (av λz=>hk ?_)
  subst z
  obtain⟨h1,e1'⟩:=AK.mp e1
  obtain⟨h2,e2'⟩:=AK.mp hn
  exact(List.getElem_inj h.nd).mp (e2'.trans e1'.symm)
end
noncomputable def dw{α β:Type}(K:PySem.W.Frag)(R:List Addr->Hp->α->β->Prop)(ι:List Addr)(H:Hp)(r:Res α)(Q:β->Hp->Prop):Prop:=match r with
 |.ok d μ'=>∀ι' v H',ι <+: ι'->Ext H H'->Sim K ι' H' μ'->R ι' H' d v->Q v H'
 |.exc _ _ _=>False
 |.stuck=>False
noncomputable abbrev RD(K:PySem.W.Frag):List Addr->Hp->D->V->Prop:=λι H d v=>IsD K ι H d v
noncomputable abbrev RDs(K:PySem.W.Frag):List Addr->Hp->List D->List V->Prop:=λι H d v=>ah K ι H d v
noncomputable abbrev RB:List Addr->Hp->Bool->Bool->Prop:=λ_ _ d v=>d=v
noncomputable abbrev RO:List Addr->Hp->Option Int->Option Int->Prop:=λ_ _ d v=>d=v
section
variable{α β γ δ:Type}{K:PySem.W.Frag}{R:List Addr -> Hp -> α -> β -> Prop}{S:List Addr -> Hp -> γ -> δ -> Prop}{ι ι' : List Addr}{H H' : Hp}
theorem dw.mono{r:Res α}{Q:β->Hp->Prop}(h:dw K R ι H r Q)(hp:ι <+: ι')(he:Ext H H'):dw K R ι' H' r Q:=by
 cases r with
 |ok d μ=>exact λι2 v H2 p e s q=>h ι2 v H2 (hp.trans p) (he.trans e) s q
 |exc _ _ _=>exact h
 |stuck=>exact h
theorem dw.imp{r:Res α}{Q Q':β->Hp->Prop}(h:dw K R ι H r Q)(hq:∀v H',Q v H'->Q' v H'):dw K R ι H r Q':=by
 cases r with
 |ok d μ=>exact λι2 v H2 p e s q=>hq _ _ (h ι2 v H2 p e s q)
 |exc _ _ _=>exact h
 |stuck=>exact h
theorem dw.ok{d:α}{μ:Sto}{v:β}{Q:β->Hp->Prop}(h:dw K R ι H (.ok d μ) Q)(hs:Sim K ι H μ)(hr:R ι H d v):Q v H:=h ι v H (AG _) (.refl _) hs hr
theorem dw.bind{x:Res α}{f:α->Sto->Res γ}{Q:δ->Hp->Prop}(h:dw K S ι H (x.bind f) Q) :
  ∃d μ1,x=.ok d μ1/\dw K S ι H (f d μ1) Q:=by
 cases x with
 |ok d μ=>exact⟨d,μ,rfl,h⟩
 |exc _ _ _=>exact h.elim
 |stuck=>exact h.elim
end
noncomputable def tE(K:PySem.W.Frag)(φ:Phi)(x:Ex):TE:=λσv H Q=>∃ι σ μ,Sim K ι H μ/\kg K ι H σ σv/\dw K (RD K) ι H (evE φ x σ μ) Q
noncomputable def tEs(K:PySem.W.Frag)(φ:Phi)(x:Exs):TA:=λσv H Q=>∃ι σ μ,Sim K ι H μ/\kg K ι H σ σv/\dw K (RDs K) ι H (du φ x σ μ) Q
noncomputable def tEo(K:PySem.W.Frag)(φ:Phi)(x:ExO):TO:=λσv H Q=>∃ι σ μ,Sim K ι H μ/\kg K ι H σ σv/\dw K RO ι H (evO φ x σ μ) Q
noncomputable def tT(K:PySem.W.Frag)(φ:Phi)(x:Ex):TT:=λσv H Q=>∃ι σ μ,Sim K ι H μ/\kg K ι H σ σv/\dw K RB ι H ((evE φ x σ μ).bind λd μ=>Kt d μ) Q
theorem PE.imp{X:Cx}{e:Expr}{t t':TE}(h:PE X e t)(i:∀σ H Q,t' σ H Q->t σ H Q):PE X e t':=λpins s σ H Q I q=>h pins s σ H Q I (i σ H Q q)
theorem PA.imp{X:Cx}{e:List Expr}{t t':TA}(h:PA X e t)(i:∀σ H Q,t' σ H Q->t σ H Q):PA X e t':=λpos pins s σ H Q I q=>h pos pins s σ H Q I (i σ H Q q)
theorem PT.imp{X:Cx}{e:Expr}{t t':TT}(h:PT X e t)(i:∀σ H Q,t' σ H Q->t σ H Q):PT X e t':=λpins s σ H Q I q=>h pins s σ H Q I (i σ H Q q)
theorem PW.imp{X:Cx}{e:Expr}{t t':TT}(h:PW X e t)(i:∀σ H Q,t' σ H Q->t σ H Q):PW X e t':=λwh pins s σ H Q I q=>h wh pins s σ H Q I (i σ H Q q)
section
variable{X:Cx}{φ:Phi}{a b c:Expr}{xa xb xc:Ex}{pos:Pos}
theorem Mf{i:Nat}{x:Str}(hN:X.N[i]? = some x)(hv:Vis X.env.scope x)(hd:(x==("__debug__":Str))=false)(hcd:(x==("__classdict__":Str))=false):PE X (.Name x pos) (tE X.K φ (.var i)) :=
 PE.imp (yv hN hv hd hcd) λσv H Q ⟨ι,σ,μ,hS,hL,h⟩=>by
  simp![evE]at h
  split at h
  ·rename_i d e
   obtain⟨v,e1,e2⟩:=hL i d e
   exact⟨v,e1,h.ok hS e2⟩
  ·exact h.elim
theorem Mg{i:Int}{j:Nat}:PE X (.Constant (.int i) j pos) (tE X.K φ (.cst (.int i))) :=
 PE.imp G7 λσv H Q ⟨ι,σ,μ,hS,hL,h⟩=>by simp![evE]at h;exact h.ok hS (by simp[IsD])
theorem Se{i:Bool}{j:Nat}:PE X (.Constant (.bool i) j pos) (tE X.K φ (.cst (.bl i))) :=
 PE.imp La λσv H Q ⟨ι,σ,μ,hS,hL,h⟩=>by simp![evE]at h;exact h.ok hS (by simp[IsD])
theorem Mh{j:Nat}:PE X (.Constant .none j pos) (tE X.K φ (.cst .non)) :=
 PE.imp G8 λσv H Q ⟨ι,σ,μ,hS,hL,h⟩=>by simp![evE]at h;exact h.ok hS (by simp[IsD])
theorem Mi{i:Str}{j:Nat}:PE X (.Constant (.str i) j pos) (tE X.K φ (.cst (.str i))) :=
 PE.imp G9 λσv H Q ⟨ι,σ,μ,hS,hL,h⟩=>by simp![evE]at h;exact h.ok hS (by simp[IsD])
theorem two {σv:St} {H:Hp} {ι:List Addr} {σ:Sl} {μ:Sto} {f:D->D->Sto->Res D} {Q:VK} {R:V->V->Hp->Prop} (hS:Sim X.K ι H μ) (hL:kg X.K ι H σ σv)
  (h:dw X.K (RD X.K) ι H ((evE φ xa σ μ).bind λx μ=>(evE φ xb σ μ).bind λy μ=>f x y μ) Q)
  (k:∀ι' H' d e x y μ',Sim X.K ι' H' μ'->IsD X.K ι' H' d x->IsD X.K ι' H' e y->dw X.K (RD X.K) ι' H' (f d e μ') Q->R x y H') :
  tE X.K φ xa σv H λx H1=>tE X.K φ xb σv H1 λy H2=>R x y H2:=by
 obtain⟨d,μ1,e1,h⟩:=h.bind
 refine⟨ι,σ,μ,hS,hL,?_⟩
 rw[e1]
 intro ι1 x H1 p1 x1 s1 d1
 obtain⟨e,μ2,e2,h⟩:=h.bind
 refine⟨ι1,σ,μ1,s1,hL.mono p1 x1,?_⟩
 rw[e2]
 intro ι2 y H2 p2 x2 s2 d2
 exact k ι2 H2 d e x y μ2 s2 (IsD.mono p2 x2 d x d1) d2 (h.mono (p1.trans p2) (x1.trans x2))
noncomputable def rOp(K:PySem.W.Frag)(f:D->D->Sto->Res D):R2:=λx y H Q=>∃ι d e μ,Sim K ι H μ/\IsD K ι H d x/\IsD K ι H e y/\dw K (RD K) ι H (f d e μ) Q
theorem Mj{op:Operator}{m:Mk}(ho:OpR X (binaryOp op) (rOp X.K (opD op m)))(ha:PE X a (tE X.K φ xa))(hb:PE X b (tE X.K φ xb)):PE X (.BinOp a op b pos) (tE X.K φ (.bin op m xa xb)) :=
 PE.imp (Hk ho ha hb) λσv H Q ⟨ι,σ,μ,hS,hL,h⟩=>by
  simp![evE]at h
  exact two hS hL h λι' H' d e x y μ' s d1 d2 p=>⟨ι',d,e,μ',s,d1,d2,p⟩
theorem Sf(ho:IxR X (rOp X.K ixD))(ha:PE X a (tE X.K φ xa))(hb:PE X b (tE X.K φ xb))(hs:tv b):PE X (.Subscript a b pos) (tE X.K φ (.ix xa xb)) :=
 PE.imp (Lx ho ha hb hs) λσv H Q ⟨ι,σ,μ,hS,hL,h⟩=>by
  simp![evE]at h
  exact two hS hL h λι' H' d e x y μ' s d1 d2 p=>⟨ι',d,e,μ',s,d1,d2,p⟩
theorem Bv:PA X [] (tEs X.K φ .nil) :=
 PA.imp Dh λσv H Q ⟨ι,σ,μ,hS,hL,h⟩=>by simp![du]at h;exact h.ok hS (by simp[ah])
theorem rl{es:List Expr}{xs:Exs}(ha:PE X a (tE X.K φ xa))(hb:PA X es (tEs X.K φ xs))(hs:starEach (a::es) X.env=(false,eval a X.env)::starEach es X.env):PA X (a::es) (tEs X.K φ (.cons xa xs)) :=
 PA.imp (tq ha hb hs) λσv H Q ⟨ι,σ,μ,hS,hL,h⟩=>by
  simp![du]at h
  obtain⟨d,μ1,e1,h⟩:=h.bind
  refine⟨ι,σ,μ,hS,hL,?_⟩
  rw[e1]
  intro ι1 x H1 p1 x1 s1 d1
  obtain⟨e,μ2,e2,h⟩:=h.bind
  refine⟨ι1,σ,μ1,s1,hL.mono p1 x1,?_⟩
  rw[e2]
  intro ι2 y H2 p2 x2 s2 d2
  refine h ι2 (x::y) H2 (p1.trans p2) (x1.trans x2) s2 ?_
  show ah _ _ _ _ _
  simp![ah]
  exact⟨x,y,rfl,IsD.mono p2 x2 d x d1,d2⟩
theorem Ml{es:List Expr}{xs:Exs}{k:Nat}(h:PA X es (tEs X.K φ xs))(hl:∀σ μ ds μ',du φ xs σ μ=.ok ds μ'->ds.length<=sizeLine):PE X (.Tuple es k pos) (tE X.K φ (.tup xs)) :=
 PE.imp (Hq h) λσv H Q ⟨ι,σ,μ,hS,hL,h⟩=>by
  simp![evE]at h
  obtain⟨ds,μ1,e1,h⟩:=h.bind
  refine⟨ι,σ,μ,hS,hL,?_⟩
  rw[e1]
  intro ι1 vs H1 p1 x1 s1 d1
  have hd:ah X.K ι1 H1 ds vs:=d1
  refine⟨by rw[hd.length];exact hl σ μ ds μ1 e1,λp hp=>?_⟩
  refine h ι1 (.ref p) (upd H1 p (.tup vs)) p1 (x1.trans (.new hp)) (s1.new hp) ?_
  show IsD _ _ _ _ _
  simp![IsD]
  exact⟨p,vs,rfl,.of bj,ah.mono (AG _) (.new hp) ds vs d1⟩
theorem Mm{x:Ex}{σv:St}{H:Hp}{Q:Bool->Hp->Prop}(h:tT X.K φ x σv H Q):tE X.K φ x σv H λv H'=>∃k,v=.bl k/\Q k H':=by
 obtain⟨ι,σ,μ,hS,hL,h⟩:=h
 obtain⟨d,μ1,e1,h⟩:=h.bind
 refine⟨ι,σ,μ,hS,hL,?_⟩
 rw[e1]
 intro ι1 x H1 p1 x1 s1 d1
 cases d with
 |bl k=>exact⟨k,by simpa[IsD]using d1,h ι1 k H1 p1 x1 s1 rfl⟩
 |_=>exact h.elim
theorem E4{x:Ex}(ha:PE X a (tE X.K φ x))(he:∀whole,isTrue a X.env whole=(do let v <-whole;standAt a.pos;holding [v] (truthy v))):PT X a (tT X.K φ x) :=
 PT.imp (o1 ha he) λσv H Q h=>by
  have q:=Mm h
  obtain⟨ι,σ,μ,hS,hL,q⟩:=q
  exact⟨ι,σ,μ,hS,hL,q.imp λv H' ⟨k,e,z⟩=>⟨k,by subst e;exact rfl,z⟩⟩
theorem Iz(ha:PT X a (tT X.K φ xa)):PT X (.UnaryOp .Not a pos) (tT X.K φ (.not xa)) :=
 PT.imp (Hc ha) λσv H Q ⟨ι,σ,μ,hS,hL,h⟩=>by
  simp![evE]at h
  rw[Res.bind_assoc]at h
  obtain⟨d,μ1,e1,h⟩:=h.bind
  refine⟨ι,σ,μ,hS,hL,?_⟩
  rw[e1]
  cases d with
  |bl k=>exact λι1 x H1 p1 x1 s1 d1=>h ι1 (!x) H1 p1 x1 s1 (by cases d1;rfl)
  |_=>exact h.elim
theorem I0(ha:PE X a (tE X.K φ xa)):PE X (.UnaryOp .Not a pos) (tE X.K φ (.not xa)) :=
 PE.imp (He ha) λσv H Q ⟨ι,σ,μ,hS,hL,h⟩=>by
  simp![evE]at h
  obtain⟨d,μ1,e1,h⟩:=h.bind
  refine⟨ι,σ,μ,hS,hL,?_⟩
  rw[e1]
  intro ι1 x H1 p1 x1 s1 d1
  cases d with
  |bl k=>exact⟨k,by simpa[IsD]using d1,h ι1 (.bl !k) H1 p1 x1 s1 (by simp[IsD])⟩
  |_=>exact h.elim
theorem Ja{rest:List Expr}(ha:PE X a (tE X.K φ xa))(hb:PE X (.BoolOp .And (b::rest) pos) (tE X.K φ xb)):PE X (.BoolOp .And (a::b::rest) pos) (tE X.K φ (.and xa xb)) :=
 PE.imp (Hd ha hb) λσv H Q ⟨ι,σ,μ,hS,hL,h⟩=>by
  simp![evE]at h
  obtain⟨d,μ1,e1,h⟩:=h.bind
  refine⟨ι,σ,μ,hS,hL,?_⟩
  rw[e1]
  intro ι1 x H1 p1 x1 s1 d1
  cases d with
  |bl k =>
   refine⟨k,by simpa[IsD]using d1,?_⟩
   cases k with
   |true=>exact⟨ι1,σ,μ1,s1,hL.mono p1 x1,(show dw _ _ _ _ (evE φ xb σ μ1) _ from h).mono p1 x1⟩
   |false=>exact h ι1 (.bl false) H1 p1 x1 s1 (by simp[IsD])
  |_=>exact h.elim
theorem Mn{rest:List Expr}(ha:PE X a (tE X.K φ xa))(hb:PE X (.BoolOp .Or (b::rest) pos) (tE X.K φ xb)):PE X (.BoolOp .Or (a::b::rest) pos) (tE X.K φ (.or xa xb)) :=
 PE.imp (Le ha hb) λσv H Q ⟨ι,σ,μ,hS,hL,h⟩=>by
  simp![evE]at h
  obtain⟨d,μ1,e1,h⟩:=h.bind
  refine⟨ι,σ,μ,hS,hL,?_⟩
  rw[e1]
  intro ι1 x H1 p1 x1 s1 d1
  cases d with
  |bl k =>
   refine⟨k,by simpa[IsD]using d1,?_⟩
   cases k with
   |true=>exact h ι1 (.bl true) H1 p1 x1 s1 (by simp[IsD])
   |false=>exact⟨ι1,σ,μ1,s1,hL.mono p1 x1,(show dw _ _ _ _ (evE φ xb σ μ1) _ from h).mono p1 x1⟩
  |_=>exact h.elim
theorem Jb{rest:List Expr}(ha:PT X a (tT X.K φ xa))(hb:PW X (.BoolOp .And (b::rest) pos) (tT X.K φ xb)):PW X (.BoolOp .And (a::b::rest) pos) (tT X.K φ (.and xa xb)) :=
 PW.imp (Hb ha hb) λσv H Q ⟨ι,σ,μ,hS,hL,h⟩=>by
  simp![evE]at h
  rw[Res.bind_assoc]at h
  obtain⟨d,μ1,e1,h⟩:=h.bind
  refine⟨ι,σ,μ,hS,hL,?_⟩
  rw[e1]
  cases d with
  |bl k =>
   intro ι1 x H1 p1 x1 s1 d1
   cases d1
   cases k with
   |true=>exact⟨ι1,σ,μ1,s1,hL.mono p1 x1,(show dw _ _ _ _ ((evE φ xb σ μ1).bind _) _ from h).mono p1 x1⟩
   |false=>exact h ι1 false H1 p1 x1 s1 rfl
  |_=>exact h.elim
theorem Mo{rest:List Expr}(ha:PT X a (tT X.K φ xa))(hb:PW X (.BoolOp .Or (b::rest) pos) (tT X.K φ xb)):PW X (.BoolOp .Or (a::b::rest) pos) (tT X.K φ (.or xa xb)) :=
 PW.imp (Lb ha hb) λσv H Q ⟨ι,σ,μ,hS,hL,h⟩=>by
  simp![evE]at h
  rw[Res.bind_assoc]at h
  obtain⟨d,μ1,e1,h⟩:=h.bind
  refine⟨ι,σ,μ,hS,hL,?_⟩
  rw[e1]
  cases d with
  |bl k =>
   intro ι1 x H1 p1 x1 s1 d1
   cases d1
   cases k with
   |true=>exact h ι1 true H1 p1 x1 s1 rfl
   |false=>exact⟨ι1,σ,μ1,s1,hL.mono p1 x1,(show dw _ _ _ _ ((evE φ xb σ μ1).bind _) _ from h).mono p1 x1⟩
  |_=>exact h.elim
theorem Mp(hc:PT X c (tT X.K φ xc))(ha:PE X a (tE X.K φ xa))(hb:PE X b (tE X.K φ xb)):PE X (.IfExp c a b pos) (tE X.K φ (.ite xc xa xb)) :=
 PE.imp (Bh hc ha hb) λσv H Q ⟨ι,σ,μ,hS,hL,h⟩=>by
  simp![evE]at h
  obtain⟨d,μ1,e1,h⟩:=h.bind
  refine⟨ι,σ,μ,hS,hL,?_⟩
  rw[e1]
  cases d with
  |bl k =>
   intro ι1 x H1 p1 x1 s1 d1
   cases d1
   cases k with
   |true=>exact⟨ι1,σ,μ1,s1,hL.mono p1 x1,(show dw _ _ _ _ (evE φ xa σ μ1) _ from h).mono p1 x1⟩
   |false=>exact⟨ι1,σ,μ1,s1,hL.mono p1 x1,(show dw _ _ _ _ (evE φ xb σ μ1) _ from h).mono p1 x1⟩
  |_=>exact h.elim
end
noncomputable def iu(K:PySem.W.Frag)(ι:List Addr)(H:Hp)(r:Res Fl)(E:Ends):Prop:=match r with
 |.ok (.nx σ') μ'=>∀ι' σv H',ι <+: ι'->Ext H H'->Sim K ι' H' μ'->kg K ι' H' σ' σv->σ'.length=σv.length->E.nx σv H'
 |.ok (.bk σ') μ'=>∀ι' σv H',ι <+: ι'->Ext H H'->Sim K ι' H' μ'->kg K ι' H' σ' σv->σ'.length=σv.length->E.bk σv H'
 |.ok (.ct σ') μ'=>∀ι' σv H',ι <+: ι'->Ext H H'->Sim K ι' H' μ'->kg K ι' H' σ' σv->σ'.length=σv.length->E.ct σv H'
 |.ok (.rt d) μ'=>∀ι' v H',ι <+: ι'->Ext H H'->Sim K ι' H' μ'->IsD K ι' H' d v->E.rt v H'
 |.exc _ _ _=>False
 |.stuck=>False
theorem iu.mono{K:PySem.W.Frag}{ι ι':List Addr}{H H':Hp}{r:Res Fl}{E:Ends}(h:iu K ι H r E)(hp:ι <+: ι')(he:Ext H H'):iu K ι' H' r E:=by
 cases r with
 |ok f μ=>cases f<;>exact λι2 v H2 p e=>h ι2 v H2 (hp.trans p) (he.trans e)
 |exc _ _ _=>exact h
 |stuck=>exact h
theorem iu.bind{α:Type}{K:PySem.W.Frag}{ι:List Addr}{H:Hp}{E:Ends}{x:Res α}{f:α->Sto->Res Fl}(h:iu K ι H (x.bind f) E):∃d μ1,x=.ok d μ1/\iu K ι H (f d μ1) E:=by
 cases x with
 |ok d μ=>exact⟨d,μ,rfl,h⟩
 |exc _ _ _=>exact h.elim
 |stuck=>exact h.elim
noncomputable def tS(K:PySem.W.Frag)(φ:Phi)(x:Sm):TS:=λE σv H=>∃ι σ μ,Sim K ι H μ/\kg K ι H σ σv/\σ.length=σv.length/\iu K ι H (evS φ x σ μ) E
noncomputable def tSs(K:PySem.W.Frag)(φ:Phi)(x:Sms):TS:=λE σv H=>∃ι σ μ,Sim K ι H μ/\kg K ι H σ σv/\σ.length=σv.length/\iu K ι H (jq φ x σ μ) E
theorem PS.imp{X:Cx}{e:Stmt}{t t':TS}(h:PS X e t)(i:∀E σ H,t' E σ H->t E σ H):PS X e t':=λpins s σ H E I q=>h pins s σ H E I (i E σ H q)
theorem PSs.imp{X:Cx}{e:List Stmt}{t t':TS}(h:PSs X e t)(i:∀E σ H,t' E σ H->t E σ H):PSs X e t':=λpins s σ H E I q=>h pins s σ H E I (i E σ H q)
section
variable{X:Cx}{φ:Phi}{e:Expr}{x:Ex}{pos:Pos}{s:Stmt}{ss:List Stmt}{xs:Sm}{xss:Sms}
theorem Mq:PSs X [] (tSs X.K φ .nil) :=
 PSs.imp Ea λE σv H ⟨ι,σ,μ,hS,hL,hl,h⟩=>by
  simp![jq]at h
  exact h ι σv H (AG _) (.refl _) hS hL hl
theorem Jc(h1:PS X s (tS X.K φ xs))(h2:PSs X ss (tSs X.K φ xss)):PSs X (s::ss) (tSs X.K φ (.cons xs xss)) :=
 PSs.imp (Bi h1 h2) λE σv H ⟨ι,σ,μ,hS,hL,hl,h⟩=>by
  simp![jq]at h
  refine⟨ι,σ,μ,hS,hL,hl,?_⟩
  obtain⟨f,μ1,e1,h⟩:=h.bind
  rw[e1]
  cases f with
  |nx σ'=>exact λι1 σ1 H1 p1 x1 s1 l1 z1=>⟨ι1,σ',μ1,s1,l1,z1,(show iu _ _ _ (jq φ xss σ' μ1) _ from h).mono p1 x1⟩
  |rt d=>exact h
  |bk σ'=>exact h
  |ct σ'=>exact h
theorem Jd(he:PE X e (tE X.K φ x))(hs:swapsWith e none pos.line X.env=pure false):PS X (.Expr e pos) (tS X.K φ (.ex x)) :=
 PS.imp (Eb he hs) λE σv H ⟨ι,σ,μ,hS,hL,hl,h⟩=>by
  simp![evS]at h
  obtain⟨d,μ1,e1,h⟩:=h.bind
  refine⟨ι,σ,μ,hS,hL,?_⟩
  rw[e1]
  exact λι1 v H1 p1 x1 s1 d1=>h ι1 σv H1 p1 x1 s1 (hL.mono p1 x1) hl
theorem Mr(he:PE X e (tE X.K φ x)):PS X (.Return (some e) pos) (tS X.K φ (.ret x)) :=
 PS.imp (Hf he) λE σv H ⟨ι,σ,μ,hS,hL,hl,h⟩=>by
  simp![evS]at h
  obtain⟨d,μ1,e1,h⟩:=h.bind
  refine⟨ι,σ,μ,hS,hL,?_⟩
  rw[e1]
  exact h
theorem E5:PS X s (tS X.K φ .never) :=
 PS.imp Bj λE σv H ⟨ι,σ,μ,hS,hL,hl,h⟩=>by
  simp![evS]at h
  exact h.elim
theorem Sg{c:Expr}{xc:Ex}{a b:List Stmt}{xa xb:Sms}(hc:PT X c (tT X.K φ xc))(ha:PSs X a (tSs X.K φ xa))(hb:PSs X b (tSs X.K φ xb)):PS X (.If c a b pos) (tS X.K φ (.ite xc xa xb)) :=
 PS.imp (Lh hc ha hb) λE σv H ⟨ι,σ,μ,hS,hL,hl,h⟩=>by
  simp![evS]at h
  obtain⟨d,μ1,e1,h⟩:=h.bind
  refine⟨ι,σ,μ,hS,hL,?_⟩
  rw[e1]
  cases d with
  |bl k =>
   intro ι1 x H1 p1 x1 s1 d1
   cases d1
   cases k with
   |true=>exact⟨ι1,σ,μ1,s1,hL.mono p1 x1,hl,(show iu _ _ _ (jq φ xa σ μ1) _ from h).mono p1 x1⟩
   |false=>exact⟨ι1,σ,μ1,s1,hL.mono p1 x1,hl,(show iu _ _ _ (jq φ xb σ μ1) _ from h).mono p1 x1⟩
  |_=>exact h.elim
noncomputable def slots:Tg->List Nat
 |.one i=>[i]
 |.many is=>is
noncomputable def tG(K:PySem.W.Frag)(tg:Tg):TG:=λv σv H Q=>∃ι σ d σ',kg K ι H σ σv/\σ.length=σv.length/\IsD K ι H d v/\dq tg d σ=some σ' /\
 ∀σv',kg K ι H σ' σv'->σ'.length=σv'.length->σv'.length=σv.length->(∀j,j∉slots tg->σv'[j]? = σv[j]?)->Q σv' H
theorem PG.imp{e:Expr}{t t':TG}(h:PG X e t)(i:∀v σ H Q,t' v σ H Q->t v σ H Q):PG X e t':=by
 intro pins s σ H x u Q I r q
 exact h pins s σ H x u Q I r (i _ _ _ _ q)
theorem Je{i:Nat}{y:Str}(hN:X.N.Nodup)(hi:X.N[i]? = some y)(hx:Loc X.env.scope y)(hf:X.fn y=true\/X.env.scope.names.lookup y=some .local):PG X (.Name y pos) (tG X.K (.one i)) :=
 PG.imp (yx hN hi hx hf) λv σv H Q ⟨ι,σ,d,σ',hL,hl,hd,hb,q⟩=>by
  simp![dq,BB]at hb
  subst hb
  exact q _ (hL.set hl hd) (by simp[hl]) (by simp) λj hj=>CI (λz=>hj (by simp[slots,z]))
noncomputable def tGs(K:PySem.W.Frag)(is:List Nat):TGs:=λvs σv H Q=>∃ι σ ds,kg K ι H σ σv/\σ.length=σv.length/\ah K ι H ds vs/\ds.length=is.length /\
 ∀σv',kg K ι H ((is.zip ds).foldl (λs p=>s.set p.1 (some p.2)) σ) σv'->((is.zip ds).foldl (λs p=>s.set p.1 (some p.2)) σ).length=σv'.length->σv'.length=σv.length->(∀j,j∉is->σv'[j]? = σv[j]?)->Q σv' H
theorem PGs.imp{es:List Expr}{t t':TGs}(h:PGs X es t)(i:∀v σ H Q,t' v σ H Q->t v σ H Q):PGs X es t':=by
 intro pins s σ H vs us Q I r q
 exact h pins s σ H vs us Q I r (i _ _ _ _ q)
theorem Jf:PGs X [] (tGs X.K []) :=
 PGs.imp Ed λvs σv H Q ⟨ι,σ,ds,hL,hl,hd,hn,q⟩=>by
  have e:ds=[]:=List.length_eq_zero_iff.mp hn
  subst e
  exact⟨by simpa[ah]using hd,q σv (by simpa using hL) (by simpa using hl) rfl λ_ _=>rfl⟩
theorem E6{i:Nat}{is:List Nat}{es:List Expr}(h1:PG X e (Ec i))(h2:PGs X es (tGs X.K is))(hs:(assignEach (e::es) X.env).map (·.2)=assign e X.env::(assignEach es X.env).map (·.2)):PGs X (e::es) (tGs X.K (i::is)) :=
 PGs.imp (Bk h1 h2 hs) λvs σv H Q ⟨ι,σ,ds,hL,hl,hd,hn,q⟩=>by
  cases ds with
  |nil=>simp at hn
  |cons d ds =>
   simp![ah]at hd
   obtain⟨v,r,e,hd1,hd2⟩:=hd
   refine⟨v,r,e,ι,σ.set i (some d),ds,hL.set hl hd1,by simp[hl],hd2,by simpa using hn,λσv' l z z2 ks=>q σv' (by simpa using l) (by simpa using z) (by simpa using z2) λj hj=>?_⟩
   have hj':j≠i/\j∉is:=by simpa using hj
   rw[ks j hj'.2,CI (Ne.symm hj'.1)]
theorem Ms{is:List Nat}{es:List Expr}{k:Nat}(hc:X.calm=true)(h:PGs X es (tGs X.K is))(hn:(assignEach es X.env).length=is.length)(hst:(assignEach es X.env).findIdx? (·.1)=none) :
  PG X (.Tuple es k pos) (tG X.K (.many is)) :=
 PG.imp (Hg hc h hn hst) λv σv H Q ⟨ι,σ,d,σ',hL,hl,hd,hb,q⟩=>by
  cases d with
  |tup ds =>
   simp![dq]at hb
   split at hb
   ·rename_i hlen
    cases hb
    simp![IsD]at hd
    obtain⟨a,xs,e,hq,hds⟩:=hd
    exact⟨a,xs,e,hq,hds.length.trans hlen,ι,σ,ds,hL,hl,hds,hlen,q⟩
   ·cases hb
  |_=>simp[dq]at hb
theorem Mu{i:Nat}{y:Str}{pos':Pos}(hN:X.N.Nodup)(hi:X.N[i]? = some y)(hx:Loc X.env.scope y)(hf:X.fn y=true\/X.env.scope.names.lookup y=some .local)(he:PE X e (tE X.K φ x))(hs:swapsWith e (some (.Name y pos')) pos.line X.env=pure false) :
  PS X (.Assign [.Name y pos'] e pos) (tS X.K φ (.set i x)) :=
 PS.imp (Hi hN hi hx he hs hf) λE σv H ⟨ι,σ,μ,hS,hL,hl,h⟩=>by
  simp![evS]at h
  obtain⟨d,μ1,e1,h⟩:=h.bind
  refine⟨ι,σ,μ,hS,hL,?_⟩
  rw[e1]
  exact λι1 v H1 p1 x1 s1 d1=>h ι1 _ H1 p1 x1 s1 ((hL.mono p1 x1).set hl d1) (by simp[hl])
theorem Mv {is:List Nat} {tg:Expr} (hg:PG X tg (tG X.K (.many is))) (he:PE X e (tE X.K φ x)) (hs:swapsWithSole [tg] e pos.line X.env=pure false) (hw:swappedStores [tg] e X.env=pure none)
  (h1:(assignEach [tg] X.env).map (·.2)=[assign tg X.env]):PS X (.Assign [tg] e pos) (tS X.K φ (.unp is x)) :=
 PS.imp (Hh he hg hs hw h1) λE σv H ⟨ι,σ,μ,hS,hL,hl,h⟩=>by
  simp![evS]at h
  obtain⟨d,μ1,e1,h⟩:=h.bind
  refine⟨ι,σ,μ,hS,hL,?_⟩
  rw[e1]
  intro ι1 v H1 p1 x1 s1 d1
  split at h
  ·rename_i σ' eb
   exact⟨ι1,σ,d,σ',hL.mono p1 x1,hl,d1,eb,λσv' l z _ _=>h ι1 σv' H1 p1 x1 s1 l z⟩
  ·exact h.elim
structure Walk (K:PySem.W.Frag) (ι0:List Addr) (H0:Hp) (J:L2.It) (ds:List D) (g:Gd):Prop where
 len:ds.length<=sizeLine
 go:∀(i:Nat) ι H μ,ι0 <+: ι->Ext H0 H->Sim K ι H μ->gd g μ->i<ds.length->J.go i H
 yld:∀(i:Nat) ι H μ x H',ι0 <+: ι->Ext H0 H->Sim K ι H μ->gd g μ->i<ds.length->J.yld i H x H'->Ext H H'/\Sim K ι H' μ/\∃d,ds[i]? = some d/\IsD K ι H' d x
 stop:∀ι H μ,ι0 <+: ι->Ext H0 H->Sim K ι H μ->gd g μ->J.stop ds.length H
noncomputable def tI(K:PySem.W.Frag)(φ:Phi)(it:It):TI:=λσv H R=>∃ι σ μ,Sim K ι H μ/\kg K ι H σ σv /\
 match evI φ it σ μ with
 |.ok (ds,g) μ'=>∀ι' H' J,ι <+: ι'->Ext H H'->Sim K ι' H' μ'->Walk K ι' H' J ds g->R J H'
 |_=>False
theorem PI.imp{tg it:Expr}{t t':TI}(h:PI X tg it t)(i:∀σ H R,t' σ H R->t σ H R):PI X tg it t':=λpins s σ H R I q=>h pins s σ H R I (i _ _ _ q)
theorem Mw {tg it:Expr} {body:List Stmt} {xt:Tg} {xi:It} {xb:Sms} (hp:PassesOwn (model X.prog X.w) X.A X.env X.xe) (hc:X.calm=true) (hi:PI X tg it (tI X.K φ xi)) (hg:PG X tg (tG X.K xt)) (hb:PSs X body (tSs X.K φ xb))
  (hs:∀x,foldedSetIterable it X.env x=pure x):PS X (.For tg it body [] pos) (tS X.K φ (.loop xt xi xb)) :=
 PS.imp (Hj hp hc hi hg hb hs) λE σv H ⟨ι,σ,μ,hS,hL,hl,h⟩=>by
  simp![evS]at h
  obtain⟨⟨ds,g⟩,μ1,e1,h⟩:=h.bind
  refine⟨ι,σ,μ,hS,hL,?_⟩
  rw[e1]
  intro ι1 H1 J p1 x1 s1 wk
  refine⟨λi m σv' H'=>m=ds.length-i/\i<=ds.length/\∃ι' σ' μ',ι1 <+: ι'/\Ext H1 H'/\Sim X.K ι' H' μ'/\kg X.K ι' H' σ' σv'/\σ'.length=σv'.length /\
   iu X.K ι' H' (j3 g (λd σ μ=>iw (dq xt d σ) λσ'=>jq φ xb σ' μ) (ds.drop i) σ' μ') E,⟨ds.length,by simp,HA _,ι1,σ,μ1,AG _,.refl _,s1,hL.mono p1 x1,hl,?_⟩,?_⟩
  ·simpa using(show iu _ _ _ (j3 g _ ds σ μ1) _ from h).mono p1 x1
  ·rintro i m σv' H' ⟨rfl,hi,ι',σ',μ',p',x',s',l',z',h'⟩
   by_cases hlt:i<ds.length
   ·obtain⟨d,ed⟩:∃d,ds[i]? = some d:=⟨ds[i],AE hlt⟩
    have edrop:ds.drop i=d::ds.drop (i+1):=by
     rw[FH hlt]
     rw[AE hlt]at ed
     cases ed;rfl
    rw[edrop]at h'
    simp![j3]at h'
    split at h'
    ·rename_i hgd
     right
     refine⟨wk.go i ι' H' μ' p' x' s' hgd hlt,?_⟩
     obtain⟨fl,μ2,e2,h2⟩:=h'.bind
     refine⟨λσ2 H2=>ds.length-(i+1)<ds.length-i/\∃ι2 σs,ι1 <+: ι2/\Ext H1 H2/\Sim X.K ι2 H2 μ2/\kg X.K ι2 H2 σs σ2/\σs.length=σ2.length /\
      iu X.K ι2 H2 (j3 g (λd σ μ=>iw (dq xt d σ) λσ'=>jq φ xb σ' μ) (ds.drop (i+1)) σs μ2) E,?_,?_⟩
     ·rintro σ2 H2 ⟨_,ι2,σs,q1,q2,q3,q4,q5,q6⟩
      exact⟨ds.length-(i+1),by lia,rfl,hlt,ι2,σs,μ2,q1,q2,q3,q4,q5,q6⟩
     ·intro v H2 hy
      obtain⟨x2,s2,d',ed',hd'⟩:=wk.yld i ι' H' μ' v H2 p' x' s' hgd hlt hy
      rw[ed]at ed';cases ed'
      cases eb:dq xt d σ' with
      |none=>rw[eb]at e2;cases e2
      |some σb =>
       rw[eb]at e2
       refine⟨ι',σ',d,σb,l'.mono (AG _) x2,z',hd',eb,λσv2 l2 z2 _ _=>⟨ι',σb,μ',s2,l2,z2,?_⟩⟩
       have e2':jq φ xb σb μ'=.ok fl μ2:=e2
       rw[e2']
       cases fl with
       |nx σ3=>exact λι3 σv3 H3 p3 x3 s3 l3 z3=>⟨by lia,ι3,σ3,p'.trans p3,(x'.trans x2).trans x3,s3,l3,z3,(show iu _ _ _ (j3 g _ (ds.drop (i+1)) σ3 μ2) _ from h2).mono p3 (x2.trans x3)⟩
       |ct σ3=>exact λι3 σv3 H3 p3 x3 s3 l3 z3=>⟨by lia,ι3,σ3,p'.trans p3,(x'.trans x2).trans x3,s3,l3,z3,(show iu _ _ _ (j3 g _ (ds.drop (i+1)) σ3 μ2) _ from h2).mono p3 (x2.trans x3)⟩
       |bk σ3=>exact(show iu _ _ _ (.ok (.nx σ3) μ2) _ from h2).mono (AG _) x2
       |rt w=>exact(show iu _ _ _ (.ok (.rt w) μ2) _ from h2).mono (AG _) x2
    ·exact h'.elim
   ·have ei:i=ds.length:=by lia
    subst ei
    simp![List.drop_length,j3]at h'
    split at h'
    ·rename_i hgd
     exact .inl ⟨wk.stop ι' H' μ' p' x' s' hgd,h' ι' σv' H' (AG _) (.refl _) s' l' z'⟩
    ·exact h'.elim
end
theorem g9:lim=sizeLine:=by rw[Dm];rfl
section
variable{X:Cx}{pins:List (Addr × Obj)}{σ:St}{H:Hp}{s:Shared}{φ:Phi}
theorem _root_.L2.Inv.freeze{p:Addr}{xs:List V}(I:Inv X pins σ H s)(h:H p=some (.lst xs)):∃o,Inv X pins σ (upd H p (.frz o (.lst xs))) s:=by
 have hp:=I.hok p _ h
 obtain⟨hz,its,n,hv,hget⟩:=id hp
 refine⟨{cls:=.type "list",data:=.seq its.toArray n},I.ok,I.os,I.bare,⟨I.base.keep,I.base.slot,λb o e hn hx=>?_,I.base.there,λb ys e=>?_,λb o u e=>?_,λb ps e=>?_⟩,I.loc,I.cell,?_,λx c e=>?_,λq hq=>?_,λb u e=>?_,I.len⟩
 ·have q:=I.base.free b o e hn hx
  rw[av (λz=>by subst z;rw[h]at q;cases q)]
  exact q
 ·have q:=I.base.tups b ys e
  rw[av (tm q h (by intro z;cases z))];exact q
 ·have q:=I.base.frzs b o u e
  rw[av (tm q h (by intro z;cases z))];exact q
 ·obtain⟨more,q⟩:=I.base.tbls b ps e
  exact⟨more,by rw[av (tm q h (by intro z;cases z))];exact q⟩
 ·rw[av (λz=>by rw[<-z,I.free]at h;cases h)];exact I.free
 ·rw[av (λz=>by rw[<-z,I.freeC x c e]at h;cases h)];exact I.freeC x c e
 ·obtain⟨e1,e2,e3⟩:=I.pin q hq
  refine⟨e1,?_,e3⟩
  rw[av (λz=>by rw[<-z,e2]at h;cases h)];exact e2
 ·by_cases hb:b=p
  ·subst hb
   rw[bj]at e;cases e
   exact⟨hget,hz,its,n,hv,hget⟩
  ·rw[av hb]at e
   refine(I.hok b u e).stay (λc v _ q=>q) (λc q=>?_) (λc ys q=>?_)
   ·rw[av (tm q h (by intro z;cases z))];exact q
   ·rw[av (tm q h (by intro z;cases z))];exact q
noncomputable def FQ(Q:VK):VK:=λv H=>Q v H\/∃p xs,v=.ref p/\H p=some (.lst xs)/\∀o,Q v (upd H p (.frz o (.lst xs)))
theorem E7{Q:VK}{u:Value}(h:EP X pins σ (FQ Q) u s):EP X pins σ Q u s:=by
 obtain⟨v,H',I,r,q⟩:=h
 rcases q with q | ⟨p,xs,rfl,e,q⟩
 ·exact⟨v,H',I,r,q⟩
 ·obtain⟨o,I'⟩:=L2.Inv.freeze I e
  exact⟨_,_,I',r,q o⟩
theorem ve{A:Around}{E:Value->Shared->Prop}{M:Model}{t:Sem Value}{Q:VK}(h:wpAny M A t (EP X pins σ (FQ Q)) E s):wpAny M A t (EP X pins σ Q) E s:=thn h λ_ _ z=>E7 z
theorem PE.fq{e:Expr}{t:TE}(h:PE X e t):PE X e (λσ H Q=>t σ H (FQ Q)):=λpins s σ H Q I q=>thn (h pins s σ H _ I q) λ_ _ z=>E7 z
theorem SlR.fq{r:V->Option Int->Option Int->Hp->VK->Prop}(h:SlR X r):SlR X (λx l u H Q=>r x l u H (FQ Q)):=by
 intro pins s σ H x v vl vu lo hi sl Q I rx h1 h2 h3 q
 obtain⟨T,id,e1,e2,e3⟩:=h pins s σ H x v vl vu lo hi sl _ I rx h1 h2 h3 q
 exact⟨T,id,e1,e2,thn e3 λ_ _ z=>E7 z⟩
theorem jr{K:PySem.W.Frag}{ι:List Addr}{μ:Sto}{ds:List D}{xs:List V}{m:Mk}{Q:VK}{p:Addr}(hS:Sim K ι H μ)(hd:ah K ι H ds xs)(h:dw K (RD K) ι H (mkL m ds μ) Q)(hp:H p=none) :
  FQ Q (.ref p) (upd H p (.lst xs)):=by
 cases m with
 |z =>
  refine .inr ⟨p,xs,rfl,bj,λo=>?_⟩
  rw[D4]
  refine h ι (.ref p) _ (AG _) (.new hp) (hS.new hp) ?_
  show IsD _ _ _ _ _
  simp![IsD]
  exact⟨p,xs,rfl,.inl ⟨o,bj⟩,ah.mono (AG _) (.new hp) ds xs hd⟩
 |l =>
  simp![mkL]at h
  split at h
  ·rename_i hpure
   refine .inl (h (ι++[p]) (.ref p) _ ⟨[p],rfl⟩ (.new hp) (hS.push hp ⟨xs,bj,ah.pur hpure (ah.mono (AG _) (.new hp) ds xs hd)⟩) ?_)
   show IsD _ _ _ _ _
   simp![IsD]
   exact⟨p,rfl,by rw[<-hS.len];simp⟩
  ·exact h.elim
 |r =>
  simp![mkL]at h
  refine .inl (h (ι++[p]) (.ref p) _ ⟨[p],rfl⟩ (.new hp) (hS.push hp ⟨xs,bj,ah.mono ⟨[p],rfl⟩ (.new hp) ds xs hd⟩) ?_)
  show IsD _ _ _ _ _
  simp![IsD]
  exact⟨p,rfl,by rw[<-hS.len];simp⟩
theorem Mx{es:List Expr}{xs:Exs}{m:Mk}{pos:Pos}(h:PA X es (tEs X.K φ xs))(hl:∀σ μ ds μ',du φ xs σ μ=.ok ds μ'->ds.length<=sizeLine):PE X (.List es pos) (tE X.K φ (.lst m xs)) :=
 PE.imp (PE.fq (Hr h)) λσv H Q ⟨ι,σ,μ,hS,hL,h⟩=>by
  simp![evE]at h
  obtain⟨ds,μ1,e1,h⟩:=h.bind
  refine⟨ι,σ,μ,hS,hL,?_⟩
  rw[e1]
  intro ι1 vs H1 p1 x1 s1 d1
  have hd:ah X.K ι1 H1 ds vs:=d1
  exact⟨by rw[hd.length];exact hl σ μ ds μ1 e1,λp hp=>jr s1 hd (h.mono p1 x1) hp⟩
theorem oq{K:PySem.W.Frag}{ι:List Addr}{μ:Sto}{d:D}{v:V}{ds:List D}(hS:Sim K ι H μ)(hd:IsD K ι H d v)(h:cw μ d=some ds) :
  ∃a xs,v=.ref a/\(LsL K H a xs\/SqT K H a xs)/\ah K ι H ds xs:=by
 cases d with
 |tup es =>
  cases h
  simp![IsD]at hd
  obtain⟨a,xs,e,q,r⟩:=hd
  exact⟨a,xs,e,.inr q,r⟩
 |lst es =>
  cases h
  simp![IsD]at hd
  obtain⟨a,xs,e,q,r⟩:=hd
  exact⟨a,xs,e,.inl (.inr q),r⟩
 |loc n =>
  simp![IsD]at hd
  obtain⟨a,e,q⟩:=hd
  simp![cw]at h
  split at h
  ·rename_i es em
   cases h
   obtain⟨a',q',ho⟩:=hS.at em
   rw[q]at q';cases q'
   obtain⟨xs,e1,e2⟩:=ho
   exact⟨a,xs,e,.inl (.inl e1),ah.mono (CG) (.refl _) _ _ e2⟩
  ·rename_i es em
   cases h
   obtain⟨a',q',ho⟩:=hS.at em
   rw[q]at q';cases q'
   obtain⟨xs,e1,e2⟩:=ho
   exact⟨a,xs,e,.inl (.inl e1),e2⟩
  ·cases h
 |_=>simp[cw]at h
theorem gj{K:PySem.W.Frag}{ι:List Addr}{μ:Sto}{d:D}{v:V}{ds:List D}(hS:Sim K ι H μ)(hd:IsD K ι H d v)(h:listOf μ d=some ds) :
  ∃a xs,v=.ref a/\LsL K H a xs/\ah K ι H ds xs:=by
 cases d with
 |lst es =>
  cases h
  simp![IsD]at hd
  obtain⟨a,xs,e,q,r⟩:=hd
  exact⟨a,xs,e,.inr q,r⟩
 |loc n =>
  simp![IsD]at hd
  obtain⟨a,e,q⟩:=hd
  simp![listOf]at h
  split at h
  ·rename_i es em
   cases h
   obtain⟨a',q',ho⟩:=hS.at em
   rw[q]at q';cases q'
   obtain⟨xs,e1,e2⟩:=ho
   exact⟨a,xs,e,.inl e1,ah.mono (CG) (.refl _) _ _ e2⟩
  ·rename_i es em
   cases h
   obtain⟨a',q',ho⟩:=hS.at em
   rw[q]at q';cases q'
   obtain⟨xs,e1,e2⟩:=ho
   exact⟨a,xs,e,.inl e1,e2⟩
  ·cases h
 |_=>simp[listOf]at h
theorem My{i:Nat}{x:Str}{pos:Pos}(hN:X.N[i]? = some x)(hv:Vis X.env.scope x)(hd:(x==("__debug__":Str))=false)(hcd:(x==("__classdict__":Str))=false):PE X (.Name x pos) (tE X.K φ (.frz i)) :=
 PE.imp (PE.fq (yv hN hv hd hcd)) λσv H Q ⟨ι,σ,μ,hS,hL,h⟩=>by
  simp![evE]at h
  split at h
  ·rename_i n e
   obtain⟨v,e1,e2⟩:=hL i _ e
   refine⟨v,e1,?_⟩
   simp![IsD]at e2
   obtain⟨a,rfl,ha⟩:=e2
   split at h
   ·rename_i ds em
    obtain⟨a',q',ho⟩:=hS.at em
    rw[ha]at q';cases q'
    obtain⟨xs,f1,f2⟩:=ho
    refine .inr ⟨a,xs,rfl,f1,λo=>?_⟩
    refine h ι (.ref a) _ (AG _) (.lst f1) (hS.put ha (.lst f1) ⟨_,bj⟩) ?_
    show IsD _ _ _ _ _
    simp![IsD]
    exact⟨a,xs,rfl,.inl ⟨o,bj⟩,ah.mono (CG) (.lst f1) ds xs f2⟩
   ·rename_i ds em
    obtain⟨a',q',ho⟩:=hS.at em
    rw[ha]at q';cases q'
    obtain⟨xs,f1,f2⟩:=ho
    refine .inr ⟨a,xs,rfl,f1,λo=>?_⟩
    refine h ι (.ref a) _ (AG _) (.lst f1) (hS.put ha (.lst f1) ⟨_,bj⟩) ?_
    show IsD _ _ _ _ _
    simp![IsD]
    exact⟨a,xs,rfl,.inl ⟨o,bj⟩,ah.mono (AG _) (.lst f1) ds xs f2⟩
   ·exact h.elim
  ·exact h.elim
theorem OpR.imp{f:Value->Value->Sem Value}{r r':R2}(h:OpR X f r)(i:∀x y H Q,r' x y H Q->r x y H Q):OpR X f r':=λpins s σ H x y v u Q I rx ry q=>h pins s σ H x y v u Q I rx ry (i _ _ _ _ q)
theorem IxR.imp{r r':R2}(h:IxR X r)(i:∀x y H Q,r' x y H Q->r x y H Q):IxR X r':=λe1 e2 pins s σ H x y v u Q I rx ry q=>h e1 e2 pins s σ H x y v u Q I rx ry (i _ _ _ _ q)
theorem d7.imp{f:Value}{r r':List V->Hp->VK->Prop}(h:d7 X f r)(i:∀xs H Q,r' xs H Q->r xs H Q):d7 X f r':=λpins s σ H xs us Q I rx q=>h pins s σ H xs us Q I rx (i _ _ _ q)
theorem MtR.imp{id:String}{r r':V->List V->Hp->VK->Prop}(h:MtR X id r)(i:∀x xs H Q,r' x xs H Q->r x xs H Q):MtR X id r':=λpins s σ H x xs v us Q I rx rr q=>h pins s σ H x xs v us Q I rx rr (i _ _ _ _ q)
theorem Jg{K:PySem.W.Frag}{ι:List Addr}{ds:List D}{xs:List V}{i:Int}{j:Nat}{d:D}(h:ah K ι H ds xs)(hi:Lp.ixN ds.length i=some j)(hj:ds[j]? = some d):∃v,atI xs i=some v/\IsD K ι H d v:=by
 obtain⟨v,e,q⟩:=h.get hj
 refine⟨v,?_,q⟩
 unfold atI
 rw[h.length,show L2.ixN ds.length i=some j from hi]
 exact e
theorem Mz:IxR X (rOp X.K ixD):=IxR.imp Hy λx y H Q ⟨ι,d,e,μ,hS,hd,he,h⟩=>by
 unfold ixD at h
 split at h
 ·rename_i i
  have hy:y=.int i:=by simpa[IsD]using he
  subst hy
  split at h
  ·rename_i ds es
   obtain⟨a,xs,rfl,hq,hds⟩:=oq hS hd es
   split at h
   ·rename_i j ej
    split at h
    ·rename_i d' ed
     obtain⟨v,ev,hv⟩:=Jg hds ej ed
     have qv:=h.ok hS hv
     rcases hq with hq | hq
     ·exact .inl ⟨a,xs,i,v,rfl,rfl,hq.sq,ev,qv⟩
     ·exact .inr (.inl ⟨a,xs,i,v,rfl,rfl,hq,ev,qv⟩)
    ·exact h.elim
   ·exact h.elim
  ·exact h.elim
 ·exact h.elim
theorem Dq{K:PySem.W.Frag}{ι:List Addr}{ds:List D}{xs:List V}(h:ah K ι H ds xs)(lo hi:Option Int):ah K ι H (cut ds lo hi) (Di xs lo hi):=by
 have e1:∀n d o,Lp.sIx n d o=HT.sIx n d o:=λn d o=>by cases o<;>rfl
 unfold cut Di
 rw[h.length,e1,e1]
 exact(h.drop _).take _
end
noncomputable def vf(env:Env):List (Str×NameKind)->List (Str×Addr)->List (Str×Addr)
 | [],acc=>acc
 |(n,k)::r,acc=>vf env r (if k==.free then(n,(env.cells.lookup n).getD 0)::acc else acc)
noncomputable def lp(env:Env)(x:Str×NameKind)(cs:List (Str×Addr)):Sem (ForInStep (List (Str×Addr))):=match x with
 |(name,kind)=>if kind==.free then(do let a <-cellOf env name;pure (ForInStep.yield ((name,a)::cs)))else pure (ForInStep.yield cs)
theorem kn{env:Env}:∀(names:List (Str×NameKind)) (acc:List (Str×Addr)),(∀n,(n,NameKind.free)∈names->∃c,env.cells.lookup n=some c) ->
  forIn names acc (lp env)=pure (vf env names acc)
 | [],acc,_=>rfl
 |(n,k)::r,acc,h=>by
  rw[DU]
  by_cases hk:k=.free
  ·subst hk
   obtain⟨c,hc⟩:=h n AR
   have e:lp env (n,.free) acc=pure (ForInStep.yield ((n,c)::acc)):=by
    simp![lp,cellOf,hc,beq_self_eq_true,if_true]
    rfl
   rw[e]
   refine Eq.trans (b:=forIn r ((n,c)::acc) (lp env)) rfl ?_
   rw[kn r ((n,c)::acc) λm hm=>h m (AO _ hm)]
   simp[vf,hc]
  ·have hb:(k==NameKind.free)=false:=by simpa using hk
   have e:lp env (n,k) acc=pure (ForInStep.yield acc):=by
    unfold lp
    simp![hb,CH,if_false]
   rw[e]
   refine Eq.trans (b:=forIn r acc (lp env)) rfl ?_
   rw[kn r acc λm hm=>h m (AO _ hm)]
   simp[vf,hb]
theorem ot{env:Env}{scope:Scope}(h:∀n,(n,NameKind.free)∈scope.names->∃c,env.cells.lookup n=some c):closureFor scope env=pure (vf env scope.names []):=by
 have e:=kn (env:=env) scope.names [] h
 have e2:closureFor scope env=(forIn scope.names [] (lp env)>>=λcs=>pure cs):=rfl
 rw[e2,e]
 rfl
theorem vg{env:Env}:∀(names:List (Str×NameKind)) (acc:List (Str×Addr)) (x:Str) (c:Addr),(∀n,(n,NameKind.free)∈names->∃c,env.cells.lookup n=some c)->(vf env names acc).lookup x=some c->acc.lookup x=some c\/env.cells.lookup x=some c
 | [],acc,x,c,_,h=>.inl h
 |(n,k)::r,acc,x,c,hh,h=>by
  rcases vg r _ x c (λm hm=>hh m (AO _ hm)) h with q | q
  ·by_cases hk:k=.free
   ·subst hk
    obtain⟨c',hc⟩:=hh n AR
    simp![beq_self_eq_true,if_true,Db]at q
    by_cases hx:x=n
    ·subst hx
     simp![beq_self_eq_true,hc,Option.getD_some,BB]at q
     subst q
     exact .inr hc
    ·have hb:(x==n)=false:=beq_eq_false_iff_ne.mpr hx
     rw[hb]at q
     exact .inl q
   ·have hb:(k==NameKind.free)=false:=by simpa using hk
    simp![hb,CH,if_false]at q
    exact .inl q
  ·exact .inr q
theorem rm{env:Env}:∀(names:List (Str×NameKind)) (acc:List (Str×Addr)) (x:Str),(∃c,acc.lookup x=some c)->∃c,(vf env names acc).lookup x=some c
 | [],acc,x,h=>h
 |(n,k)::r,acc,x,h=>by
  refine rm r _ x ?_
  by_cases hk:(k==NameKind.free)=true
  ·rw[if_pos hk,Db]
   cases hx:x==n with
   |true=>exact⟨_,rfl⟩
   |false=>exact h
  ·rw[if_neg hk];exact h
theorem vh{env:Env}:∀(names:List (Str×NameKind)) (acc:List (Str×Addr)) (x:Str),(x,NameKind.free)∈names->∃c,(vf env names acc).lookup x=some c
 | [],acc,x,h=>by cases h
 |(n,k)::r,acc,x,h=>by
  rcases AJ.mp h with e | e
  ·cases e
   refine rm r _ n ?_
   exact⟨(env.cells.lookup n).getD 0,by simp⟩
  ·exact vh r _ x e
noncomputable abbrev zk(env:Env)(scope:Scope)(C:Addr):List (Str×Addr):=cellsFrom (C+1) scope.names []++vf env scope.names []
theorem dg:∀(names:List (Str×NameKind)) (n:Nat) (acc:List (Str×Addr)),cellsFrom n names acc=cellsFrom n names []++acc
 | [],_,_=>rfl
 |(a,k)::r,n,acc=>by
  unfold cellsFrom
  split
  ·rw[dg r (n+1) ((a,n)::acc),dg r (n+1) [(a,n)],Ev];rfl
  ·exact dg r n acc
theorem gk:∀(names:List (Str×NameKind)) (n:Nat) (x:Str) (c:Addr),(x,c)∈cellsFrom n names []->(x,NameKind.cell)∈names
 | [],_,_,_,h=>nomatch h
 |(a,k)::r,n,x,c,h=>by
  unfold cellsFrom at h
  split at h
  ·rename_i hk
   rw[dg]at h
   rcases CC.mp h with h | h
   ·exact AO _ (gk r _ x c h)
   ·cases EZ.mp h
    have:k=.cell:=by simpa using hk
    subst this
    exact AR
  ·exact AO _ (gk r _ x c h)
theorem t8{env:Env}{scope:Scope}{C:Addr}{x:Str}{c:Addr}(hc:∀n,(n,NameKind.free)∈scope.names->∃c,env.cells.lookup n=some c)(e:(zk env scope C).lookup x=some c) :
  (x,c)∈cellsFrom (C+1) scope.names []\/env.cells.lookup x=some c:=by
 rcases CC.mp (CB e)with h | h
 ·exact .inl h
 ·cases q:(cellsFrom (C+1) scope.names []).lookup x with
  |some d =>
   have e2:(cellsFrom (C+1) scope.names []++vf env scope.names []).lookup x=some c:=e
   rw[DV,q]at e2
   cases e2
   exact .inl (CB q)
  |none =>
   have e2:(cellsFrom (C+1) scope.names []++vf env scope.names []).lookup x=some c:=e
   rw[DV,q]at e2
   rcases vg scope.names [] x c hc (by simpa using e2)with z | z
   ·cases z
   ·exact .inr z
theorem zl {M:Model} {A:Around} {E:Value->Shared->Prop} {s:Shared} {scope:Scope} {cl:List (Str×Addr)} {globals builtins:Addr} {qual:Str} {func:Option Addr} {code:Value} {env:Env} {Q:Env->Shared->Prop}
  (hQ:∀h',h'.Ns s.heap.objs.size (λ_=>none)->(∀b o,s.heap.get? b=some o->h'.get? b=some o)->CellsOk h' (s.heap.objs.size+1) (cellsFrom (s.heap.objs.size+1) scope.names []) ->
   Q (newEnv scope s.heap.objs.size globals (cellsFrom (s.heap.objs.size+1) scope.names []++cl) qual func code (some env) builtins) {s with heap:=h'}) :
  wpAny M A (newFunctionEnv scope globals cl [] qual func code (some env) builtins) Q E s:=by
 simp![newFunctionEnv,Option.isSome_some,if_true]
 refine AB (wpAny_alloc ?_)
 refine AB (wpAny_layCells _ (λname kind cells=>by cases hkc:kind==NameKind.cell<;>simp[hkc]) _ _ _ _ ?_)
 have ok:=cellsFrom_ok scope.names (s.heap.push {cls:=.type "dict",data:=.dict #[]}) (s.heap.objs.size+1) [] ⟨λ_ _ hm=>(nomatch hm),List.Pairwise.nil⟩ (by rw[CA];exact AM _)
 rw[CA]at ok
 rw[show({s with heap:=s.heap.push {cls:=.type "dict",data:=.dict #[]}}:Shared).heap.objs.size=s.heap.objs.size+1 from CA ..]
 rw[HB,dg]
 exact AB (AI (AI (hQ _ ((Heap.Ns.new s.heap (.type "dict")).keeps (pushCells_keeps _ _)) (λb o e=>pushCells_keeps _ _ b o (AC _ e)) ok)))
noncomputable def jt(X:Cx)(scope:Scope)(Nb:List Str)(C:Addr)(s:Shared)(H:Hp)(fp:List Addr):Cx :=
 {X with N:=Nb,s₀:=s,H₀:=H,env:=compEnvC scope (zk X.env scope C) C X.env,outer:=X.stack,stack:=X.stack,ex:=fp,fn:=λx=>scope.names.lookup x==some .cell,pn:=[],xe:=λ_ _=>False}
structure CompScope (sc scope:Scope) (N Nb:List Str) (cap:List Nat) (nl:Nat):Prop where
 kind:scope.kind=.function
 uniq:∀y∈scope.names,scope.names.lookup y.1=some y.2
 free:∀n,(n,NameKind.free)∈scope.names->sc.names.lookup n=some .cell\/sc.names.lookup n=some .free
 fnames:∀n,(relabel scope {scope:=sc,locals:=0,globals:=0,cells:=[]}).names.lookup n=some .cell\/(relabel scope {scope:=sc,locals:=0,globals:=0,cells:=[]}).names.lookup n=some .free->(n,NameKind.free)∈scope.names\/(n,NameKind.cell)∈scope.names
 nd:Nb.Nodup
 len:Nb.length=cap.length+nl
 capt:∀(j:Nat) i,cap[j]? = some i->∃x,Nb[j]? = some x/\N[i]? = some x/\(x,NameKind.free)∈scope.names
theorem xj(scope:Scope)(env env':Env)(h:env.scope=env'.scope):relabel scope env=relabel scope env':=by
 unfold relabel Env.kindOf
 rw[h]
section
variable{X:Cx}{pins:List (Addr × Obj)}{σ:St}{H:Hp}{s:Shared}{scope:Scope}{Nb:List Str}{cap:List Nat}{nl:Nat}
noncomputable def gu(cap:List Nat)(nl:Nat)(σ:St):St:=cap.map (λi=>(σ[i]?).getD none)++List.replicate nl none
theorem zm {fp:List Addr} {h':Heap} {tk:Nat} {C:Addr} {m:Str->Option Value} {D:Addr} {n0:Nat} (I:Inv X pins σ H s) (S:CompScope X.env.scope scope X.N Nb cap nl)
  (hf:∀b∈fp,wb X pins H b) (hfp:∀b∈fp,∃o,s.heap.get? b=some o) (hk:∀b o,s.heap.get? b=some o->h'.get? b=some o) (hC:s.heap.objs.size<=C) (hD:s.heap.objs.size<=D) (hDC:D≠C)
  (hns:h'.Ns C m) (hDo:h'.get? D=some {cls:=.type "list",data:=.seq #[] n0}) (ok:CellsOk h' (C+1) (cellsFrom (C+1) scope.names [])) :
  Inv (jt X scope Nb C s H fp) [(D,{cls:=.type "list",data:=.seq #[] n0})] (gu cap nl σ) H {s with heap:=h',toks:=tk}:=by
 have hcells:∀n,(n,NameKind.free)∈scope.names->∃c,X.env.cells.lookup n=some c:=λn hn=>by
  rcases S.free n hn with e | e
  ·exact I.ok.has n (.inl e)
  ·exact I.ok.has n (.inr e)
 have sub:∀x c,(zk X.env scope C).lookup x=some c->(x,c)∈cellsFrom (C+1) scope.names []\/X.env.cells.lookup x=some c:=λx c e=>t8 hcells e
 have up:∀x c,(x,c)∈cellsFrom (C+1) scope.names []->s.heap.objs.size<=c:=λx c e=>BV hC (Nat.le_of_succ_le (ok.empty x c e).2)
 have hasB:∀x,(x,NameKind.free)∈scope.names\/(x,NameKind.cell)∈scope.names->∃c,(zk X.env scope C).lookup x=some c:=λx hx=>by
  show ∃c,(cellsFrom (C+1) scope.names []++vf X.env scope.names []).lookup x=some c
  rw[DV]
  cases q:(cellsFrom (C+1) scope.names []).lookup x with
  |some d=>exact⟨d,rfl⟩
  |none =>
   rcases hx with hx | hx
   ·obtain⟨c,e⟩:=vh (env:=X.env) scope.names [] x hx
    exact⟨c,by rw[e];rfl⟩
   ·obtain⟨c,e⟩:=l0 (n:=C+1) (S.uniq _ hx)
    rw[q]at e;cases e
 have hlt:∀b∈fp,b<s.heap.objs.size:=λb hb=>let ⟨o,e⟩:=hfp b hb;AH e
 have hrel:relabel scope X.env=relabel scope {scope:=X.env.scope,locals:=0,globals:=0,cells:=[]}:=xj _ _ _ rfl
 have hcm:∀x c,X.env.cells.lookup x=some c->c<s.heap.objs.size:=λx c e=>let ⟨v,q⟩:=I.cell x c e;q.lt
 refine⟨⟨I.ok.mod,by show(relabel scope X.env).kind=_;unfold relabel;exact S.kind,I.ok.glob,I.ok.blt,hC,λx y c e1 e2=>?_,λx hx=>?_,λx c hfn e=>?_,I.ok.hd,I.ok.frames,.inl rfl,
  λb hb=>⟨AX (AN (hlt b hb) hC),λx c e=>(sub x c e).elim (λq=>CD (AN (hlt b hb) (up x c q))) λq=>(hf b hb).2.2.2.2.1 x c q⟩,I.bs,BV I.ok.bsz I.sz,λb o e hb=>?_,λb hb hb2=>?_,I.stack,I.stkFree⟩,
  rfl,I.bare,Un.kept hk,⟨m,hns,λi x v e1 e2 e3=>?_⟩,λx c e=>?_,I.hok.fresh hC,λx c e=>(sub x c e).elim (λq=>I.hok.fresh (up x c q)) λq=>I.freeC x c q,λp hp=>?_,I.hok.kept hk,?_⟩
 ·rcases sub x c e1 with q1 | q1<;>rcases sub y c e2 with q2 | q2
  ·exact name_of_addr ok.apart q1 q2
  ·exact absurd (hcm y c q2) (Nat.not_lt.mpr (up x c q1))
  ·exact absurd (hcm x c q1) (Nat.not_lt.mpr (up y c q2))
  ·exact I.ok.inj x y c q1 q2
 ·have hx':(relabel scope {scope:=X.env.scope,locals:=0,globals:=0,cells:=[]}).names.lookup x=some .cell\/(relabel scope {scope:=X.env.scope,locals:=0,globals:=0,cells:=[]}).names.lookup x=some .free:=by
   rw[<-hrel];exact hx
  exact hasB x (S.fnames x hx')
 ·obtain⟨d,q⟩:=l0 (n:=C+1) (show scope.names.lookup x=some .cell from beq_iff_eq.mp hfn)
  have e2:(cellsFrom (C+1) scope.names []++vf X.env scope.names []).lookup x=some c:=e
  rw[DV,q]at e2
  cases e2
  exact up x _ (CB q)
 ·rcases(hf b hb).2.2.2.1 with z | z
  ·exact I.ok.noex b o e z
  ·have:=AH e
   exact absurd (AN this (BV I.ok.bsz z)) (CL _)
 ·rcases AJ.mp (I.stkSub b hb2)with z | z
  ·exact(hf b hb).2.1 z
  ·exact(hf b hb).2.2.1 z
 ·-- a captured name
  have hi:i<cap.length:=by
   by_cases hi:i<cap.length
   ·exact hi
   ·unfold gu at e2
    rw[BY (by simpa using hi),CP]at e2
    split at e2<;>cases e2
  unfold gu at e2
  rw[AS (by simpa using hi),BX,AE hi]at e2
  simp![GP,BB]at e2
  obtain⟨y,q1,q2,q3⟩:=S.capt i _ (AE hi)
  have ey:y=x:=BP (q1.symm.trans e1)
  subst ey
  have e4:σ[cap[i]]? = some (some v):=by
   cases e5:σ[cap[i]]? with
   |none=>rw[e5]at e2;cases e2
   |some w=>rw[e5]at e2;simp at e2;rw[e2]
  obtain⟨m0,hn0,hl0⟩:=I.loc
  have hkind:X.env.kindOf y=some .cell\/X.env.kindOf y=some .free:=S.free y q3
  obtain⟨u,r,l⟩:=hl0 _ y v q2 e4 (by rcases hkind with z | z;exact .inr (.inl z);exact .inr (.inr z))
  refine⟨u,r,.inr ?_⟩
  rcases l with⟨z,_⟩ | ⟨_,c,ec,hc⟩
  ·rcases hkind with w | w<;>(rw[w]at z;cases z)
  ·obtain⟨c',ec'⟩:=hasB y (.inl q3)
   have:c'=c:=by
    rcases sub y c' ec' with z | z
    ·have:=S.uniq _ (gk _ _ _ _ z)
     rw[S.uniq (y,NameKind.free) q3]at this;cases this
    ·rw[ec]at z;cases z;rfl
   subst this
   obtain⟨o,ho,hd⟩:=hc
   refine⟨?_,c',ec',o,hk _ _ ho,hd⟩
   -- a free name is seen as a cell or as free
   have hv:(jt X scope Nb C s H fp).env.kindOf y=some .local\/(jt X scope Nb C s H fp).env.kindOf y=some .cell\/(jt X scope Nb C s H fp).env.kindOf y=some .free:=e3
   rcases hv with z | z | z
   ·exfalso
    have hl:(relabel scope X.env).names.lookup y=some .local:=z
    have mem:∀(l:List (Str×NameKind)) (y:Str),(l.map fun(n,k)=>if(k==NameKind.free&&X.env.scope.kind==.function&&X.env.kindOf n==some .cell)then(n,NameKind.cell)else(n,k)).lookup y=some .local->l.lookup y=some .local:=by
     intro l
     induction l with
     |nil=>intro y h;simp at h
     |cons a r ih =>
      obtain⟨n,k⟩:=a
      intro y h
      simp![BL]at h
      rw[Db]
      by_cases hc:(k==NameKind.free&&X.env.scope.kind==.function&&X.env.kindOf n==some .cell)=true
      ·rw[if_pos hc,Db]at h
       cases hy:y==n with
       |true=>rw[hy]at h;cases h
       |false=>rw[hy]at h;exact ih y h
      ·rw[if_neg hc,Db]at h
       cases hy:y==n with
       |true=>rw[hy]at h;exact h
       |false=>rw[hy]at h;exact ih y h
    have hloc:=mem scope.names y hl
    rw[S.uniq (y,NameKind.free) q3]at hloc
    cases hloc
   ·exact .inl z
   ·exact .inr z
 ·rcases sub x c e with q | q
  ·exact⟨_,(ok.empty x c q).1⟩
  ·obtain⟨v,o,ho,hd⟩:=I.cell x c q
   exact⟨v,o,hk _ _ ho,hd⟩
 ·have e:p=(D,{cls:=.type "list",data:=.seq #[] n0}):=by
   have:p∈([]:List (Addr×Obj))++[(D,{cls:=.type "list",data:=.seq #[] n0})]:=hp
   simpa using this
  subst e
  refine⟨hDo,I.hok.fresh hD,hDC,λz=>?_,λv z=>by cases z⟩
  have z':D∈frs X.stack:=z
  rcases AJ.mp (I.stkSub D z')with w | w
  ·exact absurd (AN I.lt hD) (by rw[w];exact CL _)
  ·exact I.nofs hD w
 ·show(gu cap nl σ).length=Nb.length
  rw[S.len];simp[gu]
end
noncomputable abbrev t9(ifs:List Expr)(env:Env)(b:Bool):Sem Bool:=forIn ifs b λc r=>if r=true then do let ok <-isTrue c env (eval c env);pure (ForInStep.yield ok)else pure (ForInStep.yield r)
noncomputable def PTs(X:Cx)(ifs:List Expr)(t:TT):Prop :=
 ∀(pins:List (Addr×Obj)) (s:Shared) (σ:St) (H:Hp) (Q:Bool->Hp->Prop),Inv X pins σ H s->t σ H Q->wpAny (model X.prog X.w) X.A (t9 ifs X.env true) (TP X pins σ Q) X.xe s
theorem mf{M:Model}{A:Around}{E:Value->Shared->Prop}{env:Env}{Q:Bool->Shared->Prop}:∀(ifs:List Expr) {s:Shared},Q false s->wpAny M A (t9 ifs env false) Q E s
 | [],s,h=>AI h
 |c::r,s,h=>by
  show wpAny M A (forIn (c::r) false _) Q E s
  rw[DU]
  exact AB (AI (mf r h))
noncomputable def tTsNil:TT:=λ_ H Q=>Q true H
noncomputable def E8(t u:TT):TT:=λσ H Q=>t σ H λb H1=>if b=true then u σ H1 Q else Q false H1
theorem E9{X:Cx}:PTs X [] tTsNil:=λpins s σ H Q I h=>AI ⟨H,I,h⟩
theorem Bw{X:Cx}{c:Expr}{r:List Expr}{t u:TT}(h1:PT X c t)(h2:PTs X r u):PTs X (c::r) (E8 t u):=λpins s σ H Q I h=>by
 show wpAny _ _ (forIn (c::r) true _) _ _ s
 rw[DU]
 refine AB (AB (thn (h1 pins s σ H _ I h) λb s1 ⟨H1,I1,q1⟩=>AI ?_))
 cases b with
 |true=>exact h2 pins s1 σ H1 Q I1 q1
 |false=>exact mf r ⟨H1,I1,q1⟩
noncomputable def Kept(σ σ':St):Prop:=σ.length=σ'.length/\∀(i:Nat) v,σ[i]? = some (some v)->σ'[i]? = some (some v)
noncomputable def Fb(wi:TI)(g:TG)(ts:TT)(te:TE)(σb:St->St):TE:=λσ H Q=>wi σ H λJ H1=>∃W:Nat->Nat->Hp->List V->Prop,(∃m,W 0 m H1 [])/\∀i m H acc,W i m H acc ->
 (J.stop i H/\acc.length<=sizeLine/\∀p,H p=none->Q (.ref p) (upd H p (.lst acc))) \/
 (J.go i H/\acc.length<sizeLine/\∀x H',J.yld i H x H'->g x (σb σ) H' λσ2 H2=>Kept (σb σ) σ2/\ts σ2 H2 λb H3=>if b=true then te σ2 H3 λv H4=>∃m',m'<m/\W (i+1) m' H4 (acc++[v])else ∃m',m'<m/\W (i+1) m' H3 acc)
section
variable{X:Cx}{scope:Scope}{Nb:List Str}{cap:List Nat}{nl:Nat}
theorem _root_.L2.HOk.track{P:Program}{w:World}{H:Hp}{h:Heap}{p:Addr}{o:HO}(x:HOk P w H h)(hp:H p=none)(new:ip P w (upd H p o) h p o):HOk P w (upd H p o) h:=λb u e=>by
 by_cases hb:b=p
 ·subst hb;rw[bj]at e;cases e;exact new
 ·rw[av hb]at e
  exact(x b u e).stay (λc v _ q=>q) (λc q=>by rw[av (bg q hp)];exact q) λc xs q=>by rw[av (bg q hp)];exact q
theorem zo {prog:Program} {w:World} {A:Around} {R:Result->Shared->Prop} {s:Shared} {elt target iter:Expr} {ifs:List Expr} {pos:Pos} {it acc:Value} {env:Env} (I:Nat->Shared->Prop)
  (turn:∀n s,I n s->wpAny (model prog w) A (pyNext it) (λr s₁=>match r with
   |none=>R (.ok .next) s₁
   |some v=>wpAny (model prog w) A (letOwnedTupleGo target it v) (λ_ s₀=>wpAny (model prog w) A (assign target env v) (λ_ s₂ =>
     wpAny (model prog w) A (t9 ifs env true) (λok s₃ =>
      if ok=true then wpAny (model prog w) A (eval elt env) (λx s₄ =>
       wpAny (model prog w) A (call (.builtin "list.append") [acc,x]) (λ_ s₅=>∃m,m<n/\I m s₅) (λ_ _=>False) s₄) (λ_ _=>False) s₃
      else ∃m,m<n/\I m s₃) (λ_ _=>False) s₂) (λ_ _=>False) s₀) (λ_ _=>False) s₁) (λ_ _=>False) s)
  (n:Nat) (h:I n s) :
  codeAny (model prog w) A (.compLoop (.ListComp elt [⟨target,iter,ifs,0⟩] scope pos) 0 it acc env) R s:=by
 refine codeAny_loop rfl I (λn s hI=>?_) n h
 show wpAny _ A ((compTurn (.ListComp elt [⟨target,iter,ifs,0⟩] scope pos) 0 it acc env).onRaise (λx=>do noteFrame x env;theTreesLotGoes x)) _ _ s
 refine wpAny_noted ?_
 rw[compTurn_list]
 have no:∀{α:Type} {t:Sem α} {Q:α->Shared->Prop} {E:Value->Shared->Prop} {s:Shared},wpAny (model prog w) A t Q (λ_ _=>False) s->wpAny (model prog w) A t Q E s:=λh=>Do h (λ_ _ q=>q) λ_ _ q=>q.elim
 refine AB (wpAny_standAt (AB (Do (turn n s hI) (λr s₁ h₁=>?_) λ_ _ h'=>h'.elim)))
 cases r with
 |none=>exact AI h₁
 |some v =>
  refine AB (Do h₁ (λ_ s₀ h₀=>?_) λ_ _ h'=>h'.elim)
  refine AB (Do h₀ (λ_ s₂ h₂=>AB (Do h₂ (λok s₃ h₃=>?_) λ_ _ h'=>h'.elim)) λ_ _ h'=>h'.elim)
  cases ok with
  |false=>exact AI ⟨rfl,h₃⟩
  |true =>
   exact AB (AB (Do h₃ (λx s₄ h₄=>AB (Do h₄ (λ_ s₅ h₅=>AI (AI ⟨rfl,h₅⟩)) λ_ _ h'=>h'.elim)) λ_ _ h'=>h'.elim))
noncomputable def ua(X:Cx)(scope:Scope)(Nb:List Str)(target:Expr)(ifs:List Expr)(elt:Expr)(g:TG)(ts:TT)(te:TE):Prop :=
 ∀C s H fp,PG (jt X scope Nb C s H fp) target g/\PTs (jt X scope Nb C s H fp) ifs ts/\PE (jt X scope Nb C s H fp) elt te
theorem ou {elt target iter:Expr} {ifs:List Expr} {pos:Pos} {g:TG} {ts:TT} {te:TE} {pins:List (Addr×Obj)} {σ:St} {H:Hp} {s:Shared} {it:Addr} {fp:List Addr} {tn:Nat->Heap->Prop} {J:L2.It} {Q:VK} {E:Value->Shared->Prop} {use:Option (Value->Sem Unit)} {QQ:Value->Shared->Prop}
  (S:CompScope X.env.scope scope X.N Nb cap nl) (hc:X.calm=true) (B:ua X scope Nb target ifs elt g ts te) (I:Inv X pins σ H s) (T:Turn X.prog X.w X.K target J fp it tn) (t0:tn 0 s.heap) (hf:∀b∈fp,wb X pins H b)
  (h:∃W:Nat->Nat->Hp->List V->Prop,(∃m,W 0 m H [])/\∀i m H acc,W i m H acc ->
   (J.stop i H/\acc.length<=sizeLine/\∀p,H p=none->Q (.ref p) (upd H p (.lst acc))) \/
   (J.go i H/\acc.length<sizeLine/\∀x H',J.yld i H x H'->g x (gu cap nl σ) H' λσ2 H2=>Kept (gu cap nl σ) σ2/\ts σ2 H2 λb H3=>if b=true then te σ2 H3 λv H4=>∃m',m'<m/\W (i+1) m' H4 (acc++[v])else ∃m',m'<m/\W (i+1) m' H3 acc))
  (hQ:∀(D C:Addr) (s':Shared) m,s.heap.objs.size<=C->(∀h',Heap.SameBut C s'.heap h'->EP X pins σ (λv H=>H C=none/\Q v H) (.ref D) {s' with heap:=h'})->s'.heap.Ns C m->compPost (model X.prog X.w) X.A E use QQ (.ref D) C (.ok .next) s') :
  wpAny (model X.prog X.w) X.A (newList []) (λacc s₃=>wpAny (model X.prog X.w) X.A (newFunctionEnv scope X.env.globals (vf X.env scope.names []) [] X.env.qual none .none (some X.env)) (λcenv s₄ =>
   codeAny (model X.prog X.w) X.A (.compStart (.ListComp elt [⟨target,iter,ifs,0⟩] scope pos) 0 (.ref it) acc {cenv with scope:=relabel scope X.env}) (compPost (model X.prog X.w) X.A E use QQ acc cenv.locals) s₄) E s₃) E s:=by
 refine CQ (zl λh₁ hns₁ hsb₁ cok=>?_)
 dsimp only at hns₁ hsb₁ cok ⊢
 generalize hH2:s.heap.push {cls:=.type "list",dict:=none,data:=.seq ([]:List Value).toArray}=H2 at hns₁ hsb₁ cok ⊢
 have hC:H2.objs.size=s.heap.objs.size+1:=by rw[<-hH2,CA]
 have hDC:s.heap.objs.size≠H2.objs.size:=by rw[hC];exact AX (Gt _)
 have hCle:s.heap.objs.size<=H2.objs.size:=by rw[hC];exact GZ _
 have old:∀b o,s.heap.get? b=some o->h₁.get? b=some o:=λb o e=>hsb₁ b o (hH2 ▸ AC _ e)
 have hDo:h₁.get? s.heap.objs.size=some {cls:=.type "list",data:=.seq #[]}:=hsb₁ _ _ (hH2 ▸ AL _ rfl)
 have own:∀x c,(x,c)∈cellsFrom (H2.objs.size+1) scope.names []->H2.objs.size<c:=λx c q=>(cok.empty x c q).2
 have hfp:∀b∈fp,∃o,s.heap.get? b=some o:=λb hb=>let ⟨o,e,_⟩:=T.obj 0 _ t0 b hb;⟨o,e⟩
 have hlt:∀b∈fp,b<s.heap.objs.size:=λb hb=>let ⟨o,e⟩:=hfp b hb;AH e
 obtain⟨W,⟨m0,w0⟩,turn⟩:=h
 obtain⟨BG,BT,BE⟩:=B H2.objs.size s H fp
 have I4:=zm (tk:=s.toks) I S hf hfp old hCle (AM _) hDC hns₁ hDo cok
 have hcells:∀n,(n,NameKind.free)∈scope.names->∃c,X.env.cells.lookup n=some c:=λn hn=>by
  rcases S.free n hn with e | e
  ·exact I.ok.has n (.inl e)
  ·exact I.ok.has n (.inr e)
 -- what the iterator's objects are to the block
 have stat:∀{H':Hp},(∀b∈fp,H' b=none)->∀b∈fp,wb (jt X scope Nb H2.objs.size s H fp) [] H' b:=λhn b hb=>by
  refine⟨hn b hb,AX (AN (hlt b hb) hCle),λz=>?_,.inl hb,λx c e=>?_,λp hp=>absurd (show p∈([]:List (Addr×Obj))++[]from hp) (by simp)⟩
  ·rcases AJ.mp (I.stkSub b z)with z | z
   ·exact(hf b hb).2.1 z
   ·exact(hf b hb).2.2.1 z
  ·rcases t8 hcells e with q | q
   ·exact CD (Nat.lt_trans (AN (hlt b hb) hCle) (own x c q))
   ·exact(hf b hb).2.2.2.2.1 x c q
 have loop:∀s₃:Shared,s₃={s with heap:=h₁} ->
   codeAny (model X.prog X.w) X.A (.compLoop (.ListComp elt [⟨target,iter,ifs,0⟩] scope pos) 0 (.ref it) (.ref s.heap.objs.size) (compEnvC scope (zk X.env scope H2.objs.size) H2.objs.size X.env))
    (compPost (model X.prog X.w) X.A E use QQ (.ref s.heap.objs.size) H2.objs.size) s₃:=by
  rintro s₃ rfl
  refine zo (λn s'=>∃i H' acc its n',Inv (jt X scope Nb H2.objs.size s H fp) [] (gu cap nl σ) H' s'/\tn i s'.heap/\(∀b∈fp,H' b=none)/\H' s.heap.objs.size=none /\
   s'.heap.get? s.heap.objs.size=some {cls:=.type "list",data:=.seq (its:List Value).toArray n'}/\bz acc its/\W i n H' acc) ?_ m0
   ⟨0,H,[],[],_,I4.pins_of (λp hp=>absurd hp (by simp)),T.keep _ _ _ t0 λb hb o e=>old b o e,λb hb=>(hf b hb).1,I.hok.fresh (AM _),hDo,.nil,w0⟩
  rintro n s5 ⟨i,H5,acc,its,n5,I5,t5,f5,hD5,hget5,hv5,w5⟩
  rcases turn i n H5 acc w5 with⟨stop,hz,q⟩ | ⟨go,hz,q⟩
  ·refine thn (T.done (jt X scope Nb H2.objs.size s H fp) rfl rfl rfl hc i [(s.heap.objs.size,{cls:=.type "list",data:=.seq its.toArray n5})] s5 _ H5 _ (I5.pins_of ?_) ?_ t5 stop) λr s6 ⟨hr,I6⟩=>?_
   ·intro p hp
    have e:p=(s.heap.objs.size,{cls:=.type "list",data:=.seq its.toArray n5}):=by simpa using hp
    subst e
    refine⟨hget5,hD5,hDC,λz=>?_,λv z=>by cases z⟩
    rcases AJ.mp (I.stkSub _ (show s.heap.objs.size∈frs X.stack from z))with w | w
    ·exact absurd I.lt (by rw[<-w];exact CL _)
    ·exact I.nofs (AM _) w
   ·intro b hb
    obtain⟨a1,a2,a3,a4,a5,a6⟩:=stat f5 b hb
    refine⟨a1,a2,a3,a4,a5,λp hp=>?_⟩
    have e:p=(s.heap.objs.size,{cls:=.type "list",data:=.seq its.toArray n5}):=by
     have:p∈([]:List (Addr×Obj))++[(s.heap.objs.size,{cls:=.type "list",data:=.seq its.toArray n5})]:=hp
     simpa using this
    subst e
    exact λz=>absurd (hlt b hb) (by rw[<-z];exact CL _)
   ·subst hr
    have hget6:=(I6.pin (s.heap.objs.size,{cls:=.type "list",data:=.seq its.toArray n5}) (by show _∈([]:List (Addr×Obj))++_;simp)).1
    obtain⟨m6,hn6,_⟩:=I6.loc
    refine hQ _ _ s6 m6 hCle (λh' hs'=>?_) hn6
    have hk6:∀b o,b≠H2.objs.size->s6.heap.get? b=some o->h'.get? b=some o:=λb o hb e=>hs'.extBut b o hb e
    have hgetD:=hk6 _ _ hDC hget6
    have Cn:H5 H2.objs.size=none:=I6.free
    have hok':HOk X.prog X.w H5 h':=λb u e=>by
     refine(I6.hok b u e).stay (λc v hcc q=>hk6 c v ?_ q) (λ_ q=>q) λ_ _ q=>q
     rcases hcc with z | z
     ·rintro rfl;rw[<-z]at e;rw[Cn]at e;cases e
     ·rintro rfl;rw[Cn]at z;cases z
    refine⟨.ref s.heap.objs.size,upd H5 s.heap.objs.size (.lst acc),?_,rfl,by rw[av (Ne.symm hDC)];exact Cn,q _ hD5⟩
    have hU:Un (frs X.stack) fp H H5 s.heap s6.heap:=I6.base
    have nC:∀b o,s.heap.get? b=some o->b≠H2.objs.size:=λb o e=>AX (AN (AH e) hCle)
    have nD:∀b o,s.heap.get? b=some o->b≠s.heap.objs.size:=λb o e=>AX (AH e)
    refine I.call' (s':={s6 with heap:=h'}) (ch:=fp) (by show s6.os=s.os;exact I6.os) ⟨λb o e nn hb hx=>hk6 b o (nC b o e) (hU.keep b o e nn hb hx),λb o e nn hb hx=>?_,λb o e nn hx=>?_,λb o e hx=>?_,λb xs e=>?_,λb o u e=>?_,λb ps e=>?_⟩ ?_ I6.bare ?_
    ·obtain⟨sl,e2⟩:=hU.slot b o e nn hb hx
     exact⟨sl,hk6 b _ (nC b o e) e2⟩
    ·rw[av (nD b o e)];exact hU.free b o e nn hx
    ·obtain⟨o',e2⟩:=hU.there b o e hx
     exact⟨o',hk6 b _ (nC b o e) e2⟩
    ·have e2:=hU.tups b xs e
     rw[av (bg e2 hD5)];exact e2
    ·have e2:=hU.frzs b o u e
     rw[av (bg e2 hD5)];exact e2
    ·obtain⟨more,e2⟩:=hU.tbls b ps e
     exact⟨more,by rw[av (bg e2 hD5)];exact e2⟩
    ·exact L2.HOk.track hok' hD5 ⟨hz,its,n5,hv5,hgetD⟩
    ·intro b hb
     obtain⟨a1,a2,a3,a4,a5,a6⟩:=hf b hb
     exact⟨a4,a2,a5,a6⟩
  ·-- one more turn
   have notfs:s.heap.objs.size∉frs X.stack:=λz=>by
    rcases AJ.mp (I.stkSub _ z)with w | w
    ·exact absurd I.lt (by rw[<-w];exact CL _)
    ·exact I.nofs (AM _) w
   have I5':Inv (jt X scope Nb H2.objs.size s H fp) [(s.heap.objs.size,{cls:=.type "list",data:=.seq its.toArray n5})] (gu cap nl σ) H5 s5:=I5.pins_of λp hp=>by
    have e:p=(s.heap.objs.size,{cls:=.type "list",data:=.seq its.toArray n5}):=by simpa using hp
    subst e
    exact⟨hget5,hD5,hDC,notfs,λv z=>by cases z⟩
   have stat':∀{H':Hp},(∀b∈fp,H' b=none)->∀b∈fp,wb (jt X scope Nb H2.objs.size s H fp) [(s.heap.objs.size,{cls:=.type "list",data:=.seq its.toArray n5})] H' b:=λhn b hb=>by
    obtain⟨a1,a2,a3,a4,a5,a6⟩:=stat hn b hb
    refine⟨a1,a2,a3,a4,a5,λp hp=>?_⟩
    have e:p=(s.heap.objs.size,{cls:=.type "list",data:=.seq its.toArray n5}):=by
     have:p∈([]:List (Addr×Obj))++[(s.heap.objs.size,{cls:=.type "list",data:=.seq its.toArray n5})]:=hp
     simpa using this
    subst e
    exact λz=>absurd (hlt b hb) (by rw[<-z];exact CL _)
   refine thn (T.item (jt X scope Nb H2.objs.size s H fp) rfl rfl rfl hc i _ s5 _ H5 (λ_ _=>False) I5' (stat' f5) t5 go) λr s6 ⟨u,hr,h6⟩=>?_
   subst hr
   refine thn h6 λ_ s7 ⟨x,H7,I7,r7,y7,t7,f7⟩=>?_
   have I7':=I7.pinned (stat' f7) (T.obj _ _ t7)
   have back:∀{σ':St} {H':Hp} {s':Shared},Inv (jt X scope Nb H2.objs.size s H fp) ([(s.heap.objs.size,{cls:=.type "list",data:=.seq its.toArray n5})]++qt fp s7.heap) σ' H' s' ->
     tn (i+1) s'.heap/\(∀b∈fp,H' b=none)/\H' s.heap.objs.size=none/\s'.heap.get? s.heap.objs.size=some {cls:=.type "list",data:=.seq its.toArray n5}:=λ{σ' H' s'} J'=>by
    have pD:=J'.pin (s.heap.objs.size,{cls:=.type "list",data:=.seq its.toArray n5}) (by show _∈([]:List (Addr×Obj))++_;simp)
    refine⟨T.keep _ _ _ t7 λb hb o e=>(J'.pin (b,o) (BJ _ (BJ _ (ja hb e)))).1,λb hb=>?_,pD.2.1,pD.1⟩
    obtain⟨o,e,d⟩:=T.obj _ _ t7 b hb
    exact(J'.pin (b,o) (BJ _ (BJ _ (ja hb e)))).2.1
   refine thn (BG _ s7 _ H7 x u _ I7' r7 (q x H7 y7)) λ_ s8 ⟨σ8,H8,I8,ks,q8⟩=>?_
   refine thn (BT _ s8 σ8 H8 _ I8 q8) λok s9 ⟨H9,I9,q9⟩=>?_
   cases ok with
   |false =>
    obtain⟨m',hm',w9⟩:∃m',m'<n/\W (i+1) m' H9 acc:=q9
    obtain⟨b1,b2,b3,b4⟩:=back I9
    exact⟨m',hm',i+1,H9,acc,its,n5,(I9.weak ks.1 ks.2).pins_of (λp hp=>absurd hp (by simp)),b1,b2,b3,b4,hv5,w9⟩
   |true =>
    refine thn (BE _ s9 σ8 H9 _ I9 q9) λxv s10 ⟨v,H10,I10,r10,m',hm',w10⟩=>?_
    obtain⟨b1,b2,b3,b4⟩:=back I10
    have hl5:=hv5.length
    refine wpAny_list_append_plain (items:=its.toArray) ⟨n5,b4⟩ (λh' hpl hs'=>?_) (by rw[AF,<-hl5];exact DX hz)
    obtain⟨n6,hg6⟩:=hpl
    have I11:Inv (jt X scope Nb H2.objs.size s H fp) [] (gu cap nl σ) H10 {s10 with heap:=h'}:=by
     have I10':=(I10.weak ks.1 ks.2).pins_of (pins':=[]) (λp hp=>absurd hp (by simp))
     refine I10'.turned (t':=s10.toks) (it:=s.heap.objs.size) (λb o hb e=>hs'.extBut b o hb e) b3 hDC (.inr (AM _)) (λx c e=>?_) (λp hp=>absurd (show p∈([]:List (Addr×Obj))++[]from hp) (by simp))
     rcases t8 hcells e with q | q
     ·exact CD (Nat.lt_of_le_of_lt hCle (own x c q))
     ·obtain⟨v,hcc⟩:=I.cell x c q
      exact AX hcc.lt
    refine⟨m',hm',i+1,H10,acc++[v],its++[xv],n6,I11,?_,b2,b3,by rw[hg6];simp,hv5.append (.cons r10 .nil),w10⟩
    exact T.keep _ _ _ b1 λb hb o e=>hs'.extBut b o (AX (hlt b hb)) e
 exact codeAny_compStart_list (loop _ rfl) (T.self X.A 0 _ _ _ (T.keep _ _ _ t0 λb hb o e=>old b o e) (loop _ rfl))
theorem Fc {elt target iter:Expr} {ifs:List Expr} {pos:Pos} {wi:TI} {g:TG} {ts:TT} {te:TE} (S:CompScope X.env.scope scope X.N Nb cap nl) (hc:X.calm=true) (hi:PI X target iter wi) (B:ua X scope Nb target ifs elt g ts te)
  (hs:∀x,foldedSetIterable iter X.env x=pure x):PE X (.ListComp elt [⟨target,iter,ifs,0⟩] scope pos) (Fb wi g ts te (gu cap nl)):=by
 intro pins s σ H Q I h
 rw[eval_ListComp]
 have hcells:∀n,(n,NameKind.free)∈scope.names->∃c,X.env.cells.lookup n=some c:=λn hn=>by
  rcases S.free n hn with e | e
  ·exact I.ok.has n (.inl e)
  ·exact I.ok.has n (.inr e)
 refine wpAny_comprehension_free (use:=none) rfl hs (ot hcells) S.kind (λy hy hl=>by rw[S.uniq y hy,hl]) ?_
 refine thn (hi pins s σ H _ I h) λv s1 h1=>thn h1 λitv s2 ⟨it,fp,tn,J,H2,e,I2,T,t2,f2,hW⟩=>?_
 subst e
 exact ou (Q:=Q) (QQ:=EP X pins σ Q) S hc B I2 T t2 f2 hW λD C s' m _ hq hn=>⟨m,hn,λh' hs'=>let ⟨v,H',I',r,q⟩:=hq h' hs';⟨v,H',I',r,q.2⟩⟩
theorem xk {elt target iter:Expr} {ifs:List Expr} {pos spos py:Pos} {y:Str} {i:Nat} {wi:TI} {g:TG} {ts:TT} {te:TE} (S:CompScope X.env.scope scope X.N Nb cap nl) (hc:X.calm=true) (hi:PI X target iter wi) (B:ua X scope Nb target ifs elt g ts te)
  (hs:∀x,foldedSetIterable iter X.env x=pure x) (hsw:swapsWith (.ListComp elt [⟨target,iter,ifs,0⟩] scope pos) (some (.Name y py)) spos.line X.env=pure true)
  (hN:X.N.Nodup) (hiN:X.N[i]? = some y) (hy:X.env.scope.names.lookup y=some .local) :
  PS X (.Assign [.Name y py] (.ListComp elt [⟨target,iter,ifs,0⟩] scope pos) spos) (λE σ H=>Fb wi g ts te (gu cap nl) σ H (FQ λv H1=>E.nx (σ.set i (some v)) H1)):=by
 intro pins s σ H E I h
 rw[exec_Assign_Name_used _ _ _ _ hsw]
 have hcells:∀n,(n,NameKind.free)∈scope.names->∃c,X.env.cells.lookup n=some c:=λn hn=>by
  rcases S.free n hn with e | e
  ·exact I.ok.has n (.inl e)
  ·exact I.ok.has n (.inr e)
 refine AB (wpAny_standAt (AB ?_))
 show wpAny _ _ (comprehension _ scope X.env _ (newList []) false (eval iter X.env) (some (assign (.Name y py) X.env))>>=λ_=>pure ()) _ _ _
 refine AB (wpAny_comprehension_free (use:=some (assign (.Name y py) X.env)) rfl hs (ot hcells) S.kind (λz hz hl=>by rw[S.uniq z hz,hl]) ?_)
 refine thn (hi pins s σ H _ I h) λv s1 h1=>thn h1 λitv s2 ⟨it,fp,tn,J,H2,e,I2,T,t2,f2,hW⟩=>?_
 subst e
 refine ou (Q:=FQ λv H1=>E.nx (σ.set i (some v)) H1) S hc B I2 T t2 f2 hW λD C s' m hC hq hn=>?_
 obtain⟨v,H',I',r,hCn,q⟩:=hq s'.heap (.refl ..)
 have hep:∃H',Inv X pins σ H' s'/\H' C=none/\E.nx (σ.set i (some v)) H':=by
  rcases q with q | ⟨p,xs,rfl,e,q⟩
  ·exact⟨H',I',hCn,q⟩
  ·obtain⟨o,I''⟩:=L2.Inv.freeze I' e
   exact⟨_,I'',by rw[av (λz=>by rw[z,e]at hCn;cases hCn)];exact hCn,q o⟩
 obtain⟨H',I',hCn,q⟩:=hep
 have hCL:C≠X.env.locals:=CD (AN I2.lt hC)
 show wpAny _ _ (assign (.Name y py) X.env (.ref D)) _ _ s'
 refine wpAny_assign_Name (qr I' hN hiN (.inl hy) r (λs'' I'' ⟨a,hsb,ha⟩=>?_) (.inr hy))
 have haC:C≠a:=by
  rcases ha with z | z
  ·rw[z];exact hCL
  ·obtain⟨w,hc⟩:=I2.cell y a z
   exact CD (AN hc.lt hC)
 refine⟨m,hn.sameBut hsb haC,λh' hs'=>?_⟩
 refine AI (AI ⟨_,H',?_,q⟩)
 refine I''.turned (t':=s''.toks) (it:=C) (λb o hb e=>hs'.extBut b o hb e) hCn hCL (.inr (BV I2.sz hC)) (λx c e=>?_) (λp hp=>?_)
 ·obtain⟨w,hc⟩:=I2.cell x c e
  exact AX (AN hc.lt hC)
 ·exact AX (AN (AH (I2.pin p hp).1) hC)
end
noncomputable def tTs(K:PySem.W.Frag)(φ:Phi)(x:Exs):TT:=λσv H Q=>∃ι σ μ,Sim K ι H μ/\kg K ι H σ σv/\dw K RB ι H (xg φ x σ μ) Q
section
variable{X:Cx}{φ:Phi}{scope:Scope}{Nb:List Str}{cap:List Nat}{nl:Nat}
theorem PTs.imp{ifs:List Expr}{t t':TT}(h:PTs X ifs t)(i:∀σ H Q,t' σ H Q->t σ H Q):PTs X ifs t':=λpins s σ H Q I q=>h pins s σ H Q I (i σ H Q q)
theorem Jh:PTs X [] (tTs X.K φ .nil):=PTs.imp E9 λσv H Q ⟨ι,σ,μ,hS,hL,h⟩=>by
 simp![xg]at h
 exact h.ok hS rfl
theorem Fd{c:Expr}{r:List Expr}{xc:Ex}{xr:Exs}(h1:PT X c (tT X.K φ xc))(h2:PTs X r (tTs X.K φ xr)):PTs X (c::r) (tTs X.K φ (.cons xc xr)):=PTs.imp (Bw h1 h2) λσv H Q ⟨ι,σ,μ,hS,hL,h⟩=>by
 simp![xg]at h
 obtain⟨d,μ1,e1,h⟩:=h.bind
 refine⟨ι,σ,μ,hS,hL,?_⟩
 rw[e1]
 cases d with
 |bl k =>
  intro ι1 x H1 p1 x1 s1 d1
  cases d1
  cases k with
  |true=>exact⟨ι1,σ,μ1,s1,hL.mono p1 x1,(show dw _ _ _ _ (xg φ xr σ μ1) _ from h).mono p1 x1⟩
  |false=>exact h ι1 false H1 p1 x1 s1 rfl
 |_=>exact h.elim
theorem Bx{K:PySem.W.Frag}{ι:List Addr}{H:Hp}{σ:Sl}{σv:St}(hL:kg K ι H σ σv):kg K ι H (cap.map (λi=>(σ[i]?).getD none)++List.replicate nl none) (gu cap nl σv):=λj d e=>by
 by_cases hj:j<cap.length
 ·rw[AS (by simpa using hj),BX,AE hj]at e
  simp![GP,BB]at e
  have e4:σ[cap[j]]? = some (some d):=by
   cases e5:σ[cap[j]]? with
   |none=>rw[e5]at e;cases e
   |some w=>rw[e5]at e;simp at e;rw[e]
  obtain⟨v,q1,q2⟩:=hL _ _ e4
  refine⟨v,?_,q2⟩
  unfold gu
  rw[AS (by simpa using hj),BX,AE hj]
  simp[q1]
 ·rw[BY (by simpa using hj),CP]at e
  split at e<;>cases e
theorem By{σv σv':St}{tg:Tg}(hs:∀j∈slots tg,cap.length<=j)(hl:σv'.length=(gu cap nl σv).length)(h:∀j,j∉slots tg->σv'[j]? = (gu cap nl σv)[j]?):Kept (gu cap nl σv) σv':=by
 refine⟨hl.symm,λi v e=>?_⟩
 have hi:i<cap.length:=by
  by_cases hi:i<cap.length
  ·exact hi
  ·unfold gu at e
   rw[BY (by simpa using hi),CP]at e
   split at e<;>cases e
 rw[h i λz=>absurd (hs i z) (by lia)]
 exact e
theorem rn{m:Mk}{tg:Tg}{it:It}{cs:Exs}{elt:Ex}{σv:St}{H:Hp}{Q:VK}(hs:∀j∈slots tg,cap.length<=j)(h:tE X.K φ (.comp m cap nl tg it cs elt) σv H Q) :
  Fb (tI X.K φ it) (tG X.K tg) (tTs X.K φ cs) (tE X.K φ elt) (gu cap nl) σv H (FQ Q):=by
 obtain⟨ι,σ,μ,hS,hL,h⟩:=h
 simp![evE]at h
 obtain⟨⟨ds,g⟩,μ1,e1,h⟩:=h.bind
 refine⟨ι,σ,μ,hS,hL,?_⟩
 rw[e1]
 intro ι1 H1 J p1 x1 s1 wk
 refine⟨λi k H' acc=>k=ds.length-i/\i<=ds.length/\acc.length<=i/\∃ι' μ' ys,ι1 <+: ι'/\Ext H1 H'/\Sim X.K ι' H' μ'/\ah X.K ι' H' ys acc /\
  dw X.K (RD X.K) ι' H' ((mapR g (λd μ=>iw (dq tg d (cap.map (λi=>(σ[i]?).getD none)++List.replicate nl none)) λσ' =>
    (xg φ cs σ' μ).bind λb μ=>if b=true then(evE φ elt σ' μ).bind λx μ=>.ok [x] μ else .ok [] μ) (ds.drop i) μ').bind λxs μ=>mkL m (ys++xs) μ) Q,
  ⟨ds.length,by simp,HA _,AM _,ι1,μ1,[],AG _,.refl _,s1,by simp[ah],?_⟩,?_⟩
 ·simpa using h.mono p1 x1
 ·rintro i k H' acc ⟨rfl,hi,hacc,ι',μ',ys,p',x',s',hys,h'⟩
  have wl:=wk.len
  by_cases hlt:i<ds.length
  ·obtain⟨d,ed⟩:∃d,ds[i]? = some d:=⟨ds[i],AE hlt⟩
   have edrop:ds.drop i=d::ds.drop (i+1):=by
    rw[FH hlt]
    rw[AE hlt]at ed
    cases ed;rfl
   rw[edrop]at h'
   simp![mapR]at h'
   split at h'
   ·rename_i hgd
    right
    refine⟨wk.go i ι' H' μ' p' x' s' hgd hlt,by lia,λv H2 hy=>?_⟩
    obtain⟨x2,s2,d',ed',hd'⟩:=wk.yld i ι' H' μ' v H2 p' x' s' hgd hlt hy
    rw[ed]at ed';cases ed'
    rw[Res.bind_assoc]at h'
    cases eb:dq tg d (cap.map (λi=>(σ[i]?).getD none)++List.replicate nl none)with
    |none=>rw[eb]at h';exact h'.elim
    |some σb =>
     rw[eb]at h'
     simp![tx]at h'
     have hLb:=Bx (cap:=cap) (nl:=nl) ((hL.mono (p1.trans p') (x1.trans x')).mono (AG _) x2)
     refine⟨ι',_,d,σb,hLb,?_,hd',eb,λσv2 l2 z2 z3 k2=>⟨By hs z3 k2,ι',σb,μ',s2,l2,?_⟩⟩
     ·simp[gu]
     ·rw[Res.bind_assoc]at h'
      obtain⟨b,μ2,e2,h2⟩:=h'.bind
      rw[e2]
      intro ι3 b' H3 p3 x3 s3 d3
      cases d3
      cases b with
      |false =>
       refine⟨ds.length-(i+1),by lia,rfl,hlt,by lia,ι3,μ2,ys,p'.trans p3,(x'.trans x2).trans x3,s3,ah.mono p3 (x2.trans x3) _ _ hys,?_⟩
       have h3:=h2.mono p3 (x2.trans x3)
       simpa[Res.bind_assoc]using h3
      |true =>
       simp![if_true]at h2 ⊢
       rw[Res.bind_assoc]at h2
       obtain⟨y,μ3,e3,h3⟩:=h2.bind
       refine⟨ι3,σb,μ2,s3,l2.mono p3 x3,?_⟩
       rw[e3]
       intro ι4 w H4 p4 x4 s4 d4
       refine⟨ds.length-(i+1),by lia,rfl,hlt,by simp;lia,ι4,μ3,ys++[y],(p'.trans p3).trans p4,((x'.trans x2).trans x3).trans x4,s4,(ah.mono (p3.trans p4) ((x2.trans x3).trans x4) _ _ hys).append (.one d4),?_⟩
       have h4:=h3.mono (p3.trans p4) ((x2.trans x3).trans x4)
       simpa[Res.bind_assoc]using h4
   ·exact h'.elim
  ·have ei:i=ds.length:=by lia
   subst ei
   simp![List.drop_length,mapR]at h'
   split at h'
   ·rename_i hgd
    refine .inl ⟨wk.stop ι' H' μ' p' x' s' hgd,by lia,λp hp=>jr s' hys (by simpa using h') hp⟩
   ·exact h'.elim
theorem Ji {e target iter:Expr} {ifs:List Expr} {pos:Pos} {m:Mk} {tg:Tg} {it:It} {cs:Exs} {elt:Ex} (S:CompScope X.env.scope scope X.N Nb cap nl) (hc:X.calm=true) (hi:PI X target iter (tI X.K φ it))
  (B:ua X scope Nb target ifs e (tG X.K tg) (tTs X.K φ cs) (tE X.K φ elt)) (hf:∀x,foldedSetIterable iter X.env x=pure x) (hs:∀j∈slots tg,cap.length<=j) :
  PE X (.ListComp e [⟨target,iter,ifs,0⟩] scope pos) (tE X.K φ (.comp m cap nl tg it cs elt)) :=
 PE.imp (PE.fq (Fc S hc hi B hf)) λσv H Q h=>rn hs h
theorem zp {e target iter:Expr} {ifs:List Expr} {pos spos py:Pos} {y:Str} {i:Nat} {m:Mk} {tg:Tg} {it:It} {cs:Exs} {elt:Ex} (S:CompScope X.env.scope scope X.N Nb cap nl) (hc:X.calm=true) (hi:PI X target iter (tI X.K φ it))
  (B:ua X scope Nb target ifs e (tG X.K tg) (tTs X.K φ cs) (tE X.K φ elt)) (hf:∀x,foldedSetIterable iter X.env x=pure x) (hs:∀j∈slots tg,cap.length<=j)
  (hsw:swapsWith (.ListComp e [⟨target,iter,ifs,0⟩] scope pos) (some (.Name y py)) spos.line X.env=pure true) (hN:X.N.Nodup) (hiN:X.N[i]? = some y) (hy:X.env.scope.names.lookup y=some .local) :
  PS X (.Assign [.Name y py] (.ListComp e [⟨target,iter,ifs,0⟩] scope pos) spos) (tS X.K φ (.set i (.comp m cap nl tg it cs elt))) :=
 PS.imp (xk S hc hi B hf hsw hN hiN hy) λE σv H ⟨ι,σ,μ,hS,hL,hl,h⟩=>by
  refine rn (m:=m) (Q:=λv H1=>E.nx (σv.set i (some v)) H1) hs ?_
  simp![evS]at h
  obtain⟨d,μ1,e1,h⟩:=h.bind
  refine⟨ι,σ,μ,hS,hL,?_⟩
  rw[e1]
  exact λι1 v H1 p1 x1 s1 d1=>h ι1 _ H1 p1 x1 s1 ((hL.mono p1 x1).set hl d1) (by simp[hl])
end
theorem Fe(i:Int)(h:0<=i):Builtin.bitXor i 1=if i % 2=0 then i+1 else i-1:=by
 rw[PyProof.Rows.bitXor_and,PyProof.Rows.bitAnd_m1]
 split<;>lia
section
variable{X:Cx}{φ:Phi}
theorem fb{K:PySem.W.Frag}{ι:List Addr}{H:Hp}{ds:List D}{v:V}(h:IsD K ι H (.tup ds) v):∃a xs,v=.ref a/\SqT K H a xs/\ah K ι H ds xs:=by
 simpa[IsD]using h
theorem tup_is{K:PySem.W.Frag}{ι:List Addr}{H:Hp}{ds:List D}{a:Addr}{xs:List V}(h:SqT K H a xs)(h2:ah K ι H ds xs):IsD K ι H (.tup ds) (.ref a):=by
 simp![IsD]
 exact⟨a,xs,rfl,h,h2⟩
theorem c6{K:PySem.W.Frag}{ι:List Addr}{H:Hp}{i:Int}{v:V}(h:IsD K ι H (.int i) v):v=.int i:=by simpa[IsD]using h
theorem ro{K:PySem.W.Frag}{ι:List Addr}{H:Hp}{i:Bool}{v:V}(h:IsD K ι H (.bl i) v):v=.bl i:=by simpa[IsD]using h
theorem l4{K:PySem.W.Frag}{ι:List Addr}{H:Hp}{μ:Sto}{ds:List D}{xs:List V}{Q:VK}{p:Addr}(hS:Sim K ι H μ)(hd:ah K ι H ds xs)(h:dw K (RD K) ι H (.ok (.tup ds) μ) Q)(hp:H p=none):Q (.ref p) (upd H p (.tup xs)) :=
 h ι (.ref p) _ (AG _) (.new hp) (hS.new hp) (tup_is (.of bj) (ah.mono (AG _) (.new hp) ds xs hd))
theorem zq {pins:List (Addr×Obj)} {s:Shared} {σ:St} {H:Hp} {l b:Addr} {xs zs:List V} {Q:VK} (I:Inv X pins σ H s) (hl:LsL X.K H l xs) (hb:LsL X.K H b zs) (hz:xs.length+zs.length<=sizeLine)
  (q:∀p,H p=none->Q (.ref p) (upd H p (.lst (xs++zs)))):wpAny (model X.prog X.w) X.A (binaryOp .Add (.ref l) (.ref b)) (EP X pins σ Q) X.xe s:=by
 obtain⟨z,its,n,r,hl,e⟩:=I.ls hl
 obtain⟨z2,its2,n2,r2,hl2,e2⟩:=I.ls hb
 refine PySem.P.add_list e e2 ?_ (by rw[AF,AF];lia)
 have ea:its.toArray++its2.toArray=(its++its2).toArray:=by simp
 rw[ea]
 exact⟨.ref _,_,I.lnew (t':=s.toks) (r.append r2) (by rw[BA];lia),rfl,q _ I.fresh⟩
theorem Bz {pins:List (Addr×Obj)} {s:Shared} {σ:St} {H:Hp} {l:Addr} {k:Int} {t:Tok} {xs:List V} {Q:VK} (I:Inv X pins σ H s) (hH:LsL X.K H l xs) (h1:-(2 ^ 63)<=k) (h2:k<2 ^ 63) (hz:xs.length*k.toNat<=sizeLine)
  (q:∀p,H p=none->Q (.ref p) (upd H p (.lst (List.replicate k.toNat xs).flatten))):wpAny (model X.prog X.w) X.A (binaryOp .Mult (.ref l) (.int k t)) (EP X pins σ Q) X.xe s:=by
 obtain⟨z,its,n,r,hl,e⟩:=I.ls hH
 have hlen:its.toArray.size*k.toNat<=sizeLine:=by rw[AF,<-hl];exact hz
 have hcap:¬its.toArray.size*k.toNat > (2 ^ 63-1) / 8:=by
  have:(sizeLine:Nat)<=(2 ^ 63-1) / 8:=by decide
  lia
 have hfit:¬(!Builtin.List.listFitsIndex k)=true:=by
  rw[fitsIndex_both h1 h2]
  exact BF
 have hlong:¬Builtin.List.listTooLong (its.toArray.size*k.toNat)=true:=by
  rw[vc hlen]
  exact BF
 have hnew:List.foldl (λx1 x2=>x1++x2) #[] (List.replicate (if its.toArray.isEmpty=true then 0 else k.toNat) its.toArray)=(List.replicate k.toNat its).flatten.toArray:=by
  have f0:∀m:Nat,List.foldl (λx1 x2=>x1++x2) #[] (List.replicate m its.toArray)=(List.replicate m its).flatten.toArray:=λm=>by
   have:=foldl_rep its m []
   rw[GQ]at this
   exact this
  rw[f0]
  cases its with
  |nil=>simp
  |cons a r'=>rw[if_neg (by simp)]
 refine wpAny_binaryOp_repeat_ref (T:="list") (U:="int") (by decide) ⟨_,e,rfl⟩ (λs'=>typeIs_int s' k t) noFill_list_mul F.fills_int_mul F.slot_int_rmul repeat_list F.slot_int_index.lookup
  (DC F.slot_int_rmul (typeIs_int s k t) F.entry_int_rmul (F.args_int_rmul_2 _ _) (int___rmul___int_list k t l its.toArray n)
   ⟨e,rfl,⟨_,e,rfl⟩,DC F.slot_list_mul ⟨_,e,rfl⟩ F.entry_list_mul (F.args_list_mul_2 _ _) (AutoListH.list___mul___list_int_3 l its.toArray n k t hfit hcap hlong) ⟨e,?_⟩⟩)
 rw[hnew]
 exact⟨.ref _,_,I.lnew (t':=s.toks) (r.rep k.toNat) (by rw[len_rep,Nat.mul_comm];exact hz),rfl,q _ I.fresh⟩
theorem Ff{pins:List (Addr×Obj)}{s:Shared}{σ:St}{H:Hp}{a b:Addr}{ys:List V}{Q:VK}(I:Inv X pins σ H s)(ha:SqT X.K H a [])(hb:SqT X.K H b ys)(q:Q (.ref b) H) :
  wpAny (model X.prog X.w) X.A (binaryOp .Add (.ref a) (.ref b)) (EP X pins σ Q) X.xe s:=by
 obtain⟨its,r1,p1,_⟩:=I.tuple ha
 obtain⟨its2,r2,p2,_⟩:=I.tuple hb
 have e1:its=[]:=by cases r1;rfl
 subst e1
 obtain⟨⟨cls,dd,data,sl⟩,ho,hc,n,hd⟩:=id p1
 obtain⟨⟨cls2,dd2,data2,sl2⟩,ho2,hc2,n2,hd2⟩:=id p2
 simp only at hc hd hc2 hd2
 subst hc hd hc2 hd2
 exact concat_meets ⟨_,ho,rfl⟩ ⟨_,ho2,rfl⟩ FZ seq_tuple_add DZ DW (DQ _ _)
   (tuple_addW0 a b ([]:List Value).toArray its2.toArray n n2 dd dd2 sl sl2 (by simp)) ⟨ho,ho2,⟨.ref b,H,I,rfl,q⟩⟩
theorem Jj{op:Operator}{m:Mk}:OpR X (binaryOp op) (rOp X.K (opD op m)):=by
 intro pins s σ H x y v u Q I rx ry ⟨ι,d,e,μ,hS,hd,he,h⟩
 unfold opD at h
 split at h
 ·rename_i i j
  cases c6 hd
  cases c6 he
  unfold opI at h
  split at h
  ·exact op_add pins s σ H _ _ v u Q I rx ry ⟨i,j,rfl,rfl,h.ok hS (by simp[IsD])⟩
  ·exact op_sub pins s σ H _ _ v u Q I rx ry ⟨i,j,rfl,rfl,h.ok hS (by simp[IsD])⟩
  ·split at h
   ·rename_i hc
    exact op_mul pins s σ H _ _ v u Q I rx ry ⟨i,j,rfl,rfl,hc,h.ok hS (by simp[IsD])⟩
   ·exact h.elim
  ·split at h
   ·rename_i hc
    exact Ef pins s σ H _ _ v u Q I rx ry ⟨i,j,rfl,rfl,hc,h.ok hS (by simp[IsD])⟩
   ·exact h.elim
  ·split at h
   ·rename_i hc
    exact op_mod pins s σ H _ _ v u Q I rx ry ⟨i,j,rfl,rfl,hc,h.ok hS (by simp[IsD])⟩
   ·exact h.elim
  ·split at h
   ·rename_i hc
    exact op_pow pins s σ H _ _ v u Q I rx ry ⟨i,j,rfl,rfl,hc,h.ok hS (by simp[IsD])⟩
   ·exact h.elim
  ·split at h
   ·rename_i hc
    exact op_shr pins s σ H _ _ v u Q I rx ry ⟨i,j,rfl,rfl,hc,h.ok hS (by simp[IsD])⟩
   ·exact h.elim
  ·split at h
   ·rename_i hc
    exact Hl pins s σ H _ _ v u Q I rx ry ⟨i,j,rfl,rfl,hc,h.ok hS (by simp[IsD])⟩
   ·exact h.elim
  ·split at h
   ·rename_i hc
    obtain⟨h0,rfl⟩:=hc
    refine Hm pins s σ H _ _ v u Q I rx ry ⟨i,1,rfl,rfl,?_⟩
    show Q (.int (Builtin.bitXor i 1)) H
    rw[Fe i h0]
    exact h.ok hS (by simp[IsD])
   ·exact h.elim
  ·exact h.elim
 ·rename_i xs ys
  split at h
  ·split at h
   ·rename_i hz
    obtain⟨a,vs,rfl,ha,hvs⟩:=fb hd
    obtain⟨b,ws,rfl,hb,hws⟩:=fb he
    cases rx
    cases ry
    rw[g9]at hz
    by_cases hx:vs=[]
    ·subst hx
     have e1:xs=[]:=by have:=hvs.length;simpa using this.symm
     subst e1
     exact Ff I ha hb (h.ok hS he)
    ·refine El pins s σ H (.ref a) (.ref b) _ _ Q I rfl rfl ⟨a,b,vs,ws,rfl,rfl,ha,hb,hx,by rw[hvs.length,hws.length];exact hz,λz=>?_,λz p hp=>l4 hS (hvs.append hws) h hp⟩
     subst z
     have e1:ys=[]:=by have:=hws.length;simpa using this.symm
     subst e1
     exact h.ok hS (by simpa using hd)
   ·exact h.elim
  ·exact h.elim
 ·rename_i j _
  cases c6 he
  split at h
  ·rename_i es
   split at h
   ·rename_i hz
    obtain⟨a,xs,rfl,ha,hxs⟩:=gj hS hd es
    cases rx
    obtain⟨t,rfl⟩:=ry
    rw[g9]at hz
    exact ve (Bz I ha hz.2.1 hz.2.2 (by rw[hxs.length];exact hz.1) λp hp=>jr hS (hxs.rep _) h hp)
   ·exact h.elim
  ·exact h.elim
 ·split at h
  ·rename_i es1 es2
   split at h
   ·rename_i hz
    obtain⟨a,xs,rfl,ha,hxs⟩:=gj hS hd es1
    obtain⟨b,ys,rfl,hb,hys⟩:=gj hS he es2
    cases rx
    cases ry
    rw[g9]at hz
    exact ve (zq I ha hb (by rw[hxs.length,hys.length];exact hz) λp hp=>jr hS (hxs.append hys) h hp)
   ·exact h.elim
  ·exact h.elim
end
section
variable(K:PySem.W.Frag)(H:Hp)
mutual
noncomputable def IsW:D->V->Prop
 |.non,v=>v=.non
 |.bl b,v=>v=.bl b
 |.int i,v=>v=.int i
 |.str x,v=>v=.str x
 |.tup ds,v=>∃a xs,v=.ref a/\SqT K H a xs/\iv ds xs
 |.lst ds,v=>∃a xs,v=.ref a/\LsL K H a xs/\iv ds xs
 |.loc _,_=>False
noncomputable def iv:List D->List V->Prop
 | [],xs=>xs=[]
 |d::ds,xs=>∃v r,xs=v::r/\IsW d v/\iv ds r
end
end
section
variable{K:PySem.W.Frag}{H:Hp}
theorem iv.length:∀{ds:List D} {xs:List V},iv K H ds xs->xs.length=ds.length
 | [],xs,h=>by simp![iv]at h;subst h;rfl
 |d::ds,xs,h=>by
  simp![iv]at h
  obtain⟨v,r,rfl,_,t⟩:=h
  simp[iv.length t]
theorem iv.get:∀{ds:List D} {xs:List V} {i:Nat} {d:D},iv K H ds xs->ds[i]? = some d->∃v,xs[i]? = some v/\IsW K H d v
 | [],_,_,_,_,e=>by simp at e
 |d::ds,xs,0,_,h,e=>by
  simp![iv]at h
  obtain⟨v,r,rfl,q,_⟩:=h
  simp at e;subst e
  exact⟨v,rfl,q⟩
 |d::ds,xs,i+1,x,h,e=>by
  simp![iv]at h
  obtain⟨v,r,rfl,_,t⟩:=h
  obtain⟨w,h1,h2⟩:=iv.get (i:=i) (d:=x) t (by simpa using e)
  exact⟨w,by simpa using h1,h2⟩
theorem mh{ds:List D}{v:V}(h:IsW K H (.tup ds) v):∃a xs,v=.ref a/\SqT K H a xs/\iv K H ds xs:=by simpa[IsW]using h
theorem zr{ι:List Addr}{μ:Sto}(S:Sim K ι H μ)(f:D->Option D)(hf:∀d e v,f d=some e->IsD K ι H d v->IsW K H e v):∀{ds es:List D} {xs:List V},cu (ds.map f)=some es->ah K ι H ds xs->iv K H es xs
 | [],es,xs,h,hd=>by
  simp![DB,cu,BB]at h
  subst h
  simpa[ah,iv]using hd
 |d::ds,es,xs,h,hd=>by
  simp![BL]at h
  cases e1:f d with
  |none=>rw[e1]at h;simp[cu]at h
  |some e =>
   rw[e1]at h
   simp![cu]at h
   cases e2:cu (ds.map f)with
   |none=>rw[e2]at h;cases h
   |some r =>
    rw[e2]at h
    cases h
    simp![ah]at hd
    obtain⟨v,t,rfl,q,hd⟩:=hd
    simp![iv]
    exact⟨v,t,rfl,hf d e v e1 q,zr S f hf e2 hd⟩
theorem rp{ι:List Addr}{μ:Sto}(S:Sim K ι H μ):∀(k:Nat) (d e:D) (v:V),ax μ k d=some e->IsD K ι H d v->IsW K H e v
 |0,d,e,v,h,hd=>by
  cases d<;>simp_all[ax,flat,IsD,IsW]<;>(subst h;simp[IsW])
 |k+1,d,e,v,h,hd=>by
  have ih:=rp S k
  have sub:∀{ι':List Addr} {ds es:List D} {xs:List V},ι' <+: ι->cu (ds.map (ax μ k))=some es->ah K ι' H ds xs->iv K H es xs:=λp h hd=>zr S _ ih h (ah.mono p (.refl _) _ _ hd)
  cases d with
  |tup ds =>
   simp![ax]at h
   cases e1:cu (ds.map (ax μ k))with
   |none=>rw[e1]at h;cases h
   |some es =>
    rw[e1]at h;cases h
    obtain⟨a,xs,rfl,hq,hds⟩:=fb hd
    simp![IsW]
    exact⟨a,xs,rfl,hq,sub (AG _) e1 hds⟩
  |lst ds =>
   simp![ax]at h
   cases e1:cu (ds.map (ax μ k))with
   |none=>rw[e1]at h;cases h
   |some es =>
    rw[e1]at h;cases h
    obtain⟨a,xs,rfl,hq,hds⟩:∃a xs,v=.ref a/\FzL K H a xs/\ah K ι H ds xs:=by simpa[IsD]using hd
    simp![IsW]
    exact⟨a,xs,rfl,.inr hq,sub (AG _) e1 hds⟩
  |loc n =>
   obtain⟨a,rfl,hn⟩:∃a,v=.ref a/\ι[n]? = some a:=by simpa[IsD]using hd
   simp![ax]at h
   cases em:μ[n]? with
   |none=>rw[em]at h;cases h
   |some o =>
    obtain⟨a',q',ho⟩:=S.at em
    rw[hn]at q';cases q'
    rw[em]at h
    cases o with
    |l ds =>
     simp only at h
     obtain⟨xs,f1,f2⟩:=ho
     cases e1:cu (ds.map (ax μ k))with
     |none=>rw[e1]at h;cases h
     |some es =>
      rw[e1]at h;cases h
      simp![IsW]
      exact⟨a,xs,rfl,(.inl f1),sub CG e1 f2⟩
    |r ds =>
     simp only at h
     obtain⟨xs,f1,f2⟩:=ho
     cases e1:cu (ds.map (ax μ k))with
     |none=>rw[e1]at h;cases h
     |some es =>
      rw[e1]at h;cases h
      simp![IsW]
      exact⟨a,xs,rfl,(.inl f1),sub (AG _) e1 f2⟩
    |_=>cases h
  |_=>simp![ax]at h;cases h;simpa[IsD,IsW]using hd
mutual
theorem IsW.ofD:∀{d:D} {v:V},IsD K [] H d v->IsW K H d v
 |.non,v,h=>by simpa[IsD,IsW]using h
 |.bl _,v,h=>by simpa[IsD,IsW]using h
 |.int _,v,h=>by simpa[IsD,IsW]using h
 |.str _,v,h=>by simpa[IsD,IsW]using h
 |.tup ds,v,h=>by
  obtain⟨a,xs,rfl,hq,hds⟩:=fb h
  simp![IsW]
  exact⟨a,xs,rfl,hq,iv.ofD hds⟩
 |.lst ds,v,h=>by
  obtain⟨a,xs,rfl,hq,hds⟩:∃a xs,v=.ref a/\FzL K H a xs/\ah K [] H ds xs:=by simpa[IsD]using h
  simp![IsW]
  exact⟨a,xs,rfl,.inr hq,iv.ofD hds⟩
 |.loc n,v,h=>by simp[IsD]at h
theorem iv.ofD:∀{ds:List D} {xs:List V},ah K [] H ds xs->iv K H ds xs
 | [],xs,h=>by simpa[ah,iv]using h
 |d::ds,xs,h=>by
  simp![ah]at h
  obtain⟨v,r,rfl,q,t⟩:=h
  simp![iv]
  exact⟨v,r,rfl,IsW.ofD q,iv.ofD t⟩
end
theorem mi{μ:Sto}{k:Nat}(ih:∀d e,ax μ k d=some e->D.pureN k e=true):∀{ds es:List D},cu (ds.map (ax μ k))=some es->es.all (D.pureN k)=true
 | [],es,h=>by simp![DB,cu,BB]at h;subst h;rfl
 |d::ds,es,h=>by
  simp![BL]at h
  cases e1:ax μ k d with
  |none=>rw[e1]at h;simp[cu]at h
  |some e =>
   rw[e1]at h
   simp![cu]at h
   cases e2:cu (ds.map (ax μ k))with
   |none=>rw[e2]at h;cases h
   |some r =>
    rw[e2]at h;cases h
    simp![BI,ih d e e1,mi ih e2,Bool.and_self]
theorem gv{μ:Sto}:∀(k:Nat) (d e:D),ax μ k d=some e->D.pureN k e=true
 |0,d,e,h=>by
  cases d<;>simp_all[ax,flat]<;>(subst h;rfl)
 |k+1,d,e,h=>by
  have ih:=gv (μ:=μ) k
  have mp:∀{ds:List D} {c:List D->D},(∀es,es.all (D.pureN k)=true->D.pureN (k+1) (c es)=true)->(cu (ds.map (ax μ k))).map c=some e->D.pureN (k+1) e=true:=λ{ds c} hc h=>by
   cases e1:cu (ds.map (ax μ k))with
   |none=>rw[e1]at h;cases h
   |some es=>rw[e1]at h;cases h;exact hc es (mi ih e1)
  cases d with
  |tup ds=>simp![ax]at h;exact mp (c:=.tup) (λes h=>h) h
  |lst ds=>simp![ax]at h;exact mp (c:=.lst) (λes h=>h) h
  |loc n =>
   simp![ax]at h
   cases em:μ[n]? with
   |none=>rw[em]at h;cases h
   |some o =>
    rw[em]at h
    cases o with
    |l ds=>exact mp (c:=.lst) (λes h=>h) h
    |r ds=>exact mp (c:=.lst) (λes h=>h) h
    |_=>cases h
  |_=>simp![ax]at h;cases h;rfl
end
open PySem.SeqAt (EqAt RcAt RcNeAt)
section
variable{X:Cx}{φ:Phi}{pins:List (Addr × Obj)}{σ:St}{H:Hp}{s:Shared}
theorem in1_units(A:Around):A.in1.units=A.units+1:=by
 first | rfl | simp[Around.in1]
theorem ko:∀(as bs:List D),as.length=bs.length->vd as bs=(List.range as.length).all λj=>deq (as.getD j .non) (bs.getD j .non)
 | [],[],_=>rfl
 |a::as,b::bs,h=>by
  rw[vd,ko as bs (by simpa using h),AQ,GJ,BI,DM]
  rfl
 | [],_::_,h=>by simp at h
 |_::_,[],h=>by simp at h
theorem pg:∀(as bs:List D),as.length≠bs.length->vd as bs=false
 | [],[],h=>absurd rfl h
 |a::as,b::bs,h=>by rw[vd,pg as bs (by simpa using h),Bool.and_false]
 | [],_::_,_=>rfl
 |_::_,[],_=>rfl
theorem uc:∀(k:Nat) (a b:D) (v:V),D.pureN k a=true->D.pureN k b=true->IsW X.K H a v->IsW X.K H b v->Inv X pins σ H s->deq a b=true:=by
 intro k
 have list:∀k,(∀(a b:D) (v:V),D.pureN k a=true->D.pureN k b=true->IsW X.K H a v->IsW X.K H b v->Inv X pins σ H s->deq a b=true) ->
   ∀(as bs:List D) (xs:List V),as.all (D.pureN k)=true->bs.all (D.pureN k)=true->iv X.K H as xs->iv X.K H bs xs->Inv X pins σ H s->vd as bs=true:=by
  intro k ih as
  induction as with
  |nil =>
   intro bs xs _ _ ha hb _
   have e:xs=[]:=by simpa[iv]using ha
   subst e
   have:=hb.length
   have e2:bs=[]:=by simpa using this.symm
   subst e2
   rfl
  |cons a as iha =>
   intro bs xs pa pb ha hb I
   cases bs with
   |nil =>
    have e:xs=[]:=by simpa[iv]using hb
    subst e
    have:=ha.length
    simp at this
   |cons b bs =>
    simp![iv]at ha hb
    obtain⟨v,r,e,q,t⟩:=ha
    obtain⟨v',r',e',q',t'⟩:=hb
    rw[e]at e'
    cases e'
    simp![BI,AY]at pa pb
    rw[vd,ih a b v pa.1 pb.1 q q' I,iha bs r pa.2 pb.2 t t' I]
    rfl
 have flat:∀(a b:D) (v:V),(∀ds,a≠.tup ds)->(∀ds,a≠.lst ds)->(∀n,a≠.loc n)->(∀n,b≠.loc n)->IsW X.K H a v->IsW X.K H b v->deq a b=true:=by
  intro a b v h1 h2 h3 h4 ha hb
  cases a with
  |tup ds=>exact absurd rfl (h1 ds)
  |lst ds=>exact absurd rfl (h2 ds)
  |loc n=>exact absurd rfl (h3 n)
  |_=>cases b<;>simp_all[IsW,deq]
 induction k with
 |zero =>
  intro a b v pa pb ha hb I
  refine flat a b v ?_ ?_ ?_ ?_ ha hb
  ·intro z e;subst e;simp[D.pureN]at pa
  ·intro z e;subst e;simp[D.pureN]at pa
  ·intro z e;subst e;simp[D.pureN]at pa
  ·intro z e;subst e;simp[D.pureN]at pb
 |succ k ih =>
  intro a b v pa pb ha hb I
  cases a with
  |loc n=>simp[D.pureN]at pa
  |tup as =>
   simp![IsW]at ha
   obtain⟨p,xs,rfl,hq,hds⟩:=ha
   cases b with
   |tup bs =>
    simp![IsW]at hb
    obtain⟨p',xs',e,hq',hds'⟩:=hb
    cases e
    have:=I.tuple_inj hq hq'
    subst this
    rw[deq]
    exact list k ih as bs xs (by simpa[D.pureN]using pa) (by simpa[D.pureN]using pb) hds hds' I
   |lst bs =>
    simp![IsW]at hb
    obtain⟨p',xs',e,hq',hds'⟩:=hb
    cases e
    exfalso
    obtain⟨its,_,⟨o,e1,c1,_⟩,_⟩:=I.tuple hq
    obtain⟨its',_,⟨o',n',e2,c2,_⟩,_⟩:=I.list hq'.sq
    rw[e1]at e2;cases e2
    rw[c1]at c2
    injection c2 with c3
    exact absurd c3 (by decide)
   |loc n=>simp[D.pureN]at pb
   |_=>simp[IsW]at hb
  |lst as =>
   simp![IsW]at ha
   obtain⟨p,xs,rfl,hq,hds⟩:=ha
   cases b with
   |lst bs =>
    simp![IsW]at hb
    obtain⟨p',xs',e,hq',hds'⟩:=hb
    cases e
    have:=I.list_inj hq.sq hq'.sq
    subst this
    rw[deq]
    exact list k ih as bs xs (by simpa[D.pureN]using pa) (by simpa[D.pureN]using pb) hds hds' I
   |tup bs =>
    simp![IsW]at hb
    obtain⟨p',xs',e,hq',hds'⟩:=hb
    cases e
    exfalso
    obtain⟨its,_,⟨o,e1,c1,_⟩,_⟩:=I.tuple hq'
    obtain⟨its',_,⟨o',n',e2,c2,_⟩,_⟩:=I.list hq.sq
    rw[e1]at e2;cases e2
    rw[c1]at c2
    injection c2 with c3
    exact absurd c3 (by decide)
   |loc n=>simp[D.pureN]at pb
   |_=>simp[IsW]at hb
  |_ =>
   refine flat _ b v (by intro _ z;cases z) (by intro _ z;cases z) (by intro _ z;cases z) ?_ ha hb
   intro z e;subst e;simp[D.pureN]at pb
theorem B0(I:Inv X pins σ H s){k:Nat}{A:Around}{a b:D}{x y:V}{u v:Value}(pa:D.pureN k a=true)(pb:D.pureN k b=true)(ha:IsW X.K H a x)(hb:IsW X.K H b y)(ru:RelV x u)(rv:RelV y v)(h:RcAt A s u v (deq a b)):EqAt A s u v (deq a b):=by
 intro prog w E Q q
 have fl:∀b t,u≠.float b t:=λb t z=>by
  subst z
  cases a with
  |non=>cases(show x=.non by simpa[IsW]using ha);exact nomatch (show Value.float b t=.none from ru)
  |bl c=>cases(show x=.bl c by simpa[IsW]using ha);exact nomatch (show Value.float b t=.bool c from ru)
  |int c=>cases(show x=.int c by simpa[IsW]using ha);obtain⟨_,z⟩:=ru;cases z
  |str c=>cases(show x=.str c by simpa[IsW]using ha);obtain⟨_,z⟩:=ru;cases z
  |loc n=>simp[IsW]at ha
  |tup _=>obtain⟨c,_,rfl,_⟩:=mh ha;exact nomatch (show Value.float b t=.ref c from ru)
  |lst ds =>
        obtain⟨c,_,rfl,_⟩:∃a xs,x=.ref a/\LsL X.K H a xs/\iv X.K H ds xs:=by simpa[IsW]using ha
        exact nomatch (show Value.float b t=.ref c from ru)
 unfold eqBool
 refine FU ?_
 by_cases e:(u==v)=true
 ·rw[if_pos e]
  have e':u=v:=by simpa using e
  subst e'
  cases ru.inj rv
  rw[uc k _ _ _ pa pb ha hb I]at q
  exact AB (FA (AI q))
 ·rw[if_neg e]
  have go:wpAny (model prog w) A (do
    let r <-richCompare .Eq u v
    truthOfDropped r) Q E s:=AB (h prog w _ _ (by exact CM q))
  cases u with
  |float b t=>exact absurd rfl (fl b t)
  |_=>exact go
theorem zt(A:Around)(a b:D)(x y:V)(u v:Value)(pa:D.pureN 0 a=true)(pb:D.pureN 0 b=true)(ha:IsW X.K H a x)(hb:IsW X.K H b y)(ru:RelV x u)(rv:RelV y v):RcAt A s u v (deq a b)/\RcNeAt A s u v (!deq a b):=by
 have b2:∀(a b:Int),decide (a=b)=(a==b):=λa b=>(DH a b).symm
 cases a with
 |tup _=>simp[D.pureN]at pa
 |lst _=>simp[D.pureN]at pa
 |loc _=>simp[D.pureN]at pa
 |non =>
  have ex:x=.non:=by simpa[IsW]using ha
  subst ex
  cases(show u=Value.none from ru)
  cases b with
  |tup _=>simp[D.pureN]at pb
  |lst _=>simp[D.pureN]at pb
  |loc _=>simp[D.pureN]at pb
  |non=>cases(show y=.non by simpa[IsW]using hb);cases(show v=Value.none from rv);exact⟨RcAt.none_none,RcNeAt.none_none⟩
  |bl c=>cases(show y=.bl c by simpa[IsW]using hb);cases(show v=Value.bool c from rv);exact⟨RcAt.none_bool _,RcNeAt.none_bool _⟩
  |int c=>cases(show y=.int c by simpa[IsW]using hb);obtain⟨t,rfl⟩:=rv;exact⟨RcAt.none_int _ _,RcNeAt.none_int _ _⟩
  |str c=>cases(show y=.str c by simpa[IsW]using hb);obtain⟨t,rfl⟩:=rv;exact⟨RcAt.none_str _ _,RcNeAt.none_str _ _⟩
 |bl d =>
  have ex:x=.bl d:=by simpa[IsW]using ha
  subst ex
  cases(show u=Value.bool d from ru)
  cases b with
  |tup _=>simp[D.pureN]at pb
  |lst _=>simp[D.pureN]at pb
  |loc _=>simp[D.pureN]at pb
  |non=>cases(show y=.non by simpa[IsW]using hb);cases(show v=Value.none from rv);exact⟨RcAt.bool_none _,RcNeAt.bool_none _⟩
  |bl c=>cases(show y=.bl c by simpa[IsW]using hb);cases(show v=Value.bool c from rv);exact⟨RcAt.bool_bool _ _,RcNeAt.bool_bool _ _⟩
  |int c=>cases(show y=.int c by simpa[IsW]using hb);obtain⟨t,rfl⟩:=rv;rw[deq,b2];exact⟨RcAt.bool_int _ _ _,RcNeAt.bool_int _ _ _⟩
  |str c=>cases(show y=.str c by simpa[IsW]using hb);obtain⟨t,rfl⟩:=rv;exact⟨RcAt.bool_str _ _ _,RcNeAt.bool_str _ _ _⟩
 |int d =>
  have ex:x=.int d:=by simpa[IsW]using ha
  subst ex
  obtain⟨t',rfl⟩:=ru
  cases b with
  |tup _=>simp[D.pureN]at pb
  |lst _=>simp[D.pureN]at pb
  |loc _=>simp[D.pureN]at pb
  |non=>cases(show y=.non by simpa[IsW]using hb);cases(show v=Value.none from rv);exact⟨RcAt.int_none _ _,RcNeAt.int_none _ _⟩
  |bl c=>cases(show y=.bl c by simpa[IsW]using hb);cases(show v=Value.bool c from rv);rw[deq,b2];exact⟨RcAt.int_bool _ _ _,RcNeAt.int_bool _ _ _⟩
  |int c=>cases(show y=.int c by simpa[IsW]using hb);obtain⟨t,rfl⟩:=rv;rw[deq,b2];exact⟨RcAt.int_int _ _ _ _,RcNeAt.int_int _ _ _ _⟩
  |str c=>cases(show y=.str c by simpa[IsW]using hb);obtain⟨t,rfl⟩:=rv;exact⟨RcAt.int_str _ _ _ _,RcNeAt.int_str _ _ _ _⟩
 |str d =>
  have ex:x=.str d:=by simpa[IsW]using ha
  subst ex
  obtain⟨t',rfl⟩:=ru
  cases b with
  |tup _=>simp[D.pureN]at pb
  |lst _=>simp[D.pureN]at pb
  |loc _=>simp[D.pureN]at pb
  |non=>cases(show y=.non by simpa[IsW]using hb);cases(show v=Value.none from rv);exact⟨RcAt.str_none _ _,RcNeAt.str_none _ _⟩
  |bl c=>cases(show y=.bl c by simpa[IsW]using hb);cases(show v=Value.bool c from rv);exact⟨RcAt.str_bool _ _ _,RcNeAt.str_bool _ _ _⟩
  |int c=>cases(show y=.int c by simpa[IsW]using hb);obtain⟨t,rfl⟩:=rv;exact⟨RcAt.str_int _ _ _ _,RcNeAt.str_int _ _ _ _⟩
  |str c =>
   cases(show y=.str c by simpa[IsW]using hb);obtain⟨t,rfl⟩:=rv
   have e:deq (.str d) (.str c)=(d==c):=by rw[deq];exact(DH d c).symm
   rw[e];exact⟨RcAt.str_str _ _ _ _,RcNeAt.str_str _ _ _ _⟩
theorem Ku(I:Inv X pins σ H s):∀(k:Nat) (A:Around) (a b:D) (x y:V) (u v:Value),A.units+k<cLine->D.pureN k a=true->D.pureN k b=true->IsW X.K H a x->IsW X.K H b y->RelV x u->RelV y v->RcAt A s u v (deq a b)/\RcNeAt A s u v (!deq a b):=by
 intro k
 induction k with
 |zero=>exact λA a b x y u v _ pa pb ha hb ru rv=>zt A a b x y u v pa pb ha hb ru rv
 |succ k ih =>
  intro A a b x y u v hu pa pb ha hb ru rv
  have hu0:A.units<cLine:=by lia
  have each:∀(as bs:List D) (xs ys:List V) (is js:List Value),as.all (D.pureN k)=true->bs.all (D.pureN k)=true->iv X.K H as xs->iv X.K H bs ys->bz xs is->bz ys js ->
    ∀j (h1:j<is.toArray.size) (h2:j<js.toArray.size),EqAt A.in1 s is.toArray[j] js.toArray[j] (deq (as.getD j .non) (bs.getD j .non)):=by
   intro as bs xs ys is js pas pbs has hbs hvx hvy j h1 h2
   have l1:as.length=is.length:=by rw[<-has.length,hvx.length]
   have l2:bs.length=js.length:=by rw[<-hbs.length,hvy.length]
   have j1:j<as.length:=by rw[l1];simpa using h1
   have j2:j<bs.length:=by rw[l2];simpa using h2
   obtain⟨p,e1,q1⟩:=has.get (AE j1)
   obtain⟨p',e1',q1'⟩:=hbs.get (AE j2)
   obtain⟨w,e2,q2⟩:=hvx.get e1
   obtain⟨w',e2',q2'⟩:=hvy.get e1'
   have g1:is.toArray[j]=w:=by
    have:is[j]? = some is.toArray[j]:=by simp[AE (show j<is.length by lia)]
    rw[this]at e2;exact BP e2
   have g2:js.toArray[j]=w':=by
    have:js[j]? = some js.toArray[j]:=by simp[AE (show j<js.length by lia)]
    rw[this]at e2';exact BP e2'
   rw[g1,g2,DL,DL,AE j1,AE j2]
   have pa:=AT.mp pas _ (EF j1)
   have pb:=AT.mp pbs _ (EF j2)
   exact B0 I pa pb q1 q1' q2 q2' (ih A.in1 _ _ p p' w w' (by rw[in1_units];lia) pa pb q1 q1' q2 q2').1
  have flat0:∀d:D,D.pureN (k+1) d=true->(∀ds,d≠.tup ds)->(∀ds,d≠.lst ds)->D.pureN 0 d=true:=λd h h1 h2=>by
   cases d with
   |tup ds=>exact absurd rfl (h1 ds)
   |lst ds=>exact absurd rfl (h2 ds)
   |loc n=>simp[D.pureN]at h
   |_=>rfl
  cases a with
  |loc n=>simp[D.pureN]at pa
  |tup as =>
   have pas:as.all (D.pureN k)=true:=by simpa[D.pureN]using pa
   obtain⟨p,xs,rfl,hq,hds⟩:=mh ha
   cases(show u=Value.ref p from ru)
   obtain⟨its,hv,ht,hz⟩:=I.tuple hq
   have ht':s.heap.IsTuple p its.toArray:=ht
   cases b with
   |loc n=>simp[D.pureN]at pb
   |tup bs =>
    have pbs:bs.all (D.pureN k)=true:=by simpa[D.pureN]using pb
    obtain⟨p',xs',rfl,hq',hds'⟩:=mh hb
    cases(show v=Value.ref p' from rv)
    obtain⟨its',hv',ht2,hz'⟩:=I.tuple hq'
    ·skip
     have ea:=each as bs xs xs' its its' pas pbs hds hds' hv hv'
     have q:=RcAt.tuples (A:=A) ht' (show s.heap.IsTuple p' its'.toArray from ht2) hu0 ea
     have q':=RcNeAt.tuples (A:=A) ht' (show s.heap.IsTuple p' its'.toArray from ht2) hu0 ea
     have l1:as.length=its.length:=by rw[<-hds.length,hv.length]
     have l2:bs.length=its'.length:=by rw[<-hds'.length,hv'.length]
     have e:((List.range (min its.toArray.size its'.toArray.size)).all (λj=>deq (as.getD j .non) (bs.getD j .non))&&its.toArray.size==its'.toArray.size)=deq (.tup as) (.tup bs):=by
      rw[deq]
      simp![AF,<-l1,<-l2]
      by_cases hl:as.length=bs.length
      ·rw[ko as bs hl,<-hl];simp
      ·rw[pg as bs hl];simp[hl]
     rw[e]at q q'
     exact⟨q,q'⟩
   |lst bs =>
    obtain⟨p',xs',rfl,hq',hds'⟩:∃a xs,y=.ref a/\LsL X.K H a xs/\iv X.K H bs xs:=by simpa[IsW]using hb
    cases(show v=Value.ref p' from rv)
    obtain⟨z,its',n',hv',_,hg⟩:=I.ls hq'
    exact⟨RcAt.tuple_list ht' ⟨_,hg,rfl,n',rfl⟩ hu0,RcNeAt.tuple_list ht' ⟨_,hg,rfl,n',rfl⟩ hu0⟩
   |non=>cases(show y=.non by simpa[IsW]using hb);cases(show v=Value.none from rv);exact⟨RcAt.tuple_none ht' hu0,RcNeAt.tuple_none ht' hu0⟩
   |bl c=>cases(show y=.bl c by simpa[IsW]using hb);cases(show v=Value.bool c from rv);exact⟨RcAt.tuple_bool _ ht' hu0,RcNeAt.tuple_bool _ ht' hu0⟩
   |int c=>cases(show y=.int c by simpa[IsW]using hb);obtain⟨t,rfl⟩:=rv;exact⟨RcAt.tuple_int _ _ ht' hu0,RcNeAt.tuple_int _ _ ht' hu0⟩
   |str c=>cases(show y=.str c by simpa[IsW]using hb);obtain⟨t,rfl⟩:=rv;exact⟨RcAt.tuple_str _ _ ht' hu0,RcNeAt.tuple_str _ _ ht' hu0⟩
  |lst as =>
   have pas:as.all (D.pureN k)=true:=by simpa[D.pureN]using pa
   obtain⟨p,xs,rfl,hq,hds⟩:∃a xs,x=.ref a/\LsL X.K H a xs/\iv X.K H as xs:=by simpa[IsW]using ha
   cases(show u=Value.ref p from ru)
   obtain⟨z,its,n,hv,_,hg⟩:=I.ls hq
   have hl':s.heap.IsList p its.toArray:=⟨_,hg,rfl,n,rfl⟩
   cases b with
   |loc n=>simp[D.pureN]at pb
   |lst bs =>
    have pbs:bs.all (D.pureN k)=true:=by simpa[D.pureN]using pb
    obtain⟨p',xs',rfl,hq',hds'⟩:∃a xs,y=.ref a/\LsL X.K H a xs/\iv X.K H bs xs:=by simpa[IsW]using hb
    cases(show v=Value.ref p' from rv)
    obtain⟨z',its',n',hv',_,hg'⟩:=I.ls hq'
    have hl2:s.heap.IsList p' its'.toArray:=⟨_,hg',rfl,n',rfl⟩
    ·skip
     have l1:as.length=its.length:=by rw[<-hds.length,hv.length]
     have l2:bs.length=its'.length:=by rw[<-hds'.length,hv'.length]
     by_cases hl:as.length=bs.length
     ·have ea:=each as bs xs xs' its its' pas pbs hds hds' hv hv'
      have ez:its.toArray.size=its'.toArray.size:=by simp![AF];lia
      have q:=RcAt.lists (A:=A) hl' hl2 ez hu0 ea
      have q':=RcNeAt.lists (A:=A) hl' hl2 ez hu0 ea
      have e:(List.range its.toArray.size).all (λj=>deq (as.getD j .non) (bs.getD j .non))=deq (.lst as) (.lst bs):=by
       rw[deq,ko as bs hl]
       simp![AF,<-l1]
      rw[e]at q q'
      exact⟨q,q'⟩
     ·rw[deq,pg as bs hl]
      exact⟨RcAt.lists_lengths hl' hl2 (by simp![AF];simp;lia) hu0,RcNeAt.lists_lengths hl' hl2 (by simp![AF];simp;lia) hu0⟩
   |tup bs =>
    obtain⟨p',xs',rfl,hq',hds'⟩:=mh hb
    cases(show v=Value.ref p' from rv)
    obtain⟨its',hv',ht2,hz'⟩:=I.tuple hq'
    exact⟨RcAt.list_tuple hl' (show s.heap.IsTuple p' its'.toArray from ht2) hu0,RcNeAt.list_tuple hl' (show s.heap.IsTuple p' its'.toArray from ht2) hu0⟩
   |non=>cases(show y=.non by simpa[IsW]using hb);cases(show v=Value.none from rv);exact⟨RcAt.list_none hl' hu0,RcNeAt.list_none hl' hu0⟩
   |bl c=>cases(show y=.bl c by simpa[IsW]using hb);cases(show v=Value.bool c from rv);exact⟨RcAt.list_bool _ hl' hu0,RcNeAt.list_bool _ hl' hu0⟩
   |int c=>cases(show y=.int c by simpa[IsW]using hb);obtain⟨t,rfl⟩:=rv;exact⟨RcAt.list_int _ _ hl' hu0,RcNeAt.list_int _ _ hl' hu0⟩
   |str c=>cases(show y=.str c by simpa[IsW]using hb);obtain⟨t,rfl⟩:=rv;exact⟨RcAt.list_str _ _ hl' hu0,RcNeAt.list_str _ _ hl' hu0⟩
  |_ =>
   cases b with
   |loc n=>simp[D.pureN]at pb
   |tup bs =>
    obtain⟨p',xs',rfl,hq',hds'⟩:=mh hb
    cases(show v=Value.ref p' from rv)
    obtain⟨its',hv',ht2,hz'⟩:=I.tuple hq'
    have ht':s.heap.IsTuple p' its'.toArray:=ht2
    first
    |(cases(show x=.non by simpa[IsW]using ha);cases(show u=Value.none from ru);exact⟨RcAt.none_tuple ht' hu0,RcNeAt.none_tuple ht' hu0⟩)
    |(cases(show x=.bl _ by simpa[IsW]using ha);cases(show u=Value.bool _ from ru);exact⟨RcAt.bool_tuple _ ht' hu0,RcNeAt.bool_tuple _ ht' hu0⟩)
    |(cases(show x=.int _ by simpa[IsW]using ha);obtain⟨t,rfl⟩:=ru;exact⟨RcAt.int_tuple _ _ ht' hu0,RcNeAt.int_tuple _ _ ht' hu0⟩)
    |(cases(show x=.str _ by simpa[IsW]using ha);obtain⟨t,rfl⟩:=ru;exact⟨RcAt.str_tuple _ _ ht' hu0,RcNeAt.str_tuple _ _ ht' hu0⟩)
   |lst bs =>
    obtain⟨p',xs',rfl,hq',hds'⟩:∃a xs,y=.ref a/\LsL X.K H a xs/\iv X.K H bs xs:=by simpa[IsW]using hb
    cases(show v=Value.ref p' from rv)
    obtain⟨z',its',n',hv',_,hg'⟩:=I.ls hq'
    have hl':s.heap.IsList p' its'.toArray:=⟨_,hg',rfl,n',rfl⟩
    first
    |(cases(show x=.non by simpa[IsW]using ha);cases(show u=Value.none from ru);exact⟨RcAt.none_list hl' hu0,RcNeAt.none_list hl' hu0⟩)
    |(cases(show x=.bl _ by simpa[IsW]using ha);cases(show u=Value.bool _ from ru);exact⟨RcAt.bool_list _ hl' hu0,RcNeAt.bool_list _ hl' hu0⟩)
    |(cases(show x=.int _ by simpa[IsW]using ha);obtain⟨t,rfl⟩:=ru;exact⟨RcAt.int_list _ _ hl' hu0,RcNeAt.int_list _ _ hl' hu0⟩)
    |(cases(show x=.str _ by simpa[IsW]using ha);obtain⟨t,rfl⟩:=ru;exact⟨RcAt.str_list _ _ hl' hu0,RcNeAt.str_list _ _ hl' hu0⟩)
   |_=>exact zt A _ _ x y u v rfl rfl ha hb ru rv
end
open PySem.SeqAt (EqAt RcAt)
section
variable{X:Cx}{φ:Phi}{pins:List (Addr × Obj)}{σ:St}{H:Hp}{s:Shared}
theorem Jk(hu:X.A.units+8<cLine):OpR X (compareOp .Eq) (rOp X.K (cpD .eq)):=by
 intro pins s σ H x y v u Q I rx ry ⟨ι,a,b,μ,hS,ha,hb,h⟩
 unfold cpD at h
 simp only at h
 split at h
 ·rename_i hp
  exact(Ku I 8 X.A a b x y v u hu hp.1 hp.2 (IsW.ofD (IsD.pur hp.1 ha)) (IsW.ofD (IsD.pur hp.2 hb)) rx ry).1 _ _ _ _ ⟨.bl (deq a b),H,I,rfl,h.ok hS (by simp[IsD])⟩
 ·exact h.elim
end
open PySem.SeqAt (EqAt RcNeAt)
section
variable{X:Cx}{φ:Phi}{pins:List (Addr × Obj)}{σ:St}{H:Hp}{s:Shared}
theorem Jl(hu:X.A.units+8<cLine):OpR X (compareOp .NotEq) (rOp X.K (cpD .ne)):=by
 intro pins s σ H x y v u Q I rx ry ⟨ι,a,b,μ,hS,ha,hb,h⟩
 unfold cpD at h
 simp only at h
 split at h
 ·rename_i hp
  exact(Ku I 8 X.A a b x y v u hu hp.1 hp.2 (IsW.ofD (IsD.pur hp.1 ha)) (IsW.ofD (IsD.pur hp.2 hb)) rx ry).2 _ _ _ _ ⟨.bl (!deq a b),H,I,rfl,h.ok hS (by simp[IsD])⟩
 ·exact h.elim
end
end Lp
namespace LT
open PySem PySem.Spec PyProof.Rows HT
open PySem.SeqAt
open PySem.AutoSeq1 (wpAny_loadPart')
open PySem.MeetsSeq PySem.MeetsSeq2 PySem.MeetsSeq3
theorem Sh(A:Around)(s:Shared)(a:Int)(t:Tok)(c:Int)(u:Tok)(prog:Program)(w:World)(E:Value->Shared->Prop)(Q:Value->Shared->Prop)(h:Q (.bool (decide (a<=c))) s) :
  wpAny (model prog w) A (richCompare .LtE (.int a t) (.int c u)) Q E s :=
 (PyProof.Rows.le_int h:wpAny (model prog w) A (compareOp .LtE (.int a t) (.int c u)) Q E s)
theorem B1(l b:Addr)(items items2:Array Value)(n n2:Nat)(dd dd2:Option Addr)(sl sl2:Array (Option Value))(ns ms:List Int)(ii:IntsAre items.toList ns)(jj:IntsAre items2.toList ms) :
  Meets (Builtin.«tuple.__le__» ⟨[.ref l,.ref b],[]⟩) (λ_ R s=>s.heap.get? l=some {cls:=.type "tuple",dict:=dd,data:=.seq items n,slots:=sl}/\s.heap.get? b=some {cls:=.type "tuple",dict:=dd2,data:=.seq items2 n2,slots:=sl2}/\R (.ok (.ret (.bool (!lexLt ms ns)))) s) :=
 .of_wp λprog w A R s h=>by
  obtain⟨hh0,g,d,tk0,os0⟩:=s;obtain⟨ql,hb,h⟩:=h
  have sub0:=DP
  have n1:ns.length=items.size:=by rw[<-ii.length,BO]
  have n2e:ms.length=items2.size:=by rw[<-jj.length,BO]
  wp_walk using CF ql,CF hb,FY _ (λrest b s'=>b.1=none/\s'=⟨hh0,g,d,tk0,os0⟩/\∃(us1 us2:List Value) (ms1 ms2:List Int),rest=us1.zip us2 /\
   IntsAre us1 ms1/\IntsAre us2 ms2/\ms1.length+items2.size=ms2.length+items.size/\R (.ok (.ret (.bool (!lexLt ms2 ms1)))) ⟨hh0,g,d,tk0,os0⟩) _
  case turn =>
   rintro⟨y,x⟩ rest b s' ⟨p0,rfl,us1,us2,ms1,ms2,pz,pv,pw,pl,fin0⟩
   cases pv with
   |nil=>rw[FK]at pz;cases pz
   |cons a t pv1 =>
    cases pw with
    |nil=>rw[EX]at pz;cases pz
    |cons c u pw1 =>
     rw[CV]at pz
     injection pz with pyx pr
     injection pyx with py px
     subst py px
     rw[fj]at fin0
     simp![AQ]at pl
     obtain⟨same,eq0,eqi⟩:=o3 A.in1 ⟨hh0,g,d,tk0,os0⟩ a t c u
     refine AB (eq0 prog w _ _ ?_)
     cases same with
     |true =>
      rw[if_pos (eqi.mp rfl).symm]at fin0
      wp_walk
      exact⟨rfl,rfl,_,_,_,_,pr,pv1,pw1,by lia,fin0⟩
     |false =>
      have hne:¬c=a:=λq=>absurd (eqi.mpr q.symm) BF
      rw[if_neg hne]at fin0
      have ed:(!decide (c<a))=decide (a<=c):=by
       by_cases hc:c<a
       ·rw[decide_eq_true hc,decide_eq_false (by lia)];rfl
       ·rw[decide_eq_false hc,decide_eq_true (by lia)];rfl
      rw[ed]at fin0
      have low:=Sh A.in1 ⟨hh0,g,d,tk0,os0⟩ a t c u prog w
      wp_walk using low
      exact⟨_,rfl,by simpa using fin0⟩
  case fin =>
   rintro⟨c1,c2⟩ s' ⟨p0,rfl,us1,us2,ms1,ms2,pz,pv,pw,pl,fin0⟩
   simp only at p0
   subst p0
   have hv:(!lexLt ms2 ms1)=decide (items.size<=items2.size):=by
    cases pv with
    |nil =>
     cases pw with
     |nil =>
      simp![AZ]at pl
      rw[g7,decide_eq_true (by lia)];rfl
     |cons c u hw =>
      simp![AZ,AQ]at pl
      rw[gi,decide_eq_true (by lia)];rfl
    |cons a t hv =>
     cases pw with
     |nil =>
      simp![AZ,AQ]at pl
      rw[gh,decide_eq_false (by lia)];rfl
     |cons c u hw =>
      rw[CV]at pz
      cases pz
   rw[hv]at fin0
   wp_walk
   exact⟨_,rfl,by simpa[Builtin.Tuple.tupleCompareSizes]using fin0⟩
  case h =>
   exact⟨rfl,rfl,items.toList,items2.toList,ns,ms,rfl,ii,jj,by lia,h⟩
theorem Jm {prog:Program} {w:World} {A:Around} {E:Value->Shared->Prop} {s:Shared} {l b:Addr} {items items2:Array Value} {ns ms:List Int} {Q:Value->Shared->Prop} (hl:IsTup s.heap l items) (hb:IsTup s.heap b items2) (hi:IntsAre items.toList ns) (hj:IntsAre items2.toList ms)
  (hu:A.units<cLine) (h:Q (.bool (!lexLt ms ns)) s):wpAny (model prog w) A (compareOp .LtE (.ref l) (.ref b)) Q E s:=by
 obtain⟨⟨_,dd,_,sl⟩,ho,rfl,n,rfl⟩:=id hl
 obtain⟨⟨_,dd2,_,sl2⟩,ho2,rfl,n2,rfl⟩:=id hb
 exact DY (op:=.LtE) ⟨_,ho,rfl⟩ ⟨_,ho2,rfl⟩ PySem.F.slot_tuple_le PySem.F.entry_tuple_le (PySem.F.args_tuple_le_2 _ _) (B1 l b items items2 n n2 dd dd2 sl sl2 ns ms hi hj)
  ⟨ho,ho2,show Value.bool (!lexLt ms ns)≠Value.notImplemented/\Q (.bool (!lexLt ms ns)) s from⟨(λx=>nomatch x),h⟩⟩ hu
theorem Si(A:Around)(s:Shared)(a:Int)(t:Tok)(c:Int)(u:Tok)(prog:Program)(w:World)(E:Value->Shared->Prop)(Q:Value->Shared->Prop)(h:Q (.bool (decide (c<=a))) s) :
  wpAny (model prog w) A (richCompare .GtE (.int a t) (.int c u)) Q E s :=
 (PyProof.Rows.ge_int h:wpAny (model prog w) A (compareOp .GtE (.int a t) (.int c u)) Q E s)
theorem B2(l b:Addr)(items items2:Array Value)(n n2:Nat)(dd dd2:Option Addr)(sl sl2:Array (Option Value))(ns ms:List Int)(ii:IntsAre items.toList ns)(jj:IntsAre items2.toList ms) :
  Meets (Builtin.«tuple.__ge__» ⟨[.ref l,.ref b],[]⟩) (λ_ R s=>s.heap.get? l=some {cls:=.type "tuple",dict:=dd,data:=.seq items n,slots:=sl}/\s.heap.get? b=some {cls:=.type "tuple",dict:=dd2,data:=.seq items2 n2,slots:=sl2}/\R (.ok (.ret (.bool (!lexLt ns ms)))) s) :=
 .of_wp λprog w A R s h=>by
  obtain⟨hh0,g,d,tk0,os0⟩:=s;obtain⟨ql,hb,h⟩:=h
  have sub0:=DP
  have n1:ns.length=items.size:=by rw[<-ii.length,BO]
  have n2e:ms.length=items2.size:=by rw[<-jj.length,BO]
  wp_walk using CF ql,CF hb,FY _ (λrest b s'=>b.1=none/\s'=⟨hh0,g,d,tk0,os0⟩/\∃(us1 us2:List Value) (ms1 ms2:List Int),rest=us1.zip us2 /\
   IntsAre us1 ms1/\IntsAre us2 ms2/\ms1.length+items2.size=ms2.length+items.size/\R (.ok (.ret (.bool (!lexLt ms1 ms2)))) ⟨hh0,g,d,tk0,os0⟩) _
  case turn =>
   rintro⟨y,x⟩ rest b s' ⟨p0,rfl,us1,us2,ms1,ms2,pz,pv,pw,pl,fin0⟩
   cases pv with
   |nil=>rw[FK]at pz;cases pz
   |cons a t pv1 =>
    cases pw with
    |nil=>rw[EX]at pz;cases pz
    |cons c u pw1 =>
     rw[CV]at pz
     injection pz with pyx pr
     injection pyx with py px
     subst py px
     rw[fj]at fin0
     simp![AQ]at pl
     obtain⟨same,eq0,eqi⟩:=o3 A.in1 ⟨hh0,g,d,tk0,os0⟩ a t c u
     refine AB (eq0 prog w _ _ ?_)
     cases same with
     |true =>
      rw[if_pos (eqi.mp rfl)]at fin0
      wp_walk
      exact⟨rfl,rfl,_,_,_,_,pr,pv1,pw1,by lia,fin0⟩
     |false =>
      have hne:¬a=c:=λq=>absurd (eqi.mpr q) BF
      rw[if_neg hne]at fin0
      have ed:(!decide (a<c))=decide (c<=a):=by
       by_cases hc:a<c
       ·rw[decide_eq_true hc,decide_eq_false (by lia)];rfl
       ·rw[decide_eq_false hc,decide_eq_true (by lia)];rfl
      rw[ed]at fin0
      have low:=Si A.in1 ⟨hh0,g,d,tk0,os0⟩ a t c u prog w
      wp_walk using low
      exact⟨_,rfl,by simpa using fin0⟩
  case fin =>
   rintro⟨c1,c2⟩ s' ⟨p0,rfl,us1,us2,ms1,ms2,pz,pv,pw,pl,fin0⟩
   simp only at p0
   subst p0
   have hv:(!lexLt ms1 ms2)=decide (items2.size<=items.size):=by
    cases pv with
    |nil =>
     cases pw with
     |nil =>
      simp![AZ]at pl
      rw[g7,decide_eq_true (by lia)];rfl
     |cons c u hw =>
      simp![AZ,AQ]at pl
      rw[gh,decide_eq_false (by lia)];rfl
    |cons a t hv =>
     cases pw with
     |nil =>
      simp![AZ,AQ]at pl
      rw[gi,decide_eq_true (by lia)];rfl
     |cons c u hw =>
      rw[CV]at pz
      cases pz
   rw[hv]at fin0
   wp_walk
   exact⟨_,rfl,by simpa[Builtin.Tuple.tupleCompareSizes]using fin0⟩
  case h =>
   exact⟨rfl,rfl,items.toList,items2.toList,ns,ms,rfl,ii,jj,by lia,h⟩
theorem Jn {prog:Program} {w:World} {A:Around} {E:Value->Shared->Prop} {s:Shared} {l b:Addr} {items items2:Array Value} {ns ms:List Int} {Q:Value->Shared->Prop} (hl:IsTup s.heap l items) (hb:IsTup s.heap b items2) (hi:IntsAre items.toList ns) (hj:IntsAre items2.toList ms)
  (hu:A.units<cLine) (h:Q (.bool (!lexLt ns ms)) s):wpAny (model prog w) A (compareOp .GtE (.ref l) (.ref b)) Q E s:=by
 obtain⟨⟨_,dd,_,sl⟩,ho,rfl,n,rfl⟩:=id hl
 obtain⟨⟨_,dd2,_,sl2⟩,ho2,rfl,n2,rfl⟩:=id hb
 exact DY (op:=.GtE) ⟨_,ho,rfl⟩ ⟨_,ho2,rfl⟩ PySem.F.slot_tuple_ge PySem.F.entry_tuple_ge (PySem.F.args_tuple_ge_2 _ _) (B2 l b items items2 n n2 dd dd2 sl sl2 ns ms hi hj)
  ⟨ho,ho2,show Value.bool (!lexLt ns ms)≠Value.notImplemented/\Q (.bool (!lexLt ns ms)) s from⟨(λx=>nomatch x),h⟩⟩ hu
end LT
namespace L2
open PySem PySem.Spec PyProof.Rows
variable{X:Cx}
theorem Jo(hu:X.A.units<cLine){pins s σ H x y v u Q}(I:Inv X pins σ H s)(rx:RelV x v)(ry:RelV y u)(h:∃a b ns ms,x=.ref a/\y=.ref b/\SqT X.K H a (ns.map V.int)/\SqT X.K H b (ms.map V.int)/\Q (.bl (!HT.lexLt ms ns)) H) :
  wpAny (model X.prog X.w) X.A (compareOp .LtE v u) (EP X pins σ Q) X.xe s:=by
 obtain⟨c,d,ns,ms,rfl,rfl,hc,hd,q⟩:=h
 cases rx
 cases ry
 obtain⟨us,r1,p1,_⟩:=I.tuple hc
 obtain⟨us2,r2,p2,_⟩:=I.tuple hd
 exact LT.Jm p1 p2 (intsAre_of r1) (intsAre_of r2) hu ⟨.bl (!HT.lexLt ms ns),H,I,rfl,q⟩
theorem Jp(hu:X.A.units<cLine){pins s σ H x y v u Q}(I:Inv X pins σ H s)(rx:RelV x v)(ry:RelV y u)(h:∃a b ns ms,x=.ref a/\y=.ref b/\SqT X.K H a (ns.map V.int)/\SqT X.K H b (ms.map V.int)/\Q (.bl (!HT.lexLt ns ms)) H) :
  wpAny (model X.prog X.w) X.A (compareOp .GtE v u) (EP X pins σ Q) X.xe s:=by
 obtain⟨c,d,ns,ms,rfl,rfl,hc,hd,q⟩:=h
 cases rx
 cases ry
 obtain⟨us,r1,p1,_⟩:=I.tuple hc
 obtain⟨us2,r2,p2,_⟩:=I.tuple hd
 exact LT.Jn p1 p2 (intsAre_of r1) (intsAre_of r2) hu ⟨.bl (!HT.lexLt ns ms),H,I,rfl,q⟩
end L2
namespace Lp
open PySem PySem.Spec PyProof.Rows L2
open PySem.SeqAt (EqAt RcAt)
noncomputable def opOf:Cp->CmpOp
 |.eq=>.Eq
 |.ne=>.NotEq
 |.eqM=>.Eq
 |.neM=>.NotEq
 |.lt=>.Lt
 |.le=>.LtE
 |.gt=>.Gt
 |.ge=>.GtE
 |.is=>.Is
 |.isnot=>.IsNot
 |.in_=>.In
 |.notin=>.NotIn
section
variable{X:Cx}{φ:Phi}{pins:List (Addr × Obj)}{σ:St}{H:Hp}{s:Shared}
theorem ints_of{K:PySem.W.Frag}{ι:List Addr}:∀{ds:List D} {xs:List V} {ns:List Int},ah K ι H ds xs->iq ds=some ns->xs=ns.map V.int
 | [],xs,ns,h,e=>by
  simp![iq,BB]at e
  subst e
  simpa[ah]using h
 |d::ds,xs,ns,h,e=>by
  simp![ah]at h
  obtain⟨v,r,rfl,q,t⟩:=h
  cases d with
  |int i =>
   simp![iq,GK]at e
   obtain⟨ms,e1,rfl⟩:=e
   cases c6 q
   rw[ints_of t e1]
   rfl
  |_=>simp[iq]at e
theorem vi{K:PySem.W.Frag}{ι:List Addr}:∀{ds:List D} {xs:List V} {ns:List Bool},ah K ι H ds xs->j0 ds=some ns->xs=ns.map V.bl
 | [],xs,ns,h,e=>by
  simp![j0,BB]at e
  subst e
  simpa[ah]using h
 |d::ds,xs,ns,h,e=>by
  simp![ah]at h
  obtain⟨v,r,rfl,q,t⟩:=h
  cases d with
  |bl i =>
   simp![j0,GK]at e
   obtain⟨ms,e1,rfl⟩:=e
   cases ro q
   rw[vi t e1]
   rfl
  |_=>simp[j0]at e
theorem ud{K:PySem.W.Frag}{ι:List Addr}{d:D}{v:V}(h:IsD K ι H d v)(hf:flat d=true):n8 v=true:=by
 cases d with
 |tup _=>simp[flat]at hf
 |lst _=>simp[flat]at hf
 |loc _=>simp[flat]at hf
 |_=>have e:=h;simp![IsD]at e;subst e;rfl
theorem ph{K:PySem.W.Frag}{ι:List Addr}:∀{ds:List D} {xs:List V},ah K ι H ds xs->ds.all flat=true->xs.all n8=true
 | [],xs,h,_=>by
  have e:xs=[]:=by simpa[ah]using h
  subst e
  rfl
 |d::ds,xs,h,hf=>by
  simp![ah]at h
  obtain⟨v,r,rfl,q,t⟩:=h
  simp![BI,AY]at hf ⊢
  exact⟨ud q hf.1,ph t hf.2⟩
theorem Jq{K:PySem.W.Frag}{ι:List Addr}{d e:D}{v w:V}(hd:IsD K ι H d v)(he:IsD K ι H e w)(fd:flat d=true)(fe:flat e=true):eqV v w=deq d e:=by
 have b2:∀(a b:Int),decide (a=b)=(a==b):=λa b=>(DH a b).symm
 have b3:∀(a b:Str),decide (a=b)=(a==b):=λa b=>(DH a b).symm
 cases d with
 |tup _=>simp[flat]at fd
 |lst _=>simp[flat]at fd
 |loc _=>simp[flat]at fd
 |_ =>
  cases e with
  |tup _=>simp[flat]at fe
  |lst _=>simp[flat]at fe
  |loc _=>simp[flat]at fe
  |_ =>
   simp![IsD]at hd he
   subst hd he
   simp![eqV,deq,b2,b3]
theorem zu{K:PySem.W.Frag}{ι:List Addr}{e:D}{w:V}(he:IsD K ι H e w)(fe:flat e=true):∀{ds:List D} {xs:List V},ah K ι H ds xs->ds.all flat=true->inV w xs=ds.any λy=>deq y e
 | [],xs,h,_=>by
  have e:xs=[]:=by simpa[ah]using h
  subst e
  rfl
 |d::ds,xs,h,hf=>by
  simp![ah]at h
  obtain⟨v,r,rfl,q,t⟩:=h
  simp![BI,AY]at hf
  have ih:=zu he fe t hf.2
  unfold inV at ih ⊢
  rw[FV,FV,Jq q he hf.1 fe,ih]
theorem is_bool{u:Bool}{v:Bool}{Q:VK}(I:Inv X pins σ H s)(q:Q (.bl (u==v)) H):wpAny (model X.prog X.w) X.A (compareOp .Is (.bool u) (.bool v)) (EP X pins σ Q) X.xe s:=by
 cases u<;>cases v<;>exact AI ⟨.bl _,H,I,rfl,q⟩
theorem isnot_bool{u:Bool}{v:Bool}{Q:VK}(I:Inv X pins σ H s)(q:Q (.bl (!(u==v))) H):wpAny (model X.prog X.w) X.A (compareOp .IsNot (.bool u) (.bool v)) (EP X pins σ Q) X.xe s:=by
 cases u<;>cases v<;>exact AI ⟨.bl _,H,I,rfl,q⟩
theorem rq{v:Bool}{Q:VK}(I:Inv X pins σ H s)(q:Q (.bl false) H):wpAny (model X.prog X.w) X.A (compareOp .Is .none (.bool v)) (EP X pins σ Q) X.xe s:=by
 cases v<;>exact AI ⟨.bl _,H,I,rfl,q⟩
theorem mj{v:Bool}{Q:VK}(I:Inv X pins σ H s)(q:Q (.bl true) H):wpAny (model X.prog X.w) X.A (compareOp .IsNot .none (.bool v)) (EP X pins σ Q) X.xe s:=by
 cases v<;>exact AI ⟨.bl _,H,I,rfl,q⟩
noncomputable def kD:Key->D
 |.inl i=>.int i
 |.inr x=>.str x
theorem Fg{K:PySem.W.Frag}{ι:List Addr}{d:D}{x:V}(hk:yq d=true)(h:IsD K ι H d x):∃k,d=kD k/\x=kV k:=by
 cases d with
 |int i=>exact⟨.inl i,rfl,by simpa[IsD,kV]using h⟩
 |str i=>exact⟨.inr i,rfl,by simpa[IsD,kV]using h⟩
 |_=>simp[yq]at hk
theorem Fh{K:PySem.W.Frag}{ι:List Addr}{d:D}{k:Key}(h:IsD K ι H d (kV k)):d=kD k:=by
 cases k with
 |inl i=>cases d<;>simp_all[IsD,kV,kD]
 |inr i=>cases d<;>simp_all[IsD,kV,kD]
theorem Dr(a b:Key):deq (kD a) (kD b)=decide (a=b):=by
 cases a<;>cases b<;>simp[kD,deq]
noncomputable def OR(K:PySem.W.Frag)(ι:List Addr)(H:Hp):Option D->Option V->Prop
 |some d,some v=>IsD K ι H d v
 |none,none=>True
 |_,_=>False
theorem OR.isSome{K:PySem.W.Frag}{ι:List Addr}{o:Option D}{p:Option V}(h:OR K ι H o p):p.isSome=o.isSome:=by
 cases o<;>cases p<;>first | rfl | exact h.elim
theorem pj{K:PySem.W.Frag}{ι:List Addr}{k:Key}:∀{kvs:List (D×D)} {xs:List (Key×V)},Bd K ι H kvs xs->OR K ι H (zi (kD k) kvs) (yp xs k)
 |_,_,.nil=>True.intro
 |p::kvs,q::xs,.cons h t=>by
  obtain⟨d,e⟩:=p
  have hk:=Fh h.1
  dsimp only at hk
  subst hk
  have ih:=pj (k:=k) (kvs:=kvs) (xs:=xs) t
  by_cases z:q.1=k
  ·rw[o7 z,zi,Dr,if_pos (by simpa using z)]
   exact h.2
  ·rw[o8 z,zi,Dr,if_neg (by simpa using z)]
   exact ih
theorem zv{K:PySem.W.Frag}{ι:List Addr}{μ:Sto}{o k:D}{x y:V}{kvs:List (D×D)}(hS:Sim K ι H μ)(ho:IsD K ι H o x)(hk:IsD K ι H k y)(h:dictAt μ o k=some kvs) :
  ∃p q xs,x=.ref p/\y=kV q/\k=kD q/\Rd H p (.dK xs)/\Bd K ι H kvs xs:=by
 cases o with
 |loc n =>
  obtain⟨p,rfl,hp⟩:∃p,x=.ref p/\ι[n]? = some p:=by simpa[IsD]using ho
  simp![dictAt]at h
  have up:∀{xs:List (Key×V)},Bd K [] H kvs xs->Bd K ι H kvs xs:=λz=>Paired.mapP z λp r z=>⟨z.1,IsD.mono CG (.refl _) _ _ z.2⟩
  have fin:∀{ob:O} {kvs':List (D×D)},μ[n]? = some ob->(if yq k=true then some kvs' else none)=some kvs->(OIs K ι H p ob->∃xs,Rd H p (.dK xs)/\(kvs'=kvs->Bd K ι H kvs xs)) ->
    ∃p' q xs,V.ref p=.ref p'/\y=kV q/\k=kD q/\Rd H p' (.dK xs)/\Bd K ι H kvs xs:=by
   intro ob kvs' em h f
   split at h
   ·rename_i hkey
    cases h
    obtain⟨a',q',ob⟩:=hS.at em
    rw[hp]at q';cases q'
    obtain⟨xs,e1,e2⟩:=f ob
    obtain⟨q,rfl,rfl⟩:=Fg hkey hk
    exact⟨p,q,xs,rfl,rfl,rfl,e1,e2 rfl⟩
   ·cases h
  split at h
  ·rename_i kvs' em
   exact fin em h fun⟨xs,e1,e2⟩=>⟨xs,.inl e1,λz=>by subst z;exact up e2⟩
  ·rename_i kvs' em
   exact fin em h fun⟨xs,e1,e2⟩=>⟨xs,.inl e1,λz=>by subst z;exact e2⟩
  ·rename_i kvs' em
   exact fin em h fun⟨o,xs,e1,e2⟩=>⟨xs,.inr ⟨o,e1⟩,λz=>by subst z;exact up e2⟩
  ·cases h
 |_=>simp[dictAt]at h
theorem zw(cp:Cp)(hu:X.A.units+8<cLine):OpR X (compareOp (opOf cp)) (rOp X.K (cpD cp)):=by
 have hu0:X.A.units<cLine:=by lia
 cases cp with
 |eq=>exact Jk hu
 |ne=>exact Jl hu
 |eqM =>
  intro pins s σ H x y v u Q I rx ry ⟨ι,a,b,μ,hS,ha,hb,h⟩
  simp![cpD]at h
  cases e1:ax μ 8 a with
  |none=>simp![e1]at h;exact h.elim
  |some a1 =>
   cases e2:ax μ 8 b with
   |none=>simp![e1,e2]at h;exact h.elim
   |some b1 =>
    simp![e1,e2]at h
    exact(Ku I 8 X.A a1 b1 x y v u hu (gv 8 _ _ e1) (gv 8 _ _ e2) (rp hS 8 _ _ _ e1 ha) (rp hS 8 _ _ _ e2 hb) rx ry).1 _ _ _ _ ⟨.bl (deq a1 b1),H,I,rfl,h.ok hS (by simp[IsD])⟩
 |neM =>
  intro pins s σ H x y v u Q I rx ry ⟨ι,a,b,μ,hS,ha,hb,h⟩
  simp![cpD]at h
  cases e1:ax μ 8 a with
  |none=>simp![e1]at h;exact h.elim
  |some a1 =>
   cases e2:ax μ 8 b with
   |none=>simp![e1,e2]at h;exact h.elim
   |some b1 =>
    simp![e1,e2]at h
    exact(Ku I 8 X.A a1 b1 x y v u hu (gv 8 _ _ e1) (gv 8 _ _ e2) (rp hS 8 _ _ _ e1 ha) (rp hS 8 _ _ _ e2 hb) rx ry).2 _ _ _ _ ⟨.bl (!deq a1 b1),H,I,rfl,h.ok hS (by simp[IsD])⟩
 |lt =>
  intro pins s σ H x y v u Q I rx ry ⟨ι,a,b,μ,hS,ha,hb,h⟩
  simp![cpD]at h
  split at h
  ·cases c6 ha;cases c6 hb
   exact Ll pins s σ H _ _ v u Q I rx ry ⟨_,_,rfl,rfl,h.ok hS (by simp[IsD])⟩
  ·obtain⟨p,xs,rfl,hq,hds⟩:=fb ha
   obtain⟨p',xs',rfl,hq',hds'⟩:=fb hb
   split at h
   ·rename_i ns ms e1 e2
    have:=ints_of hds e1
    subst this
    have:=ints_of hds' e2
    subst this
    refine Hv hu0 pins s σ H _ _ v u Q I rx ry ⟨p,p',ns,ms,rfl,rfl,hq,hq',?_⟩
    have el:∀(a b:List Int),HT.lexLt a b=Lp.lexLt a b:=by
     intro a
     induction a with
     |nil=>intro b;cases b<;>rfl
     |cons x r ih=>intro b;cases b with
      |nil=>rfl
      |cons y q=>rw[HT.fj,Lp.lexLt,ih]
    rw[el]
    exact h.ok hS (by simp[IsD])
   ·exact h.elim
  ·exact h.elim
 |le =>
  intro pins s σ H x y v u Q I rx ry ⟨ι,a,b,μ,hS,ha,hb,h⟩
  simp![cpD]at h
  split at h
  ·cases c6 ha;cases c6 hb
   exact Lm pins s σ H _ _ v u Q I rx ry ⟨_,_,rfl,rfl,h.ok hS (by simp[IsD])⟩
  ·obtain⟨p,xs,rfl,hq,hds⟩:=fb ha
   obtain⟨p',xs',rfl,hq',hds'⟩:=fb hb
   split at h
   ·rename_i ns ms e1 e2
    have:=ints_of hds e1
    subst this
    have:=ints_of hds' e2
    subst this
    refine Jo hu0 I rx ry ⟨p,p',ns,ms,rfl,rfl,hq,hq',?_⟩
    have el:∀(a b:List Int),HT.lexLt a b=Lp.lexLt a b:=by
     intro a
     induction a with
     |nil=>intro b;cases b<;>rfl
     |cons x r ih=>intro b;cases b with
      |nil=>rfl
      |cons y q=>rw[HT.fj,Lp.lexLt,ih]
    rw[el]
    exact h.ok hS (by simp[IsD])
   ·exact h.elim
  ·exact h.elim
 |gt =>
  refine OpR.imp Ln λx y H Q ⟨ι,a,b,μ,hS,ha,hb,h⟩=>?_
  simp![cpD]at h
  split at h
  ·cases c6 ha;cases c6 hb
   exact⟨_,_,rfl,rfl,h.ok hS (by simp[IsD])⟩
  ·exact h.elim
 |ge =>
  intro pins s σ H x y v u Q I rx ry ⟨ι,a,b,μ,hS,ha,hb,h⟩
  simp![cpD]at h
  split at h
  ·cases c6 ha;cases c6 hb
   exact Lo pins s σ H _ _ v u Q I rx ry ⟨_,_,rfl,rfl,h.ok hS (by simp[IsD])⟩
  ·obtain⟨p,xs,rfl,hq,hds⟩:=fb ha
   obtain⟨p',xs',rfl,hq',hds'⟩:=fb hb
   split at h
   ·rename_i ns ms e1 e2
    have:=ints_of hds e1
    subst this
    have:=ints_of hds' e2
    subst this
    refine Jp hu0 I rx ry ⟨p,p',ns,ms,rfl,rfl,hq,hq',?_⟩
    have el:∀(a b:List Int),HT.lexLt a b=Lp.lexLt a b:=by
     intro a
     induction a with
     |nil=>intro b;cases b<;>rfl
     |cons x r ih=>intro b;cases b with
      |nil=>rfl
      |cons y q=>rw[HT.fj,Lp.lexLt,ih]
    rw[el]
    exact h.ok hS (by simp[IsD])
   ·exact h.elim
  ·exact h.elim
 |is =>
  intro pins s σ H x y v u Q I rx ry ⟨ι,a,b,μ,hS,ha,hb,h⟩
  simp![cpD]at h
  split at h
  ·refine Hn pins s σ H x y v u Q I rx ry ⟨by simpa[IsD]using hb,?_⟩
   cases a with
   |tup ds=>obtain⟨p,xs,rfl,_⟩:=fb ha;exact h.ok hS (by simp[IsD])
   |lst ds =>
         obtain⟨p,xs,rfl,_⟩:∃p xs,x=V.ref p/\FzL X.K H p xs/\ah X.K ι H ds xs:=by simpa[IsD]using ha
         exact h.ok hS (by simp[IsD])
   |loc n =>
        obtain⟨p,rfl,_⟩:∃p,x=V.ref p/\ι[n]? = some p:=by simpa[IsD]using ha
        exact h.ok hS (by simp[IsD])
   |_=>have e:=ha;simp![IsD]at e;subst e;exact h.ok hS (by simp[IsD])
  ·cases ro hb
   cases(show u=Value.bool _ from ry)
   split at h
   ·cases ro ha
    cases(show v=Value.bool _ from rx)
    exact is_bool I (h.ok hS (by simp[IsD]))
   ·cases(show x=.non by simpa[IsD]using ha)
    cases(show v=Value.none from rx)
    exact rq I (h.ok hS (by simp[IsD]))
   ·exact h.elim
  ·exact h.elim
 |isnot =>
  intro pins s σ H x y v u Q I rx ry ⟨ι,a,b,μ,hS,ha,hb,h⟩
  simp![cpD]at h
  split at h
  ·refine Eg pins s σ H x y v u Q I rx ry ⟨by simpa[IsD]using hb,?_⟩
   cases a with
   |tup ds=>obtain⟨p,xs,rfl,_⟩:=fb ha;exact h.ok hS (by simp[IsD])
   |lst ds =>
         obtain⟨p,xs,rfl,_⟩:∃p xs,x=V.ref p/\FzL X.K H p xs/\ah X.K ι H ds xs:=by simpa[IsD]using ha
         exact h.ok hS (by simp[IsD])
   |loc n =>
        obtain⟨p,rfl,_⟩:∃p,x=V.ref p/\ι[n]? = some p:=by simpa[IsD]using ha
        exact h.ok hS (by simp[IsD])
   |_=>have e:=ha;simp![IsD]at e;subst e;exact h.ok hS (by simp[IsD])
  ·cases ro hb
   cases(show u=Value.bool _ from ry)
   split at h
   ·cases ro ha
    cases(show v=Value.bool _ from rx)
    exact isnot_bool I (h.ok hS (by simp[IsD]))
   ·cases(show x=.non by simpa[IsD]using ha)
    cases(show v=Value.none from rx)
    exact mj I (h.ok hS (by simp[IsD]))
   ·exact h.elim
  ·exact h.elim
 |in_ =>
  intro pins s σ H x y v u Q I rx ry ⟨ι,a,b,μ,hS,ha,hb,h⟩
  simp![cpD]at h
  split at h
  ·rename_i ds e
   obtain⟨p,xs,rfl,hq,hds⟩:=oq hS hb e
   split at h
   ·rename_i hf
    refine zd pins s σ H _ _ v u Q I rx ry ⟨p,xs,rfl,hq.imp (·.sq) id,ud ha hf.1,ph hds hf.2,?_⟩
    simp![CH,if_false]
    rw[zu ha hf.1 hds hf.2]
    exact h.ok hS (by simp[IsD])
   ·exact h.elim
  ·split at h
   ·rename_i kvs e
    obtain⟨p,q,xs,rfl,rfl,rfl,hp,hk⟩:=zv hS hb ha e
    cases(show u=Value.ref p from ry)
    refine Rr (by lia) I (.inl ⟨_,_,hp,rfl,rfl⟩) rx λs' I'=>⟨.bl (yp xs q).isSome,H,I',rfl,?_⟩
    rw[(pj hk).isSome]
    exact h.ok hS (by simp[IsD])
   ·exact h.elim
 |notin =>
  intro pins s σ H x y v u Q I rx ry ⟨ι,a,b,μ,hS,ha,hb,h⟩
  simp![cpD]at h
  split at h
  ·rename_i ds e
   obtain⟨p,xs,rfl,hq,hds⟩:=oq hS hb e
   split at h
   ·rename_i hf
    refine rd pins s σ H _ _ v u Q I rx ry ⟨p,xs,rfl,hq.imp (·.sq) id,ud ha hf.1,ph hds hf.2,?_⟩
    simp![if_true]
    rw[zu ha hf.1 hds hf.2]
    exact h.ok hS (by simp[IsD])
   ·exact h.elim
  ·split at h
   ·rename_i kvs e
    obtain⟨p,q,xs,rfl,rfl,rfl,hp,hk⟩:=zv hS hb ha e
    cases(show u=Value.ref p from ry)
    refine Er (by lia) I (.inl ⟨_,_,hp,rfl,rfl⟩) rx λs' I'=>⟨.bl (!(yp xs q).isSome),H,I',rfl,?_⟩
    rw[(pj hk).isSome]
    exact h.ok hS (by simp[IsD])
   ·exact h.elim
end
open PySem.SeqAt (EqAt RcAt)
section
variable{X:Cx}{φ:Phi}{pins:List (Addr × Obj)}{σ:St}{H:Hp}{s:Shared}
noncomputable def PCh(X:Cx)(ops:List CmpOp)(es:List Expr)(t:V->TE):Prop :=
 ∀(pos:Pos) (pins:List (Addr×Obj)) (s:Shared) (σ:St) (H:Hp) (Q:VK) (x:V) (v:Value),Inv X pins σ H s->RelV x v->t x σ H Q ->
  wpAny (model X.prog X.w) X.A (compareChain pos v ops (evalEach es X.env)) (EP X pins σ Q) X.xe s
noncomputable def PTh(X:Cx)(ops:List CmpOp)(es:List Expr)(t:V->TT):Prop :=
 ∀(pos:Pos) (pins:List (Addr×Obj)) (s:Shared) (σ:St) (H:Hp) (Q:Bool->Hp->Prop) (x:V) (v:Value),Inv X pins σ H s->RelV x v->t x σ H Q ->
  wpAny (model X.prog X.w) X.A (testChain pos v ops (evalEach es X.env)) (TP X pins σ Q) X.xe s
noncomputable def tCh(K:PySem.W.Frag)(φ:Phi)(r:Cps):V->TE:=λx σv H Q=>∃ι σ μ d,Sim K ι H μ/\kg K ι H σ σv/\IsD K ι H d x/\dw K (RD K) ι H (evC φ r d σ μ) Q
noncomputable def tTh(K:PySem.W.Frag)(φ:Phi)(r:Cps):V->TT:=λx σv H Q=>∃ι σ μ d,Sim K ι H μ/\kg K ι H σ σv/\IsD K ι H d x/\dw K RB ι H ((evC φ r d σ μ).bind λz μ=>Kt z μ) Q
theorem zx{op:Cp}{xe:Ex}{d:D}{σ:Sl}{μ:Sto}:evC φ (.cons op xe .nil) d σ μ=(evE φ xe σ μ).bind λy μ=>cpD op d y μ:=by
 simp![evC]
 cases evE φ xe σ μ with
 |ok y μ1 =>
  simp![Res.cb]
  cases cpD op d y μ1<;>rfl
 |exc _ _ _=>rfl
 |stuck=>rfl
theorem B3{op op':Cp}{xe xe':Ex}{r:Cps}{d:D}{σ:Sl}{μ:Sto}:evC φ (.cons op xe (.cons op' xe' r)) d σ μ=(evE φ xe σ μ).bind λy μ=>(cpD op d y μ).bind λz μ=>match z with
  |.bl b=>if b=true then evC φ (.cons op' xe' r) y σ μ else .ok (.bl false) μ
  |_=>.stuck:=by
 rw[evC]
 all_goals rfl
theorem Fi{op:Cp}{e:Expr}{xe:Ex}(ho:OpR X (compareOp (opOf op)) (rOp X.K (cpD op)))(he:PE X e (tE X.K φ xe)):PCh X [opOf op] [e] (tCh X.K φ (.cons op xe .nil)):=by
 intro pos pins s σv H Q x v I rx ⟨ι,σ,μ,d,hS,hL,hd,h⟩
 rw[zx]at h
 obtain⟨y,μ1,e1,h⟩:=h.bind
 refine chain_last (thn (he pins s σv H (λw H1=>rOp X.K (cpD op) x w H1 Q) I ⟨ι,σ,μ,hS,hL,?_⟩) λu s1 ⟨w,H1,I1,r1,q1⟩=>ho pins s1 σv H1 x w v u Q I1 rx r1 q1)
 rw[e1]
 exact λι1 w H1 p1 x1 s1 d1=>⟨ι1,d,y,μ1,s1,IsD.mono p1 x1 _ _ hd,d1,h.mono p1 x1⟩
theorem Fj{op op':Cp}{e e':Expr}{es:List Expr}{ops:List CmpOp}{xe xe':Ex}{r:Cps}(ho:OpR X (compareOp (opOf op)) (rOp X.K (cpD op)))(he:PE X e (tE X.K φ xe))(hr:PCh X (opOf op'::ops) (e'::es) (tCh X.K φ (.cons op' xe' r))) :
  PCh X (opOf op::opOf op'::ops) (e::e'::es) (tCh X.K φ (.cons op xe (.cons op' xe' r))):=by
 intro pos pins s σv H Q x v I rx ⟨ι,σ,μ,d,hS,hL,hd,h⟩
 rw[B3]at h
 obtain⟨y,μ1,e1,h⟩:=h.bind
 refine chain_link (thn (he pins s σv H (λw H1=>rOp X.K (cpD op) x w H1 (λz H2=>∃k,z=.bl k/\if k=true then tCh X.K φ (.cons op' xe' r) w σv H2 Q else Q (.bl false) H2)) I ⟨ι,σ,μ,hS,hL,?_⟩) λu s1 ⟨w,H1,I1,r1,q1⟩ =>
  thn (ho pins s1 σv H1 x w v u _ I1 rx r1 q1) λc s2 ⟨z,H2,I2,r2,k,ek,q2⟩=>?_)
 ·rw[e1]
  intro ι1 w H1 p1 x1 s1 d1
  obtain⟨z,μ2,e2,h⟩:=h.bind
  refine⟨ι1,d,y,μ1,s1,IsD.mono p1 x1 _ _ hd,d1,?_⟩
  rw[e2]
  intro ι2 z' H2 p2 x2 s2 d2
  cases z with
  |bl k =>
   refine⟨k,ro d2,?_⟩
   cases k with
   |true=>exact⟨ι2,σ,μ2,y,s2,(hL.mono p1 x1).mono p2 x2,IsD.mono p2 x2 _ _ d1,(show dw _ _ _ _ (evC φ (.cons op' xe' r) y σ μ2) _ from h).mono (p1.trans p2) (x1.trans x2)⟩
   |false=>exact h ι2 (.bl false) H2 (p1.trans p2) (x1.trans x2) s2 (by simp[IsD])
  |_=>exact h.elim
 ·subst ek
  cases r2
  refine CM ?_
  cases k with
  |false=>exact ite_ff ⟨.bl false,H2,I2,rfl,q2⟩
  |true=>exact ite_tt (hr pos pins s2 σv H2 Q w u I2 r1 q2)
theorem Fk{op:Cp}{e:Expr}{xe:Ex}(ho:OpR X (compareOp (opOf op)) (rOp X.K (cpD op)))(he:PE X e (tE X.K φ xe)):PTh X [opOf op] [e] (tTh X.K φ (.cons op xe .nil)):=by
 intro pos pins s σv H Q x v I rx ⟨ι,σ,μ,d,hS,hL,hd,h⟩
 rw[zx,Res.bind_assoc]at h
 obtain⟨y,μ1,e1,h⟩:=h.bind
 refine test_last (thn (he pins s σv H (λw H1=>rOp X.K (cpD op) x w H1 (λz H2=>∃k,z=.bl k/\Q k H2)) I ⟨ι,σ,μ,hS,hL,?_⟩) λu s1 ⟨w,H1,I1,r1,q1⟩=>thn (ho pins s1 σv H1 x w v u _ I1 rx r1 q1) λc s2 ⟨z,H2,I2,r2,k,ek,q2⟩=>?_)
 ·rw[e1]
  intro ι1 w H1 p1 x1 s1 d1
  obtain⟨z,μ2,e2,h⟩:=h.bind
  refine⟨ι1,d,y,μ1,s1,IsD.mono p1 x1 _ _ hd,d1,?_⟩
  rw[e2]
  intro ι2 z' H2 p2 x2 s2 d2
  cases z with
  |bl k=>exact⟨k,ro d2,h ι2 k H2 (p1.trans p2) (x1.trans x2) s2 rfl⟩
  |_=>exact h.elim
 ·subst ek
  cases r2
  exact CM ⟨H2,I2,q2⟩
theorem M0{a:Expr}{xa:Ex}{ops:List CmpOp}{es:List Expr}{r:Cps}{pos:Pos}(ha:PE X a (tE X.K φ xa))(hr:PCh X ops es (tCh X.K φ r))(hm:lastMarks ops es=false):PE X (.Compare a ops es pos) (tE X.K φ (.cmp xa r)):=by
 intro pins s σv H Q I ⟨ι,σ,μ,hS,hL,h⟩
 simp![evE]at h
 obtain⟨d,μ1,e1,h⟩:=h.bind
 show wpAny _ _ (do compareChain pos (<-eval a X.env) ops (markedEach ops es (evalEach es X.env))) _ _ _
 rw[markedEach_of_false _ _ _ hm]
 refine AB (thn (ha pins s σv H (λx H1=>tCh X.K φ r x σv H1 Q) I ⟨ι,σ,μ,hS,hL,?_⟩) λv s1 ⟨x,H1,I1,r1,q1⟩=>hr pos pins s1 σv H1 Q x v I1 r1 q1)
 rw[e1]
 exact λι1 x H1 p1 x1 s1 d1=>⟨ι1,σ,μ1,d,s1,hL.mono p1 x1,d1,h.mono p1 x1⟩
theorem Jr{a:Expr}{xa:Ex}{ops:List CmpOp}{es:List Expr}{r:Cps}{pos:Pos}(ha:PE X a (tE X.K φ xa))(hr:PTh X ops es (tTh X.K φ r))(hm:lastMarks ops es=false):PT X (.Compare a ops es pos) (tT X.K φ (.cmp xa r)):=by
 intro pins s σv H Q I ⟨ι,σ,μ,hS,hL,h⟩
 simp![evE]at h
 rw[Res.bind_assoc]at h
 obtain⟨d,μ1,e1,h⟩:=h.bind
 show wpAny _ _ (do testChain pos (<-eval a X.env) ops (markedEach ops es (evalEach es X.env))) _ _ _
 rw[markedEach_of_false _ _ _ hm]
 refine AB (thn (ha pins s σv H (λx H1=>tTh X.K φ r x σv H1 Q) I ⟨ι,σ,μ,hS,hL,?_⟩) λv s1 ⟨x,H1,I1,r1,q1⟩=>hr pos pins s1 σv H1 Q x v I1 r1 q1)
 rw[e1]
 exact λι1 x H1 p1 x1 s1 d1=>⟨ι1,σ,μ1,d,s1,hL.mono p1 x1,d1,h.mono p1 x1⟩
theorem Js{l:Expr}{xl:Ex}{tg:Expr}(hl:PE X l (tE X.K φ xl)):PI X tg l (tI X.K φ (.seq xl)):=by
 intro pins s σv H R I ⟨ι,σ,μ,hS,hL,h⟩
 simp![evI]at h
 cases e1:evE φ xl σ μ with
 |exc _ _ _=>rw[e1]at h;exact h.elim
 |stuck=>rw[e1]at h;exact h.elim
 |ok d μ1 =>
 rw[e1]at h
 simp![Res.cb]at h
 have hq:tE X.K φ xl σv H (λv H1=>∃ι1,ι <+: ι1/\Ext H H1/\Sim X.K ι1 H1 μ1/\IsD X.K ι1 H1 d v):=⟨ι,σ,μ,hS,hL,by rw[e1];exact λι1 v H1 p1 x1 s1 d1=>⟨ι1,p1,x1,s1,d1⟩⟩
 refine thn (hl pins s σv H _ I hq) λu s1 ⟨v,H1,I1,r1,ι1,p1,x1,S1,d1⟩=>?_
 -- a list,at a,whatever its items
 have lst:∀(a:Addr) (xs:List V) (ds:List D) (g:Gd),v=.ref a->LsL X.K H1 a xs->ah X.K ι1 H1 ds xs->(∀ι2 H2 μ2,ι1 <+: ι2->Ext H1 H2->Sim X.K ι2 H2 μ2->gd g μ2->∃ys,LsL X.K H2 a ys/\ah X.K ι2 H2 ds ys) ->
   (∀ι' H' J,ι <+: ι'->Ext H H'->Sim X.K ι' H' μ1->Walk X.K ι' H' J ds g->R J H')->wpAny (model X.prog X.w) X.A (pyIter u) (PIE X pins σv tg R) X.xe s1:=by
  intro a xs ds g ev hls hds stay hR
  subst ev
  cases(show u=Value.ref a from r1)
  obtain⟨its,rv,p,hz⟩:=I1.list hls.sq
  refine FM p.isList ?_
  refine⟨s1.heap.objs.size,[s1.heap.objs.size],_,_,H1,rfl,I1.kept (t':=s1.toks) λb o e=>AC _ e,yy a _,⟨_,AL _ rfl,rfl,rfl⟩,λb hb=>?_,hR ι1 H1 _ p1 x1 S1 ?_⟩
  ·have e:b=s1.heap.objs.size:=by simpa using hb
   subst e
   exact I1.fpOk (AM _) (I1.hok.fresh (AM _))
  ·refine⟨by rw[<-hds.length];exact hz,λi ι2 H2 μ2 q1 q2 q3 q4 hi=>?_,λi ι2 H2 μ2 w H3 q1 q2 q3 q4 hi hy=>?_,λι2 H2 μ2 q1 q2 q3 q4=>?_⟩
   ·obtain⟨ys,y1,y2⟩:=stay ι2 H2 μ2 q1 q2 q3 q4
    obtain⟨w,e,_⟩:=y2.get (AE hi)
    exact⟨ys,w,y1.sq,e⟩
   ·obtain⟨ys,y1,y2⟩:=stay ι2 H2 μ2 q1 q2 q3 q4
    obtain⟨e,hy⟩:=hy
    subst e
    obtain⟨w',e',q'⟩:=y2.get (AE hi)
    have:=hy ys y1.sq
    rw[e']at this;cases this
    exact⟨.refl _,q3,_,AE hi,q'⟩
   ·obtain⟨ys,y1,y2⟩:=stay ι2 H2 μ2 q1 q2 q3 q4
    exact⟨ys,y1.sq,by rw[y2.length];exact AM _⟩
 cases d with
 |tup ds =>
  simp![aw]at h
  obtain⟨a,xs,rfl,hq,hds⟩:=fb d1
  cases(show u=Value.ref a from r1)
  obtain⟨its,rv,p,hz⟩:=I1.tuple hq
  refine CW (show s1.heap.IsTuple a its.toArray from p) ?_
  refine⟨s1.heap.objs.size,[s1.heap.objs.size],_,_,H1,rfl,I1.kept (t':=s1.toks) λb o e=>AC _ e,wc a _,⟨_,AL _ rfl,rfl,rfl⟩,λb hb=>?_,h ι1 H1 _ p1 x1 S1 ?_⟩
  ·have e:b=s1.heap.objs.size:=by simpa using hb
   subst e
   exact I1.fpOk (AM _) (I1.hok.fresh (AM _))
  ·refine⟨by rw[<-hds.length];exact hz,λi ι2 H2 μ2 q1 q2 q3 q4 hi=>?_,λi ι2 H2 μ2 w H3 q1 q2 q3 q4 hi hy=>?_,λι2 H2 μ2 q1 q2 q3 q4=>?_⟩
   ·obtain⟨w,e,_⟩:=hds.get (AE hi)
    exact⟨xs,w,hq.ext q2,e⟩
   ·obtain⟨e,hy⟩:=hy
    subst e
    obtain⟨w',e',q'⟩:=hds.get (AE hi)
    have:=hy xs (hq.ext q2)
    rw[e']at this;cases this
    exact⟨.refl _,q3,_,AE hi,IsD.mono q1 q2 _ _ q'⟩
   ·exact⟨xs,hq.ext q2,by rw[hds.length];exact AM _⟩
 |lst ds =>
  simp![aw]at h
  obtain⟨a,xs,rfl,hq,hds⟩:∃a xs,v=.ref a/\FzL X.K H1 a xs/\ah X.K ι1 H1 ds xs:=by simpa[IsD]using d1
  exact lst a xs ds none rfl (.inr hq) hds (λι2 H2 μ2 q1 q2 q3 q4=>⟨xs,.inr (hq.ext q2),ah.mono q1 q2 _ _ hds⟩) h
 |loc n =>
  obtain⟨a,rfl,hn⟩:∃a,v=.ref a/\ι1[n]? = some a:=by simpa[IsD]using d1
  have pre:∀{ι2:List Addr},ι1 <+: ι2->ι2[n]? = some a:=λhp=>by
   obtain⟨t,rfl⟩:=hp
   rw[AS (AK.mp hn).1];exact hn
  cases em:μ1[n]? with
  |none=>simp![aw,em]at h
  |some o =>
   simp![aw,em]at h
   cases o with
   |l ds =>
    simp only at h
    obtain⟨a',q',ho⟩:=S1.at em
    rw[hn]at q';cases q'
    obtain⟨xs,f1,f2⟩:=ho
    refine lst a xs ds (some (n,.l ds)) rfl (.inl f1) (ah.mono (CG) (.refl _) _ _ f2) (λι2 H2 μ2 q1 q2 q3 q4=>?_) h
    obtain⟨a2,e2,o2⟩:=q3.at (show μ2[n]? = some (.l ds)from q4)
    rw[pre q1]at e2;cases e2
    obtain⟨ys,g1,g2⟩:=o2
    exact⟨ys,.inl g1,ah.mono (CG) (.refl _) _ _ g2⟩
   |r ds =>
    simp only at h
    obtain⟨a',q',ho⟩:=S1.at em
    rw[hn]at q';cases q'
    obtain⟨xs,f1,f2⟩:=ho
    refine lst a xs ds (some (n,.r ds)) rfl (.inl f1) f2 (λι2 H2 μ2 q1 q2 q3 q4=>?_) h
    obtain⟨a2,e2,o2⟩:=q3.at (show μ2[n]? = some (.r ds)from q4)
    rw[pre q1]at e2;cases e2
    obtain⟨ys,g1,g2⟩:=o2
    exact⟨ys,.inl g1,g2⟩
   |d kvs=>simp only at h
   |dt kvs=>simp only at h
   |x _=>simp only at h
   |o _ _=>simp only at h
   |dr _=>simp only at h
   |fd _=>simp only at h
   |dead=>simp only at h
 |_=>simp![aw]at h
theorem xm{K:PySem.W.Frag}{ι:List Addr}{H:Hp}(lo:Int)(n:Nat)(hn:n<=sizeLine):Walk K ι H (Itr lo n) ((List.range n).map fun(k:Nat)=>D.int (lo+k)) none:=by
 refine⟨by simpa using hn,λi ι2 H2 μ2 q1 q2 q3 q4 hi=>by simpa[Itr]using hi,λi ι2 H2 μ2 w H3 q1 q2 q3 q4 hi hy=>?_,λι2 H2 μ2 q1 q2 q3 q4=>by simp[Itr]⟩
 obtain⟨e,hy⟩:=hy
 subst e
 have hi':i<n:=by simpa using hi
 exact⟨.refl _,q3,.int (lo+i),by simp[hi'],by simp[IsD,hy]⟩
theorem Jt{a:Expr}{xa:Ex}{tg:Expr}{p pos:Pos}(hg:Gl X "range")(hm:X.mg "range"=none)(ha:PE X a (tE X.K φ xa))(hs:starEach [a] X.env=[(false,eval a X.env)]):PI X tg (.Call (.Name "range" p) [a] [] pos) (tI X.K φ (.rng xa)) :=
 PI.imp (yz hg hm (rl ha Bv hs) hs) λσv H R ⟨ι,σ,μ,hS,hL,h⟩=>by
  simp![evI]at h
  refine⟨ι,σ,μ,hS,hL,?_⟩
  simp![du]
  cases e1:evE φ xa σ μ with
  |exc _ _ _=>rw[e1]at h;exact h.elim
  |stuck=>rw[e1]at h;exact h.elim
  |ok d μ1 =>
   rw[e1]at h
   simp![Res.cb]at h ⊢
   cases d with
   |int j =>
    simp only at h
    by_cases hj:-(lim:Int)<=j/\j<=lim
    ·rw[if_pos hj]at h
     rw[g9]at hj
     have h24:sizeLine=16777216:=CJ
     rw[h24]at hj
     intro ι1 vs H1 p1 x1 s1 d1
     have e:vs=[.int j]:=by
      have q:ah X.K ι1 H1 [.int j] vs:=d1
      simp![ah]at q
      obtain⟨v,r,rfl,q1,rfl⟩:=q
      cases c6 q1
      rfl
     refine⟨j,e,by lia,by lia,h ι1 H1 _ p1 x1 s1 ?_⟩
     have w:=xm (K:=X.K) (ι:=ι1) (H:=H1) 0 j.toNat (by lia)
     simpa using w
    ·rw[if_neg hj]at h
     exact h.elim
   |_=>exact h.elim
noncomputable def n9(K:PySem.W.Frag)(f:List D->Sto->Res D):List V->Hp->VK->Prop:=λxs H Q=>∃ι ds μ,Sim K ι H μ/\ah K ι H ds xs/\dw K (RD K) ι H (f ds μ) Q
theorem Ds{K:PySem.W.Frag}{ι:List Addr}{d:D}{xs:List V}(h:ah K ι H [d] xs):∃v,xs=[v]/\IsD K ι H d v:=by
 simp![ah]at h
 obtain⟨v,r,rfl,q,rfl⟩:=h
 exact⟨v,rfl,q⟩
theorem vj{K:PySem.W.Frag}{ι:List Addr}{d e:D}{xs:List V}(h:ah K ι H [d,e] xs):∃v w,xs=[v,w]/\IsD K ι H d v/\IsD K ι H e w:=by
 simp![ah]at h
 obtain⟨v,r,rfl,q,w,r2,rfl,q2,rfl⟩:=h
 exact⟨v,w,rfl,q,q2⟩
theorem ju{K:PySem.W.Frag}{ι:List Addr}{ds:List D}{xs:List V}{μ:Sto}{f:D->Sto->Res D}{Q:VK}(hds:ah K ι H ds xs)(h:dw K (RD K) ι H (ir f ds μ) Q) :
  ∃d v,xs=[v]/\IsD K ι H d v/\dw K (RD K) ι H (f d μ) Q:=by
 unfold ir at h
 split at h
 ·rename_i d
  obtain⟨v,rfl,hv⟩:=Ds hds
  exact⟨d,v,rfl,hv,h⟩
 ·exact h.elim
theorem zy{K:PySem.W.Frag}{ι:List Addr}{d:D}{v:V}{μ:Sto}{f:List D->Sto->Res D}{Q:VK}(hS:Sim K ι H μ)(hd:IsD K ι H d v)(h:dw K (RD K) ι H (seq1 f d μ) Q) :
  ∃a xs ds,v=.ref a/\(LsL K H a xs\/SqT K H a xs)/\ah K ι H ds xs/\dw K (RD K) ι H (f ds μ) Q:=by
 unfold seq1 at h
 split at h
 ·rename_i ds e
  obtain⟨a,xs,rfl,hq,hxs⟩:=oq hS hd e
  exact⟨a,xs,ds,rfl,hq,hxs,h⟩
 ·exact h.elim
theorem B4{K:PySem.W.Frag}{ι:List Addr}{d:D}{v:V}{μ:Sto}{f:List Bool->Sto->Res D}{Q:VK}(hS:Sim K ι H μ)(hd:IsD K ι H d v)(h:dw K (RD K) ι H (zj f d μ) Q) :
  ∃a ns,v=.ref a/\(LsL K H a (ns.map V.bl)\/SqT K H a (ns.map V.bl))/\dw K (RD K) ι H (f ns μ) Q:=by
 unfold zj at h
 cases e:cw μ d with
 |none=>rw[e]at h;exact h.elim
 |some ds =>
  rw[e]at h
  simp![GA]at h
  split at h
  ·rename_i ns e2
   obtain⟨a,xs,rfl,hq,hxs⟩:=oq hS hd e
   rw[vi hxs e2]at hq
   exact⟨a,ns,rfl,hq,h⟩
  ·exact h.elim
theorem bt_len{m:Mk}:d7 X (.builtin "len") (n9 X.K (btD .len m)):=d7.imp rf λxs H Q ⟨ι,ds,μ,hS,hds,h⟩=>by
 obtain⟨d,v,rfl,hv,h⟩:=ju hds h
 obtain⟨a,xs,es,rfl,hq,hxs,h⟩:=zy hS hv h
 exact⟨a,xs,rfl,hq.imp (·.sq) id,by rw[hxs.length];exact h.ok hS (by simp[IsD])⟩
theorem bt_tuple{m:Mk}:d7 X (.type "tuple") (n9 X.K (btD .tuple m)):=d7.imp o6 λxs H Q ⟨ι,ds,μ,hS,hds,h⟩=>by
 obtain⟨d,v,rfl,hv,h⟩:=ju hds h
 obtain⟨a,xs,es,rfl,hq,hxs,h⟩:=zy hS hv h
 refine⟨a,xs,rfl,?_⟩
 rcases hq with hq | hq
 ·exact .inl ⟨hq.sq,λl hl=>l4 hS hxs h hl⟩
 ·exact .inr ⟨hq,h.ok hS (tup_is hq hxs)⟩
theorem bt_min{m:Mk}(hc:X.calm=true):d7 X (.builtin "min") (n9 X.K (btD .min m)):=d7.imp (y8 hc) λxs H Q ⟨ι,ds,μ,hS,hds,h⟩=>by
 simp![btD,minD]at h
 split at h
 ·rename_i i j
  obtain⟨v,w,rfl,hv,hw⟩:=vj hds
  cases c6 hv
  cases c6 hw
  exact⟨i,j,rfl,h.ok hS (by simp[IsD])⟩
 ·exact h.elim
theorem bt_max{m:Mk}(hc:X.calm=true):d7 X (.builtin "max") (n9 X.K (btD .max m)):=d7.imp (y6 hc) λxs H Q ⟨ι,ds,μ,hS,hds,h⟩=>by
 simp![btD,maxD]at h
 split at h
 ·rename_i i j
  obtain⟨v,w,rfl,hv,hw⟩:=vj hds
  cases c6 hv
  cases c6 hw
  exact⟨i,j,rfl,h.ok hS (by simp[IsD])⟩
 ·exact h.elim
theorem B5 {A:Around} {E:Value->Shared->Prop} {a:Addr} {xs:List V} (I:Inv X pins σ H s) (hq:LsL X.K H a xs\/SqT X.K H a xs) (hh:A.handled=none) {Q:Value->Shared->Prop}
  (h:∀(it:Addr) (fp:List Addr) (its:List Value) St s2,bz xs its->Walks X.prog X.w A it fp [it] its.length (λi v=>its[i]? = some v) St->St 0 s2.heap->(∀b∈fp,b<s2.heap.objs.size) ->
   (∀h' tk,(∀b o,b∉[it]->s2.heap.get? b=some o->h'.get? b=some o)->Inv X pins σ H {s2 with heap:=h',toks:=tk})->Q (.ref it) s2) :
  wpAny (model X.prog X.w) A (pyIter (.ref a)) Q E s:=by
 have fin:∀(ob:Obj) (h':Heap) (tk:Nat),(∀b o,b∉[s.heap.objs.size]->(s.heap.push ob).get? b=some o->h'.get? b=some o)->Inv X pins σ H {s with heap:=h',toks:=tk}:=λob h' tk hk =>
  I.kept λb u e=>hk b u (by simp;exact AX (AH e)) (AC _ e)
 rcases hq with hq | hq
 ·obtain⟨z,its,n,hv,hl,hg⟩:=I.ls hq
  have hil:s.heap.IsList a its.toArray:=⟨_,hg,rfl,n,rfl⟩
  refine FM hil ?_
  have hne:a≠s.heap.objs.size:=AX (AH hg)
  have W:=Walks.list (prog:=X.prog) (w:=X.w) (A:=A) hh s.heap.objs.size a hne its.toArray
  simp![AF,EC]at W
  refine h s.heap.objs.size _ its _ _ hv W ⟨⟨_,AL _ rfl,rfl,rfl⟩,hil.at λo e=>AC _ e⟩ (λb hb=>?_) (λh' tk hk=>fin _ h' tk hk)
  simp![AJ,AU,or_false]at hb
  rw[CA]
  rcases hb with rfl | rfl
  ·exact Gt _
  ·exact Nat.lt_succ_of_lt (AH hg)
 ·obtain⟨its,hv,ht,hz⟩:=I.tuple hq
  have hit:s.heap.IsTuple a its.toArray:=ht
  refine CW hit ?_
  obtain⟨o,ho,_⟩:=id hit
  have hne:a≠s.heap.objs.size:=AX (AH ho)
  have W:=Walks.tuple (prog:=X.prog) (w:=X.w) (A:=A) hh s.heap.objs.size a hne its.toArray
  simp![AF,EC]at W
  refine h s.heap.objs.size _ its _ _ hv W ⟨⟨_,AL _ rfl,rfl,rfl⟩,hit.at λo e=>AC _ e⟩ (λb hb=>?_) (λh' tk hk=>fin _ h' tk hk)
  simp![AJ,AU,or_false]at hb
  rw[CA]
  rcases hb with rfl | rfl
  ·exact Gt _
  ·exact Nat.lt_succ_of_lt (AH ho)
theorem all_range(bs:List Bool):(List.range bs.length).all (λi=>bs.getD i false)=bs.all id:=by
 induction bs with
 |nil=>rfl
 |cons b r ih=>rw[AQ,GJ,BI,DM,BI];exact congrArg _ ih
theorem B6{A:Around}{bs:List Bool}{its:List Value}(hvs:bz (bs.map V.bl) its):TruthOf X.prog X.w A (λi v=>its[i]? = some v) (λi=>bs.getD i false):=by
 intro i v s Q E e q
 have hl:bs.length=its.length:=by have:=hvs.length;simpa using this
 have hi:i<bs.length:=by rw[hl];exact(AK.mp e).1
 obtain⟨u',e1,e2⟩:=hvs.get (i:=i) (x:=.bl bs[i]) (by simp[AE hi])
 rw[e]at e1;cases e1
 cases(show v=Value.bool bs[i]from e2)
 refine CM ?_
 simpa[DL,AE hi]using q
theorem bt_all{m:Mk}(hc:X.calm=true):d7 X (.builtin "all") (n9 X.K (btD .all m)):=by
 intro pins s σ H xs us Q I r ⟨ι,ds,μ,hS,hds,h⟩
 obtain⟨d,v,rfl,hv,h⟩:=ju hds h
 obtain⟨a,bs,rfl,hq,h⟩:=B4 hS hv h
 obtain⟨u,rfl,ru⟩:=vals1 r
 cases(show u=Value.ref a from ru)
 refine call_all_walk (B5 I hq (show X.A.in1.handled=none from I.ok.hd hc) λit fp its St s2 hvs W st hfp hI=>?_)
 have hl:bs.length=its.length:=by have:=hvs.length;simpa using this
 refine⟨it,fp,[it],its.length,_,St,λi=>bs.getD i false,rfl,W,st,B6 hvs,λh' tk hk=>?_⟩
 refine⟨.bl (bs.all id),H,hI h' tk hk,?_,h.ok hS (by simp[IsD])⟩
 rw[<-hl,all_range]
 rfl
end
theorem ue {prog:Program} {w:World} {A:Around} {E:Value->Shared->Prop} {s:Shared} {t sl:Addr} {items:Array Value} {vl vu:Value} {lo hi:Option Int} {Q:Value->Shared->Prop} (ht:IsTup s.heap t items) (hs:s.heap.IsSliceOf sl vl vu .none) (pl:IsPart vl lo) (pu:IsPart vu hi)
  (hw:HT.sIx items.size 0 lo=0/\HT.sIx items.size items.size hi=items.size) (h:Q (.ref t) s):wpAny (model prog w) A (getItem (.ref t) (.ref sl)) Q E s:=by
 obtain⟨os,hos,hcs,hds⟩:=id hs
 have hTs:s.TypeIs (.ref sl) "slice":=⟨os,hos,hcs⟩
 unfold getItem
 try with_reducible refine FU ?_
 first | refine AB (AI ?_) | skip
 refine AB (wpAny_sequenceKey ht.typeIs (by decide) ?_)
 refine AB (BQ (name:=Str.ofString "__getitem__") ht.typeIs BN
  (CN BN ht.typeIs entry_tuple_getitem ?_ (args_tuple_getitem _ _)))
 show wpAny _ _ (Builtin.Tuple.tupleItemsOf (.ref t)>>=_) _ _ s
 refine AB (tupleItemsOf_ ht ?_)
 refine AB (GG hTs ?_)
 rw[if_pos (by decide)]
 refine AB (HT.il hs pl pu ?_)
 have hyes:(((HT.sIx items.size 0 lo:Nat):Int)==0&&(1:Int)==1&&(HT.sIx items.size items.size hi-HT.sIx items.size 0 lo)==items.size)=true:=by
  rw[hw.1,hw.2];simp
 show wpAny _ _ (if(((HT.sIx items.size 0 lo:Nat):Int)==0&&(1:Int)==1&&(HT.sIx items.size items.size hi-HT.sIx items.size 0 lo)==items.size)=true then _ else _) _ _ s
 rw[if_pos hyes]
 refine AB ?_
 unfold Builtin.Tuple.tupleIsExact
 refine AB (GG ht.typeIs (AI ?_))
 rw[if_pos (by decide)]
 exact AB (FA (AI ⟨_,rfl,AI h⟩))
section
variable{X:Cx}{φ:Phi}{pins:List (Addr × Obj)}{σ:St}{H:Hp}{s:Shared}
theorem M1{m:Mk}:SlR X (λx lo hi H Q=>∃ι d μ,Sim X.K ι H μ/\IsD X.K ι H d x/\dw X.K (RD X.K) ι H (slD m d lo hi μ) Q):=by
 intro pins s σ H x v vl vu lo hi sl Q I rx hs pl pu ⟨ι,d,μ,hS,hd,h⟩
 unfold slD at h
 split at h
 ·rename_i ds
  obtain⟨a,xs,rfl,hq,hxs⟩:=fb hd
  by_cases hw:HT.sIx xs.length 0 lo=0/\HT.sIx xs.length xs.length hi=xs.length
  ·cases(show v=Value.ref a from rx)
   obtain⟨its,r,ht,hz⟩:=I.tuple hq
   have hlen:its.toArray.size=xs.length:=by rw[AF];exact r.length.symm
   refine⟨"tuple",_,BN.lookup,ht.typeIs,ue ht hs pl pu (by rw[hlen];exact hw) ⟨.ref a,H,I,rfl,h.ok hS ?_⟩⟩
   have e1:∀n d o,Lp.sIx n d o=HT.sIx n d o:=λn d o=>by cases o<;>rfl
   have ec:cut ds lo hi=ds:=by
    unfold cut
    rw[e1,e1,<-hxs.length,hw.1,hw.2]
    simp[hxs.length]
   rw[ec]
   exact hd
  ·exact Hu pins s σ H _ v vl vu lo hi sl Q I rx hs pl pu ⟨a,xs,rfl,hq,hw,λp hp=>l4 hS (Dq hxs lo hi) h hp⟩
 ·split at h
  ·rename_i es
   obtain⟨a,xs,rfl,ha,hxs⟩:=gj hS hd es
   exact SlR.fq Eo pins s σ H _ v vl vu lo hi sl Q I rx hs pl pu ⟨a,xs,rfl,ha.sq,λp hp=>jr hS (Dq hxs lo hi) h hp⟩
  ·exact h.elim
theorem PO.imp{e:Option Expr}{t t':TO}(h:PO X e t)(i:∀σ H Q,t' σ H Q->t σ H Q):PO X e t':=by
 intro pins s σ H Q I q
 exact h pins s σ H Q I (i _ _ _ q)
theorem Sj:PO X none (tEo X.K φ .no):=PO.imp Ej λσv H Q ⟨ι,σ,μ,hS,hL,h⟩=>by
 simp![evO]at h
 exact h.ok hS rfl
theorem Sk{e:Expr}{x:Ex}(he:PE X e (tE X.K φ x)):PO X (some e) (tEo X.K φ (.so x)):=PO.imp (Ek he) λσv H Q ⟨ι,σ,μ,hS,hL,h⟩=>by
 simp![evO]at h
 obtain⟨d,μ1,e1,h⟩:=h.bind
 refine⟨ι,σ,μ,hS,hL,?_⟩
 rw[e1]
 intro ι1 v H1 p1 x1 s1 d1
 cases d with
 |int i=>exact⟨i,c6 d1,h ι1 (some i) H1 p1 x1 s1 rfl⟩
 |_=>exact h.elim
theorem Sn{e:Expr}{lo hi:Option Expr}{x:Ex}{xl xh:ExO}{m:Mk}{p2 pos:Pos}(he:PE X e (tE X.K φ x))(hl:PO X lo (tEo X.K φ xl))(hh:PO X hi (tEo X.K φ xh)):PE X (.Subscript e (.Slice lo hi none p2) pos) (tE X.K φ (.sl m x xl xh)) :=
 PE.imp (Bq M1 he hl hh) λσv H Q ⟨ι,σ,μ,hS,hL,h⟩=>by
  simp![evE]at h
  obtain⟨d,μ1,e1,h⟩:=h.bind
  refine⟨ι,σ,μ,hS,hL,?_⟩
  rw[e1]
  intro ι1 v H1 p1 x1 s1 d1
  obtain⟨l,μ2,e2,h⟩:=h.bind
  refine⟨ι1,σ,μ1,s1,hL.mono p1 x1,?_⟩
  rw[e2]
  intro ι2 l' H2 p2 x2 s2 d2
  cases d2
  obtain⟨u,μ3,e3,h⟩:=h.bind
  refine⟨ι2,σ,μ2,s2,(hL.mono p1 x1).mono p2 x2,?_⟩
  rw[e3]
  intro ι3 u' H3 p3 x3 s3 d3
  cases d3
  exact⟨ι3,d,μ3,s3,IsD.mono p3 x3 _ _ (IsD.mono p2 x2 _ _ d1),h.mono ((p1.trans p2).trans p3) ((x1.trans x2).trans x3)⟩
noncomputable def lq:Cl->String
 |.int=>"int"
 |.bool=>"bool"
 |.tuple=>"tuple"
 |.list=>"list"
 |.str=>"str"
 |.own _=>""
noncomputable def pk:String->Cl->Bool
 | "bool",.int=>true
 | "bool",.bool=>true
 | "int",.int=>true
 | "str",.str=>true
 | "tuple",.tuple=>true
 | "list",.list=>true
 |_,_=>false
theorem ml(K:PySem.W.Frag)(t:String)(c:Cl)(hc:∀n,c≠.own n)(ht:t∈["NoneType","bool","int","str","tuple","list"]):PySem.W.kitOne K (.type t) (.type (lq c))=some (pk t c):=by
 simp![AJ,AU,or_false]at ht
 rcases ht with rfl | rfl | rfl | rfl | rfl | rfl<;>cases c<;>first | rfl | exact absurd rfl (hc _)
theorem Ju{c:Cl}(hc:∀n,c≠.own n):d7 X (.builtin "isinstance") (λxs H Q=>∃ι d μ v,xs=[v,.ty (lq c)]/\Sim X.K ι H μ/\IsD X.K ι H d v/\dw X.K (RD X.K) ι H (Bc c d μ) Q):=by
 intro pins s σ H xs us Q I r ⟨ι,d,μ,v,e,hS,hd,h⟩
 subst e
 obtain⟨u,w,rfl,ru,rw'⟩:=vals2 r
 cases(show w=Value.type (lq c)from rw')
 have key:∀(t:String),t∈["NoneType","bool","int","str","tuple","list"]->(∀tk,EP X pins σ Q (.bool (pk t c)) {s with toks:=tk})->PySem.W.kitOne X.K (.type t) (.type (lq c))=some (pk t c)/\∀tk,EP X pins σ Q (.bool (pk t c)) {s with toks:=tk}:=λt ht hq=>⟨ml X.K t c hc ht,hq⟩
 have lst:∀a xs,v=.ref a->LsL X.K H a xs->Q (.bl (pk "list" c)) H->wpAny (model X.prog X.w) X.A (call (.builtin "isinstance") [u,.type (lq c)]) (EP X pins σ Q) X.xe s:=λa xs e hq q=>by
  subst e
  cases(show u=Value.ref a from ru)
  obtain⟨z,its,n,hv,_,hg⟩:=I.ls hq
  exact DF PySem.W.kitx_list I.kIn ⟨_,hg,rfl⟩ (ml X.K "list" c hc (by decide)) (λz=>nomatch z) λtk=>⟨.bl (pk "list" c),H,I.tok tk,rfl,q⟩
 cases d with
 |non =>
  cases(show v=.non by simpa[IsD]using hd)
  cases(show u=Value.none from ru)
  refine DF PySem.W.kitx_none I.kIn True.intro (ml X.K "NoneType" c hc (by decide)) (λz=>nomatch z) λtk=>⟨.bl (pk "NoneType" c),H,I.tok tk,rfl,?_⟩
  cases c<;>first | exact absurd rfl (hc _) | exact h.ok hS (by simp[IsD,pk])
 |bl b =>
  cases ro hd
  cases(show u=Value.bool b from ru)
  refine DF PySem.W.kitx_bool I.kIn True.intro (ml X.K "bool" c hc (by decide)) (λz=>nomatch z) λtk=>⟨.bl (pk "bool" c),H,I.tok tk,rfl,?_⟩
  cases c<;>first | exact absurd rfl (hc _) | exact h.ok hS (by simp[IsD,pk])
 |int i =>
  cases c6 hd
  obtain⟨t,rfl⟩:=(show ∃t,u=Value.int i t from ru)
  refine DF PySem.W.kitx_int I.kIn True.intro (ml X.K "int" c hc (by decide)) (λz=>nomatch z) λtk=>⟨.bl (pk "int" c),H,I.tok tk,rfl,?_⟩
  cases c<;>first | exact absurd rfl (hc _) | exact h.ok hS (by simp[IsD,pk])
 |str x =>
  cases(show v=.str x by simpa[IsD]using hd)
  obtain⟨t,rfl⟩:=(show ∃t,u=Value.str x t from ru)
  refine DF PySem.W.kitx_str I.kIn True.intro (ml X.K "str" c hc (by decide)) (λz=>nomatch z) λtk=>⟨.bl (pk "str" c),H,I.tok tk,rfl,?_⟩
  cases c<;>first | exact absurd rfl (hc _) | exact h.ok hS (by simp[IsD,pk])
 |tup ds =>
  obtain⟨a,xs,rfl,hq,hxs⟩:=fb hd
  cases(show u=Value.ref a from ru)
  obtain⟨its,hv,⟨o,h1,h2,_⟩,hz⟩:=I.tuple hq
  refine DF PySem.W.kitx_tuple I.kIn ⟨o,h1,h2⟩ (ml X.K "tuple" c hc (by decide)) (λz=>nomatch z) λtk=>⟨.bl (pk "tuple" c),H,I.tok tk,rfl,?_⟩
  cases c<;>first | exact absurd rfl (hc _) | exact h.ok hS (by simp[IsD,pk])
 |lst ds =>
  obtain⟨a,xs,rfl,hq,hxs⟩:∃a xs,v=.ref a/\FzL X.K H a xs/\ah X.K ι H ds xs:=by simpa[IsD]using hd
  refine lst a xs rfl (.inr hq) ?_
  cases c<;>first | exact absurd rfl (hc _) | exact h.ok hS (by simp[IsD,pk])
 |loc n =>
  cases c with
  |list =>
   simp![Bc]at h
   split at h
   ·rename_i ds em
    obtain⟨a,xs,rfl,hq,hxs⟩:=gj (ds:=ds) hS hd (by simp[listOf,em])
    exact lst a xs rfl hq (h.ok hS (by simp[IsD,pk]))
   ·rename_i ds em
    obtain⟨a,xs,rfl,hq,hxs⟩:=gj (ds:=ds) hS hd (by simp[listOf,em])
    exact lst a xs rfl hq (h.ok hS (by simp[IsD,pk]))
   ·exact h.elim
  |own k=>exact absurd rfl (hc k)
  |_=>exact h.elim
theorem M3 {a:Expr} {xa:Ex} {c:Cl} {cn:Str} {p cp pos:Pos} (hc:∀n,c≠.own n) (ha:PE X a (tE X.K φ xa)) (hgi:Gl X "isinstance") (hmi:X.mg "isinstance"=none) (hgc:Gl X cn) (hmc:X.mg cn=none) (hbc:bootBuiltins cn=some (.type (lq c)))
  (hn:cn≠"__name__") (hd:(cn==("__debug__":Str))=false) (hs:starEach [a,.Name cn cp] X.env=(false,eval a X.env)::starEach [.Name cn cp] X.env) :
  PE X (.Call (.Name "isinstance" p) [a,.Name cn cp] [] pos) (tE X.K φ (.isi xa c)):=by
 have hb:PE X (.Name cn cp) (tC (.ty (lq c))):=D8 hgc hmc hbc rfl hn hd
 refine PE.imp (jb (Ju hc) hgi hmi boot_isinstance (tq ha (tq hb Dh) hs) (by decide) (by decide) hs) λσv H Q ⟨ι,σ,μ,hS,hL,h⟩=>?_
 simp![evE]at h
 obtain⟨d,μ1,e1,h⟩:=h.bind
 refine⟨ι,σ,μ,hS,hL,?_⟩
 rw[e1]
 exact λι1 v H1 p1 x1 s1 d1=>⟨ι1,d,μ1,v,rfl,s1,d1,h.mono p1 x1⟩
theorem Jv{K:PySem.W.Frag}{ι:List Addr}{μ:Sto}{n:Nat}{v:V}{ob:O}{xs:List D}(hS:Sim K ι H μ)(hd:IsD K ι H (.loc n) v)(e:μ[n]? = some ob)(hi:ll ob=some xs) :
  ∃a vs,v=.ref a/\ι[n]? = some a/\H a=some (.lst vs)/\ah K ι H xs vs/\(∀ds,ob=.l ds->ah K [] H xs vs):=by
 obtain⟨a,rfl,ha⟩:∃a,v=.ref a/\ι[n]? = some a:=by simpa[IsD]using hd
 obtain⟨a',ea,ho⟩:=hS.at e
 rw[ha]at ea;cases ea
 cases ob with
 |l ds =>
  cases hi
  obtain⟨vs,e1,e2⟩:=ho
  exact⟨a,vs,rfl,ha,e1,ah.mono (CG) (.refl _) _ _ e2,λ_ _=>e2⟩
 |r ds =>
  cases hi
  obtain⟨vs,e1,e2⟩:=ho
  exact⟨a,vs,rfl,ha,e1,e2,λ_ z=>by cases z⟩
 |d _=>cases hi
 |dt _=>cases hi
 |x _=>cases hi
 |o _ _=>cases hi
 |dr _=>cases hi
 |fd _=>cases hi
 |dead=>cases hi
theorem l5 {K:PySem.W.Frag} {ι:List Addr} {μ:Sto} {n:Nat} {ob:O} {ys:List D} {vs ws:List V} {d:D} {v:V} {a:Addr} {Q:VK} (hS:Sim K ι H μ) (ha:ι[n]? = some a) (hH:H a=some (.lst vs))
  (hw:ah K ι H ys ws) (hw0:∀ds,ob=.l ds->ah K [] H ys ws) (hd:IsD K ι H d v) (h:dw K (RD K) ι H (putL n ob ys d μ) Q):Q v (upd H a (.lst ws)):=by
 cases ob with
 |l ds =>
  exact h ι v _ (AG _) (.lst hH) (hS.put ha (.lst hH) ⟨ws,bj,ah.mono (AG _) (.lst hH) _ _ (hw0 ds rfl)⟩) (IsD.mono (AG _) (.lst hH) _ _ hd)
 |r ds =>
  exact h ι v _ (AG _) (.lst hH) (hS.put ha (.lst hH) ⟨ws,bj,ah.mono (AG _) (.lst hH) _ _ hw⟩) (IsD.mono (AG _) (.lst hH) _ _ hd)
 |d _=>exact h.elim
 |dt _=>exact h.elim
 |x _=>exact h.elim
 |o _ _=>exact h.elim
 |dr _=>exact h.elim
 |fd _=>exact h.elim
 |dead=>exact h.elim
theorem zz{K:PySem.W.Frag}{ι:List Addr}{ob:O}{d:D}{v:V}(hf:fits ob d=true)(hd:IsD K ι H d v):∀ds,ob=.l ds->IsD K [] H d v:=λds e=>by
 subst e
 exact IsD.pur hf hd
noncomputable def rMt(K:PySem.W.Frag)(mt:Mt):V->List V->Hp->VK->Prop:=λx vs H Q=>∃ι d ds μ,Sim K ι H μ/\IsD K ι H d x/\ah K ι H ds vs/\dw K (RD K) ι H (mtD mt d ds μ) Q
theorem Fm{mt:Mt}(hne:mt≠.count/\mt≠.countL/\mt≠.get){x:V}{vs:List V}{Q:VK}(h:rMt X.K mt x vs H Q):∃ι n ob xs ds μ a ws,Sim X.K ι H μ/\ah X.K ι H ds vs/\x=.ref a/\ι[n]? = some a/\H a=some (.lst ws)/\ah X.K ι H xs ws /\
  (∀es,ob=.l es->ah X.K [] H xs ws)/\dw X.K (RD X.K) ι H (mtL mt n ob xs ds μ) Q:=by
 obtain⟨ι,d,ds,μ,hS,hd,hds,h⟩:=h
 have e0:mtD mt d ds μ=t6 mt d ds μ:=by
  cases mt<;>first | exact absurd rfl hne.1 | exact absurd rfl hne.2.1 | exact absurd rfl hne.2.2 | rfl
 rw[e0]at h
 cases d with
 |loc n =>
  simp![t6]at h
  cases em:μ[n]? with
  |none=>rw[em]at h;exact h.elim
  |some ob =>
   rw[em]at h
   simp only at h
   cases ei:ll ob with
   |none=>rw[ei]at h;exact h.elim
   |some xs =>
    rw[ei]at h
    obtain⟨a,ws,ex,ha,hH,h1,h2⟩:=Jv hS hd em ei
    exact⟨ι,n,ob,xs,ds,μ,a,ws,hS,hds,ex,ha,hH,h1,h2,h⟩
 |_=>exact h.elim
theorem B7:MtR X "list.append" (rMt X.K .append):=MtR.imp ze λx vs H Q h0=>by
 obtain⟨ι,n,ob,xs,ds,μ,a,ws,hS,hds,rfl,ha,hH,h1,h2,h⟩:=Fm (by decide) h0
 clear h0
 simp![mtL]at h
 obtain⟨d,v,rfl,hv,h⟩:=ju hds h
 split at h
 ·rename_i hf
  rw[g9]at hf
  refine⟨a,ws,v,rfl,rfl,hH,by rw[h1.length];exact hf.2,l5 hS ha hH (h1.append (.one hv)) (λes e=>(h2 es e).append (.one (zz hf.1 hv es e))) (by simp[IsD]) h⟩
 ·exact h.elim
theorem M4:MtR X "list.pop" (rMt X.K .pop):=by
 intro pins s σ H x vs v us Q I rx rv h0
 obtain⟨ι,n,ob,xs,ds,μ,a,ws,hS,hds,rfl,ha,hH,h1,h2,h⟩:=Fm (by decide) h0
 clear h0
 simp![mtL]at h
 split at h
 ·have e:vs=[]:=by simpa[ah]using hds
  subst e
  split at h
  ·rename_i d ed
   have hl:xs[xs.length-1]? = some d:=by rw[<-List.getLast?_eq_getElem?];exact ed
   obtain⟨w,ew,hw⟩:=h1.get hl
   refine Ia pins s σ H _ _ v us Q I rx rv ⟨a,ws,w,rfl,rfl,hH,by rw[h1.length];exact ew,l5 hS ha hH h1.dropLast (λes e=>(h2 es e).dropLast) hw h⟩
  ·exact h.elim
 ·rename_i i
  obtain⟨w0,rfl,hw0⟩:=Ds hds
  cases c6 hw0
  split at h
  ·rename_i hi
   rw[g9]at hi
   have h24:sizeLine=16777216:=CJ
   rw[h24]at hi
   split at h
   ·rename_i d ed
    obtain⟨w,ew,hw⟩:=h1.get ed
    have hlt:i.toNat<xs.length:=(AK.mp ed).1
    refine Br pins s σ H _ _ v us Q I rx rv ⟨a,ws,i,i.toNat,w,rfl,rfl,hH,by lia,by lia,?_,ew,l5 hS ha hH (h1.eraseIdx _) (λes e=>(h2 es e).eraseIdx _) hw h⟩
    rw[h1.length]
    exact PySem.StrLaws.seqIndex_nonneg hi.1 (by lia)
   ·exact h.elim
  ·exact h.elim
 ·exact h.elim
theorem B8:MtR X "list.extend" (rMt X.K .extend):=by
 intro pins s σ H x vs v us Q I rx rv h0
 obtain⟨ι,n,ob,xs,ds,μ,a,ws,hS,hds,rfl,ha,hH,h1,h2,h⟩:=Fm (by decide) h0
 clear h0
 simp![mtL]at h
 obtain⟨d,w0,rfl,hv,h⟩:=ju hds h
 split at h
 ·rename_i ys ey
  split at h
  ·rename_i hf
   rw[g9]at hf
   obtain⟨b,zs,rfl,hb,hzs⟩:=gj hS hv ey
   cases(show v=Value.ref a from rx)
   obtain⟨u,rfl,ru⟩:=rv.one
   cases(show u=Value.ref b from ru)
   obtain⟨z,its,n1,r,hl,e⟩:=I.lstM hH
   obtain⟨z2,its2,n2,r2,hl2,e2⟩:=I.ls hb
   have l1:=h1.length
   have l2:=hzs.length
   have hsz:its.toArray.size+its2.toArray.size<=sizeLine:=by rw[AF,AF];lia
   have hlong:¬(!its.toArray.isEmpty&&Builtin.List.listTooLong (its.toArray.size+its2.toArray.size))=true:=by
    rw[vc hsz,Bool.and_false]
    exact BF
   refine DC F.slot_list_extend ⟨_,e,rfl⟩ F.entry_list_extend (F.args_list_extend_2 _ _)
    (AutoSeq1.list_extend_list_list_0 a its.toArray n1 b its2.toArray n2 hlong (by rw[AF];lia) (by lia)) ⟨e,e2,?_⟩
   refine⟨.non,_,I.lset (its':=its++its2) hH e (by simp) (r.append r2) ?_,rfl,l5 hS ha hH (h1.append hzs) (λes ee=>(h2 es ee).append ?_) (by simp[IsD]) h⟩
   ·rw[BA]
    lia
   ·subst ee
    exact ah.pur (by simpa[fits]using hf.1) hzs
  ·exact h.elim
 ·exact h.elim
end
theorem IsD.belowN{K:PySem.W.Frag}{ι ι':List Addr}{H:Hp}(hp:ι <+: ι'):∀(k:Nat) (d:D) (v:V),D.belowN ι.length k d=true->IsD K ι' H d v->IsD K ι H d v:=by
 have list:∀(k:Nat),(∀(d:D) (v:V),D.belowN ι.length k d=true->IsD K ι' H d v->IsD K ι H d v) ->
   ∀(ds:List D) (xs:List V),ds.all (D.belowN ι.length k)=true->ah K ι' H ds xs->ah K ι H ds xs:=by
  intro k ih ds
  induction ds with
  |nil=>intro xs _ h;simpa[ah]using h
  |cons d ds ihd =>
   intro xs hp h
   simp![ah]at h ⊢
   simp![BI,AY]at hp
   obtain⟨v,r,e,q,t⟩:=h
   exact⟨v,r,e,ih d v hp.1 q,ihd r hp.2 t⟩
 have loc:∀(n:Nat) (v:V),n<ι.length->IsD K ι' H (.loc n) v->IsD K ι H (.loc n) v:=λn v hn h=>by
  simp![IsD]at h ⊢
  obtain⟨a,e,q⟩:=h
  obtain⟨t,rfl⟩:=hp
  rw[AS hn]at q
  exact⟨a,e,q⟩
 intro k
 induction k with
 |zero =>
  intro d v hb h
  cases d with
  |loc n=>exact loc n v (by simpa[D.belowN]using hb) h
  |tup ds=>simp[D.belowN]at hb
  |lst ds=>simp[D.belowN]at hb
  |_=>simpa[IsD]using h
 |succ k ih =>
  intro d v hb h
  cases d with
  |tup ds =>
   simp![D.belowN]at hb
   simp![IsD]at h ⊢
   obtain⟨a,xs,e,q,r⟩:=h
   exact⟨a,xs,e,q,list k ih ds xs hb r⟩
  |lst ds =>
   simp![D.belowN]at hb
   simp![IsD]at h ⊢
   obtain⟨a,xs,e,q,r⟩:=h
   exact⟨a,xs,e,q,list k ih ds xs hb r⟩
  |loc n=>exact loc n v (by simpa[D.belowN]using hb) h
  |_=>simpa[IsD]using h
theorem ah.belowN{K:PySem.W.Frag}{ι ι':List Addr}{H:Hp}(hp:ι <+: ι'){k:Nat}:∀(ds:List D) (xs:List V),ds.all (D.belowN ι.length k)=true->ah K ι' H ds xs->ah K ι H ds xs
 | [],xs,_,h=>by simpa[ah]using h
 |d::ds,xs,hb,h=>by
  simp![ah]at h ⊢
  simp![BI,AY]at hb
  obtain⟨v,r,e,q,t⟩:=h
  exact⟨v,r,e,IsD.belowN hp k d v hb.1 q,ah.belowN hp ds r hb.2 t⟩
theorem z0{K:PySem.W.Frag}{ι ι':List Addr}{H:Hp}(hp:ι <+: ι'):∀{fs:List (Str×D)} {xs:List (Str×V)},(fs.all λp=>D.belowN ι.length 8 p.2)=true->FsD K ι' H fs xs->FsD K ι H fs xs
 |_,_,_,.nil=>.nil
 |(f,d)::r,(g,v)::q,h,.cons z t=>by
  simp![BI,AY]at h
  exact .cons ⟨z.1,IsD.belowN hp 8 d v h.1 z.2⟩ (z0 hp h.2 t)
theorem z5{K:PySem.W.Frag}{ι ι':List Addr}{H:Hp}(hp:ι <+: ι'):∀{fs:List (D×D)} {xs:List (Key×V)},(fs.all λp=>D.belowN ι.length 8 p.2)=true->Bd K ι' H fs xs->Bd K ι H fs xs
 |_,_,_,.nil=>.nil
 |(f,d)::r,(g,v)::q,h,.cons z t=>by
  simp![BI,AY]at h
  exact .cons ⟨z.1,IsD.belowN hp 8 d v h.1 z.2⟩ (z5 hp h.2 t)
theorem Sim.cut{K:PySem.W.Frag}{ι ι':List Addr}{H:Hp}{μ:Sto}(h:Sim K ι' H μ)(hp:ι <+: ι')(hc:(μ.take ι.length).all (eo ι.length)=true):Sim K ι H (μ.take ι.length):=by
 have hl:ι.length<=μ.length:=by rw[<-h.len];exact hp.length_le
 refine⟨by rw[CK];lia,hp.sublist.nodup h.nd,λn a o e1 e2=>?_⟩
 have hn:n<ι.length:=(AK.mp e1).1
 have e1':ι'[n]? = some a:=by
  obtain⟨t,rfl⟩:=hp
  rw[AS hn];exact e1
 have e2':μ[n]? = some o:=by
  rw[FT hn]at e2;exact e2
 have q:=h.obj n a o e1' e2'
 have c:eo ι.length o=true:=AT.mp hc o (BZ e2)
 cases o with
 |l ds=>exact q
 |r ds =>
  obtain⟨xs,e,r⟩:=q
  exact⟨xs,e,ah.belowN hp ds xs c r⟩
 |d kvs=>exact q
 |dt kvs=>exact q
 |x c=>exact q
 |o c' fs =>
  obtain⟨C,dx,xs,n,e,r⟩:=q
  exact⟨C,dx,xs,n,e,z0 hp c r⟩
 |dr kvs =>
  obtain⟨xs,e,r⟩:=q
  exact⟨xs,e,z5 hp c r⟩
 |fd kvs=>exact q
 |dead=>exact q
theorem z6{K:PySem.W.Frag}{ι:List Addr}{H:Hp}{μ:Sto}{keep:Bool}{r:Res D}{Q:VK}(hS:Sim K ι H μ)(h:dw K (RD K) ι H (km keep μ.length r) Q):dw K (RD K) ι H r Q:=by
 cases r with
 |exc c ds μ'=>exact h
 |stuck=>exact h
 |ok d μ' =>
  cases keep with
  |true=>simpa[km]using h
  |false =>
   simp![km,CH,if_false]at h
   split at h
   ·rename_i hc
    rw[<-hS.len]at hc h
    exact λι' v H' p e s q=>h ι v H' (AG _) e (s.cut p hc.2) (IsD.belowN p 8 d v hc.1 q)
   ·exact h.elim
noncomputable def spD(K:PySem.W.Frag)(φ:Phi)(f:Nat):Sp:=λvs H Q _=>∃ι ds μ,Sim K ι H μ/\ah K ι H ds vs/\dw K (RD K) ι H (φ f ds μ) Q
noncomputable def Callee(P:Program)(w:World)(K:PySem.W.Frag)(mg:Str->Option Value)(base:Heap)(A:Around)(φ:Phi)(f:Nat)(x:Str):Prop :=
 ∃(k:Nat) (fa:Addr) (fd:FuncData) (ps:List Str),FnOk P w K mg base CX0 k fa fd ps (spD K φ f)/\y9 k A/\mg x=some (.ref fa)/\PySem.W.keepIn K (.ref fa)=true/\Binds K fd ps []
section
variable{X:Cx}{φ:Phi}{x:Str}{p pos:Pos}{e:Expr}{es:List Expr}{xs:Exs}{f:Nat}{keep:Bool}
theorem s_call (C:Callee X.prog X.w X.K X.mg X.base X.A φ f x) (hg:Gl X x) (ha:PA X (e::es) (tEs X.K φ xs)) (hdb:(x==("__debug__":Str))=false)
  (he:starEach (e::es) X.env=(false,eval e X.env)::starEach es X.env) (hpl:(backTo pos (starEach es X.env)).any (·.1)=false):PE X (.Call (.Name x p) (e::es) [] pos) (tE X.K φ (.call keep f xs)):=by
 obtain⟨k,fa,fd,ps,F,hr,hm,hk,hb⟩:=C
 refine PE.imp (Eh F hr.1 hg hm hk hb .nil L0 ha hdb he hpl) λσv H Q ⟨ι,σ,μ,hS,hL,h⟩=>?_
 simp![evE]at h
 obtain⟨ds,μ1,e1,h⟩:=h.bind
 refine⟨ι,σ,μ,hS,hL,?_⟩
 rw[e1]
 intro ι1 vs H1 p1 x1 s1 d1
 exact⟨ι1,ds,μ1,s1,by rw[EJ];exact d1,z6 s1 (h.mono p1 x1)⟩
end
theorem Fn {P:Program} {w:World} {K:PySem.W.Frag} {mg:Str->Option Value} {base:Heap} {x qual:Str} {st:Stmt} {fa:Addr} {fd:FuncData} {N ps:List Str} {n f:Nat} {T:List Df} {df:Df} (F:Fun K x qual st fa fd) (S:FnScope N ps (bc st))
  (hd:T[f]? = some df) (hnp:df.np=ps.length) (hnn:df.nn=N.length)
  (hb:∀(cdv:Value) (A:Around) (outer:List Env) (s:Shared) (H:Hp) (E:XK),y9 n (A.deeper (envOfC qual (bc st) s.heap.objs.size fa cdv)) ->
   PSs (Bn CX0 P w K mg base N qual (bc st) fa cdv A outer s H E).nox (g8 st) (tSs K (ao T n) df.body)):FnOk P w K mg base CX0 (n+1) fa fd ps (spD K (ao T (n+1)) f):=by
 have len:∀{vs:List V} {H:Hp} {ds:List D} {ι:List Addr} {μ:Sto} {Q:VK},ah K ι H ds vs->dw K (RD K) ι H (ao T (n+1) f ds μ) Q->ds.length=df.np:=λ{vs H ds ι μ Q} hds h=>by
  simp![ao,hd,Gz]at h
  split at h
  ·assumption
  ·exact h.elim
 refine F.ok S (λvs H Q E ⟨ι,ds,μ,hS,hds,h⟩=>?_) λcdv A outer s H vs Q E hr ⟨ι,ds,μ,hS,hds,h⟩=>⟨_,hb cdv A outer s H E hr,?_⟩
 ·rw[hds.length,len hds h,hnp]
 ·have hl:=len hds h
  refine⟨ι,ds.map some++List.replicate (df.nn-df.np) none,μ,hS,λi d e=>?_,?_,?_⟩
  ·by_cases hi:i<ds.length
   ·rw[AS (by simpa using hi),BX]at e
    cases ed:ds[i]? with
    |none=>rw[ed]at e;cases e
    |some d' =>
     rw[ed]at e
     simp![GP,BB]at e
     subst e
     obtain⟨v,ev,hv⟩:=hds.get ed
     refine⟨v,?_,hv⟩
     unfold L2.start
     rw[AS (by rw[AV,hds.length];exact hi),BX,ev]
     rfl
   ·rw[BY (by simpa using hi),CP]at e
    split at e<;>cases e
  ·unfold L2.start
   simp![BA,AV,GS,hds.length]
   lia
  ·simp![ao,hd,Gz,if_pos hl]at h
   cases er:jq (ao T n) df.body (ds.map some++List.replicate (df.nn-df.np) none) μ with
   |exc c es μ'=>rw[er]at h;exact h.elim
   |stuck=>rw[er]at h;exact h.elim
   |ok fl μ' =>
    rw[er]at h
    simp![Res.cb]at h
    cases fl with
    |nx σ'=>exact λι' σv H' p e s' l z=>h ι' .non H' p e s' (by simp[IsD])
    |rt d=>exact λι' v H' p e s' q=>h ι' v H' p e s' q
    |bk σ'=>exact h.elim
    |ct σ'=>exact h.elim
theorem Fo{P:Program}{w:World}{K:PySem.W.Frag}{mg:Str->Option Value}{base:Heap}{fa:Addr}{fd:FuncData}{ps:List Str}{f:Nat}{T:List Df}:FnOk P w K mg base CX0 0 fa fd ps (spD K (ao T 0) f) :=
 ⟨λvs H Q E ⟨ι,ds,μ,hS,hds,h⟩=>h.elim,λA outer s H args us vs Q E hr he hb hv ⟨ι,ds,μ,hS,hds,h⟩=>h.elim⟩
structure Ent where
 id:Nat
 name:Str
 st:Stmt
 N:List Str
 ps:List Str
 df:Df
structure ModOf (K:PySem.W.Frag) (mg:Str->Option Value) (e:Ent):Prop where
 ex:∃(fa:Addr) (fd:FuncData),mg e.name=some (.ref fa)/\Fun K e.name e.name e.st fa fd/\∀us:List Value,us.length=e.ps.length->bindArgs fd ⟨us,[]⟩=pure (e.ps.zip us)
theorem cj {K:PySem.W.Frag} {h:Heap} {mg:Str->Option Value} {e:Ent} {f:Addr} {oc:Value} {od an:Option Addr} {sl:Array (Option Value)} {kV dc pm cd ct:Value} (X:K.In h) (G:h.Ns mainGlobals mg) (a:PySem.W.nsIn K mainGlobals e.name=some (some (.ref f)))
  (l:K.lookup f=some ⟨oc,od,.func (PySem.W.fnOf e.name e.name (me e.st) (g8 e.st) (bc e.st) .none kV dc pm an cd ct),sl⟩) (c:PySem.W.codeIn K cd e.name=true) (k:PySem.W.keepIn K (.ref f)=true)
  (hb:∀(kV doc pm:Value) (an:Option Addr) (cdv ct:Value) (us:List Value),us.length=e.ps.length->bindArgs (PySem.W.fnOf e.name e.name (me e.st) (g8 e.st) (bc e.st) .none kV doc pm an cdv ct) ⟨us,[]⟩=pure (e.ps.zip us)):ModOf K mg e :=
 ⟨f,_,PySem.W.mg_of X G a,Ig l c k,hb kV dc pm an cd ct⟩
structure Derived (T:List Df) (P:Program) (w:World) (K:PySem.W.Frag) (mg:Str->Option Value) (base:Heap) (es:List Ent) (e:Ent):Prop where
 sc:FnScope e.N e.ps (bc e.st)
 tb:T[e.id]? = some e.df
 np:e.df.np=e.ps.length
 nn:e.df.nn=e.N.length
 dv:∀(n:Nat) (fa:Addr) (cdv:Value) (A:Around) (outer:List Env) (s:Shared) (H:Hp) (E:XK),(A.deeper (envOfC e.name (bc e.st) s.heap.objs.size fa cdv)).units+64<cLine ->
  (∀(j:Nat) e',es[j]? = some e'->Callee P w K mg base (A.deeper (envOfC e.name (bc e.st) s.heap.objs.size fa cdv)) (ao T n) e'.id e'.name) ->
  PSs (Bn CX0 P w K mg base e.N e.name (bc e.st) fa cdv A outer s H E).nox (g8 e.st) (tSs K (ao T n) e.df.body)
theorem Dt{T:List Df}{P:Program}{w:World}{K:PySem.W.Frag}{mg:Str->Option Value}{base:Heap}{es:List Ent}(M:∀(j:Nat) e,es[j]? = some e->ModOf K mg e)(Dv:∀(j:Nat) e,es[j]? = some e->Derived T P w K mg base es e) :
  ∀(n:Nat) (j:Nat) e,es[j]? = some e->∀(fa:Addr) (fd:FuncData),mg e.name=some (.ref fa)->Fun K e.name e.name e.st fa fd->FnOk P w K mg base CX0 n fa fd e.ps (spD K (ao T n) e.id)
 |0,j,e,_,fa,fd,_,_=>Fo
 |n+1,j,e,he,fa,fd,hm,hF=>by
  have d:=Dv j e he
  refine Fn hF d.sc d.tb d.np d.nn λcdv A outer s H E hr=>d.dv n fa cdv A outer s H E hr.1.units λi e' he'=>?_
  obtain⟨fa',fd',hm',hF',hb'⟩:=(M i e' he').ex
  exact⟨n,fa',fd',e'.ps,Dt M Dv n i e' he' fa' fd' hm' hF',hr,hm',hF'.kp,.all hb'⟩
noncomputable def B9(K:PySem.W.Frag):Sp:=λvs H Q _=>∃(a:Addr) (ns:List Int),vs=[.ref a]/\FzL K H a (ns.map V.int)/\ns.length<=63/\∀H',Q (.bl true) H'
theorem Jw {T:List Df} {P:Program} {w:World} {K:PySem.W.Frag} {mg:Str->Option Value} {base:Heap} {es:List Ent} {n j:Nat} {e:Ent} {fa:Addr} {fd:FuncData} (M:∀(j:Nat) e,es[j]? = some e->ModOf K mg e) (Dv:∀(j:Nat) e,es[j]? = some e->Derived T P w K mg base es e)
  (he:es[j]? = some e) (hm:mg e.name=some (.ref fa)) (hF:Fun K e.name e.name e.st fa fd) (hps:e.ps.length=1)
  (hlaw:∀ns:List Int,ns.length<=63->∃μ',ao T n e.id [.lst (ns.map D.int)] []=.ok (.bl true) μ'):FnOk P w K mg base CX0 n fa fd e.ps (B9 K):=by
 refine(Dt M Dv n j e he fa fd hm hF).imp λvs H Q E ⟨a,ns,ev,hS,hl,q⟩=>?_
 subst ev
 obtain⟨μ',el⟩:=hlaw ns hl
 refine⟨[],[.lst (ns.map D.int)],[],⟨rfl,List.nodup_nil,λn a o e1 e2=>by simp at e1⟩,?_,?_⟩
 ·simp![ah,IsD]
  exact⟨.ref a,[],rfl,⟨a,_,rfl,hS,ah.ints ns⟩,rfl⟩
 ·rw[el]
  intro ι' v H' p x s' d
  have ev:v=.bl true:=by simpa[IsD]using d
  subst ev
  exact q H'
theorem Fp {T:List Df} {P:Program} {w:World} {K:PySem.W.Frag} {mg:Str->Option Value} {es:List Ent} {n j:Nat} {e:Ent} {fa:Addr} (M:∀(j:Nat) e,es[j]? = some e->ModOf K mg e) (Dv:∀(base:Heap) (j:Nat) e,es[j]? = some e->Derived T P w K mg base es e)
  (he:es[j]? = some e) (hfa:mg e.name=some (.ref fa)) (hps:e.ps=[("script":Str)])
  (hlaw:∀ns:List Int,ns.length<=63->∃μ',ao T n e.id [.lst (ns.map D.int)] []=.ok (.bl true) μ') :
  ∃fd:FuncData,(∀(s:Shared) (v:Value),BindsTo s fd ⟨[v],[]⟩ [("script",v)])/\∀base:Heap,K.In base->base.Ns mainGlobals mg->FnOk P w K mg base CX0 n fa fd ["script"] (B9 K):=by
 obtain⟨fa',fd,hm,hF,hb⟩:=(M j e he).ex
 have z:=hfa.symm.trans hm
 cases z
 rw[hps]at hb
 refine⟨fd,λs v=>.of_eq (hb [v] rfl),λbase _ _=>?_⟩
 have q:=Jw M (Dv base) he hm hF (by rw[hps];rfl) hlaw
 rw[hps]at q
 exact q
theorem Ca {l:PySem.W.OpenLaw} {n:Nat} {q:Program} {loose:List Str} {XP:(Str->Option Value)->Heap->Prop} {YP:World->Heap->Prop} {d:DefRec} {K:Params->PySem.W.Frag} (hr:Room n callerA) (hn:l.most=some 63) (hdf:d.params.defaults=[])
  (hY:∀(w:World) (h:Heap),YP w h->(K w.params).In h)
  (F:∀(w:World) (mg:Str->Option Value) (fa:Addr) (h:Heap),(K w.params).In h->h.Ns mainGlobals mg->mg d.name=some (.ref fa) ->
   ∃fd:FuncData,(∀(s:Shared) (u:Value),BindsTo s fd ⟨[u],[]⟩ [("script",u)])/\∀base:Heap,(K w.params).In base->base.Ns mainGlobals mg->FnOk l.prog w (K w.params) mg base CX0 n fa fd ["script"] (B9 (K w.params))) :
  PySem.W.WalkO q loose XP YP l.row.toRowW d [] (λf vs=>PySem.call f vs) :=
 L2.Es (n:=63) (k:=n) (x:="script") (CX:=λ_=>CX0) (sp:=λw=>B9 (K w.params)) hn (by decide) hdf hr hY F (λ_ _ a ns hl _ hS=>⟨a,ns,rfl,hS,hl,λ_=>rfl⟩) λ_ _ _ _ _ z=>z
noncomputable def Exs.len:Exs->Nat
 |.nil=>0
 |.cons _ r=>r.len+1
theorem pq{φ:Phi}:∀{xs:Exs} {σ:Sl} {μ:Sto} {ds:List D} {μ':Sto},du φ xs σ μ=.ok ds μ'->ds.length=xs.len
 |.nil,σ,μ,ds,μ',h=>by
  simp![du]at h
  cases h;rfl
 |.cons e r,σ,μ,ds,μ',h=>by
  simp![du]at h
  cases e1:evE φ e σ μ with
  |exc _ _ _=>rw[e1]at h;cases h
  |stuck=>rw[e1]at h;cases h
  |ok d μ1 =>
   rw[e1]at h
   simp![Res.cb]at h
   cases e2:du φ r σ μ1 with
   |exc _ _ _=>rw[e2]at h;cases h
   |stuck=>rw[e2]at h;cases h
   |ok es μ2 =>
    rw[e2]at h
    cases h
    simp[Exs.len,pq e2]
noncomputable def vk(sc scope:Scope)(N Nb:List Str)(cap:List Nat)(nl:Nat):Bool :=
 decide (scope.kind=.function)&&scope.names.all (λy=>decide (scope.names.lookup y.1=some y.2)
  && (!decide (y.2=.free) || decide (sc.names.lookup y.1=some .cell) || decide (sc.names.lookup y.1=some .free)))
 && decide Nb.Nodup&&decide (Nb.length=cap.length+nl)
 && (List.range cap.length).all (λj=>match cap[j]?,Nb[j]? with
  |some i,some x=>decide (N[i]? = some x)&&scope.names.any λy=>decide (y.1=x)&&decide (y.2=.free)
  |_,_=>false)
theorem lookup_mem{l:List (Str×NameKind)}{n:Str}{k:NameKind}(h:l.lookup n=some k):(n,k)∈l:=by
 induction l with
 |nil=>cases h
 |cons a r ih =>
  obtain⟨m,j⟩:=a
  rw[Db]at h
  cases hb:n==m with
  |true =>
   rw[hb]at h
   cases h
   have:n=m:=by simpa using hb
   subst this
   exact AR
  |false =>
   rw[hb]at h
   exact AO _ (ih h)
theorem mm{scope:Scope}{env:Env}{n:Str}{k:NameKind}(h:(n,k)∈(relabel scope env).names):(n,k)∈scope.names\/(k=.cell/\(n,NameKind.free)∈scope.names):=by
 have h2:(n,k)∈scope.names.map (fun(n,k)=>if(k==NameKind.free&&env.scope.kind==.function&&env.kindOf n==some .cell)then(n,NameKind.cell)else(n,k)):=h
 obtain⟨⟨m,j⟩,hm,e⟩:=BS.mp h2
 dsimp only at e
 split at e
 ·rename_i hc
  cases e
  simp![AY,beq_iff_eq]at hc
  obtain⟨⟨rfl,_⟩,_⟩:=hc
  exact .inr ⟨rfl,hm⟩
 ·cases e
  exact .inl hm
theorem ov{sc scope:Scope}{N Nb:List Str}{cap:List Nat}{nl:Nat}(h:vk sc scope N Nb cap nl=true):CompScope sc scope N Nb cap nl:=by
 simp![vk,AY,AT,decide_eq_true_eq,Bool.or_eq_true,FN,decide_eq_false_iff_not]at h
 obtain⟨⟨⟨⟨h1,h2⟩,h3⟩,h4⟩,h5⟩:=h
 refine⟨h1,λy hy=>(h2 y hy).1,λn hn=>?_,λn hn=>?_,h3,h4,λj i e=>?_⟩
 ·rcases(h2 (n,.free) hn).2 with(z | z) | z
  ·exact absurd rfl z
  ·exact .inl z
  ·exact .inr z
 ·rcases hn with hn | hn
  ·rcases mm (lookup_mem hn)with z | z
   ·exact .inr z
   ·exact .inl z.2
  ·rcases mm (lookup_mem hn)with z | z
   ·exact .inl z
   ·exact .inl z.2
 ·have hj:j<cap.length:=(AK.mp e).1
  have q:=h5 j (GY.mpr hj)
  rw[e]at q
  cases ex:Nb[j]? with
  |none=>rw[ex]at q;simp at q
  |some x =>
   rw[ex]at q
   simp![AY,decide_eq_true_eq,List.any_eq_true]at q
   obtain⟨q1,⟨y,k⟩,hy,e1,e2⟩:=q
   dsimp only at e1 e2
   subst e1;subst e2
   exact⟨y,rfl,q1,hy⟩
noncomputable def ndB(l:List Str):Bool:=decide l.Nodup
theorem vm{l:List Str}(h:ndB l=true):l.Nodup:=of_decide_eq_true h
section
variable{X:Cx}{φ:Phi}{a b c e:Expr}{es:List Expr}{xa xb xc xe:Ex}{xs:Exs}{pos:Pos}
theorem ae (i:Nat) {x:Str} (hN:X.N[i]? = some x:=by rfl) (hv:Vis X.env.scope x:=by first | exact Or.inl rfl | exact Or.inr (Or.inl rfl) | exact Or.inr (Or.inr rfl)) (hd:(x==("__debug__":Str))=false:=by decide)
  (hcd:(x==("__classdict__":Str))=false:=by decide):PE X (.Name x pos) (tE X.K φ (.var i)):=Mf hN hv hd hcd
theorem M5 (i:Nat) {x:Str} (hN:X.N[i]? = some x:=by rfl) (hv:Vis X.env.scope x:=by first | exact Or.inl rfl | exact Or.inr (Or.inl rfl) | exact Or.inr (Or.inr rfl)) (hd:(x==("__debug__":Str))=false:=by decide)
  (hcd:(x==("__classdict__":Str))=false:=by decide):PE X (.Name x pos) (tE X.K φ (.frz i)):=My hN hv hd hcd
theorem aj{i:Int}{j:Nat}:PE X (.Constant (.int i) j pos) (tE X.K φ (.cst (.int i))):=Mg
theorem Jx{i:Bool}{j:Nat}:PE X (.Constant (.bool i) j pos) (tE X.K φ (.cst (.bl i))):=Se
theorem rz{j:Nat}:PE X (.Constant .none j pos) (tE X.K φ (.cst .non)):=Mh
theorem cg{i:Str}{j:Nat}:PE X (.Constant (.str i) j pos) (tE X.K φ (.cst (.str i))):=Mi
theorem af:PA X [] (tEs X.K φ .nil):=Bv
theorem aa(ha:PE X a (tE X.K φ xa))(hb:PA X es (tEs X.K φ xs))(hs:starEach (a::es) X.env=(false,eval a X.env)::starEach es X.env:=by rfl):PA X (a::es) (tEs X.K φ (.cons xa xs)):=rl ha hb hs
theorem bb{op:Operator}{m:Mk}(ha:PE X a (tE X.K φ xa))(hb:PE X b (tE X.K φ xb)):PE X (.BinOp a op b pos) (tE X.K φ (.bin op m xa xb)):=Mj Jj ha hb
theorem Jy(ha:PE X a (tE X.K φ xa)):PE X (.UnaryOp .Not a pos) (tE X.K φ (.not xa)):=I0 ha
theorem Fq{rest:List Expr}(ha:PE X a (tE X.K φ xa))(hb:PE X (.BoolOp .And (b::rest) pos) (tE X.K φ xb)):PE X (.BoolOp .And (a::b::rest) pos) (tE X.K φ (.and xa xb)):=Ja ha hb
theorem So{rest:List Expr}(ha:PE X a (tE X.K φ xa))(hb:PE X (.BoolOp .Or (b::rest) pos) (tE X.K φ xb)):PE X (.BoolOp .Or (a::b::rest) pos) (tE X.K φ (.or xa xb)):=Mn ha hb
theorem Du{t:TE}(h:PE X a t):PE X (.BoolOp .And [a] pos) t:=De h
theorem M6{t:TE}(h:PE X a t):PE X (.BoolOp .Or [a] pos) t:=De h
theorem Jz(hc:PT X c (tT X.K φ xc))(ha:PE X a (tE X.K φ xa))(hb:PE X b (tE X.K φ xb)):PE X (.IfExp c a b pos) (tE X.K φ (.ite xc xa xb)):=Mp hc ha hb
theorem mn{k:Nat}(h:PA X es (tEs X.K φ xs))(hl:xs.len<=1000:=by decide):PE X (.Tuple es k pos) (tE X.K φ (.tup xs)):=Ml h λσ μ ds μ' e=>by
 rw[pq e];exact DX (ri hl)
theorem z7{m:Mk}(h:PA X es (tEs X.K φ xs))(hl:xs.len<=1000:=by decide):PE X (.List es pos) (tE X.K φ (.lst m xs)):=Mx h λσ μ ds μ' e=>by
 rw[pq e];exact DX (ri hl)
theorem uf(ha:PE X a (tE X.K φ xa))(hb:PE X b (tE X.K φ xb))(hs:tv b:=by intro _ _;rfl):PE X (.Subscript a b pos) (tE X.K φ (.ix xa xb)):=Sf Mz ha hb hs
theorem G0:PO X none (tEo X.K φ .no):=Sj
theorem G1(he:PE X e (tE X.K φ xe)):PO X (some e) (tEo X.K φ (.so xe)):=Sk he
theorem G2{lo hi:Option Expr}{xl xh:ExO}{m:Mk}{p2:Pos}(he:PE X e (tE X.K φ xe))(hl:PO X lo (tEo X.K φ xl))(hh:PO X hi (tEo X.K φ xh)):PE X (.Subscript e (.Slice lo hi none p2) pos) (tE X.K φ (.sl m xe xl xh)):=Sn he hl hh
theorem jv(hu:X.A.units+64<cLine)(op:Cp)(he:PE X e (tE X.K φ xe)):PCh X [opOf op] [e] (tCh X.K φ (.cons op xe .nil)):=Fi (zw op (by lia)) he
theorem Dw(hu:X.A.units+64<cLine)(op:Cp){op':Cp}{e':Expr}{ops:List CmpOp}{xe':Ex}{r:Cps}(he:PE X e (tE X.K φ xe))(hr:PCh X (opOf op'::ops) (e'::es) (tCh X.K φ (.cons op' xe' r))) :
  PCh X (opOf op::opOf op'::ops) (e::e'::es) (tCh X.K φ (.cons op xe (.cons op' xe' r))):=Fj (zw op (by lia)) he hr
theorem iz(hu:X.A.units+64<cLine)(op:Cp)(he:PE X e (tE X.K φ xe)):PTh X [opOf op] [e] (tTh X.K φ (.cons op xe .nil)):=Fk (zw op (by lia)) he
theorem jw{ops:List CmpOp}{r:Cps}(ha:PE X a (tE X.K φ xa))(hr:PCh X ops es (tCh X.K φ r))(hm:lastMarks ops es=false:=by rfl):PE X (.Compare a ops es pos) (tE X.K φ (.cmp xa r)):=M0 ha hr hm
theorem d8{ops:List CmpOp}{r:Cps}(ha:PE X a (tE X.K φ xa))(hr:PTh X ops es (tTh X.K φ r))(hm:lastMarks ops es=false:=by rfl):PT X (.Compare a ops es pos) (tT X.K φ (.cmp xa r)):=Jr ha hr hm
theorem dh(ha:PE X a (tE X.K φ xa))(he:∀whole,isTrue a X.env whole=(do let v <-whole;standAt a.pos;holding [v] (truthy v)):=by intro _;rfl):PT X a (tT X.K φ xa):=E4 ha he
theorem d9(ha:PT X a (tT X.K φ xa)):PT X (.UnaryOp .Not a pos) (tT X.K φ (.not xa)):=Iz ha
theorem Fs(ha:PT X a (tT X.K φ xa)):PW X (.BoolOp .And [a] pos) (tT X.K φ xa):=D9 ha
theorem lr(ha:PT X a (tT X.K φ xa)):PW X (.BoolOp .Or [a] pos) (tT X.K φ xa):=Ha ha
theorem J0{rest:List Expr}(ha:PT X a (tT X.K φ xa))(hb:PW X (.BoolOp .And (b::rest) pos) (tT X.K φ xb)):PW X (.BoolOp .And (a::b::rest) pos) (tT X.K φ (.and xa xb)):=Jb ha hb
theorem mq{rest:List Expr}(ha:PT X a (tT X.K φ xa))(hb:PW X (.BoolOp .Or (b::rest) pos) (tT X.K φ xb)):PW X (.BoolOp .Or (a::b::rest) pos) (tT X.K φ (.or xa xb)):=Mo ha hb
theorem Cb{t:TT}(h:PW X a t):PT X a t:=h.pt
theorem ai {x:Str} {p:Pos} {f:Nat} {keep:Bool} (C:Callee X.prog X.w X.K X.mg X.base X.A φ f x) (ha:PA X (e::es) (tEs X.K φ xs)) (hg:Gl X x:=by rfl) (hdb:(x==("__debug__":Str))=false:=by decide)
  (he:starEach (e::es) X.env=(false,eval e X.env)::starEach es X.env:=by rfl) (hpl:(backTo pos (starEach es X.env)).any (·.1)=false:=by rfl):PE X (.Call (.Name x p) (e::es) [] pos) (tE X.K φ (.call keep f xs)):=s_call C hg ha hdb he hpl
theorem i3{r:List V->Hp->VK->Prop}{b:Bt}{m:Mk}{es:List Expr}(h:PE X e (tCB (n9 X.K (btD b m)) (tEs X.K φ xs))):PE X e (tE X.K φ (.blt b m xs)) :=
 PE.imp h λσv H Q ⟨ι,σ,μ,hS,hL,h⟩=>by
  simp![evE]at h
  obtain⟨ds,μ1,e1,h⟩:=h.bind
  refine⟨ι,σ,μ,hS,hL,?_⟩
  rw[e1]
  exact λι1 vs H1 p1 x1 s1 d1=>⟨ι1,ds,μ1,s1,d1,h.mono p1 x1⟩
theorem et{m:Mk}{p:Pos}(hm:X.mg "len"=none)(ha:PA X (e::es) (tEs X.K φ xs))(hg:Gl X "len":=by rfl)(he:starEach (e::es) X.env=(false,eval e X.env)::starEach es X.env:=by rfl)(hpl:(backTo pos (starEach es X.env)).any (·.1)=false:=by rfl) :
  PE X (.Call (.Name "len" p) (e::es) [] pos) (tE X.K φ (.blt .len m xs)):=i3 (r:=λ_ _ _=>True) (es:=es) (jb bt_len hg hm PySem.boot_len ha (by decide) (by decide) he hpl)
theorem fo{m:Mk}{p:Pos}(hm:X.mg "tuple"=none)(ha:PA X (e::es) (tEs X.K φ xs))(hg:Gl X "tuple":=by rfl)(he:starEach (e::es) X.env=(false,eval e X.env)::starEach es X.env:=by rfl)(hpl:(backTo pos (starEach es X.env)).any (·.1)=false:=by rfl) :
  PE X (.Call (.Name "tuple" p) (e::es) [] pos) (tE X.K φ (.blt .tuple m xs)):=i3 (r:=λ_ _ _=>True) (es:=es) (l8 bt_tuple hg hm (by first | exact PyProof.Rows.boot_tuple | decide +kernel) ha (by decide) (by decide) he hpl)
theorem z8{m:Mk}{p:Pos}(hm:X.mg "min"=none)(ha:PA X (e::es) (tEs X.K φ xs))(hc:X.calm=true:=by rfl)(hg:Gl X "min":=by rfl)(he:starEach (e::es) X.env=(false,eval e X.env)::starEach es X.env:=by rfl)(hpl:(backTo pos (starEach es X.env)).any (·.1)=false:=by rfl) :
  PE X (.Call (.Name "min" p) (e::es) [] pos) (tE X.K φ (.blt .min m xs)):=i3 (r:=λ_ _ _=>True) (es:=es) (jb (bt_min hc) hg hm (by first | exact PyProof.Rows.boot_min | decide +kernel) ha (by decide) (by decide) he hpl)
theorem Ft{m:Mk}{p:Pos}(hm:X.mg "max"=none)(ha:PA X (e::es) (tEs X.K φ xs))(hc:X.calm=true:=by rfl)(hg:Gl X "max":=by rfl)(he:starEach (e::es) X.env=(false,eval e X.env)::starEach es X.env:=by rfl)(hpl:(backTo pos (starEach es X.env)).any (·.1)=false:=by rfl) :
  PE X (.Call (.Name "max" p) (e::es) [] pos) (tE X.K φ (.blt .max m xs)):=i3 (r:=λ_ _ _=>True) (es:=es) (jb (bt_max hc) hg hm (by first | exact PyProof.Rows.boot_max | decide +kernel) ha (by decide) (by decide) he hpl)
theorem ug{m:Mk}{p:Pos}(hm:X.mg "all"=none)(ha:PA X (e::es) (tEs X.K φ xs))(hc:X.calm=true:=by rfl)(hg:Gl X "all":=by rfl)(he:starEach (e::es) X.env=(false,eval e X.env)::starEach es X.env:=by rfl)(hpl:(backTo pos (starEach es X.env)).any (·.1)=false:=by rfl) :
  PE X (.Call (.Name "all" p) (e::es) [] pos) (tE X.K φ (.blt .all m xs)):=i3 (r:=λ_ _ _=>True) (es:=es) (jb (bt_all hc) hg hm (by first | exact PyProof.Rows.boot_all | decide +kernel) ha (by decide) (by decide) he hpl)
theorem p5 {c:Cl} {cn:Str} {p cp:Pos} (ha:PE X a (tE X.K φ xa)) (hmi:X.mg "isinstance"=none) (hmc:X.mg cn=none) (hc:∀n,c≠.own n:=by intro _ h;cases h) (hgi:Gl X "isinstance":=by rfl) (hgc:Gl X cn:=by rfl)
  (hbc:bootBuiltins cn=some (.type (lq c)):=by first | boot_by_name | rfl | kernel_rfl) (hn:cn≠"__name__":=by decide) (hd:(cn==("__debug__":Str))=false:=by decide) (hs:starEach [a,.Name cn cp] X.env=(false,eval a X.env)::starEach [.Name cn cp] X.env:=by rfl) :
  PE X (.Call (.Name "isinstance" p) [a,.Name cn cp] [] pos) (tE X.K φ (.isi xa c)):=M3 hc ha hgi hmi hgc hmc hbc hn hd hs
theorem fc{tg:Expr}(hl:PE X e (tE X.K φ xe)):PI X tg e (tI X.K φ (.seq xe)):=Js hl
theorem z9{tg:Expr}{p:Pos}(hm:X.mg "range"=none)(ha:PE X a (tE X.K φ xa))(hg:Gl X "range":=by rfl)(hs:starEach [a] X.env=[(false,eval a X.env)]:=by rfl):PI X tg (.Call (.Name "range" p) [a] [] pos) (tI X.K φ (.rng xa)):=Jt hg hm ha hs
theorem cm(i:Nat){y:Str}(hi:X.N[i]? = some y:=by rfl)(hN:ndB X.N=true:=by first | rfl | kernel_rfl)(hx:Loc X.env.scope y:=by first | exact Or.inl rfl | exact Or.inr rfl)(hf:X.fn y=true\/X.env.scope.names.lookup y=some .local:=by first | exact Or.inl rfl | exact Or.inr rfl) :
  PG X (.Name y pos) (tG X.K (.one i)):=Je (vm hN) hi hx hf
theorem lu:PGs X [] (tGs X.K []):=Jf
theorem a9 (i:Nat) {is:List Nat} {y:Str} (h2:PGs X es (tGs X.K is)) (hi:X.N[i]? = some y:=by rfl) (hN:ndB X.N=true:=by first | rfl | kernel_rfl) (hx:Loc X.env.scope y:=by first | exact Or.inl rfl | exact Or.inr rfl) (hf:X.fn y=true\/X.env.scope.names.lookup y=some .local:=by first | exact Or.inl rfl | exact Or.inr rfl)
  (hs:(assignEach (.Name y pos::es) X.env).map (·.2)=assign (.Name y pos) X.env::(assignEach es X.env).map (·.2):=by rfl):PGs X (.Name y pos::es) (tGs X.K (i::is)):=E6 (yx (vm hN) hi hx hf) h2 hs
theorem lx{is:List Nat}{k:Nat}(h:PGs X es (tGs X.K is))(hc:X.calm=true:=by rfl)(hn:(assignEach es X.env).length=is.length:=by rfl)(hst:(assignEach es X.env).findIdx? (·.1)=none:=by rfl):PG X (.Tuple es k pos) (tG X.K (.many is)):=Ms hc h hn hst
theorem di:PTs X [] (tTs X.K φ .nil):=Jh
theorem p6{r:List Expr}{xr:Exs}(h1:PT X c (tT X.K φ xc))(h2:PTs X r (tTs X.K φ xr)):PTs X (c::r) (tTs X.K φ (.cons xc xr)):=Fd h1 h2
theorem gw (Nb:List Str) {target iter:Expr} {ifs:List Expr} {scope:Scope} {cap:List Nat} {nl:Nat} {m:Mk} {tg:Tg} {it:It} {cs:Exs} {elt:Ex} (hi:PI X target iter (tI X.K φ it))
  (B:ua X scope Nb target ifs e (tG X.K tg) (tTs X.K φ cs) (tE X.K φ elt)) (S:vk X.env.scope scope X.N Nb cap nl=true:=by first | rfl | kernel_rfl) (hc:X.calm=true:=by rfl) (hf:∀x,foldedSetIterable iter X.env x=pure x:=by intro _;rfl) (hs:∀j∈slots tg,cap.length<=j:=by decide) :
  PE X (.ListComp e [⟨target,iter,ifs,0⟩] scope pos) (tE X.K φ (.comp m cap nl tg it cs elt)):=Ji (ov S) hc hi B hf hs
theorem Aa (i:Nat) (Nb:List Str) {target iter:Expr} {ifs:List Expr} {scope:Scope} {cap:List Nat} {nl:Nat} {m:Mk} {tg:Tg} {it:It} {cs:Exs} {elt:Ex} {spos py:Pos} {y:Str} (hi:PI X target iter (tI X.K φ it))
  (B:ua X scope Nb target ifs e (tG X.K tg) (tTs X.K φ cs) (tE X.K φ elt)) (S:vk X.env.scope scope X.N Nb cap nl=true:=by first | rfl | kernel_rfl) (hc:X.calm=true:=by rfl) (hf:∀x,foldedSetIterable iter X.env x=pure x:=by intro _;rfl) (hs:∀j∈slots tg,cap.length<=j:=by decide)
  (hsw:swapsWith (.ListComp e [⟨target,iter,ifs,0⟩] scope pos) (some (.Name y py)) spos.line X.env=pure true:=by rfl) (hiN:X.N[i]? = some y:=by rfl) (hN:ndB X.N=true:=by first | rfl | kernel_rfl) (hy:X.env.scope.names.lookup y=some .local:=by rfl) :
  PS X (.Assign [.Name y py] (.ListComp e [⟨target,iter,ifs,0⟩] scope pos) spos) (tS X.K φ (.set i (.comp m cap nl tg it cs elt))):=zp (ov S) hc hi B hf hs hsw (vm hN) hiN hy
theorem cv:PSs X [] (tSs X.K φ .nil):=Mq
theorem ar{s:Stmt}{ss:List Stmt}{x:Sm}{xss:Sms}(h1:PS X s (tS X.K φ x))(h2:PSs X ss (tSs X.K φ xss)):PSs X (s::ss) (tSs X.K φ (.cons x xss)):=Jc h1 h2
theorem oa(he:PE X e (tE X.K φ xe))(hs:swapsWith e none pos.line X.env=pure false:=by rfl):PS X (.Expr e pos) (tS X.K φ (.ex xe)):=Jd he hs
theorem cq(he:PE X e (tE X.K φ xe)):PS X (.Return (some e) pos) (tS X.K φ (.ret xe)):=Mr he
theorem p7{s:Stmt}:PS X s (tS X.K φ .never):=E5
theorem p8{x y:List Stmt}{xx xy:Sms}(hc:PT X c (tT X.K φ xc))(ha:PSs X x (tSs X.K φ xx))(hb:PSs X y (tSs X.K φ xy)):PS X (.If c x y pos) (tS X.K φ (.ite xc xx xy)):=Sg hc ha hb
theorem cc (i:Nat) {y:Str} {pos':Pos} (he:PE X e (tE X.K φ xe)) (hi:X.N[i]? = some y:=by rfl) (hN:ndB X.N=true:=by first | rfl | kernel_rfl) (hx:Loc X.env.scope y:=by first | exact Or.inl rfl | exact Or.inr rfl) (hf:X.fn y=true\/X.env.scope.names.lookup y=some .local:=by first | exact Or.inl rfl | exact Or.inr rfl)
  (hs:swapsWith e (some (.Name y pos')) pos.line X.env=pure false:=by rfl):PS X (.Assign [.Name y pos'] e pos) (tS X.K φ (.set i xe)):=Mu (vm hN) hi hx hf he hs
theorem Ab {is:List Nat} {tg:Expr} (hg:PG X tg (tG X.K (.many is))) (he:PE X e (tE X.K φ xe)) (hs:swapsWithSole [tg] e pos.line X.env=pure false:=by rfl) (hw:swappedStores [tg] e X.env=pure none:=by rfl)
  (h1:(assignEach [tg] X.env).map (·.2)=[assign tg X.env]:=by rfl):PS X (.Assign [tg] e pos) (tS X.K φ (.unp is xe)):=Mv hg he hs hw h1
theorem uh {tg it:Expr} {body:List Stmt} {xt:Tg} {xi:It} {xb:Sms} (hi:PI X tg it (tI X.K φ xi)) (hg:PG X tg (tG X.K xt)) (hb:PSs X body (tSs X.K φ xb)) (hp:PassesOwn (model X.prog X.w) X.A X.env X.xe:=by exact PassesOwn.never) (hc:X.calm=true:=by rfl)
  (hs:∀x,foldedSetIterable it X.env x=pure x:=by intro _;rfl):PS X (.For tg it body [] pos) (tS X.K φ (.loop xt xi xb)):=Mw hp hc hi hg hb hs
end
theorem Cc:typeLookup (.type "list_reverseiterator") "__len__"=pure none:=by rw[typeLookup_type,builtinLookup_eq_fast];kernel_rfl
theorem Fu:typeLookup (.type "list_reverseiterator") "__length_hint__"=pure (some (.builtin "list_reverseiterator.__length_hint__")):=by rw[typeLookup_type,builtinLookup_eq_fast];kernel_rfl
section
variable{prog:Program}{w:World}{A:Around}{E:Value -> Shared -> Prop}{s:Shared}{r l:Addr}
theorem Fv{Q:Bool->Shared->Prop}(hT:s.TypeIs (.ref r) "list_reverseiterator")(h:Q false s):wpAny (model prog w) A (Builtin.List.listLengthHint (.ref r)) Q E s:=by
 unfold Builtin.List.listLengthHint
 refine AB (wpAny_specialOf hT Cc ?_)
 show wpAny _ _ (specialOf (Value.ref r) (Str.ofString "__length_hint__")>>=_) _ _ _
 refine AB (wpAny_specialOf hT Fu ?_)
 generalize hid:("list_reverseiterator.__length_hint__":String)=id0
 wp_delta
 rw[show splitId id0=some ("list_reverseiterator","__length_hint__")from by subst hid;decide +kernel]
 subst hid
 refine AB (GB (T:="list_reverseiterator") (b:=true) hT (by rw[isSubtype_type];kernel_rfl) ?_)
 refine EM (λhab=>absurd hab (by decide)) (λ_=>?_)
 refine EM (λ_=>?_) (λhab=>absurd (by decide +kernel) hab)
 refine EM (λhab=>absurd hab (by decide +kernel)) (λ_=>?_)
 exact AI h
theorem Ac {R:Result->Shared->Prop} {items:Array Value} (hh:A.handled=none) (S:Addr) (hSr:S≠r) (hSl:S≠l) (hlr:l≠r) (res:Value) (c₀:Nat) (hit:s.heap.IsRevIter r l ((items.size:Int)-1)) (hl:s.heap.IsList l items)
  (hS:s.heap.get? S=some {cls:=.type "list",data:=.seq #[] c₀})
  (hR:∀h' tk acc' c',(∀b o,b≠S->b≠r->s.heap.get? b=some o->h'.get? b=some o)->h'.get? S=some {cls:=.type "list",dict:=none,data:=.seq acc' c',slots:=#[]}->ItemsOf (λi v=>items[items.size-1-i]? = some v) acc' items.size->R (.ok (.ret res)) {s with heap:=h',toks:=tk}) (hn:items.size<=sizeLine) :
  wpAny (model prog w) A.in1 (Builtin.List.listExtendWith (.ref S) (.ref r) res)
   (λfin s'=>match fin with | .done f=>R (.ok f) s' | .again c'=>c'.quiet=true/\codeAny (model prog w) A c' R s') (λe s'=>R (.error e) s') s:=by
 have W:=Walks.listRev (prog:=prog) (w:=w) (A:=A.in1) hh r l hlr items
 have hSf:S∉[r,l]:=by simp![AJ,AU,or_false,not_or];exact⟨hSr,hSl⟩
 have st0:∀h:Heap,h.IsRevIter r l ((items.size:Int)-1)->h.IsList l items->(0<=items.size/\h.IsRevIter r l ((items.size:Int)-1-((0:Nat):Int))/\h.IsList l items):=λh a b=>⟨HA _,by simpa using a,b⟩
 have key:∀(h:Heap) (c₁ tk:Nat),(0<=items.size/\h.IsRevIter r l ((items.size:Int)-1-((0:Nat):Int))/\h.IsList l items)->(∀b o,b≠S->s.heap.get? b=some o->h.get? b=some o) ->
   h.get? S=some {cls:=.type "list",data:=.seq #[] c₁}->codeAny (model prog w) A (.builtin "list.extend.loop" ⟨[.ref S,.ref r,res],[]⟩) R {s with heap:=h,toks:=tk}:=by
  intro h c₁ tk hst hk hS₁
  refine codeAny_extend_loopS W.toS hn S hSf res items.size 0 _ #[] c₁ rfl (HA _) hst hS₁ (ItemsOf.nil _) λs' acc' c' hm hS' hacc=>?_
  rw[Moved.eq_with hm]
  refine hR s'.heap s'.toks acc' c' (λb o hb hbr e=>hm.heap b o (λhmem=>?_) (hk b o hb e)) hS' hacc
  rcases AJ.mp hmem with e' | hmem
  ·exact hb e'
  ·exact hbr (EZ.mp hmem)
 unfold Builtin.List.listExtendWith
 refine AB (GG (T:="list_reverseiterator") hit.typeIs ?_)
 have h1:Builtin.List.listSameRef (.ref S) (.ref r)=false:=by simp[Builtin.List.listSameRef,hSr]
 have h2:(Value.type "list_reverseiterator"==Value.type "list")=false:=by decide
 have h3:(Value.type "list_reverseiterator"==Value.type "tuple")=false:=by decide
 simp![h1,h2,h3,Bool.or_false,CH,if_false]
 refine AB (wpAny_pyIter_revIter hit ?_)
 refine AB (FU (Fv hit.typeIs ?_))
 refine EM (λhab=>absurd hab (by decide)) (λ_=>AI ⟨plainId_quiet PySem.F.plain_extend_loop _,key _ c₀ _ (st0 _ hit hl) (λb o _ e=>e) hS⟩)
theorem Fw {R:Result->Shared->Prop} {items:Array Value} (hh:A.handled=none) (S:Addr) (hSr:S≠r) (hSl:S≠l) (hlr:l≠r) (hit:s.heap.IsRevIter r l ((items.size:Int)-1)) (hl:s.heap.IsList l items)
  (hS:s.heap.get? S=some {cls:=.type "list",data:=.seq #[]})
  (hR:∀h' tk acc' c',(∀b o,b≠S->b≠r->s.heap.get? b=some o->h'.get? b=some o)->h'.get? S=some {cls:=.type "list",dict:=none,data:=.seq acc' c',slots:=#[]}->ItemsOf (λi v=>items[items.size-1-i]? = some v) acc' items.size->R (.ok (.ret .none)) {s with heap:=h',toks:=tk}) (hn:items.size<=sizeLine) :
  wpAny (model prog w) A.in1 (Builtin.«list.__init__» ⟨[.ref S,.ref r],[]⟩)
   (λfin s'=>match fin with | .done f=>R (.ok f) s' | .again c'=>c'.quiet=true/\codeAny (model prog w) A c' R s') (λe s'=>R (.error e) s') s:=by
 show wpAny _ _ (do let old <-Builtin.List.listItems (.ref S);Builtin.List.listUpdate (.ref S) (λ_=>#[]);letGo old.toList.reverse;Builtin.List.listExtendWith (.ref S) (.ref r) .none) _ _ s
 refine AB ?_
 unfold Builtin.List.listItems
 refine AB (CO hS rfl (AI ?_))
 show wpAny _ _ (updateSeq S (λ_=>#[])>>=λ_=>letGo (#[]:Array Value).toList.reverse>>=λ_=>Builtin.List.listExtendWith (.ref S) (.ref r) .none) _ _ s
 refine AB (wpAny_updateSeq hS rfl ?_)
 have hS₂:=GW (Obj.mapSeq (λ_=>(#[]:Array Value))) hS rfl
 have oth:∀b o,b≠S->s.heap.get? b=some o->(s.heap.update S (Obj.mapSeq (λ_=>(#[]:Array Value)))).get? b=some o :=
  λb o hb e=>(GI _ _ (Ne.symm hb)).trans e
 refine AB (FO ?_)
 refine Ac hh S hSr hSl hlr .none _ (hit.at λo e=>oth r o (Ne.symm hSr) e) (hl.at λo e=>oth l o (Ne.symm hSl) e) hS₂ (λh' tk acc' c' hk hS' hacc=>?_) hn
 exact hR h' tk acc' c' (λb o hb hbr e=>hk b o hb hbr (oth b o hb e)) hS' hacc
theorem Fx {Q:Value->Shared->Prop} {items:Array Value} (hh:A.handled=none) (hlr:l≠r) (hit:s.heap.IsRevIter r l ((items.size:Int)-1)) (hl:s.heap.IsList l items) (hn:items.size<=sizeLine)
  (hQ:∀h' tk acc' c',(∀b o,b≠r->s.heap.get? b=some o->h'.get? b=some o)->h'.get? s.heap.objs.size=some {cls:=.type "list",dict:=none,data:=.seq acc' c',slots:=#[]}->ItemsOf (λi v=>items[items.size-1-i]? = some v) acc' items.size->Q (.ref s.heap.objs.size) {s with heap:=h',toks:=tk}) :
  wpAny (model prog w) A (call (.type "list") [.ref r]) Q E s:=by
 refine callType_codes (Q₁:=λobj s₁=>obj=.ref s.heap.objs.size/\s₁={s with heap:=s.heap.push {cls:=.type "list",data:=.seq #[]}}) PySem.F.called_list (PySem.F.typeCall_list_1 _) PySem.F.entry_list_init
  (code_list_new _ ⟨rfl,rfl⟩) λobj s₁ h₁=>?_
 obtain⟨rfl,rfl⟩:=h₁
 have hS:(s.heap.push {cls:=.type "list",data:=.seq #[]}).get? s.heap.objs.size=some {cls:=.type "list",data:=.seq #[]}:=AL _ rfl
 have hr:r<s.heap.objs.size:=by obtain⟨o,e,_⟩:=hit;exact AH e
 have hl':l<s.heap.objs.size:=by obtain⟨o,e,_⟩:=hl;exact AH e
 refine⟨⟨_,hS,rfl⟩,PySem.F.args_list_init_2 _ _,Fw (A:=A.in1) hh _ (CD hr) (CD hl') hlr (hit.at λo e=>AC _ e) (hl.at λo e=>AC _ e) hS (λh' tk acc' c' hk hS' hacc=>?_) hn⟩
 exact⟨rfl,hQ h' tk acc' c' (λb o hb e=>hk b o (AX (AH e)) hb (AC _ e)) hS' hacc⟩
end
theorem Ad{its:List Value}{acc:Array Value}(h:ItemsOf (λi v=>its.toArray[its.toArray.size-1-i]? = some v) acc its.toArray.size):acc.toList=its.reverse:=by
 obtain⟨h1,h2⟩:=h
 simp![AF]at h1 h2
 refine List.ext_getElem? λi=>?_
 by_cases hi:i<its.length
 ·have e:acc[i]? = some (acc[i]'(by lia)):=Array.getElem?_eq_getElem (by lia)
  have q:=h2 i _ e
  rw[DG,e,<-q,EC,List.getElem?_reverse hi]
 ·rw[DG,GV (by simpa using hi),Array.getElem?_eq_none (by lia)]
section
variable{X:Cx}{φ:Phi}{a:Expr}{xa:Ex}{p p2 pos pos2:Pos}{m:Mk}
theorem Ae (hml:X.mg "list"=none) (hmr:X.mg "reversed"=none) (ha:PE X a (tE X.K φ xa)) (hgl:Gl X "list":=by rfl) (hgr:Gl X "reversed":=by rfl) (hc:X.calm=true:=by rfl)
  (hs:starEach [a] X.env=[(false,eval a X.env)]:=by rfl) (hs2:starEach [.Call (.Name "reversed" p2) [a] [] pos2] X.env=[(false,eval (.Call (.Name "reversed" p2) [a] [] pos2) X.env)]:=by rfl) :
  PE X (.Call (.Name "list" p) [.Call (.Name "reversed" p2) [a] [] pos2] [] pos) (tE X.K φ (.blt .listRev m (.cons xa .nil))):=by
 refine PE.imp (t:=λσ H Q=>tE X.K φ xa σ H λv H1=>∃l ys,v=.ref l/\LsL X.K H1 l ys/\∀q,H1 q=none->FQ Q (.ref q) (upd H1 q (.lst ys.reverse))) ?_ λσv H Q ⟨ι,σ,μ,hS,hL,h⟩=>?_
 ·intro pins s σ H Q I h
  refine DA (lj I hgl hml PyProof.Rows.boot_list ?_ (by decide) (by decide))
  refine BW ?_ hs2 rfl
  rw[hs2]
  refine EW ?_
  refine DA (lj I hgr hmr PyProof.Rows.boot_reversed ?_ (by decide) (by decide))
  refine BW ?_ hs rfl
  rw[hs]
  refine EW (thn (ha pins s σ H _ I h) λu s1 ⟨v,H1,I1,r1,l,ys,ev,hls,q⟩=>FJ ?_)
  subst ev
  cases(show u=Value.ref l from r1)
  obtain⟨hz,its,n,rv,hlen,hget⟩:=I1.ls hls
  have hlist:s1.heap.IsList l its.toArray:=⟨_,hget,rfl,n,rfl⟩
  refine call_reversed_list hlist ?_
  refine FJ ?_
  have hl1:l<s1.heap.objs.size:=AH hget
  refine ve (Fx (l:=l) (r:=s1.heap.objs.size) (items:=its.toArray) (I1.ok.hd hc) (AX hl1) ⟨_,AL _ rfl,rfl,rfl⟩ (hlist.at λo e=>AC _ e) (by rw[AF];lia) λh' tk acc c hk hD hacc=>?_)
  have hsz:(s1.heap.push (revObj l ((its.toArray.size:Int)-1))).objs.size=s1.heap.objs.size+1:=CA _ _
  have ea:=Ad hacc
  have hf:H1 (s1.heap.objs.size+1)=none:=I1.hok.fresh (GZ _)
  refine⟨.ref (s1.heap.objs.size+1),upd H1 (s1.heap.objs.size+1) (.lst ys.reverse),I1.laid (t':=tk) (λb o e=>hk b o (AX (AH e)) (AC _ e)) (GZ _) ?_,?_,q _ hf⟩
  ·refine⟨by rw[List.length_reverse];exact hz,its.reverse,c,rv.reverse,?_⟩
   rw[hsz]at hD
   rw[hD,<-ea,Array.toArray_toList]
  ·show Value.ref _=Value.ref _
   rw[hsz]
 ·simp![evE,du]at h
  rw[Res.bind_assoc]at h
  obtain⟨d,μ1,e1,h⟩:=h.bind
  refine⟨ι,σ,μ,hS,hL,?_⟩
  rw[e1]
  intro ι1 v H1 p1 x1 s1 d1
  have h:=h.mono p1 x1
  simp![Res.cb,btD,dy,o9]at h
  split at h
  ·rename_i xs ex
   obtain⟨l,ys,ev,hls,hys⟩:=gj s1 d1 ex
   exact⟨l,ys,ev,hls,λq hq=>jr s1 hys.reverse h hq⟩
  ·exact h.elim
end
structure Ma (X:Cx) (o:Expr) (nm:Str) (e:Expr) (es:List Expr) (apos cpos:Pos):Prop where
 b:attributeBase o nm X.env (eval o X.env)=eval o X.env
 f:((backTo cpos (starEach (e::es) X.env)).all (λx=>!x.1)&&(backToKw cpos (keywordEach [] X.env)).all (λx=>x.1.isSome)&&decide ((e::es).length+([]:List Keyword).length+(if([]:List Keyword).isEmpty then 0 else 1)<30))=true
 l:(apos.endLine==cpos.line)=true
 s:starEach (e::es) X.env=(false,eval e X.env)::starEach es X.env
 p:(backTo cpos (starEach es X.env)).any (·.1)=false
section
variable{X:Cx}{φ:Phi}{o e:Expr}{es:List Expr}{xo:Ex}{xs:Exs}{apos cpos:Pos}{T id:String}{name:Str}{mt:Mt}
theorem Fy(hT:∀(ι:List Addr) (H:Hp) (μ:Sto) (d:D) (x:V),Sim X.K ι H μ->IsD X.K ι H d x->iy mt d μ=true->tyV X.K T x H)(h:PE X e (Ly X.K T (rMt X.K mt) (tE X.K φ xo))):PE X e (tE X.K φ (.meth mt xo .nil)) :=
 PE.imp h λσv H Q ⟨ι,σ,μ,hS,hL,h⟩=>by
  simp![evE,du]at h
  obtain⟨d,μ1,e1,h⟩:=h.bind
  refine⟨ι,σ,μ,hS,hL,?_⟩
  rw[e1]
  intro ι1 x H1 p1 x1 s1 d1
  split at h
  ·rename_i hm
   exact⟨hT ι1 H1 μ1 d x s1 d1 hm,ι1,d,[],μ1,s1,d1,by simp[ah],h.mono p1 x1⟩
  ·exact h.elim
theorem Dx(hT:∀(ι:List Addr) (H:Hp) (μ:Sto) (d:D) (x:V),Sim X.K ι H μ->IsD X.K ι H d x->iy mt d μ=true->tyV X.K T x H)(h:PE X e (tBM X.K T (rMt X.K mt) (tE X.K φ xo) (tEs X.K φ xs))):PE X e (tE X.K φ (.meth mt xo xs)) :=
 PE.imp h λσv H Q ⟨ι,σ,μ,hS,hL,h⟩=>by
  simp![evE]at h
  obtain⟨d,μ1,e1,h⟩:=h.bind
  refine⟨ι,σ,μ,hS,hL,?_⟩
  rw[e1]
  intro ι1 x H1 p1 x1 s1 d1
  split at h
  ·rename_i hm
   refine⟨hT ι1 H1 μ1 d x s1 d1 hm,ι1,σ,μ1,s1,hL.mono p1 x1,?_⟩
   obtain⟨ds,μ2,e2,h⟩:=h.bind
   rw[e2]
   exact λι2 vs H2 p2 x2 s2 d2=>⟨ι2,d,ds,μ2,s2,IsD.mono p2 x2 _ _ d1,d2,h.mono (p1.trans p2) (x1.trans x2)⟩
  ·exact h.elim
theorem kq(hmt:∀d μ,iy mt d μ=(listOf μ d).isSome)(ι:List Addr)(H:Hp)(μ:Sto)(d:D)(x:V)(hS:Sim X.K ι H μ)(hd:IsD X.K ι H d x)(hm:iy mt d μ=true):tyV X.K "list" x H:=by
 rw[hmt]at hm
 obtain⟨ds,e⟩:=FS.mp hm
 obtain⟨a,xs,rfl,hls,_⟩:=gj hS hd e
 exact .inl ⟨rfl,_,hls.sq⟩
theorem Cd(ho:PE X o (tE X.K φ xo))(hbase:attributeBase o "pop" X.env (eval o X.env)=eval o X.env:=by rfl)(hline:(apos.endLine==cpos.line)=true:=by rfl):PE X (.Call (.Attribute o "pop" apos) [] [] cpos) (tE X.K φ (.meth .pop xo .nil)) :=
 Fy (kq λ_ _=>rfl) (Dl FP GO F.type_list_pop M4 ho hbase hline)
theorem h7(ho:PE X o (tE X.K φ xo))(ha:PA X (e::es) (tEs X.K φ xs))(h5:Ma X o "append" e es apos cpos:=by exact⟨rfl,rfl,rfl,rfl,rfl⟩):PE X (.Call (.Attribute o "append" apos) (e::es) [] cpos) (tE X.K φ (.meth .append xo xs)) :=
 Dx (kq λ_ _=>rfl) (wz FP F.slot_list_append F.type_list_append B7 ho ha h5.b h5.f h5.l h5.s h5.p)
theorem mr(ho:PE X o (tE X.K φ xo))(ha:PA X (e::es) (tEs X.K φ xs))(h5:Ma X o "extend" e es apos cpos:=by exact⟨rfl,rfl,rfl,rfl,rfl⟩):PE X (.Call (.Attribute o "extend" apos) (e::es) [] cpos) (tE X.K φ (.meth .extend xo xs)) :=
 Dx (kq λ_ _=>rfl) (wz FP F.slot_list_extend F.type_list_extend B8 ho ha h5.b h5.f h5.l h5.s h5.p)
theorem Af {a:Expr} {xa:Ex} {p p2 pos pos2:Pos} {m:Mk} (hml:X.mg "list"=none) (hmr:X.mg "reversed"=none) (ha:PE X a (tE X.K φ xa)) (hgl:Gl X "list":=by rfl) (hgr:Gl X "reversed":=by rfl) (hc:X.calm=true:=by rfl)
  (hs:starEach [a] X.env=[(false,eval a X.env)]:=by rfl) (hs2:starEach [.Call (.Name "reversed" p2) [a] [] pos2] X.env=[(false,eval (.Call (.Name "reversed" p2) [a] [] pos2) X.env)]:=by rfl) :
  PE X (.Call (.Name "list" p) [.Call (.Name "reversed" p2) [a] [] pos2] [] pos) (tE X.K φ (.blt .listRev m (.cons xa .nil))):=Ae hml hmr ha hgl hgr hc hs hs2
end
noncomputable def SI(b:Bool)(h:Heap)(it l:Addr)(i:Nat):Prop:=match b with
 |true=>h.IsListIter it l i
 |false=>h.IsTupleIter it l i
noncomputable def SQ(b:Bool)(h:Heap)(l:Addr)(xs:Array Value):Prop:=match b with
 |true=>h.IsList l xs
 |false=>h.IsTuple l xs
noncomputable def J1:Bool->String
 |true=>"list_iterator"
 |false=>"tuple_iterator"
theorem SI.keep{b:Bool}{h h':Heap}{it l:Addr}{i:Nat}(x:SI b h it l i)(e:∀o,h.get? it=some o->h'.get? it=some o):SI b h' it l i:=by
 cases b
 ·exact Heap.IsTupleIter.at x e
 ·exact Heap.IsListIter.at x e
theorem SI.but{b:Bool}{h h':Heap}{it l c:Addr}{i:Nat}(x:SI b h it l i)(e:Heap.ExtBut c h h')(n:it≠c):SI b h' it l i:=x.keep λo q=>e it o n q
theorem SI.obj{b:Bool}{h:Heap}{it l:Addr}{i:Nat}(x:SI b h it l i):∃o,h.get? it=some o/\o.cls=.type (J1 b)/\o.data=.fields #[.ref l,.int i 0]:=by
 cases b<;>exact x
theorem SQ.but{b:Bool}{h h':Heap}{l c:Addr}{xs:Array Value}(x:SQ b h l xs)(e:Heap.ExtBut c h h')(n:l≠c):SQ b h' l xs:=by
 cases b
 ·exact Heap.IsTuple.at x λo q=>e l o n q
 ·exact Heap.IsList.at x λo q=>e l o n q
theorem SQ.lt{b:Bool}{h:Heap}{l:Addr}{xs:Array Value}(x:SQ b h l xs):l<h.objs.size:=by
 cases b
 ·obtain⟨o,e,_⟩:=x;exact AH e
 ·obtain⟨o,e,_⟩:=x;exact AH e
theorem SQ.push{b:Bool}{h:Heap}{l:Addr}{xs:Array Value}(x:SQ b h l xs)(o:Obj):SQ b (h.push o) l xs:=by
 cases b
 ·exact Heap.IsTuple.push x o
 ·exact Heap.IsList.push x o
section
variable{prog:Program}{w:World}{A:Around}{E:Value -> Shared -> Prop}{s:Shared}
theorem Ag{b:Bool}{l:Addr}{xs:Array Value}{Q:Value->Shared->Prop}(x:SQ b s.heap l xs)(hQ:Q (.ref s.heap.objs.size) {s with heap:=s.heap.push {cls:=.type (J1 b),data:=.fields #[.ref l,.int 0 0]}}) :
  wpAny (model prog w) A (pyIter (.ref l)) Q E s:=by
 cases b
 ·exact CW x hQ
 ·exact FM x hQ
theorem p9 {b:Bool} {it l:Addr} {i:Nat} {xs:Array Value} {x:Value} {Q:Value->Shared->Prop} (hit:SI b s.heap it l i) (hl:SQ b s.heap l xs) (hx:xs[i]? = some x)
  (hQ:∀h',SI b h' it l (i+1)->Heap.SameBut it s.heap h'->Q x {s with heap:=h'}):wpAny (model prog w) A (Builtin.SmallTypes.nextOf (.ref it)) Q E s:=by
 cases b
 ·obtain⟨o,ho,hc,hd⟩:=hit.obj
  obtain⟨ol,hol,_,nl,hdl⟩:=hl
  have ht:s.TypeIs (.ref it) "tuple_iterator":=⟨o,ho,hc⟩
  unfold Builtin.SmallTypes.nextOf
  refine AB (BQ (name:=Str.ofString "__next__") ht CY (CN CY ht ET ?_ (EN _)))
  show wpAny _ _ (field (.ref it) 0>>=_) _ _ s
  refine AB (BK ho hd (x:=.ref l) rfl ?_)
  show wpAny _ _ (if(Value.ref l==Value.none)=true then _ else _) _ _ s
  rw[if_neg (show ¬((Value.ref l==Value.none)=true)from BF)]
  show wpAny _ _ (field (.ref it) 1>>=_) _ _ s
  refine AB (BK ho hd (x:=.int i 0) rfl ?_)
  show wpAny _ _ (seqItems? (.ref l)>>=_) _ _ s
  refine AB (CO hol hdl ?_)
  simp![DK,hx]
  refine AB (wpAny_setField ho hd (by simp) (AI ⟨x,rfl,AI (hQ _ ?_ (HC ..))⟩))
  exact⟨_,GW _ ho (Obj.isFreed_of_fields (Obj.data_mapFields hd _)),(Obj.cls_mapFields ..).trans hc,by rw[Obj.data_mapFields hd];simp[rawInt]⟩
 ·exact wpAny_nextOf_list_item hit hl hx hQ
theorem Ah {b:Bool} {it l:Addr} {i:Nat} {xs:Array Value} {Q:Value->Shared->Prop} (hh:A.handled=none) (hit:SI b s.heap it l i) (hl:SQ b s.heap l xs) (hx:xs[i]? = none)
  (hE:∀h' e,Heap.ExtBut it s.heap h'->(∃o,h'.get? e=some o/\o.cls=.type "StopIteration")->E (.ref e) {s with heap:=h'}):wpAny (model prog w) A (Builtin.SmallTypes.nextOf (.ref it)) Q E s:=by
 cases b
 ·obtain⟨o,ho,hc,hd⟩:=hit.obj
  obtain⟨ol,hol,_,nl,hdl⟩:=hl
  have ht:s.TypeIs (.ref it) "tuple_iterator":=⟨o,ho,hc⟩
  unfold Builtin.SmallTypes.nextOf
  refine AB (BQ (name:=Str.ofString "__next__") ht CY (CN CY ht ET ?_ (EN _)))
  show wpAny _ _ (field (.ref it) 0>>=_) _ _ s
  refine AB (BK ho hd (x:=.ref l) rfl ?_)
  show wpAny _ _ (if(Value.ref l==Value.none)=true then _ else _) _ _ s
  rw[if_neg (show ¬((Value.ref l==Value.none)=true)from BF)]
  show wpAny _ _ (field (.ref it) 1>>=_) _ _ s
  refine AB (BK ho hd (x:=.int i 0) rfl ?_)
  show wpAny _ _ (seqItems? (.ref l)>>=_) _ _ s
  refine AB (CO hol hdl ?_)
  simp![DK,hx]
  refine AB (FA (AB (wpAny_setField ho hd (by simp) ?_)))
  show wpAny _ _ (newExc (.type "StopIteration") []>>=_) _ _ _
  refine AB ?_
  simp![newExc,newTuple]
  refine AB (CQ ?_ (by size_fits))
  refine AB (m:=firstArgMember _ _) (wpAny_of_eq (a:=Value.none) (by first | rfl | (simp![firstArgMember];rfl)) ?_)
  refine CQ ?_ (by size_fits)
  simp![raiseNew]
  refine AB (wpAny_handled ?_)
  first | rw[show A.in1.handled=none from hh] | rw[hh]
  refine AB (AI (wpAny_throw ?_))
  exact hE _ _ (((HC ..).extBut.push _).push _) ⟨_,AL _ rfl,rfl⟩
 ·exact wpAny_nextOf_list_end hh hit hl hx hE
variable{b1 b2:Bool}{z TI TO i1 i2 l1 l2:Addr}{k1 k2:Nat}{xs ys:Array Value}{x y a b:Value}
theorem Fz {Q:Option Value->Shared->Prop} (D:ZipApart z TI TO i1 i2 l1 l2)
  (hz:IsZip s.heap z TI TO .none) (hTI:IsPair s.heap TI (.ref i1) (.ref i2)) (hTO:IsPair s.heap TO a b)
  (h1:SI b1 s.heap i1 l1 k1) (h2:SI b2 s.heap i2 l2 k2) (hl1:SQ b1 s.heap l1 xs) (hl2:SQ b2 s.heap l2 ys) (hx:xs[k1]? = some x) (hy:ys[k2]? = some y)
  (hQ:∀h',IsZip h' z TI TO (rawInt s.heap.objs.size)->IsPair h' TO x y->SI b1 h' i1 l1 (k1+1)->SI b2 h' i2 l2 (k2+1)->IsPair h' s.heap.objs.size x y ->
   (∀c o,c≠z->c≠TO->c≠i1->c≠i2->s.heap.get? c=some o->h'.get? c=some o)->Q (some (.ref s.heap.objs.size)) {s with heap:=h'}) :
  wpAny (model prog w) A (pyNext (.ref z)) Q E s:=by
 have hT:s.TypeIs (.ref z) "zip":=⟨_,hz,rfl⟩
 unfold pyNext
 refine AB (FW (BQ (name:=Str.ofString "__next__") hT EO (CN EO hT F.entry_zip_next ?_ (F.args_zip_next_1 _))))
 show wpAny _ _ (field (.ref z) 2>>=_) _ _ _
 refine AB (BK hz rfl (x:=.bool false) rfl ?_)
 show wpAny _ _ (field (.ref z) 3>>=_) _ _ _
 refine AB (BK hz rfl (x:=.ref TI) rfl ?_)
 refine AB (CO hTI rfl ?_)
 show wpAny _ _ (Builtin.SmallTypes.ownedTupleIsFree (.ref z)>>=_) _ _ _
 refine AB ?_
 unfold Builtin.SmallTypes.ownedTupleIsFree
 refine AB (BK hz rfl (x:=.none) rfl (AI ?_))
 simp![if_true]
 refine AB (FA ?_)
 refine AB (BK hz rfl (x:=.ref TO) rfl ?_)
 refine AB (BM hz (by simp) λh₁ hz₁ hs₁=>?_)
 replace hz₁:IsZip h₁ z TI TO .ellipsis:=hz₁
 refine AB ?_
 simp![List.zipIdx_cons,List.zipIdx_nil,DU,HB]
 refine AB (AB (FX ?_))
 show wpAny _ _ (Builtin.SmallTypes.nextOf (.ref i1)>>=_) _ _ _
 refine AB (p9 (h1.but hs₁.extBut D.i1z) (hl1.but hs₁.extBut D.l1z) hx λh₂ h1₂ hs₂=>AI ?_)
 have hTO₂:IsPair h₂ TO a b:=hs₂.extBut _ _ D.TOi1 (hs₁.extBut _ _ D.TOz hTO)
 refine AB (CO hTO₂ rfl ?_)
 refine AB (EH hTO₂ λh₃ hTO₃ hs₃=>?_)
 replace hTO₃:IsPair h₃ TO x b:=hTO₃
 refine AB (FO (AI ?_))
 refine AB (AB (FX ?_))
 show wpAny _ _ (Builtin.SmallTypes.nextOf (.ref i2)>>=_) _ _ _
 refine AB (p9 (((h2.but hs₁.extBut D.i2z).but hs₂.extBut D.i12.symm).but hs₃.extBut D.TOi2.symm) (((hl2.but hs₁.extBut D.l2z).but hs₂.extBut D.l2i1).but hs₃.extBut D.l2TO) hy λh₄ h2₄ hs₄=>AI ?_)
 have hTO₄:IsPair h₄ TO x b:=hs₄.extBut _ _ D.TOi2 hTO₃
 refine AB (CO hTO₄ rfl ?_)
 refine AB (EH hTO₄ λh₅ hTO₅ hs₅=>?_)
 replace hTO₅:IsPair h₅ TO x y:=hTO₅
 refine AB (FO (AI (AI ?_)))
 refine AB (CO hTO₅ rfl ?_)
 refine AB (wpAny_newTuple ?_)
 have hsz:h₅.objs.size=s.heap.objs.size:=by rw[hs₅.1,hs₄.1,hs₃.1,hs₂.1,hs₁.1]
 have hz₅:IsZip h₅ z TI TO .ellipsis:=hs₅.extBut _ _ D.TOz.symm (hs₄.extBut _ _ D.i2z.symm (hs₃.extBut _ _ D.TOz.symm (hs₂.extBut _ _ D.i1z.symm hz₁)))
 have hk₅:∀c o,c≠z->c≠TO->c≠i1->c≠i2->s.heap.get? c=some o->h₅.get? c=some o:=λc o c1 c2 c3 c4 e=>hs₅.extBut _ _ c2 (hs₄.extBut _ _ c4 (hs₃.extBut _ _ c2 (hs₂.extBut _ _ c3 (hs₁.extBut _ _ c1 e))))
 have h1₅:SI b1 h₅ i1 l1 (k1+1):=((h1₂.but hs₃.extBut D.TOi1.symm).but hs₄.extBut D.i12).but hs₅.extBut D.TOi1.symm
 have h2₅:SI b2 h₅ i2 l2 (k2+1):=h2₄.but hs₅.extBut D.TOi2.symm
 have hzlt:z<h₅.objs.size:=AH hz₅
 show wpAny _ _ (Builtin.SmallTypes.ownedTupleHandOut (.ref z) (.ref h₅.objs.size)>>=_) _ _ _
 refine AB ?_
 unfold Builtin.SmallTypes.ownedTupleHandOut
 have hz₆:IsZip (h₅.push {cls:=.type "tuple",data:=.seq #[x,y]}) z TI TO .ellipsis:=AC _ hz₅
 refine AB (BM hz₆ (by simp) λh₇ hz₇ hs₇=>?_)
 replace hz₇:IsZip h₇ z TI TO (rawInt h₅.objs.size):=hz₇
 refine BM hz₇ (by simp) λh₈ hz₈ hs₈=>?_
 replace hz₈:IsZip h₈ z TI TO (rawInt h₅.objs.size):=hz₈
 have up:∀c o,c≠z->h₅.get? c=some o->h₈.get? c=some o:=λc o c1 e=>hs₈.extBut _ _ c1 (hs₇.extBut _ _ c1 (AC _ e))
 have hT₈:IsPair h₈ h₅.objs.size x y:=hs₈.extBut _ _ (CD hzlt) (hs₇.extBut _ _ (CD hzlt) (AL _ rfl))
 rw[hsz]at hz₈ hT₈
 refine AI ⟨_,rfl,?_⟩
 show wpAny _ _ (pure (some (Value.ref h₅.objs.size))) _ _ _
 rw[hsz]
 exact AI (hQ h₈ hz₈ (up _ _ D.TOz hTO₅) (h1₅.keep λo e=>up _ o D.i1z e) (h2₅.keep λo e=>up _ o D.i2z e) hT₈ λc o c1 c2 c3 c4 e=>up c o c1 (hk₅ c o c1 c2 c3 c4 e))
theorem F0 {Q:Fin->Shared->Prop} (hh:A.handled=none) (D:ZipApart z TI TO i1 i2 l1 l2)
  (hz:IsZip s.heap z TI TO .none) (hTI:IsPair s.heap TI (.ref i1) (.ref i2)) (hTO:IsPair s.heap TO a b)
  (h1:SI b1 s.heap i1 l1 k1) (h2:SI b2 s.heap i2 l2 k2) (hl1:SQ b1 s.heap l1 xs) (hl2:SQ b2 s.heap l2 ys) (hend:xs[k1]? = none\/ys[k2]? = none)
  (hE:∀h' e,(∀c o,c≠z->c≠TO->c≠i1->c≠i2->s.heap.get? c=some o->h'.get? c=some o)->(∃o,h'.get? e=some o/\o.cls=.type "StopIteration")->E (.ref e) {s with heap:=h'}) :
  wpAny (model prog w) A (Builtin.«zip.__next__» ⟨[.ref z],[]⟩) Q E s:=by
 show wpAny _ _ (field (.ref z) 2>>=_) _ _ _
 refine AB (BK hz rfl (x:=.bool false) rfl ?_)
 show wpAny _ _ (field (.ref z) 3>>=_) _ _ _
 refine AB (BK hz rfl (x:=.ref TI) rfl ?_)
 refine AB (CO hTI rfl ?_)
 show wpAny _ _ (Builtin.SmallTypes.ownedTupleIsFree (.ref z)>>=_) _ _ _
 refine AB ?_
 unfold Builtin.SmallTypes.ownedTupleIsFree
 refine AB (BK hz rfl (x:=.none) rfl (AI ?_))
 simp![if_true]
 refine AB (FA ?_)
 refine AB (BK hz rfl (x:=.ref TO) rfl ?_)
 refine AB (BM hz (by simp) λh₁ hz₁ hs₁=>?_)
 replace hz₁:IsZip h₁ z TI TO .ellipsis:=hz₁
 refine AB ?_
 simp![List.zipIdx_cons,List.zipIdx_nil,DU,HB]
 refine AB (AB (FX ?_))
 show wpAny _ _ (Builtin.SmallTypes.nextOf (.ref i1)>>=_) _ _ _
 cases hx:xs[k1]? with
 |none =>
  refine AB (Ah hh (h1.but hs₁.extBut D.i1z) (hl1.but hs₁.extBut D.l1z) hx λh₂ e hs₂ ⟨oe,hoe,hce⟩=>?_)
  have hz₂:IsZip h₂ z TI TO .ellipsis:=hs₂ _ _ D.i1z.symm hz₁
  have hez:e≠z:=λx=>by subst x;rw[hz₂]at hoe;cases hoe;simp at hce
  exact BM hz₂ (by simp) λh₃ _ hs₃=>hE h₃ e (λc o c1 _ c3 _ x=>hs₃.extBut _ _ c1 (hs₂ _ _ c3 (hs₁.extBut _ _ c1 x))) ⟨oe,hs₃.extBut _ _ hez hoe,hce⟩
 |some x =>
  have hy:ys[k2]? = none:=by rcases hend with h | h;rw[hx]at h;cases h;exact h
  refine AB (p9 (h1.but hs₁.extBut D.i1z) (hl1.but hs₁.extBut D.l1z) hx λh₂ h1₂ hs₂=>AI ?_)
  have hTO₂:IsPair h₂ TO a b:=hs₂.extBut _ _ D.TOi1 (hs₁.extBut _ _ D.TOz hTO)
  refine AB (CO hTO₂ rfl ?_)
  refine AB (EH hTO₂ λh₃ hTO₃ hs₃=>?_)
  refine AB (FO (AI ?_))
  refine AB (AB (FX ?_))
  show wpAny _ _ (Builtin.SmallTypes.nextOf (.ref i2)>>=_) _ _ _
  refine AB (Ah hh (((h2.but hs₁.extBut D.i2z).but hs₂.extBut D.i12.symm).but hs₃.extBut D.TOi2.symm) (((hl2.but hs₁.extBut D.l2z).but hs₂.extBut D.l2i1).but hs₃.extBut D.l2TO) hy λh₄ e hs₄ ⟨oe,hoe,hce⟩=>?_)
  have hz₄:IsZip h₄ z TI TO .ellipsis:=hs₄ _ _ D.i2z.symm (hs₃.extBut _ _ D.TOz.symm (hs₂.extBut _ _ D.i1z.symm hz₁))
  have hez:e≠z:=λx=>by subst x;rw[hz₄]at hoe;cases hoe;simp at hce
  exact BM hz₄ (by simp) λh₅ _ hs₅=>hE h₅ e (λc o c1 c2 c3 c4 x=>hs₅.extBut _ _ c1 (hs₄ _ _ c4 (hs₃.extBut _ _ c2 (hs₂.extBut _ _ c3 (hs₁.extBut _ _ c1 x))))) ⟨oe,hs₅.extBut _ _ hez hoe,hce⟩
theorem J2 {Q:Option Value->Shared->Prop} (hh:A.handled=none) (D:ZipApart z TI TO i1 i2 l1 l2)
  (hz:IsZip s.heap z TI TO .none) (hTI:IsPair s.heap TI (.ref i1) (.ref i2)) (hTO:IsPair s.heap TO a b)
  (h1:SI b1 s.heap i1 l1 k1) (h2:SI b2 s.heap i2 l2 k2) (hl1:SQ b1 s.heap l1 xs) (hl2:SQ b2 s.heap l2 ys) (hend:xs[k1]? = none\/ys[k2]? = none)
  (hQ:∀h',(∀c o,c≠z->c≠TO->c≠i1->c≠i2->s.heap.get? c=some o->h'.get? c=some o)->Q none {s with heap:=h'}):wpAny (model prog w) A (pyNext (.ref z)) Q E s:=by
 have hT:s.TypeIs (.ref z) "zip":=⟨_,hz,rfl⟩
 unfold pyNext
 refine AB (FW (BQ (name:=Str.ofString "__next__") hT EO
  (CN EO hT F.entry_zip_next (F0 hh D hz hTI hTO h1 h2 hl1 hl2 hend λh' e hk he=>?_) (F.args_zip_next_1 _))))
 obtain⟨o,ho,hc⟩:=he
 exact AB (GB (T:="StopIteration") (b:=true) ⟨o,ho,hc⟩ isSubtype_stop (AI (hQ _ hk)))
noncomputable abbrev zp1(b1:Bool)(h:Heap)(l1:Addr):Heap:=h.push {cls:=.type (J1 b1),data:=.fields #[.ref l1,.int 0 0]}
noncomputable abbrev zp2(b1 b2:Bool)(h:Heap)(l1 l2:Addr):Heap:=(zp1 b1 h l1).push {cls:=.type (J1 b2),data:=.fields #[.ref l2,.int 0 0]}
noncomputable abbrev zp3(b1 b2:Bool)(h:Heap)(l1 l2:Addr):Heap:=(zp2 b1 b2 h l1 l2).push {cls:=.type "tuple",data:=.seq #[.ref h.objs.size,.ref (zp1 b1 h l1).objs.size]}
noncomputable abbrev zp4(b1 b2:Bool)(h:Heap)(l1 l2:Addr):Heap:=(zp3 b1 b2 h l1 l2).push {cls:=.type "tuple",data:=.seq #[.none,.none]}
noncomputable abbrev zp5(b1 b2:Bool)(h:Heap)(l1 l2:Addr):Heap:=(zp4 b1 b2 h l1 l2).push {cls:=.type "zip",data:=.fields #[.none,.bool false,.bool false,.ref (zp2 b1 b2 h l1 l2).objs.size,.ref (zp3 b1 b2 h l1 l2).objs.size]}
theorem J3(b1 b2:Bool)(l1 l2:Addr)(xs ys:Array Value) :
  Meets (Builtin.«zip.__new__» ⟨[.type "zip",.ref l1,.ref l2],[]⟩) (λ_ R s=>SQ b1 s.heap l1 xs/\SQ b2 s.heap l2 ys /\
   R (.ok (.ret (.ref (zp4 b1 b2 s.heap l1 l2).objs.size))) {s with heap:=zp5 b1 b2 s.heap l1 l2}) :=
 .of_wp λprog w A R s h=>by
  obtain⟨hp,g,d,tk,os⟩:=s;obtain⟨hl1,hl2,h⟩:=h
  have hsub:=sub_zip
  have hL1:SQ b1 (Shared.heap ⟨hp,g,d,tk,os⟩) l1 xs:=hl1
  have hL2:SQ b2 (Shared.heap ⟨hp.push {cls:=.type (J1 b1),data:=.fields #[.ref l1,.int 0 0]},g,d,tk,os⟩) l2 ys:=SQ.push hl2 _
  wp_walk using Ag hL1,Ag hL2
  exact⟨_,rfl,h⟩
theorem F1 {Q:Value->Shared->Prop} (hl1:SQ b1 s.heap l1 xs) (hl2:SQ b2 s.heap l2 ys)
  (h:∀h',IsZip h' (s.heap.objs.size+4) (s.heap.objs.size+2) (s.heap.objs.size+3) .none->IsPair h' (s.heap.objs.size+2) (.ref s.heap.objs.size) (.ref (s.heap.objs.size+1)) ->
   IsPair h' (s.heap.objs.size+3) .none .none->SI b1 h' s.heap.objs.size l1 0->SI b2 h' (s.heap.objs.size+1) l2 0 ->
   (∀c o,s.heap.get? c=some o->h'.get? c=some o)->Q (.ref (s.heap.objs.size+4)) {s with heap:=h'}) :
  wpAny (model prog w) A (call (.type "zip") [.ref l1,.ref l2]) Q E s:=by
 refine callType_new F.called_zip (by decide) (F.typeCall_zip_2 _ _) (F.newCall_zip_2 _ _) (λobj=>F.args_object_init_3 obj _ _) F.entry_zip_new (J3 b1 b2 l1 l2 xs ys) ⟨hl1,hl2,?_⟩
 have z1:(zp1 b1 s.heap l1).objs.size=s.heap.objs.size+1:=CA ..
 have z2:(zp2 b1 b2 s.heap l1 l2).objs.size=s.heap.objs.size+2:=by rw[CA,z1]
 have z3:(zp3 b1 b2 s.heap l1 l2).objs.size=s.heap.objs.size+3:=by rw[CA,z2]
 have z4:(zp4 b1 b2 s.heap l1 l2).objs.size=s.heap.objs.size+4:=by rw[CA,z3]
 have g5:(zp5 b1 b2 s.heap l1 l2).get? (zp4 b1 b2 s.heap l1 l2).objs.size=some _:=AL _ rfl
 have g4:(zp5 b1 b2 s.heap l1 l2).get? (zp3 b1 b2 s.heap l1 l2).objs.size=some _:=AC _ (AL _ rfl)
 have g3:(zp5 b1 b2 s.heap l1 l2).get? (zp2 b1 b2 s.heap l1 l2).objs.size=some _:=AC _ (AC _ (AL _ rfl))
 have g2:(zp5 b1 b2 s.heap l1 l2).get? (zp1 b1 s.heap l1).objs.size=some _:=AC _ (AC _ (AC _ (AL _ rfl)))
 have g1:(zp5 b1 b2 s.heap l1 l2).get? s.heap.objs.size=some _:=AC _ (AC _ (AC _ (AC _ (AL _ rfl))))
 have s1:SI b1 (zp5 b1 b2 s.heap l1 l2) s.heap.objs.size l1 0:=by cases b1<;>exact⟨_,g1,rfl,rfl⟩
 have s2:SI b2 (zp5 b1 b2 s.heap l1 l2) (zp1 b1 s.heap l1).objs.size l2 0:=by cases b2<;>exact⟨_,g2,rfl,rfl⟩
 show _/\_
 rw[z2,z3,z4]at g5
 rw[z1,z2]at g3
 rw[z3]at g4
 rw[z1]at s2
 rw[z4]
 exact⟨⟨_,g5,rfl⟩,h _ g5 g3 g4 s1 s2 λc o x=>AC _ (AC _ (AC _ (AC _ (AC _ x))))⟩
end
section
variable{X:Cx}{pins:List (Addr × Obj)}{σ:St}{H:Hp}{s:Shared}{φ:Phi}
theorem qa{h':Heap}{t':Nat}{ch:List Addr}(I:Inv X pins σ H s)(k:∀b o,b∉ch->s.heap.get? b=some o->h'.get? b=some o)(hf:∀b∈ch,wb X pins H b):Inv X pins σ H {s with heap:=h',toks:=t'}:=by
 have nit:∀b u,H b=some u->b∉ch:=λb u e z=>by rw[(hf b z).1]at e;cases e
 refine I.step (g':=s.gens) (d':=s.drawn) (ch:=ch) (λb hb=>⟨(hf b hb).2.2.2.1,(hf b hb).2.1,(hf b hb).2.2.2.2.1,(hf b hb).2.2.2.2.2⟩) (λb o _ _ hc e _=>k b o hc e) (λb o _ _ hc e _=>⟨o.slots,k b o hc e⟩) (λ_ _ _ _ n=>n)
  (λb o hc e=>⟨o,k b o hc e⟩) (λ_ _ e=>e) (λ_ _ _ e=>e) (λb ps e=>⟨#[],by rw[e];simp⟩) (λm hm=>?_) (λb u e=>?_) I.bare
 ·obtain⟨o,es,ep,ho,r⟩:=hm
  exact⟨o,es,ep,k _ o (λz=>(hf _ z).2.1 rfl) ho,r⟩
 ·refine(I.hok b u e).stay (λc v hc q=>k c v ?_ q) (λ_ q=>q) λ_ _ q=>q
  rcases hc with z | z
  ·rw[z];exact nit b u e
  ·exact nit c _ z
noncomputable def Sq(b:Bool)(K:PySem.W.Frag)(H:Hp)(a:Addr)(xs:List V):Prop:=match b with
 |true=>SqL K H a xs
 |false=>SqT K H a xs
theorem Sq.vals{b:Bool}{a:Addr}{xs:List V}(h:Sq b X.K H a xs)(I:Inv X pins σ H s):∃its:List Value,bz xs its/\SQ b s.heap a its.toArray/\xs.length<=sizeLine:=by
 cases b
 ·obtain⟨its,rv,p,hz⟩:=I.tuple h
  exact⟨its,rv,p,hz⟩
 ·obtain⟨its,rv,p,hz⟩:=I.list h
  exact⟨its,rv,p.isList,hz⟩
theorem Sq.inj{b:Bool}{a:Addr}{xs ys:List V}(h:Sq b X.K H a xs)(I:Inv X pins σ H s)(h':Sq b X.K H a ys):ys=xs:=by
 cases b
 ·exact I.tuple_inj h' h
 ·exact I.list_inj h' h
noncomputable def Itz(K:PySem.W.Frag)(b1 b2:Bool)(a1 a2:Addr):L2.It :=
 ⟨λi H=>∃xs ys x y,Sq b1 K H a1 xs/\Sq b2 K H a2 ys/\xs[i]? = some x/\ys[i]? = some y,
 λi H v H'=>∃p x y,v=.ref p/\H p=none/\H'=upd H p (.tup [x,y])/\(∀xs,Sq b1 K H a1 xs->xs[i]? = some x)/\(∀ys,Sq b2 K H a2 ys->ys[i]? = some y),
 λi H=>∃xs ys,Sq b1 K H a1 xs/\Sq b2 K H a2 ys/\(xs.length<=i\/ys.length<=i)⟩
theorem Ce{P:Program}{w:World}{K:PySem.W.Frag}{elts:List Expr}{k:Nat}{tp:Pos}{b1 b2:Bool}{z TI TO i1 i2 a1 a2:Addr}(D:ZipApart z TI TO i1 i2 a1 a2) :
  Turn P w K (.Tuple elts k tp) (Itz K b1 b2 a1 a2) [z,TI,TO,i1,i2] z (λi h=>IsZip h z TI TO .none/\IsPair h TI (.ref i1) (.ref i2)/\(∃a b,IsPair h TO a b)/\SI b1 h i1 a1 i/\SI b2 h i2 a2 i) where
 mem:=by simp
 obj:=λi h ⟨hz,hTI,⟨ta,tb,hTO⟩,s1,s2⟩ b hb=>by
  simp![AJ,AU,or_false]at hb
  rcases hb with rfl | rfl | rfl | rfl | rfl
  ·exact⟨_,hz,λv e=>by cases e⟩
  ·exact⟨_,hTI,λv e=>by cases e⟩
  ·exact⟨_,hTO,λv e=>by cases e⟩
  ·obtain⟨o,e,_,d⟩:=s1.obj
   exact⟨o,e,λv q=>by rw[d]at q;cases q⟩
  ·obtain⟨o,e,_,d⟩:=s2.obj
   exact⟨o,e,λv q=>by rw[d]at q;cases q⟩
 keep:=λi h h' ⟨hz,hTI,⟨ta,tb,hTO⟩,s1,s2⟩ k=>⟨k z (by simp) _ hz,k TI (by simp) _ hTI,⟨ta,tb,k TO (by simp) _ hTO⟩,s1.keep λo e=>k i1 (by simp) o e,s2.keep λo e=>k i2 (by simp) o e⟩
 item:=by
  intro X hP hw hK hc i pins s σ H E I hf ⟨hz,hTI,⟨ta,tb,hTO⟩,s1,s2⟩ hg
  subst hP hw hK
  obtain⟨xs,ys,x,y,q1,q2,ex,ey⟩:=hg
  obtain⟨is1,rv1,p1,_⟩:=q1.vals I
  obtain⟨is2,rv2,p2,_⟩:=q2.vals I
  obtain⟨u1,hu1,ru1⟩:=rv1.get ex
  obtain⟨u2,hu2,ru2⟩:=rv2.get ey
  refine Fz D hz hTI hTO s1 s2 p1 p2 (x:=u1) (y:=u2) (by simpa using hu1) (by simpa using hu2) λh' c1 c2 c3 c4 c5 kk=>⟨_,rfl,wpAny_letOwnedTupleGo_zip c1 λh'' z'' sb=>?_⟩
  have fr:H s.heap.objs.size=none:=I.hok.fresh (AM _)
  have lt:∀b∈[z,TI,TO,i1,i2],b≠s.heap.objs.size:=by
   intro b hb
   simp![AJ,AU,or_false]at hb
   rcases hb with rfl | rfl | rfl | rfl | rfl
   ·exact AX (AH hz)
   ·exact AX (AH hTI)
   ·exact AX (AH hTO)
   ·obtain⟨o,e,_⟩:=s1.obj;exact AX (AH e)
   ·obtain⟨o,e,_⟩:=s2.obj;exact AX (AH e)
  have I1:Inv X pins σ (upd H s.heap.objs.size (.tup [x,y])) {s with heap:=s.heap.push {cls:=.type "tuple",data:=.seq #[u1,u2]},toks:=s.toks} :=
   I.laid (λb u e=>AC _ e) (AM _) ⟨by show 2<=sizeLine;rw[CJ];decide,[u1,u2],.cons ru1 (.cons ru2 .nil),⟨_,AL _ rfl,rfl,rfl,_,rfl⟩⟩
  have hf':∀b∈[z,TI,TO,i1,i2],wb X pins (upd H s.heap.objs.size (.tup [x,y])) b:=λb hb=>by
   obtain⟨f0,f⟩:=hf b hb
   exact⟨by rw[av (lt b hb)];exact f0,f⟩
  have up:∀c o,c≠z->h'.get? c=some o->h''.get? c=some o:=λc o n e=>sb.extBut _ _ n e
  have I2:=qa (s:={s with heap:=s.heap.push {cls:=.type "tuple",data:=.seq #[u1,u2]},toks:=s.toks}) (h':=h'') (t':=s.toks) (ch:=[z,TI,TO,i1,i2]) I1 (λb o hb e=>by
   simp![AJ,AU,or_false,not_or]at hb
   rcases Heap.get?_push_cases e with⟨rfl,rfl⟩ | e
   ·exact up _ _ hb.1 c5
   ·exact up _ _ hb.1 (kk b o hb.1 hb.2.2.1 hb.2.2.2.1 hb.2.2.2.2 e)) hf'
  refine⟨.ref s.heap.objs.size,_,I2,rfl,⟨_,x,y,rfl,fr,rfl,λzs hz'=>by rw[q1.inj I hz'];exact ex,λzs hz'=>by rw[q2.inj I hz'];exact ey⟩,?_,λb hb=>(hf' b hb).1⟩
  ·exact⟨z'',up _ _ D.TIz (kk _ _ D.TIz D.TITO D.TIi1 D.TIi2 hTI),⟨u1,u2,up _ _ D.TOz c2⟩,c3.keep λo e=>up _ o D.i1z e,c4.keep λo e=>up _ o D.i2z e⟩
 done:=by
  intro X hP hw hK hc i pins s σ H E I hf ⟨hz,hTI,⟨ta,tb,hTO⟩,s1,s2⟩ hg
  subst hP hw hK
  obtain⟨xs,ys,q1,q2,en⟩:=hg
  obtain⟨is1,rv1,p1,_⟩:=q1.vals I
  obtain⟨is2,rv2,p2,_⟩:=q2.vals I
  have l1:=rv1.length
  have l2:=rv2.length
  refine J2 (I.ok.hd hc) D hz hTI hTO s1 s2 p1 p2 (by rcases en with en | en;exact .inl (by simp;lia);exact .inr (by simp;lia)) λh' kk=>⟨rfl,qa I (h':=h') (t':=s.toks) (ch:=[z,TI,TO,i1,i2]) (λb o hb e=>?_) hf⟩
  simp![AJ,AU,or_false,not_or]at hb
  exact kk b o hb.1 hb.2.2.1 hb.2.2.2.1 hb.2.2.2.2 e
 self:=λ_ _ _ _ _ st h=>wpAny_pyIter_zip st.1 h
theorem ui{K:PySem.W.Frag}{ι:List Addr}{H:Hp}{μ:Sto}{d:D}{v:V}{ds:List D}{g:Gd}(S:Sim K ι H μ)(hd:IsD K ι H d v)(hw:aw μ d=some (ds,g)) :
  ∃b a xs,v=.ref a/\Sq b K H a xs/\ah K ι H ds xs/\∀ι2 H2 μ2,ι <+: ι2->Ext H H2->Sim K ι2 H2 μ2->gd g μ2->∃ys,Sq b K H2 a ys/\ah K ι2 H2 ds ys:=by
 cases d with
 |tup es =>
  simp![aw,BB,DR]at hw
  obtain⟨rfl,rfl⟩:=hw
  obtain⟨a,xs,rfl,hq,hds⟩:=fb hd
  exact⟨false,a,xs,rfl,hq,hds,λι2 H2 μ2 q1 q2 q3 q4=>⟨xs,hq.ext q2,ah.mono q1 q2 _ _ hds⟩⟩
 |lst es =>
  simp![aw,BB,DR]at hw
  obtain⟨rfl,rfl⟩:=hw
  obtain⟨a,xs,rfl,hq,hds⟩:∃a xs,v=.ref a/\FzL K H a xs/\ah K ι H es xs:=by simpa[IsD]using hd
  exact⟨true,a,xs,rfl,hq.sq,hds,λι2 H2 μ2 q1 q2 q3 q4=>⟨xs,(hq.ext q2).sq,ah.mono q1 q2 _ _ hds⟩⟩
 |loc n =>
  obtain⟨a,rfl,hn⟩:∃a,v=.ref a/\ι[n]? = some a:=by simpa[IsD]using hd
  have pre:∀{ι2:List Addr},ι <+: ι2->ι2[n]? = some a:=λhp=>by
   obtain⟨t,rfl⟩:=hp
   rw[AS (AK.mp hn).1];exact hn
  cases em:μ[n]? with
  |none=>simp[aw,em]at hw
  |some o =>
   cases o with
   |l es =>
    simp![aw,em,BB,DR]at hw
    obtain⟨rfl,rfl⟩:=hw
    obtain⟨a',q',ho⟩:=S.at em
    rw[hn]at q';cases q'
    obtain⟨xs,f1,f2⟩:=ho
    refine⟨true,a,xs,rfl,(show LsL K H a xs from .inl f1).sq,ah.mono (CG) (.refl _) _ _ f2,λι2 H2 μ2 q1 q2 q3 q4=>?_⟩
    obtain⟨a2,e2,o2⟩:=q3.at (show μ2[n]? = some (.l es)from q4)
    rw[pre q1]at e2;cases e2
    obtain⟨ys,g1,g2⟩:=o2
    exact⟨ys,(show LsL K H2 a ys from .inl g1).sq,ah.mono (CG) (.refl _) _ _ g2⟩
   |r es =>
    simp![aw,em,BB,DR]at hw
    obtain⟨rfl,rfl⟩:=hw
    obtain⟨a',q',ho⟩:=S.at em
    rw[hn]at q';cases q'
    obtain⟨xs,f1,f2⟩:=ho
    refine⟨true,a,xs,rfl,(show LsL K H a xs from .inl f1).sq,f2,λι2 H2 μ2 q1 q2 q3 q4=>?_⟩
    obtain⟨a2,e2,o2⟩:=q3.at (show μ2[n]? = some (.r es)from q4)
    rw[pre q1]at e2;cases e2
    obtain⟨ys,g1,g2⟩:=o2
    exact⟨ys,(show LsL K H2 a ys from .inl g1).sq,g2⟩
   |d kvs=>simp[aw,em]at hw
   |dt kvs=>simp[aw,em]at hw
   |x _=>simp[aw,em]at hw
   |o _ _=>simp[aw,em]at hw
   |dr _=>simp[aw,em]at hw
   |fd _=>simp[aw,em]at hw
   |dead=>simp[aw,em]at hw
 |_=>simp[aw]at hw
theorem Cf{y:D}{ys:List D}(h:cw [] y=some ys)(μ:Sto):aw μ y=some (ys,none):=by
 cases y<;>simp_all[cw,aw]
theorem J4 {a b:Expr} {xa xb:Ex} {elts:List Expr} {k:Nat} {tp:Pos} {p pos:Pos} (hg:Gl X "zip") (hm:X.mg "zip"=none) (ha:PE X a (tE X.K φ xa)) (hb:PE X b (tE X.K φ xb)) (hs:starEach [a,b] X.env=[(false,eval a X.env),(false,eval b X.env)])
  (hs2:starEach [b] X.env=[(false,eval b X.env)]):PI X (.Tuple elts k tp) (.Call (.Name "zip" p) [a,b] [] pos) (tI X.K φ (.zip xa xb)):=by
 intro pins s σv H R I ⟨ι,σ,μ,hS,hL,h⟩
 simp![evI]at h
 cases e1:evE φ xa σ μ with
 |exc _ _ _=>rw[e1]at h;exact h.elim
 |stuck=>rw[e1]at h;exact h.elim
 |ok d μ1 =>
 rw[e1]at h
 simp![Res.cb]at h
 cases e2:evE φ xb σ μ1 with
 |exc _ _ _=>rw[e2]at h;exact h.elim
 |stuck=>rw[e2]at h;exact h.elim
 |ok d2 μ2 =>
 rw[e2]at h
 simp![Res.cb]at h
 have hq:tEs X.K φ (.cons xa (.cons xb .nil)) σv H (λvs H1=>∃ι1,ι <+: ι1/\Ext H H1/\Sim X.K ι1 H1 μ2/\ah X.K ι1 H1 [d,d2] vs):=⟨ι,σ,μ,hS,hL,by
  simp![du,e1,e2,Res.cb]
  exact λι1 v H1 p1 x1 s1 d1=>⟨ι1,p1,x1,s1,d1⟩⟩
 refine Call_ (lj I hg hm PyProof.Rows.boot_zip (BW (thn (rl ha (rl hb Bv hs2) (by rw[hs,hs2]) pos pins s σv H _ I hq) λus s1 ⟨vs,H1,I1,r1,ι1,p1,x1,S1,d1⟩=>?_) (by rw[hs,hs2]) (by rw[hs2];rfl)))
 simp![ah]at d1
 obtain⟨v1,_,rfl,q1,v2,_,rfl,q2,rfl⟩:=d1
 cases r1 with
 |cons ra rr =>
 cases rr with
 |cons rb rr =>
 cases rr
 cases ew:aw μ2 d with
 |none=>simp![ew]at h
 |some wg =>
 obtain⟨ds,g⟩:=wg
 cases ey:cw [] d2 with
 |none=>simp![ew,ey]at h
 |some es =>
 simp![ew,ey]at h
 obtain⟨b1,a1,xs,rfl,sq1,ds1,st1⟩:=ui S1 q1 ew
 obtain⟨b2,a2,ys,rfl,sq2,ds2,st2⟩:=ui S1 q2 (Cf ey μ2)
 cases ra
 cases rb
 obtain⟨i1,rv1,p1',z1⟩:=sq1.vals I1
 obtain⟨i2,rv2,p2',z2⟩:=sq2.vals I1
 refine F1 p1' p2' λh' c1 c2 c3 c4 c5 kk=>?_
 refine wpAny_pyIter_zip c1 ?_
 have I2:Inv X pins σv H1 {s1 with heap:=h'}:=I1.kept (t':=s1.toks) kk
 refine⟨_,[s1.heap.objs.size+4,s1.heap.objs.size+2,s1.heap.objs.size+3,s1.heap.objs.size,s1.heap.objs.size+1],_,_,H1,rfl,I2,Ce (b1:=b1) (b2:=b2) (zipApart_new p1'.lt p2'.lt),⟨c1,c2,⟨_,_,c3⟩,c4,c5⟩,λb hb=>?_,h ι1 H1 _ p1 x1 S1 ?_⟩
 ·have hb':s1.heap.objs.size<=b:=by
   simp![AJ,AU,or_false]at hb
   rcases hb with rfl | rfl | rfl | rfl | rfl<;>first | exact AM _ | exact Nat.le_add_right _ _
  exact I1.fpOk hb' (I1.hok.fresh hb')
 ·have hlen:((ds.zip es).map λp=>D.tup [p.1,p.2]).length=min ds.length es.length:=by simp
  have n1:=ds1.length
  have n2:=ds2.length
  refine⟨by rw[hlen];lia,λi ι2 H2 μ3 q1 q2 q3 q4 hi=>?_,λi ι2 H2 μ3 w H3 q1 q2 q3 q4 hi hy=>?_,λι2 H2 μ3 q1 q2 q3 q4=>?_⟩
  ·rw[hlen]at hi
   obtain⟨xs',y1,y2⟩:=st1 ι2 H2 μ3 q1 q2 q3 q4
   obtain⟨ys',y3,y4⟩:=st2 ι2 H2 μ3 q1 q2 q3 trivial
   obtain⟨v,ev,_⟩:=y2.get (AE (by lia:i<ds.length))
   obtain⟨v',ev',_⟩:=y4.get (AE (by lia:i<es.length))
   exact⟨xs',ys',v,v',y1,y3,ev,ev'⟩
  ·rw[hlen]at hi
   obtain⟨xs',y1,y2⟩:=st1 ι2 H2 μ3 q1 q2 q3 q4
   obtain⟨ys',y3,y4⟩:=st2 ι2 H2 μ3 q1 q2 q3 trivial
   have hi1:i<ds.length:=by lia
   have hi2:i<es.length:=by lia
   obtain⟨v,ev,hv⟩:=y2.get (AE hi1)
   obtain⟨v',ev',hv'⟩:=y4.get (AE hi2)
   obtain⟨p,x,y,rfl,hp,rfl,f1,f2⟩:=hy
   have e1':=f1 _ y1
   rw[ev]at e1';cases e1'
   have e2':=f2 _ y3
   rw[ev']at e2';cases e2'
   have X1:Ext H2 (upd H2 p (.tup [v,v'])):=Ext.new hp
   refine⟨X1,q3.new hp,.tup [ds[i],es[i]],by simp[DO,hi1,hi2],tup_is (xs:=[v,v']) (.inl ?_) ?_⟩
   ·exact .inl bj
   ·simp![ah]
    exact⟨v,_,rfl,IsD.mono (AG _) X1 _ _ hv,v',_,rfl,IsD.mono (AG _) X1 _ _ hv',rfl⟩
  ·obtain⟨xs',y1,y2⟩:=st1 ι2 H2 μ3 q1 q2 q3 q4
   obtain⟨ys',y3,y4⟩:=st2 ι2 H2 μ3 q1 q2 q3 trivial
   have m1:=y2.length
   have m2:=y4.length
   rw[hlen]
   exact⟨xs',ys',y1,y3,by lia⟩
theorem J5{a b:Expr}{xa xb:Ex}{elts:List Expr}{k:Nat}{tp:Pos}{p pos:Pos}(hm:X.mg "zip"=none)(ha:PE X a (tE X.K φ xa))(hb:PE X b (tE X.K φ xb))(hg:Gl X "zip":=by rfl)(hs:starEach [a,b] X.env=[(false,eval a X.env),(false,eval b X.env)]:=by rfl)(hs2:starEach [b] X.env=[(false,eval b X.env)]:=by rfl) :
  PI X (.Tuple elts k tp) (.Call (.Name "zip" p) [a,b] [] pos) (tI X.K φ (.zip xa xb)):=J4 hg hm ha hb hs hs2
end
open AutoSeq1 (wpAny_loadPart')
theorem F2(l:Addr)(items:Array Value)(n:Nat)(dct:Option Addr)(sl:Array (Option Value)) :
  Meets (Builtin.«enumerate.__new__» ⟨[.type "enumerate",.ref l],[]⟩) (λ_ R s=>s.heap.get? l=some {cls:=.type "tuple",dict:=dct,data:=.seq items n,slots:=sl} /\
   R (.ok (.ret (.ref (s.heap.push {cls:=.type "tuple_iterator",data:=.fields #[.ref l,.int 0 0]}).objs.size)))
    {s with heap:=(s.heap.push {cls:=.type "tuple_iterator",data:=.fields #[.ref l,.int 0 0]}).push {cls:=.type "enumerate",data:=.fields #[.none,.bool false,.ref s.heap.objs.size,rawInt 0,.none,.none]}}) :=
 .of_wp λprog w A R s h=>by
  obtain⟨hp,g,d,tk,os⟩:=s;obtain⟨hl,h⟩:=h
  have hsub:=sub_enumerate
  have hL:Heap.IsTuple (Shared.heap ⟨hp,g,d,tk,os⟩) l items:=⟨_,hl,rfl,n,rfl⟩
  wp_walk using CF hl
  refine wpAny_stack_any λst=>AI ?_
  split
  ·rename_i c _ _ _ _ _
   cases(c==Value.type "enumerate")
   ·wp_walk using CF hl,CW hL
    exact⟨_,rfl,h⟩
   ·wp_walk using CF hl,CW hL
    exact⟨_,rfl,h⟩
  ·wp_walk using CF hl,CW hL
   exact⟨_,rfl,h⟩
section
variable{prog:Program}{w:World}{A:Around}{E:Value -> Shared -> Prop}{s:Shared}{b:Bool}
theorem F3 {l:Addr} {items:Array Value} {Q:Value->Shared->Prop} (hL:SQ b s.heap l items)
  (h:∀h',IsEnum h' (s.heap.objs.size+1) s.heap.objs.size 0 .none->SI b h' s.heap.objs.size l 0->(∀b o,s.heap.get? b=some o->h'.get? b=some o)->Q (.ref (s.heap.objs.size+1)) {s with heap:=h'}) :
  wpAny (model prog w) A (call (.type "enumerate") [.ref l]) Q E s:=by
 cases b
 ·obtain⟨⟨c,dct,dt,sl⟩,hl,hc,n,hd⟩:=hL
  replace hc:c=.type "tuple":=hc
  replace hd:dt=.seq items n:=hd
  subst hc hd
  refine callType_new F.called_enumerate (by decide) (F.typeCall_enumerate_1 _) (F.newCall_enumerate_1 _) (λobj=>F.args_object_init_2 obj _) F.entry_enumerate_new (F2 l items n dct sl) ⟨hl,?_⟩
  have hz:(s.heap.push {cls:=.type "tuple_iterator",data:=.fields #[.ref l,.int 0 0]}).objs.size=s.heap.objs.size+1:=CA ..
  show _/\_
  rw[hz]
  have he:IsEnum ((s.heap.push {cls:=.type "tuple_iterator",data:=.fields #[.ref l,.int 0 0]}).push
    {cls:=.type "enumerate",data:=.fields #[.none,.bool false,.ref s.heap.objs.size,rawInt 0,.none,.none]}) (s.heap.objs.size+1) s.heap.objs.size 0 .none:=by
   have:=AL (s.heap.push {cls:=.type "tuple_iterator",data:=.fields #[.ref l,.int 0 0]})
    (o:={cls:=.type "enumerate",data:=.fields #[.none,.bool false,.ref s.heap.objs.size,rawInt 0,.none,.none]}) rfl
   rw[hz]at this;exact this
  exact⟨⟨_,he,rfl⟩,h _ he ⟨_,AC _ (AL _ rfl),rfl,rfl⟩ λb o x=>AC _ (AC _ x)⟩
 ·exact call_enumerate_list hL λh' a1 a2 _ a3=>h h' a1 a2 a3
theorem F4 {e it l:Addr} {i:Nat} {items:Array Value} {x old:Value} {Q:Option Value->Shared->Prop}
  (he:IsEnum s.heap e it i old) (hit:SI b s.heap it l i) (hl:SQ b s.heap l items) (hx:items[i]? = some x) (hne:e≠it)
  (hQ:∀h',IsEnumOut h' e it ((i:Int)+1) x s.heap.objs.size->SI b h' it l (i+1)->h'.get? s.heap.objs.size=some {cls:=.type "tuple",data:=.seq #[.int i s.toks,x]} ->
   (∀b o,b≠e->b≠it->s.heap.get? b=some o->h'.get? b=some o)->Q (some (.ref s.heap.objs.size)) {s with heap:=h',toks:=s.toks+1}) :
  wpAny (model prog w) A (pyNext (.ref e)) Q E s:=by
 have hT:s.TypeIs (.ref e) "enumerate":=⟨_,he,rfl⟩
 unfold pyNext
 refine AB (FW (BQ (name:=Str.ofString "__next__") hT DI (CN DI hT F.entry_enumerate_next ?_ (F.args_enumerate_next_1 _))))
 obtain⟨hp,g,d,tk,os⟩:=s
 show wpAny _ _ (field (.ref e) 2>>=_) _ _ _
 refine AB (BK he rfl (x:=.ref it) rfl ?_)
 refine AB (p9 hit hl hx λh₁ hit₁ hs₁=>?_)
 replace hs₁:Heap.SameBut it hp h₁:=hs₁
 have he₁:IsEnum h₁ e it i old:=(hs₁.2 e hne).trans he
 show wpAny _ _ (field (.ref e) 3>>=_) _ _ ⟨h₁,g,d,tk,os⟩
 refine AB (BK he₁ rfl (x:=rawInt i) rfl ?_)
 show wpAny _ _ (field (.ref e) 4>>=_) _ _ ⟨h₁,g,d,tk,os⟩
 refine AB (BK he₁ rfl (x:=.none) rfl ?_)
 show wpAny _ _ (mkInt i>>=_) _ _ ⟨h₁,g,d,tk,os⟩
 refine AB (wpAny_mkInt ?_)
 show wpAny _ _ (setField (.ref e) 3 (rawInt ((i:Int)+1))>>=_) _ _ ⟨h₁,g,d,tk+1,os⟩
 refine AB (BM he₁ (by simp) λh₂ he₂ hs₂=>?_)
 replace hs₂:Heap.SameBut e h₁ h₂:=hs₂
 replace he₂:IsEnum h₂ e it ((i:Int)+1) old:=he₂
 show wpAny _ _ (setField (.ref e) 4 .none>>=_) _ _ ⟨h₂,g,d,tk+1,os⟩
 refine AB (BM he₂ (by simp) λh₃ he₃ hs₃=>?_)
 replace hs₃:Heap.SameBut e h₂ h₃:=hs₃
 replace he₃:IsEnum h₃ e it ((i:Int)+1) old:=he₃
 show wpAny _ _ (newTuple [.int i tk,x]>>=_) _ _ ⟨h₃,g,d,tk+1,os⟩
 refine AB (wpAny_newTuple ?_)
 have he₄:IsEnum (h₃.push {cls:=.type "tuple",data:=.seq #[.int i tk,x]}) e it ((i:Int)+1) old:=AC _ he₃
 generalize hh₄:h₃.push {cls:=.type "tuple",data:=.seq #[.int i tk,x]}=h₄ at he₄
 have hsz:h₃.objs.size=hp.objs.size:=by rw[hs₃.1,hs₂.1,hs₁.1]
 have hel:e<hp.objs.size:=AH he
 have ht₄:h₄.get? hp.objs.size=some {cls:=.type "tuple",data:=.seq #[.int i tk,x]}:=by rw[<-hh₄,<-hsz];exact AL _ rfl
 have hk₄:∀b o,b≠e->b≠it->hp.get? b=some o->h₄.get? b=some o:=λb o hbe hbi hb=>by
  rw[<-hh₄];exact AC _ (hs₃.extBut b o hbe (hs₂.extBut b o hbe (hs₁.extBut b o hbi hb)))
 have hit₄:SI b h₄ it l (i+1):=by
  rw[<-hh₄];exact((hit₁.but hs₂.extBut (Ne.symm hne)).but hs₃.extBut (Ne.symm hne)).keep λo ho=>AC _ ho
 show wpAny _ _ (Builtin.SmallTypes.ownedTupleIsFree (.ref e)>>=_) _ _ ⟨h₄,g,d,tk+1,os⟩
 rw[hsz]
 clear hh₄ he₃ hs₃ he₂ hs₂ he₁ hs₁ hit₁ hsz h₃ h₂ h₁
 refine AB ?_
 unfold Builtin.SmallTypes.ownedTupleIsFree
 refine AB (BK he₄ rfl (x:=.none) rfl (AI ?_))
 simp![if_true]
 refine AB (FA ?_)
 refine AB (BK he₄ rfl (x:=old) rfl ?_)
 refine AB (BM he₄ (by simp) λh₅ he₅ hs₅=>?_)
 replace hs₅:Heap.SameBut e h₄ h₅:=hs₅
 replace he₅:IsEnum h₅ e it ((i:Int)+1) x:=he₅
 show wpAny _ _ (Builtin.SmallTypes.ownedTupleHandOut (.ref e) (.ref hp.objs.size)>>=_) _ _ ⟨h₅,g,d,tk+1,os⟩
 refine AB ?_
 unfold Builtin.SmallTypes.ownedTupleHandOut
 refine AB (BM he₅ (by simp) λh₆ he₆ hs₆=>?_)
 replace hs₆:Heap.SameBut e h₅ h₆:=hs₆
 replace he₆:IsEnumOut h₆ e it ((i:Int)+1) x hp.objs.size:=he₆
 refine BM he₆ (by simp) λh₇ he₇ hs₇=>?_
 replace hs₇:Heap.SameBut e h₆ h₇:=hs₇
 replace he₇:IsEnumOut h₇ e it ((i:Int)+1) x hp.objs.size:=he₇
 refine AB (FO (AI ⟨_,rfl,AI (hQ h₇ he₇ ?_ ?_ ?_)⟩))
 ·exact((hit₄.but hs₅.extBut (Ne.symm hne)).but hs₆.extBut (Ne.symm hne)).but hs₇.extBut (Ne.symm hne)
 ·exact hs₇.extBut _ _ (CD hel) (hs₆.extBut _ _ (CD hel) (hs₅.extBut _ _ (CD hel) ht₄))
 ·exact λb o hbe hbi hb=>hs₇.extBut b o hbe (hs₆.extBut b o hbe (hs₅.extBut b o hbe (hk₄ b o hbe hbi hb)))
theorem J6 {e it l:Addr} {i:Nat} {items:Array Value} {old:Value} {Q:Option Value->Shared->Prop} (hh:A.handled=none)
  (he:IsEnum s.heap e it i old) (hit:SI b s.heap it l i) (hl:SQ b s.heap l items) (hx:items[i]? = none)
  (hQ:∀h',Heap.ExtBut it s.heap h'->Q none {s with heap:=h'}):wpAny (model prog w) A (pyNext (.ref e)) Q E s:=by
 have hT:s.TypeIs (.ref e) "enumerate":=⟨_,he,rfl⟩
 unfold pyNext
 refine AB (FW (BQ (name:=Str.ofString "__next__") hT DI (CN DI hT F.entry_enumerate_next ?_ (F.args_enumerate_next_1 _))))
 show wpAny _ _ (field (.ref e) 2>>=_) _ _ _
 refine AB (BK he rfl (x:=.ref it) rfl ?_)
 refine AB (Ah hh hit hl hx λh' x he' hx'=>?_)
 obtain⟨o,ho,hc⟩:=hx'
 refine AB (GB (T:="StopIteration") (b:=true) ⟨o,ho,hc⟩ isSubtype_stop ?_)
 exact AI (hQ _ he')
end
section
variable{X:Cx}{pins:List (Addr × Obj)}{σ:St}{H:Hp}{s:Shared}{φ:Phi}
noncomputable def Ite(K:PySem.W.Frag)(b:Bool)(a:Addr):L2.It :=
 ⟨λi H=>∃xs x,Sq b K H a xs/\xs[i]? = some x,
 λi H v H'=>∃p x,v=.ref p/\H p=none/\H'=upd H p (.tup [.int i,x])/\∀xs,Sq b K H a xs->xs[i]? = some x,
 λi H=>∃xs,Sq b K H a xs/\xs.length<=i⟩
theorem Ai{P:Program}{w:World}{K:PySem.W.Frag}{elts:List Expr}{k:Nat}{tp:Pos}{b:Bool}{e it a:Addr}(hne:e≠it) :
  Turn P w K (.Tuple elts k tp) (Ite K b a) [e,it] e (λi h=>(∃old,IsEnum h e it i old)/\SI b h it a i) where
 mem:=by simp
 obj:=λi h ⟨⟨old,he⟩,s1⟩ c hc=>by
  simp![AJ,AU,or_false]at hc
  rcases hc with rfl | rfl
  ·exact⟨_,he,λv e=>by cases e⟩
  ·obtain⟨o,e,_,d⟩:=s1.obj
   exact⟨o,e,λv q=>by rw[d]at q;cases q⟩
 keep:=λi h h' ⟨⟨old,he⟩,s1⟩ k=>⟨⟨old,k e (by simp) _ he⟩,s1.keep λo q=>k it (by simp) o q⟩
 item:=by
  intro X hP hw hK hc i pins s σ H E I hf ⟨⟨old,he⟩,s1⟩ hg
  subst hP hw hK
  obtain⟨xs,x,q1,ex⟩:=hg
  obtain⟨is1,rv1,p1,_⟩:=q1.vals I
  obtain⟨u1,hu1,ru1⟩:=rv1.get ex
  refine F4 he s1 p1 (x:=u1) (by simpa using hu1) hne λh' c1 c2 c3 kk=>⟨_,rfl,wpAny_letOwnedTupleGo_enum c1 λh'' z'' sb=>?_⟩
  have fr:H s.heap.objs.size=none:=I.hok.fresh (AM _)
  have lt:∀c∈[e,it],c≠s.heap.objs.size:=by
   intro c hc
   simp![AJ,AU,or_false]at hc
   rcases hc with rfl | rfl
   ·exact AX (AH he)
   ·obtain⟨o,q,_⟩:=s1.obj;exact AX (AH q)
  have I1:Inv X pins σ (upd H s.heap.objs.size (.tup [.int i,x])) {s with heap:=s.heap.push {cls:=.type "tuple",data:=.seq #[.int i s.toks,u1]},toks:=s.toks+1} :=
   I.laid (λb u e=>AC _ e) (AM _) ⟨by show 2<=sizeLine;rw[CJ];decide,[.int i s.toks,u1],.cons ⟨s.toks,rfl⟩ (.cons ru1 .nil),⟨_,AL _ rfl,rfl,rfl,_,rfl⟩⟩
  have hf':∀c∈[e,it],wb X pins (upd H s.heap.objs.size (.tup [.int i,x])) c:=λc hc=>by
   obtain⟨f0,f⟩:=hf c hc
   exact⟨by rw[av (lt c hc)];exact f0,f⟩
  have up:∀c o,c≠e->h'.get? c=some o->h''.get? c=some o:=λc o n q=>sb.extBut _ _ n q
  have I2:=qa (s:={s with heap:=s.heap.push {cls:=.type "tuple",data:=.seq #[.int i s.toks,u1]},toks:=s.toks+1}) (h':=h'') (t':=s.toks+1) (ch:=[e,it]) I1 (λc o hc q=>by
   simp![AJ,AU,or_false,not_or]at hc
   rcases Heap.get?_push_cases q with⟨rfl,rfl⟩ | q
   ·exact up _ _ hc.1 c3
   ·exact up _ _ hc.1 (kk c o hc.1 hc.2 q)) hf'
  refine⟨.ref s.heap.objs.size,_,I2,rfl,⟨_,x,rfl,fr,rfl,λzs hz'=>by rw[q1.inj I hz'];exact ex⟩,⟨⟨u1,?_⟩,c2.keep λo q=>up _ o (Ne.symm hne) q⟩,λc hc=>(hf' c hc).1⟩
  exact z''
 done:=by
  intro X hP hw hK hc i pins s σ H E I hf ⟨⟨old,he⟩,s1⟩ hg
  subst hP hw hK
  obtain⟨xs,q1,en⟩:=hg
  obtain⟨is1,rv1,p1,_⟩:=q1.vals I
  have l1:=rv1.length
  refine J6 (I.ok.hd hc) he s1 p1 (by simp;lia) λh' kk=>⟨rfl,qa I (h':=h') (t':=s.toks) (ch:=[e,it]) (λc o hc q=>?_) hf⟩
  simp![AJ,AU,or_false,not_or]at hc
  exact kk c o hc.2 q
 self:=λ_ _ _ _ _ st h=>wpAny_pyIter_enum st.1.choose_spec h
theorem F5{a:Expr}{xa:Ex}{elts:List Expr}{k:Nat}{tp:Pos}{p pos:Pos}(hg:Gl X "enumerate")(hm:X.mg "enumerate"=none)(ha:PE X a (tE X.K φ xa))(hs:starEach [a] X.env=[(false,eval a X.env)]) :
  PI X (.Tuple elts k tp) (.Call (.Name "enumerate" p) [a] [] pos) (tI X.K φ (.enum xa)):=by
 intro pins s σv H R I ⟨ι,σ,μ,hS,hL,h⟩
 simp![evI]at h
 cases e1:evE φ xa σ μ with
 |exc _ _ _=>rw[e1]at h;exact h.elim
 |stuck=>rw[e1]at h;exact h.elim
 |ok d μ2 =>
 rw[e1]at h
 simp![Res.cb]at h
 have hq:tEs X.K φ (.cons xa .nil) σv H (λvs H1=>∃ι1,ι <+: ι1/\Ext H H1/\Sim X.K ι1 H1 μ2/\ah X.K ι1 H1 [d] vs):=⟨ι,σ,μ,hS,hL,by
  simp![du,e1,Res.cb]
  exact λι1 v H1 p1 x1 s1 d1=>⟨ι1,p1,x1,s1,d1⟩⟩
 refine Call_ (lj I hg hm PyProof.Rows.boot_enumerate (BW (thn (rl ha Bv hs pos pins s σv H _ I hq) λus s1 ⟨vs,H1,I1,r1,ι1,p1,x1,S1,d1⟩=>?_) hs rfl))
 simp![ah]at d1
 obtain⟨v1,_,rfl,q1,rfl⟩:=d1
 cases r1 with
 |cons ra rr =>
 cases rr
 cases ew:aw μ2 d with
 |none=>simp![ew]at h
 |some wg =>
 obtain⟨ds,g⟩:=wg
 simp![ew]at h
 obtain⟨b1,a1,xs,rfl,sq1,ds1,st1⟩:=ui S1 q1 ew
 cases ra
 obtain⟨i1,rv1,p1',z1⟩:=sq1.vals I1
 refine F3 p1' λh' c1 c2 kk=>?_
 refine wpAny_pyIter_enum c1 ?_
 have I2:Inv X pins σv H1 {s1 with heap:=h'}:=I1.kept (t':=s1.toks) kk
 refine⟨_,[s1.heap.objs.size+1,s1.heap.objs.size],_,_,H1,rfl,I2,Ai (b:=b1) (a:=a1) (Nat.succ_ne_self _),⟨⟨_,c1⟩,c2⟩,λc hc=>?_,h ι1 H1 _ p1 x1 S1 ?_⟩
 ·have hc':s1.heap.objs.size<=c:=by
   simp![AJ,AU,or_false]at hc
   rcases hc with rfl | rfl<;>first | exact AM _ | exact Nat.le_add_right _ _
  exact I1.fpOk hc' (I1.hok.fresh hc')
 ·have hlen:(((List.range ds.length).zip ds).map fun(p:Nat×D)=>D.tup [.int p.1,p.2]).length=ds.length:=by simp
  have n1:=ds1.length
  refine⟨by rw[hlen];lia,λi ι2 H2 μ3 q1 q2 q3 q4 hi=>?_,λi ι2 H2 μ3 w H3 q1 q2 q3 q4 hi hy=>?_,λι2 H2 μ3 q1 q2 q3 q4=>?_⟩
  ·rw[hlen]at hi
   obtain⟨xs',y1,y2⟩:=st1 ι2 H2 μ3 q1 q2 q3 q4
   obtain⟨v,ev,_⟩:=y2.get (AE hi)
   exact⟨xs',v,y1,ev⟩
  ·rw[hlen]at hi
   obtain⟨xs',y1,y2⟩:=st1 ι2 H2 μ3 q1 q2 q3 q4
   obtain⟨v,ev,hv⟩:=y2.get (AE hi)
   obtain⟨p,x,rfl,hp,rfl,f1⟩:=hy
   have e1':=f1 _ y1
   rw[ev]at e1';cases e1'
   have X1:Ext H2 (upd H2 p (.tup [.int i,v])):=Ext.new hp
   refine⟨X1,q3.new hp,.tup [.int i,ds[i]],by simp[DO,hi],tup_is (xs:=[.int i,v]) (.inl ?_) ?_⟩
   ·exact .inl bj
   ·simp![ah]
    exact⟨.int i,_,rfl,by simp[IsD],v,_,rfl,IsD.mono (AG _) X1 _ _ hv,rfl⟩
  ·obtain⟨xs',y1,y2⟩:=st1 ι2 H2 μ3 q1 q2 q3 q4
   have m1:=y2.length
   rw[hlen]
   exact⟨xs',y1,by lia⟩
theorem F6{a:Expr}{xa:Ex}{elts:List Expr}{k:Nat}{tp:Pos}{p pos:Pos}(hm:X.mg "enumerate"=none)(ha:PE X a (tE X.K φ xa))(hg:Gl X "enumerate":=by rfl)(hs:starEach [a] X.env=[(false,eval a X.env)]:=by rfl) :
  PI X (.Tuple elts k tp) (.Call (.Name "enumerate" p) [a] [] pos) (tI X.K φ (.enum xa)):=F5 hg hm ha hs
end
end Lp
namespace Lp.Sets
open PySem PySem.W PyProof.Rows PySem.Calls
noncomputable def intOf:Value->Int
 |.int n _=>n
 |_=>0
theorem ints_of:∀{vs:List Value} {ns:List Int},IntsAre vs ns->ns=vs.map intOf/\∀v∈vs,∃n t,v=.int n t
 |_,_,.nil=>⟨rfl,λv h=>by simp at h⟩
 |_,_,.cons n t r=>by
  obtain⟨e,h⟩:=ints_of r
  refine⟨by rw[BL,<-e];rfl,λv hv=>?_⟩
  rcases AJ.mp hv with rfl | hv
  ·exact⟨n,t,rfl⟩
  ·exact h v hv
end Lp.Sets
namespace Lp
open PySem PySem.Spec PyProof.Rows L2
namespace Sets
theorem vals_ints:∀{ns:List Int} {us:List Value},bz (ns.map V.int) us->IntsAre us ns
 | [],[],_=>.nil
 |n::r,u::us,h=>by
  cases h with
  |cons h1 h2 =>
   obtain⟨t,rfl⟩:=h1
   exact .cons n t (vals_ints h2)
 | [],u::us,h=>by cases h
 |n::r,[],h=>by cases h
end Sets
end Lp
namespace Lp.Sets
open PySem PySem.W PyProof.Rows
noncomputable def J7(m b:Nat):SetTable.Probe:={j:=b % (m+1),more:=SetTable.runEnd m (b % (m+1))-b % (m+1),i:=b % (m+1),perturb:=b,dummy:=none}
noncomputable def Sr(m:Nat)(p:SetTable.Probe):SetTable.Probe :=
 if p.more > 0 then {p with j:=p.j+1,more:=p.more-1}else
 {p with j:=(SetTable.leap m p.i p.perturb).1,more:=SetTable.runEnd m (SetTable.leap m p.i p.perturb).1-(SetTable.leap m p.i p.perturb).1,i:=(SetTable.leap m p.i p.perturb).1,perturb:=(SetTable.leap m p.i p.perturb).2}
noncomputable def J8(m b:Nat):Nat->SetTable.Probe
 |0=>J7 m b
 |n+1=>Sr m (J8 m b n)
noncomputable abbrev pos(m b n:Nat):Nat:=(J8 m b n).j
end Lp.Sets
namespace Lp
open PySem PySem.Builtin PySem.Builtin.Str
theorem l6(x:Str):ofL x.cps.toList=x:=Str.ext' (by simp[ofL])
theorem bf(l:List Nat):(ofL l).cps.toList=l:=by simp[ofL]
theorem r0{a b:Str}(h:a.cps.toList=b.cps.toList):a=b:=by rw[<-l6 a,h,l6]
theorem jx(c:Nat):∀(w:List Nat),c∉w->cz c w=[w]
 | [],_=>rfl
 |x::r,h=>by
  rw[AJ,not_or]at h
  rw[cz,if_neg λz=>h.1 z.symm,jx c r h.2]
theorem kr(c:Nat)(t:List Nat):∀(w:List Nat),c∉w->cz c (w++c::t)=w::cz c t
 | [],_=>by simp[cz]
 |x::r,h=>by
  rw[AJ,not_or]at h
  rw[EE,cz,if_neg λz=>h.1 z.symm,kr c t r h.2]
theorem mv(c:Nat):∀(ps:List Str),ps≠[]->(∀p∈ps,c∉p.cps.toList)->cz c (Str.join ⟨#[c]⟩ ps).cps.toList=ps.map λp=>p.cps.toList
 | [],h,_=>absurd rfl h
 | [p],_,h=>by
  show cz c p.cps.toList=_
  rw[jx c _ (h p AR)];rfl
 |p::q::r,_,h=>by
  show cz c (p++⟨#[c]⟩++Str.join ⟨#[c]⟩ (q::r)).cps.toList=_
  rw[EA,EA,Da,Da,Ev]
  show cz c (p.cps.toList++c::(Str.join ⟨#[c]⟩ (q::r)).cps.toList)=_
  rw[kr c _ _ (h p AR),mv c (q::r) (by simp) λx hx=>h x (AO _ hx)];rfl
theorem Cg(x y:Str):Txt.split x y≠[]:=by
 unfold Txt.split
 split
 ·simp
 ·split
  ·simp
  ·rw[GC]
   obtain⟨p,r,e⟩:=StrLaws.partsFrom_ne x y.length 0 (occurrences x y 0 x.length (x.length+1))
   rw[e];simp
theorem Ci(x:Str)(c:Nat):Txt.split x ⟨#[c]⟩=(cz c x.cps.toList).map ofL:=by
 have h:=mv c (Txt.split x ⟨#[c]⟩) (Cg _ _) (StrLaws.split_free x c)
 rw[StrLaws.join_split]at h
 rw[h,BU,show(ofL∘λp:Str=>p.cps.toList)=λp=>p from funext λp=>l6 p,List.map_id''];exact λ_=>rfl
theorem Cj(x y:Str):(partsBetween x (occurrences x y 0 x.length (x.length+1)) y.length).length<=x.length+2:=by
 have:=StrLaws.occ_length_le x y 0 x.length (x.length+1)
 rw[GC]
 have e:∀(cuts:List Nat) (a:Nat),(StrLaws.partsFrom x y.length a cuts).length=cuts.length+1:=λcuts=>by
  induction cuts with
  |nil=>intro a;simp[StrLaws.partsFrom]
  |cons c r ih=>intro a;simp[StrLaws.partsFrom,ih]
 rw[e];lia
theorem Aj(x y:Str)(i:Nat)(hy:0<y.length):StrLaws.At x y x.length i↔y.cps.toList.isPrefixOf (x.cps.toList.drop i)=true:=by
 unfold StrLaws.At
 rw[StrLaws.subAt_eq,FB,beq_iff_eq,GD]
 have e:y.cps.toList.length=y.length:=by simp[Str.length]
 rw[e]
 constructor
 ·rintro⟨_,h⟩;exact h.symm
 ·intro h
  refine⟨?_,h.symm⟩
  have:=congrArg List.length h
  rw[e,CK,ED]at this
  have e2:x.cps.toList.length=x.length:=by simp[Str.length]
  lia
theorem ow{p:List Nat}(hp:p≠[]):∀{l:List Nat},(∀i,p.isPrefixOf (l.drop i)=false)->de p l=none
 | [],_=>rfl
 |x::r,h=>by
  have h0:=h 0
  rw[FC]at h0
  rw[de,h0,ow hp λi=>h (i+1)];rfl
theorem ox{p:List Nat}:∀{l:List Nat} {i:Nat},i<l.length->p.isPrefixOf (l.drop i)=true->(∀k,k<i->p.isPrefixOf (l.drop k)=false)->de p l=some (l.take i,l.drop (i+p.length))
 | [],_,h,_,_=>by simp at h
 |x::r,0,_,h,_=>by
  rw[FC]at h
  rw[de,h];simp
 |x::r,i+1,hi,h,hk=>by
  have h0:=hk 0 (by lia)
  rw[FC]at h0
  rw[de,h0,ox (l:=r) (i:=i) (by simpa using hi) h λk q=>hk (k+1) (by lia)]
  simp[Nat.add_right_comm]
theorem xn{x:Str}(h:(x.cps.toList.all λc=>decide (c<128))=true):Txt.isdigit x=digs x.cps.toList:=by
 have d:∀c,c<128->Unicode.isDigit c=decide (48<=c/\c<=57):=by decide +kernel
 unfold Txt.isdigit digs
 congr 1
 ·cases e:x.cps.toList with
  |nil =>
      have:x.length=0:=by simp[Str.length,<-BO,e]
      simp[this]
  |cons a r =>
         have:x.length=r.length+1:=by simp[Str.length,<-BO,e]
         simp[this]
 ·rw[<-Array.all_toList]
  rw[AT]at h
  rw[GR,AT,AT]
  constructor
  ·intro q c hc
   rw[<-d c (by simpa using h c hc)];exact q c hc
  ·intro q c hc
   rw[d c (by simpa using h c hc)];exact q c hc
theorem Ak(x y:Str):Txt.startswith x y=y.cps.toList.isPrefixOf x.cps.toList:=by
 unfold Txt.startswith
 have e:y.cps.toList.length=y.length:=by simp[Str.length]
 have e2:x.cps.toList.length=x.length:=by simp[Str.length]
 rw[StrLaws.subAt_eq,FC,GR,AY,decide_eq_true_eq,beq_iff_eq,FB,GD,e]
 constructor
 ·rintro⟨_,h⟩;exact h.symm
 ·intro h
  refine⟨?_,h.symm⟩
  have:=congrArg List.length h
  rw[e,CK]at this
  lia
open PySem PySem.Spec PyProof.Rows L2
theorem Al{K:PySem.W.Frag}{ι:List Addr}{H:Hp}:∀{ds:List D} {vs:List V} {xs:List Str},ah K ι H ds vs->pd ds=some xs->vs=xs.map V.str
 | [],vs,xs,h,e=>by
  simp![ah]at h
  simp![pd,BB]at e
  subst e;exact h
 |d::ds,vs,xs,h,e=>by
  simp![ah]at h
  obtain⟨v,r,rfl,q,t⟩:=h
  cases d<;>simp![pd]at e
  case str x =>
   cases e2:pd ds with
   |none=>rw[e2]at e;cases e
   |some ys =>
    rw[e2]at e
    cases e
    have:v=.str x:=by simpa[IsD]using q
    rw[this,Al t e2];rfl
  all_goals cases e
theorem r6:∀{xs:List Str} {us:List Value},bz (xs.map V.str) us->∃l:List (Str×Tok),us=strValues l/\l.map (·.1)=xs
 | [],us,h=>by cases h;exact⟨[],rfl,rfl⟩
 |x::xs,us,h=>by
  cases h with
  |cons a t =>
   obtain⟨tk,rfl⟩:=a
   obtain⟨l,rfl,e⟩:=r6 t
   exact⟨(x,tk)::l,rfl,by rw[BL,e]⟩
theorem r8:∀(l:List (Str×Tok)),bz ((l.map (·.1)).map V.str) (strValues l)
 | []=>.nil
 |p::l=>.cons ⟨p.2,rfl⟩ (r8 l)
theorem mw{K:PySem.W.Frag}{ι:List Addr}{H:Hp}:∀(xs:List Str),ah K ι H (xs.map D.str) (xs.map V.str)
 | []=>by simp[ah]
 |x::xs=>by
  simp![BL,ah]
  exact⟨_,_,rfl,by simp[IsD],mw xs⟩
theorem mx{K:PySem.W.Frag}{ι:List Addr}{H:Hp}{x:Str}{v:V}(h:IsD K ι H (.str x) v):v=.str x:=by simpa[IsD]using h
section
variable{X:Cx}{φ:Phi}{o e f:Expr}{es:List Expr}{xo xe xf:Ex}{xs:Exs}{apos cpos pos:Pos}{b:Bt}{m:Mk}
noncomputable abbrev rSt(K:PySem.W.Frag)(b:Bt)(m:Mk):V->List V->Hp->VK->Prop:=λx vs H Q=>n9 K (btD b m) (x::vs) H Q
theorem qb(hb:∀d ds μ,(∀x,d≠.str x)->btD b m (d::ds) μ=.stuck)(h:PE X e (tBM X.K "str" (rSt X.K b m) (tE X.K φ xo) (tEs X.K φ xs))):PE X e (tE X.K φ (.blt b m (.cons xo xs))) :=
 PE.imp h λσv H Q ⟨ι,σ,μ,hS,hL,h⟩=>by
  simp![evE,du]at h
  rw[Res.bind_assoc]at h
  obtain⟨d,μ1,e1,h⟩:=h.bind
  rw[Res.bind_assoc]at h
  refine⟨ι,σ,μ,hS,hL,?_⟩
  rw[e1]
  intro ι1 x H1 p1 x1 s1 d1
  obtain⟨ds,μ2,e2,h⟩:=h.bind
  simp![Res.cb]at h
  have hd:∃y,d=.str y:=FI λz=>by
   rw[hb d ds μ2 λx q=>z ⟨x,q⟩]at h
   exact h.elim
  obtain⟨y,rfl⟩:=hd
  have ex:=mx d1
  subst ex
  refine⟨rfl,ι1,σ,μ1,s1,hL.mono p1 x1,?_⟩
  rw[e2]
  exact λι2 vs H2 p2 x2 s2 d2=>⟨ι2,.str y::ds,μ2,s2,by simp![ah];exact⟨_,_,rfl,by simp[IsD],d2⟩,h.mono (p1.trans p2) (x1.trans x2)⟩
theorem Ck(hb:∀d μ,(∀x,d≠.str x)->btD b m [d] μ=.stuck)(h:PE X e (Ly X.K "str" (rSt X.K b m) (tE X.K φ xo))):PE X e (tE X.K φ (.blt b m (.cons xo .nil))) :=
 PE.imp h λσv H Q ⟨ι,σ,μ,hS,hL,h⟩=>by
  simp![evE,du]at h
  rw[Res.bind_assoc]at h
  obtain⟨d,μ1,e1,h⟩:=h.bind
  simp![Res.cb]at h
  refine⟨ι,σ,μ,hS,hL,?_⟩
  rw[e1]
  intro ι1 x H1 p1 x1 s1 d1
  have hd:∃y,d=.str y:=FI λz=>by
   rw[hb d μ1 λx q=>z ⟨x,q⟩]at h
   exact h.elim
  obtain⟨y,rfl⟩:=hd
  have ex:=mx d1
  subst ex
  exact⟨rfl,ι1,[.str y],μ1,s1,by simp![ah];exact⟨_,_,rfl,by simp[IsD],rfl⟩,h.mono p1 x1⟩
theorem J9{f:Str->Sto->Res D}{d:D}{μ:Sto}(h:∀x,d≠.str x):ir (str1 f) [d] μ=.stuck:=by
 simp![dy]
 cases d<;>first | rfl | exact absurd rfl (h _)
theorem Am{f:Str->Str->Sto->Res D}{d:D}{ds:List D}{μ:Sto}(h:∀x,d≠.str x):w8 f (d::ds) μ=.stuck:=by
 unfold w8
 split
 ·rename_i q;cases q;exact absurd rfl (h _)
 ·rfl
theorem uj{K:PySem.W.Frag}{ι:List Addr}{H:Hp}{ds:List D}{vs:List V}{μ:Sto}{f:Str->Sto->Res D}{Q:VK}(hds:ah K ι H ds vs)(h:dw K (RD K) ι H (ir (str1 f) ds μ) Q) :
  ∃x,vs=[.str x]/\dw K (RD K) ι H (f x μ) Q:=by
 obtain⟨d,v,rfl,hv,h⟩:=ju hds h
 unfold str1 at h
 split at h
 ·rename_i x
  exact⟨x,by rw[mx hv],h⟩
 ·exact h.elim
theorem qc{K:PySem.W.Frag}{ι:List Addr}{H:Hp}{ds:List D}{vs:List V}{μ:Sto}{f:Str->Str->Sto->Res D}{Q:VK}(hds:ah K ι H ds vs)(h:dw K (RD K) ι H (w8 f ds μ) Q) :
  ∃x y,vs=[.str x,.str y]/\dw K (RD K) ι H (f x y μ) Q:=by
 unfold w8 at h
 split at h
 ·rename_i x y
  obtain⟨v,w,rfl,hv,hw⟩:=vj hds
  exact⟨x,y,by rw[mx hv,mx hw],h⟩
 ·exact h.elim
theorem bt_strI:d7 X (.type "str") (n9 X.K (btD .strI m)):=d7.imp qu λxs H Q ⟨ι,ds,μ,hS,hds,h⟩=>by
 obtain⟨d,v,rfl,hv,h⟩:=ju hds h
 unfold E1 at h
 split at h
 ·rename_i i
  split at h
  ·rename_i hi
   cases c6 hv
   refine⟨i,rfl,?_,h.ok hS (by simp[IsD])⟩
   have:i.natAbs<2 ^ 200:=by
    have:(10:Int) ^ 60<2 ^ 200:=by decide
    lia
   rcases Nat.eq_zero_or_pos i.natAbs with z | z
   ·rw[z];decide
   ·exact Nat.lt_trans ((Nat.log2_lt (by lia)).mpr this) (by decide)
  ·exact h.elim
 ·exact h.elim
theorem F7:d7 X (.builtin "len") (n9 X.K (btD .lenS m)):=d7.imp Bm λxs H Q ⟨ι,ds,μ,hS,hds,h⟩=>by
 obtain⟨x,rfl,h⟩:=uj hds h
 split at h
 ·rename_i hx
  exact⟨.str x,x.length,rfl,⟨by rw[CJ];lia,rfl⟩,h.ok hS (by simp[IsD])⟩
 ·exact h.elim
theorem F8:d7 X (.type "int") (n9 X.K (btD .intS m)):=by
 intro pins s σ H vs us Q I rv ⟨ι,ds,μ,hS,hds,h⟩
 obtain⟨x,rfl,h⟩:=uj hds h
 split at h
 ·rename_i hx
  obtain⟨u,rfl,t,rfl⟩:=vals1 rv
  have hd:=hx.1
  unfold digs at hd
  simp![AY,FN,List.isEmpty_eq_false_iff,AT,decide_eq_true_eq]at hd
  have e:PySem.intText? x=some ((valL x.cps.toList:Nat):Int):=PySem.intText_digits hd.2 hd.1 (BV hx.2 (by decide))
  exact PySem.W.KIN.call_text e (BV hx.2 (by decide)) ⟨.int _,H,I.tok _,⟨_,rfl⟩,h.ok hS (by simp[IsD])⟩
 ·exact h.elim
theorem Cm:MtR X "str.isdigit" (rSt X.K .isdig m):=by
 intro pins s σ H x vs v us Q I rx rv ⟨ι,ds,μ,hS,hds,h⟩
 obtain⟨z,e,h⟩:=uj hds h
 cases e
 obtain⟨t,rfl⟩:=rx
 cases rv
 split at h
 ·rename_i hz
  refine SC.isdigit ⟨.bl _,H,I,rfl,?_⟩
  rw[xn hz]
  exact h.ok hS (by simp[IsD])
 ·exact h.elim
theorem An:MtR X "str.startswith" (rSt X.K .startS m):=by
 intro pins s σ H x vs v us Q I rx rv ⟨ι,ds,μ,hS,hds,h⟩
 obtain⟨z,y,e,h⟩:=qc hds h
 cases e
 obtain⟨t,rfl⟩:=rx
 obtain⟨u,rfl,t2,rfl⟩:=vals1 rv
 refine SC.startswith ⟨.bl _,H,I,rfl,?_⟩
 rw[Ak]
 exact h.ok hS (by simp[IsD])
theorem Co:MtR X "str.join" (rSt X.K .joinS m):=by
 intro pins s σ H x vs v us Q I rx rv ⟨ι,ds,μ,hS,hds,h⟩
 simp![btD,rj]at h
 split at h
 ·rename_i p y
  obtain⟨v1,w1,e,hv,hw⟩:=vj hds
  cases e
  have ev:=mx hv
  subst ev
  obtain⟨t,rfl⟩:=rx
  obtain⟨u,rfl,ru⟩:=vals1 rv
  cases el:Lp.listOf μ y with
  |none=>rw[el]at h;exact h.elim
  |some zs =>
   rw[el]at h
   simp![GA]at h
   cases er:pd zs with
   |none=>rw[er]at h;exact h.elim
   |some ss =>
    rw[er]at h
    simp only at h
    split at h
    ·rename_i hc
     obtain⟨a,ys,rfl,hq,hz⟩:=gj hS hw el
     have e2:=Al hz er
     subst e2
     cases(show u=Value.ref a from ru)
     obtain⟨its,hv2,pl,_⟩:=I.list hq.sq
     obtain⟨l,rfl,e3⟩:=r6 hv2
     obtain⟨ob,n,g1,g2,g3,g4⟩:=pl
     have hok:JoinOk p ss=true:=by
      unfold JoinOk
      rw[FN,StrLaws.joinTotal]
      unfold Builtin.Str.tooLong sizeLine
      exact decide_eq_false (by
                   have:(2:Nat) ^ 24=16777216:=by decide
                   lia)
     refine SC.join ⟨ob,g1,g2,n,g4⟩ e3 hok λt' k=>⟨.str _,H,I.tok _,⟨_,rfl⟩,?_⟩
     rw[show Txt.join p ss=Str.join p ss from StrLaws.glued_eq_join p ss]
     exact h.ok hS (by simp[IsD])
    ·exact h.elim
 ·exact h.elim
end
section
variable{prog:Program}{w:World}{A:Around}{E:Value -> Shared -> Prop}{s:Shared}{x y:Str}{t u:Tok}{c:Nat}{Q:Value -> Shared -> Prop}
open PySem.Builtin PySem.Builtin.Str in
theorem xp(hsz:x.length<=100000)(hq:∀(l:List (Str×Tok)) (k:Nat),l.map (·.1)=Txt.split x ⟨#[c]⟩->Q (.ref s.heap.objs.size) {s with toks:=k,heap:=s.heap.push {cls:=.type "list",data:=.seq (strValues l).toArray}}) :
  wpAny (model prog w) A (call (.builtin "str.split") [.str x t,.str ⟨#[c]⟩ u]) Q E s:=by
 have hz:(16777216:Nat)=sizeLine:=by rw[CJ]
 have hx:x.length<=sizeLine:=by lia
 have hy:((⟨#[c]⟩:Str).length==0)=false:=rfl
 have hp:=Cj x ⟨#[c]⟩
 cases h1:(decide (x.length<(⟨#[c]⟩:Str).length) || decide (strKind x<strKind ⟨#[c]⟩))
 ·cases hf:(occurrences x ⟨#[c]⟩ 0 x.length (x.length+1)).isEmpty
  ·refine DC EG (EY _ _ _) FR (FD _ _) (meets_str_split_sep x ⟨#[c]⟩ t u h1 hy hf hx (by lia)) ?_
   show wants Q E _ {s with toks:=_,heap:=s.heap.push {cls:=.type "list",data:=.seq (strsFrom s.toks (partsBetween x (occurrences x ⟨#[c]⟩ 0 x.length (x.length+1)) (⟨#[c]⟩:Str).length)).toArray}}
   rw[strsFrom_eq]
   exact hq (numbered s.toks _) _ ((numbered_texts _ _).trans ((if_neg (ne_true_of_eq_false h1)).trans (if_neg (ne_true_of_eq_false hf))).symm)
  ·exact DC EG (EY _ _ _) FR (FD _ _) (meets_str_split_not_found x ⟨#[c]⟩ t u h1 hy hf)
    (hq [(x,t)] _ ((if_neg (ne_true_of_eq_false h1)).trans (if_pos hf)).symm)
 ·exact DC EG (EY _ _ _) FR (FD _ _) (meets_str_split_cannot_occur x ⟨#[c]⟩ t u h1)
   (hq [(x,t)] _ (if_pos h1).symm)
open PySem.Builtin PySem.Builtin.Str in
theorem Ao(hsz:x.length<=100000)(hy:0<y.length)(hq:∀(a b d:Str) (t1 t2 t3:Tok) (k:Nat),(match de y.cps.toList x.cps.toList with | some q=>a=ofL q.1/\b=y/\d=ofL q.2 | none=>a=x/\b=Str.empty/\d=Str.empty)->Q (.ref s.heap.objs.size) {s with toks:=k,heap:=s.heap.push {cls:=.type "tuple",data:=.seq [.str a t1,.str b t2,.str d t3].toArray}}) :
  wpAny (model prog w) A (call (.builtin "str.partition") [.str x t,.str y u]) Q E s:=by
 have hz:(16777216:Nat)=sizeLine:=by rw[CJ]
 refine DC F.slot_str_partition (EY _ _ _) F.entry_str_partition (F.args_str_partition_2 _ _) (meets_str_partition x y t u (by simp;lia) (by lia)) ?_
 have hne:y.cps.toList≠[]:=λz=>by
  have:y.length=0:=by simp[Str.length,<-BO,z]
  lia
 rcases StrLaws.occ_head x y 1 (AM _)with⟨e,h⟩ | ⟨i,r,e,h1,h2⟩
 ·rw[e]
  refine hq x Str.empty Str.empty _ _ _ _ ?_
  rw[ow hne λi=>?_]
  ·exact⟨rfl,rfl,rfl⟩
  ·have:=h i
   rw[Aj x y i hy]at this
   exact Bool.eq_false_iff.mpr this
 ·rw[e]
  refine hq (strSub x 0 i) y (strSub x (i+y.length) x.length) _ _ _ _ ?_
  have e2:x.cps.toList.length=x.length:=by simp[Str.length]
  have e3:y.cps.toList.length=y.length:=by simp[Str.length]
  have h3:=h1.1
  rw[Aj x y i hy]at h1
  rw[ox (l:=x.cps.toList) (i:=i) (by lia) h1 λk hk=>?_]
  ·refine⟨r0 ?_,rfl,r0 ?_⟩
   ·rw[GX,bf];simp
   ·rw[GX,bf,e3,BC (by rw[ED,e2];lia)]
  ·have:=h2 k hk
   rw[Aj x y k hy]at this
   exact Bool.eq_false_iff.mpr this
end
section
variable{X:Cx}{φ:Phi}{o e f:Expr}{es:List Expr}{xo xe xf:Ex}{xs:Exs}{apos cpos pos:Pos}{b:Bt}{m:Mk}
theorem Ap:MtR X "str.split" (rSt X.K .splitS m):=by
 intro pins s σ H x vs v us Q I rx rv ⟨ι,ds,μ,hS,hds,h⟩
 simp![btD,pe]at h
 obtain⟨z,y,e,h⟩:=qc hds h
 cases e
 obtain⟨t,rfl⟩:=rx
 obtain⟨u,rfl,t2,rfl⟩:=vals1 rv
 split at h
 ·rename_i c hc
  have ey:y=⟨#[c]⟩:=r0 (by rw[hc])
  subst ey
  split at h
  ·rename_i hz
   refine ve (xp hz λl k hl=>?_)
   rw[Ci]at hl
   have e1:((cz c z.cps.toList).map λl=>D.str (ofL l))=(l.map (·.1)).map D.str:=by rw[hl,BU];rfl
   rw[e1]at h
   have len:l.length<=z.length+1:=by
    have:=congrArg List.length hl
    simp![AV]at this
    rw[this]
    have q:∀w:List Nat,(cz c w).length<=w.length+1:=λw=>by
     induction w with
     |nil=>simp[cz]
     |cons a w ih =>
      unfold cz
      split
      ·simpa using ih
      ·split
       ·simp
       ·rename_i e;rw[e]at ih;simpa using Nat.le_succ_of_le ih
    have:=q z.cps.toList
    simpa[Str.length]using this
   have I2:=I.laid (a:=s.heap.objs.size) (o:=.lst ((l.map (·.1)).map V.str)) (h':=s.heap.push {cls:=.type "list",data:=.seq (strValues l).toArray}) (t':=k) (λb o e=>AC _ e) (AM _)
    ⟨by rw[CJ];simp![AV];lia,strValues l,_,r8 l,AL _ rfl⟩
   exact⟨.ref s.heap.objs.size,_,I2,rfl,jr hS (mw _) h (I.hok.fresh (AM _))⟩
  ·exact h.elim
 ·exact h.elim
theorem Cq:MtR X "str.partition" (rSt X.K .partS m):=by
 intro pins s σ H x vs v us Q I rx rv ⟨ι,ds,μ,hS,hds,h⟩
 simp![btD,rk]at h
 obtain⟨z,y,e,h⟩:=qc hds h
 cases e
 obtain⟨t,rfl⟩:=rx
 obtain⟨u,rfl,t2,rfl⟩:=vals1 rv
 split at h
 ·rename_i hz
  refine Ao hz.2 hz.1 λa b d t1 t2 t3 k hp=>?_
  have I2:=I.laid (a:=s.heap.objs.size) (o:=.tup ([a,b,d].map V.str)) (h':=s.heap.push {cls:=.type "tuple",data:=.seq [.str a t1,.str b t2,.str d t3].toArray}) (t':=k) (λb o e=>AC _ e) (AM _)
   ⟨by rw[CJ];exact(by decide:3<=16777216),[.str a t1,.str b t2,.str d t3],.cons ⟨_,rfl⟩ (.cons ⟨_,rfl⟩ (.cons ⟨_,rfl⟩ .nil)),⟨_,AL _ rfl,rfl,rfl,_,rfl⟩⟩
  refine⟨.ref s.heap.objs.size,_,I2,rfl,?_⟩
  have go:∀R,R=Res.ok (.tup ([a,b,d].map D.str)) μ->dw X.K (RD X.K) ι H R Q->Q (.ref s.heap.objs.size) (upd H s.heap.objs.size (.tup ([a,b,d].map V.str))):=λR e h=>by
   subst e
   exact l4 hS (mw [a,b,d]) h (I.hok.fresh (AM _))
  cases e:de y.cps.toList z.cps.toList with
  |none =>
   rw[e]at hp h
   obtain⟨rfl,rfl,rfl⟩:=hp
   exact go _ rfl h
  |some q =>
   rw[e]at hp h
   obtain⟨rfl,rfl,rfl⟩:=hp
   exact go _ rfl h
 ·exact h.elim
theorem Aq(ho:PE X o (tE X.K φ xo))(hbase:attributeBase o "isdigit" X.env (eval o X.env)=eval o X.env:=by rfl)(hline:(apos.endLine==cpos.line)=true:=by rfl):PE X (.Call (.Attribute o "isdigit" apos) [] [] cpos) (tE X.K φ (.blt .isdig m (.cons xo .nil))) :=
 Ck (λ_ _ h=>by simp![btD];exact J9 h) (Dl DN F.slot_str_isdigit F.type_str_isdigit Cm ho hbase hline)
theorem xq(ho:PE X o (tE X.K φ xo))(ha:PA X (e::es) (tEs X.K φ xs))(h5:Ma X o "startswith" e es apos cpos:=by exact⟨rfl,rfl,rfl,rfl,rfl⟩):PE X (.Call (.Attribute o "startswith" apos) (e::es) [] cpos) (tE X.K φ (.blt .startS m (.cons xo xs))) :=
 qb (λ_ _ _ h=>by simp![btD];exact Am h) (wz DN F.slot_str_startswith F.type_str_startswith An ho ha h5.b h5.f h5.l h5.s h5.p)
theorem r9(ho:PE X o (tE X.K φ xo))(ha:PA X (e::es) (tEs X.K φ xs))(h5:Ma X o "join" e es apos cpos:=by exact⟨rfl,rfl,rfl,rfl,rfl⟩):PE X (.Call (.Attribute o "join" apos) (e::es) [] cpos) (tE X.K φ (.blt .joinS m (.cons xo xs))) :=
 qb (λd ds μ h=>by
  show rj (d::ds) μ=.stuck
  unfold rj
  split
  ·rename_i q;cases q;exact absurd rfl (h _)
  ·rfl) (wz DN F.slot_str_join F.type_str_join Co ho ha h5.b h5.f h5.l h5.s h5.p)
theorem ku(ho:PE X o (tE X.K φ xo))(ha:PA X (e::es) (tEs X.K φ xs))(h5:Ma X o "split" e es apos cpos:=by exact⟨rfl,rfl,rfl,rfl,rfl⟩):PE X (.Call (.Attribute o "split" apos) (e::es) [] cpos) (tE X.K φ (.blt .splitS m (.cons xo xs))) :=
 qb (λ_ _ _ h=>by simp![btD,pe];exact Am h) (wz DN EG F.type_str_split Ap ho ha h5.b h5.f h5.l h5.s h5.p)
theorem Ar(ho:PE X o (tE X.K φ xo))(ha:PA X (e::es) (tEs X.K φ xs))(h5:Ma X o "partition" e es apos cpos:=by exact⟨rfl,rfl,rfl,rfl,rfl⟩):PE X (.Call (.Attribute o "partition" apos) (e::es) [] cpos) (tE X.K φ (.blt .partS m (.cons xo xs))) :=
 qb (λ_ _ _ h=>by simp![btD,rk];exact Am h) (wz DN F.slot_str_partition F.type_str_partition Cq ho ha h5.b h5.f h5.l h5.s h5.p)
theorem ft{a b:Expr}{xa xb:Ex}(ha:PE X a (tE X.K φ xa))(hb:PE X b (tE X.K φ xb)):PE X (.BinOp a .Add b pos) (tE X.K φ (.blt .catS m (.cons xa (.cons xb .nil)))) :=
 PE.imp (Hk wo ha hb) λσv H Q ⟨ι,σ,μ,hS,hL,h⟩=>by
  have e:evE φ (.blt .catS m (.cons xa (.cons xb .nil))) σ μ=(evE φ xa σ μ).bind λd μ=>(evE φ xb σ μ).bind λe μ=>btD .catS m [d,e] μ:=by
   simp![evE,du,Res.bind_assoc,Res.cb]
  rw[e]at h
  refine two hS hL h λι' H' d e x y μ' s d1 d2 p=>?_
  simp![btD]at p
  obtain⟨i,j,e2,p⟩:=qc (ds:=[d,e]) (vs:=[x,y]) (by simp![ah];exact⟨_,_,rfl,d1,_,_,rfl,d2,rfl⟩) p
  cases e2
  split at p
  ·rename_i hz
   exact⟨i,j,rfl,rfl,by rw[CJ];lia,p.ok s (by simp[IsD])⟩
  ·exact p.elim
theorem F9{a:Expr}{xa:Ex}(ha:PE X a (tE X.K φ xa))(he:∀whole,isTrue a X.env whole=(do let v <-whole;standAt a.pos;holding [v] (truthy v)):=by intro _;rfl):PT X a (tT X.K φ (.blt .truS m (.cons xa .nil))) :=
 PT.imp (o1 ha he) λσv H Q ⟨ι,σ,μ,hS,hL,h⟩=>by
  simp![evE,du,Res.bind_assoc,Res.cb]at h
  obtain⟨d,μ1,e1,h⟩:=h.bind
  refine⟨ι,σ,μ,hS,hL,?_⟩
  rw[e1]
  intro ι1 v H1 p1 x1 s1 d1
  have h:=h.mono p1 x1
  simp![btD,dy]at h
  by_cases hd:∃y,d=.str y
  ·obtain⟨y,rfl⟩:=hd
   simp![str1]at h
   split at h
   ·rename_i hz
    have ev:=mx d1
    subst ev
    refine⟨decide (0<y.length),⟨by rw[CJ];lia,?_⟩,(show dw X.K RB ι1 H1 (.ok (decide (0<y.length)) μ1) Q from h).ok s1 rfl⟩
    rw[GR,decide_eq_true_eq,bne_iff_ne]
    lia
   ·exact h.elim
  ·have:∀f:Str->Sto->Res D,str1 f d μ1=.stuck:=λf=>by
    cases d<;>first | rfl | exact absurd ⟨_,rfl⟩ hd
   rw[this]at h
   exact h.elim
theorem h8{p:Pos}(hm:X.mg "str"=none)(ha:PA X (e::es) (tEs X.K φ xs))(hg:Gl X "str":=by rfl)(he:starEach (e::es) X.env=(false,eval e X.env)::starEach es X.env:=by rfl)(hpl:(backTo pos (starEach es X.env)).any (·.1)=false:=by rfl) :
  PE X (.Call (.Name "str" p) (e::es) [] pos) (tE X.K φ (.blt .strI m xs)):=i3 (r:=λ_ _ _=>True) (es:=es) (l8 bt_strI hg hm (by first | exact PyProof.Rows.boot_str | decide +kernel) ha (by decide) (by decide) he hpl)
theorem Cr{p:Pos}(hm:X.mg "int"=none)(ha:PA X (e::es) (tEs X.K φ xs))(hg:Gl X "int":=by rfl)(he:starEach (e::es) X.env=(false,eval e X.env)::starEach es X.env:=by rfl)(hpl:(backTo pos (starEach es X.env)).any (·.1)=false:=by rfl) :
  PE X (.Call (.Name "int" p) (e::es) [] pos) (tE X.K φ (.blt .intS m xs)):=i3 (r:=λ_ _ _=>True) (es:=es) (l8 F8 hg hm (by first | exact PyProof.Rows.boot_int | decide +kernel) ha (by decide) (by decide) he hpl)
theorem Cs{p:Pos}(hm:X.mg "len"=none)(ha:PA X (e::es) (tEs X.K φ xs))(hg:Gl X "len":=by rfl)(he:starEach (e::es) X.env=(false,eval e X.env)::starEach es X.env:=by rfl)(hpl:(backTo pos (starEach es X.env)).any (·.1)=false:=by rfl) :
  PE X (.Call (.Name "len" p) (e::es) [] pos) (tE X.K φ (.blt .lenS m xs)):=i3 (r:=λ_ _ _=>True) (es:=es) (jb F7 hg hm (by first | exact PyProof.Rows.boot_len | decide +kernel) ha (by decide) (by decide) he hpl)
end
theorem Kv{α:Type}{Q:α->Prop}:∀(j:Nat) e,([]:List α)[j]? = some e->Q e:=λj e h=>by simp at h
theorem cx{α:Type}{Q:α->Prop}{a:α}{l:List α}(h:Q a)(t:∀(j:Nat) e,l[j]? = some e->Q e):∀(j:Nat) e,(a::l)[j]? = some e->Q e
 |0,_,z=>by
  have z':some a=some _:=z
  cases z'
  exact h
 |j+1,_,z=>t j _ z
theorem dmk {T:List Df} {P:Program} {w:World} {K:PySem.W.Frag} {mg:Str->Option Value} {base:Heap} {es:List Ent} {e:Ent}
  (dv:∀(n:Nat) (fa:Addr) (cdv:Value) (A:Around) (outer:List Env) (s:Shared) (H:Hp) (E:XK),(A.deeper (envOfC e.name (bc e.st) s.heap.objs.size fa cdv)).units+64<cLine ->
   (∀(j:Nat) e',es[j]? = some e'->Callee P w K mg base (A.deeper (envOfC e.name (bc e.st) s.heap.objs.size fa cdv)) (ao T n) e'.id e'.name) ->
   PSs (Bn CX0 P w K mg base e.N e.name (bc e.st) fa cdv A outer s H E).nox (g8 e.st) (tSs K (ao T n) e.df.body))
  (sc:FnScope e.N e.ps (bc e.st):=by exact⟨rfl,rfl,rfl,by decide +kernel,rfl,by decide +kernel,by decide +kernel⟩) (tb:T[e.id]? = some e.df:=by rfl) (np:e.df.np=e.ps.length:=by rfl) (nn:e.df.nn=e.N.length:=by rfl):Derived T P w K mg base es e:=⟨sc,tb,np,nn,dv⟩
noncomputable abbrev EXK:=Value->Hp->Prop
end Lp
namespace PySem
open Builtin Builtin.ObjectAttr
section
variable{prog:Program}{w:World}{A:Around}{E:Value -> Shared -> Prop}{h:Heap}{g:Array GenState}{d:Drawn}{t:Nat}{os:OsState}
variable{nms:List Str}{nm q:Str}{C N x:Addr}{bs bm bmB:List Value}{sn:List Str}{sub:List Value}{ab:Bool}{col:Option Bool}{dd:Option Addr}{k0 k1 k2 k3 k5:Option Value}{B newId sa owner:String}
 {mN mA:Str->Option Value} {name:Str} {v:Value}
end
end PySem
namespace L2
open PySem PySem.Spec PyProof.Rows
section
variable{prog:Program}{w:World}{A:Around}{E:Value -> Shared -> Prop}{h:Heap}{g:Array GenState}{d:Drawn}{t:Nat}{os:OsState}
variable{nms:List Str}{nm q:Str}{C N x:Addr}{bs bm bmB:List Value}{sn:List Str}{sub:List Value}{ab:Bool}{col:Option Bool}{dd:Option Addr}{k0 k1 k2 k3 k5:Option Value}{B newId sa owner:String}
 {mN mA:Str->Option Value} {v:Value}
end
end L2
namespace Lp
open PySem PySem.Spec PyProof.Rows L2
section
variable{X:Cx}{φ:Phi}{a:Expr}{xa:Ex}
theorem Ct(ha:PE X a (tE X.K φ xa))(he:∀whole,isTrue a X.env whole=(do let v <-whole;standAt a.pos;holding [v] (truthy v)):=by intro _;rfl):PT X a (tT X.K φ (.tru xa)) :=
 PT.imp (o1 ha he) λσv H Q ⟨ι,σ,μ,hS,hL,h⟩=>by
  simp![evE]at h
  rw[Res.bind_assoc]at h
  obtain⟨d,μ1,e1,h⟩:=h.bind
  refine⟨ι,σ,μ,hS,hL,?_⟩
  rw[e1]
  intro ι1 v H1 p1 x1 s1 d1
  have h:=h.mono p1 x1
  have seq:∀x,(match cw μ1 x with
    |some xs=>Res.ok (D.bl (!xs.isEmpty)) μ1
    |none=>.stuck)=truD x μ1\/∃b,x=.bl b:=λx=>by
   cases x with
   |bl b=>exact .inr ⟨b,rfl⟩
   |_=>exact .inl rfl
  rcases seq d with e | ⟨b,rfl⟩
  ·rw[<-e]at h
   cases es:cw μ1 d with
   |none=>simp![es]at h;exact h.elim
   |some ds =>
    simp![es]at h
    obtain⟨p,ys,rfl,hq,hds⟩:=oq s1 d1 es
    refine⟨!ds.isEmpty,?_,(show dw X.K RB ι1 H1 (.ok (!ds.isEmpty) μ1) Q from h).ok s1 rfl⟩
    have el:ys.isEmpty=ds.isEmpty:=by
     have:=hds.length
     cases ys<;>cases ds<;>simp_all
    rw[<-el]
    rcases hq with hq | hq
    ·exact .inl ⟨ys,hq.sq,rfl⟩
    ·exact .inr (.inl ⟨ys,hq,rfl⟩)
  ·have ev:v=.bl b:=by simpa[RD,IsD]using d1
   subst ev
   exact⟨b,rfl,(show dw X.K RB ι1 H1 (.ok b μ1) Q from h).ok s1 rfl⟩
end
structure MEnt where
 cls:Str
 m:Str
 e:Ent
end Lp
namespace Lp.Tim
open PySem PyProof.Rows
structure Sm (st st':SortSt):Prop where
 kind:kindOf st'=kindOf st
 arr:arrOf st'=arrOf st
 pend:pendingOf st'=pendingOf st
 fail:failedOf st'=failedOf st
end Lp.Tim
namespace Lp
open PySem PySem.Spec PyProof.Rows L2
section
variable{X:Cx}{φ:Phi}{pos:Pos}{ι:List Addr}{H:Hp}
theorem deqs_self:∀(x:List Int),vd (x.map D.int) (x.map D.int)=true
 | []=>rfl
 |a::x=>by simp[vd,deq,deqs_self x]
end
noncomputable def kx(l:List (Str×Int))(mg:Str->Option Value):Prop:=∀(j:Nat) x,l[j]? = some x->∃t,mg x.1=some (.int x.2 t)
theorem Ka{X:Cx}{φ:Phi}{x:Str}{i:Int}{pos:Pos}(hc:∃t,X.mg x=some (.int i t))(hg:Gl X x:=by rfl)(hd:(x==("__debug__":Str))=false:=by decide):PE X (.Name x pos) (tE X.K φ (.cst (.int i))):=by
 obtain⟨t,hm⟩:=hc
 exact PE.imp (D7 (v:=.int i) hg hm ⟨t,rfl⟩ hd) λσv H Q ⟨ι,σ,μ,hS,hL,h⟩=>by simp![evE]at h;exact h.ok hS (by simp[IsD])
end Lp
namespace Lr
open Lp
open PySem
theorem qd{f:D->Sl->Sto->Res Fl}(I:Nat->Sl->Sto->Prop):∀{ds:List D} {σ:Sl} {μ:Sto} (k:Nat),I k σ μ ->
  (∀(j:Nat) d σ μ,ds[j]? = some d->I (k+j) σ μ->∃σ' μ',f d σ μ=.ok (.nx σ') μ'/\I (k+j+1) σ' μ') ->
  ∃σ' μ',j3 none f ds σ μ=.ok (.nx σ') μ'/\I (k+ds.length) σ' μ'
 | [],σ,μ,k,h,_=>⟨σ,μ,by simp[j3],h⟩
 |d::ds,σ,μ,k,h,st=>by
  obtain⟨σ1,μ1,e1,h1⟩:=st 0 d σ μ rfl h
  obtain⟨σ2,μ2,e2,h2⟩:=qd I (ds:=ds) (σ:=σ1) (μ:=μ1) (k+1) h1 λj d σ μ e i=>by
   obtain⟨σ',μ',a,b⟩:=st (j+1) d σ μ (by simpa using e) (by rw[show k+(j+1)=k+1+j by omega];exact i)
   exact⟨σ',μ',a,by rw[show k+1+j+1=k+(j+1)+1 by omega];exact b⟩
  refine⟨σ2,μ2,?_,by rw[show k+(d::ds).length=k+1+ds.length by simp;omega];exact h2⟩
  simp![j3,pf,if_true,e1,Res.cb,e2]
theorem ak{T:List Df}{n i:Nat}{d:Df}{ds:List D}{μ:Sto}(h:T[i]? = some d):ao T (n+1) i ds μ=Gz (ao T n) d ds μ:=by
 simp![ao,h]
noncomputable def finD(fl:Fl)(μ:Sto):Res D:=match fl with
 |.nx _=>.ok .non μ
 |.rt d=>.ok d μ
 |_=>.stuck
@[simp] theorem M7 (d:D) (μ:Sto):finD (.rt d) μ=.ok d μ:=rfl
@[simp] theorem M8 (σ:Sl) (μ:Sto):finD (.nx σ) μ=.ok .non μ:=rfl
theorem run_eq{φ:Phi}{f:Df}{ds:List D}{μ:Sto}(h:ds.length=f.np):Gz φ f ds μ=(jq φ f.body (ds.map some++List.replicate (f.nn-f.np) none) μ).bind finD:=by
 rw[Gz,if_pos h];rfl
theorem jc(b:Nat):∀(k:Nat) (d:D),D.pureN k d=true->D.belowN b k d=true
 |0,d,h=>by cases d<;>simp_all[D.pureN,D.belowN]
 |k+1,d,h=>by
  cases d with
  |tup ds =>
   simp![D.pureN,D.belowN,AT]at h ⊢
   exact λx hx=>jc b k x (h x hx)
  |lst ds =>
   simp![D.pureN,D.belowN,AT]at h ⊢
   exact λx hx=>jc b k x (h x hx)
  |loc n=>simp[D.pureN]at h
  |_=>rfl
theorem l7{k:Nat}{ds:List D}:D.pureN (k+1) (.tup ds)=ds.all (D.pureN k):=rfl
theorem j4{k:Nat}{i:Int}:D.pureN k (.int i)=true:=by cases k<;>rfl
noncomputable abbrev jd(μ:Sto):Prop:=μ.all (eo μ.length)=true
theorem xu{d:D}{μ:Sto}{b:Nat}(hd:d.pure=true)(hb:μ.length=b)(hr:jd μ):km false b (.ok d μ)=.ok d μ:=by
 have e:μ.take b=μ:=BC (by omega)
 have hr':μ.all (eo b)=true:=by rw[<-hb];exact hr
 simp![km,CH,if_false,e,jc b 8 d hd,hr',and_self,if_true]
@[simp] theorem xw {d:D} {μ:Sto} {b:Nat}:km true b (.ok d μ)=.ok d μ:=by simp[km]
theorem op_mul{i j:Int}{μ:Sto}(h:CMul i j):opI .Mult i j μ=.ok (.int (i*j)) μ:=by simp[opI,h]
theorem vn{i j:Int}{μ:Sto}(h:0<j)(h2:j<1073741824):opI .FloorDiv i j μ=.ok (.int (i / j)) μ:=by simp[opI,h,h2]
theorem op_mod{i j:Int}{μ:Sto}(h:0<j):opI .Mod i j μ=.ok (.int (i % j)) μ:=by simp[opI,h]
theorem op_add{i j:Int}{μ:Sto}:opI .Add i j μ=.ok (.int (i+j)) μ:=rfl
theorem op_sub{i j:Int}{μ:Sto}:opI .Sub i j μ=.ok (.int (i-j)) μ:=rfl
theorem op_pow{i:Int}{j:Int}{μ:Sto}(h:0<=j/\j<=1000000/\i.natAbs<2 ^ 64):opI .Pow i j μ=.ok (.int (i ^ j.toNat)) μ:=by simp[opI,h]
theorem op_shr{i j:Int}{μ:Sto}(h:0<=j):opI .RShift i j μ=.ok (.int (i / 2 ^ j.toNat)) μ:=by simp[opI,h]
theorem Ga{op:Operator}{m:Mk}{i j:Int}{μ:Sto}:opD op m (.int i) (.int j) μ=opI op i j μ:=rfl
theorem _root_.Lp.CMul.left{i j:Int}(h:-(2 ^ 64)<i)(h2:i<2 ^ 64):CMul i j:=.inl ⟨h,h2⟩
theorem _root_.Lp.CMul.right{i j:Int}(h:-(2 ^ 64)<j)(h2:j<2 ^ 64):CMul i j:=.inr ⟨h,h2⟩
theorem ky(ns:List Bool):j0 (ns.map D.bl)=some ns:=by
 induction ns with
 |nil=>rfl
 |cons n r ih=>simp[j0,ih]
open PySem
section
variable(φ:Phi)
noncomputable def Pk(o:Option (Option D))(μ:Sto):Res D:=match o with
 |some (some d)=>.ok d μ
 |_=>.stuck
noncomputable def kB(op:Operator)(m:Mk)(b:Ex)(σ:Sl)(x:D)(μ:Sto):Res D:=(evE φ b σ μ).bind (opD op m x)
noncomputable def kNeg(x:D)(μ:Sto):Res D:=match x with
 |.int i=>.ok (.int (-i)) μ
 |_=>.stuck
noncomputable def kNot(x:D)(μ:Sto):Res D:=match x with
 |.bl b=>.ok (.bl (!b)) μ
 |_=>.stuck
noncomputable def M9(b:Ex)(σ:Sl)(x:D)(μ:Sto):Res D:=match x with
 |.bl c=>if c=true then evE φ b σ μ else .ok (.bl false) μ
 |_=>.stuck
noncomputable def kOr(b:Ex)(σ:Sl)(x:D)(μ:Sto):Res D:=match x with
 |.bl c=>if c=true then .ok (.bl true) μ else evE φ b σ μ
 |_=>.stuck
noncomputable def Na(a b:Ex)(σ:Sl)(x:D)(μ:Sto):Res D:=match x with
 |.bl c=>if c=true then evE φ a σ μ else evE φ b σ μ
 |_=>.stuck
noncomputable def Pl(r:Cps)(σ:Sl)(x:D)(μ:Sto):Res D:=evC φ r x σ μ
noncomputable def Kw(r:Cps)(y:D)(σ:Sl)(z:D)(μ:Sto):Res D:=match z with
 |.bl b=>if b=true then evC φ r y σ μ else .ok (.bl false) μ
 |_=>.stuck
noncomputable def kCh(op:Cp)(x:D)(r:Cps)(σ:Sl)(y:D)(μ:Sto):Res D:=(cpD op x y μ).bind (Kw φ r y σ)
noncomputable def f9(keep:Bool)(f:Nat)(ds:List D)(μ:Sto):Res D:=km keep μ.length (φ f ds μ)
noncomputable def kM(mt:Mt)(es:Exs)(σ:Sl)(x:D)(μ:Sto):Res D:=if iy mt x μ=true then(du φ es σ μ).bind (mtD mt x)else .stuck
noncomputable def kIx(b:Ex)(σ:Sl)(x:D)(μ:Sto):Res D:=(evE φ b σ μ).bind (ixD x)
noncomputable def Nc(m:Mk)(hi:ExO)(σ:Sl)(x:D)(l:Option Int)(μ:Sto):Res D:=(evO φ hi σ μ).bind (slD m x l)
noncomputable def kSl(m:Mk)(lo hi:ExO)(σ:Sl)(x:D)(μ:Sto):Res D:=(evO φ lo σ μ).bind (Nc φ m hi σ x)
noncomputable def kTup(ds:List D)(μ:Sto):Res D:=.ok (.tup ds) μ
noncomputable def Nd(d:D)(ds:List D)(μ:Sto):Res (List D):=.ok (d::ds) μ
noncomputable def kEs(es:Exs)(σ:Sl)(d:D)(μ:Sto):Res (List D):=(du φ es σ μ).bind (Nd d)
noncomputable def kInt(x:D)(μ:Sto):Res (Option Int):=match x with
 |.int i=>.ok (some i) μ
 |_=>.stuck
noncomputable def kOne(x:D)(μ:Sto):Res (List D):=.ok [x] μ
noncomputable def Kx(elt:Ex)(σ:Sl)(b:Bool)(μ:Sto):Res (List D):=if b=true then(evE φ elt σ μ).bind kOne else .ok [] μ
noncomputable def Pm(cs:Exs)(elt:Ex)(μ:Sto)(σ:Sl):Res (List D):=(xg φ cs σ μ).bind (Kx φ elt σ)
noncomputable def my(tg:Tg)(cs:Exs)(elt:Ex)(σ0:Sl)(d:D)(μ:Sto):Res (List D):=iw (dq tg d σ0) (Pm φ cs elt μ)
noncomputable def fg(m:Mk)(tg:Tg)(cs:Exs)(elt:Ex)(σ0:Sl)(w:List D×Gd)(μ:Sto):Res D:=(mapR w.2 (my φ tg cs elt σ0) w.1 μ).bind (mkL m)
noncomputable def kCs(es:Exs)(σ:Sl)(x:D)(μ:Sto):Res Bool:=match x with
 |.bl b=>if b=true then xg φ es σ μ else .ok false μ
 |_=>.stuck
noncomputable def kSeq(x:D)(μ:Sto):Res (List D×Gd):=match aw μ x with
 |some w=>.ok w μ
 |none=>.stuck
noncomputable def kRng(x:D)(μ:Sto):Res (List D×Gd):=match x with
 |.int j=>if -(lim:Int)<=j/\j<=lim then .ok ((List.range j.toNat).map fun(i:Nat)=>D.int i,none) μ else .stuck
 |_=>.stuck
noncomputable def Dy(x y:D)(μ:Sto):Res (List D×Gd):=match x,y with
 |.int i,.int j=>if -(lim:Int)<=i/\i<=lim/\j<=lim /\ -(lim:Int)<=j/\(j-i)<=lim then .ok ((List.range (j-i).toNat).map fun(k:Nat)=>D.int (i+k),none) μ else .stuck
 |_,_=>.stuck
noncomputable def Kb(b:Ex)(σ:Sl)(x:D)(μ:Sto):Res (List D×Gd):=(evE φ b σ μ).bind (Dy x)
noncomputable def Cu(x y:D)(μ:Sto):Res (List D×Gd):=match aw μ x,cw [] y with
 |some w,some ys=>.ok ((w.1.zip ys).map λp=>.tup [p.1,p.2],w.2) μ
 |_,_=>.stuck
noncomputable def Pn(b:Ex)(σ:Sl)(x:D)(μ:Sto):Res (List D×Gd):=(evE φ b σ μ).bind (Cu x)
noncomputable def kEnum(x:D)(μ:Sto):Res (List D×Gd):=match aw μ x with
 |some w=>.ok ((List.range w.1.length |>.zip w.1).map fun(p:Nat×D)=>.tup [.int p.1,p.2],w.2) μ
 |none=>.stuck
noncomputable def kVals(x:D)(μ:Sto):Res (List D×Gd):=match x with
 |.loc n=>match μ[n]? with
  |some (.d kvs)=>.ok (kvs.map (·.2),none) (μ.set n .dead)
  |_=>.stuck
 |_=>.stuck
noncomputable def Po(i:Nat)(σ:Sl)(d:D)(μ:Sto):Res Fl:=.ok (.nx (σ.set i (some d))) μ
noncomputable def Nf(o:Option Sl)(μ:Sto):Res Fl:=match o with
 |some σ'=>.ok (.nx σ') μ
 |none=>.stuck
noncomputable def Pp(is:List Nat)(σ:Sl)(d:D)(μ:Sto):Res Fl:=Nf (dq (.many is) d σ) μ
noncomputable def kNx{α:Type}(σ:Sl)(_:α)(μ:Sto):Res Fl:=.ok (.nx σ) μ
noncomputable def Ng(σ:Sl)(d x:D)(y:D)(μ:Sto):Res Fl:=(Gy x y d μ).bind (kNx σ)
noncomputable def Nh(i:Ex)(σ:Sl)(d:D)(x:D)(μ:Sto):Res Fl:=(evE φ i σ μ).bind (Ng σ d x)
noncomputable def kSx(o i:Ex)(σ:Sl)(d:D)(μ:Sto):Res Fl:=(evE φ o σ μ).bind (Nh φ i σ d)
noncomputable def kIf(a b:Sms)(σ:Sl)(x:D)(μ:Sto):Res Fl:=match x with
 |.bl k=>if k=true then jq φ a σ μ else jq φ b σ μ
 |_=>.stuck
noncomputable def kLp(b:Sms)(μ:Sto)(σ:Sl):Res Fl:=jq φ b σ μ
noncomputable def fLp(tg:Tg)(b:Sms)(d:D)(σ:Sl)(μ:Sto):Res Fl:=iw (dq tg d σ) (kLp φ b μ)
noncomputable def As(tg:Tg)(b:Sms)(σ:Sl)(w:List D×Gd)(μ:Sto):Res Fl:=j3 w.2 (fLp φ tg b) w.1 σ μ
noncomputable def kRet(d:D)(μ:Sto):Res Fl:=.ok (.rt d) μ
noncomputable def kSs(r:Sms)(fl:Fl)(μ:Sto):Res Fl:=match fl with
 |.nx σ'=>jq φ r σ' μ
 |fl=>.ok fl μ
end
section
variable{φ:Phi}{σ:Sl}{μ:Sto}{a b c e o i:Ex}{es:Exs}{m:Mk}{op:Operator}{r:Cps}{s:Sm}{rs:Sms}
theorem Ss{i:Nat}:evE φ (.var i) σ μ=Pk σ[i]? μ:=rfl
theorem Su{d:D}:evE φ (.cst d) σ μ=.ok d μ:=rfl
theorem Sv:evE φ (.bin op m a b) σ μ=(evE φ a σ μ).bind (kB φ op m b σ):=rfl
theorem Sw:evE φ (.neg a) σ μ=(evE φ a σ μ).bind kNeg:=rfl
theorem Sx:evE φ (.not a) σ μ=(evE φ a σ μ).bind kNot:=rfl
theorem Sy:evE φ (.and a b) σ μ=(evE φ a σ μ).bind (M9 φ b σ):=rfl
theorem Um:evE φ (.or a b) σ μ=(evE φ a σ μ).bind (kOr φ b σ):=rfl
theorem Sz:evE φ (.ite c a b) σ μ=(evE φ c σ μ).bind (Na φ a b σ):=rfl
theorem S0:evE φ (.cmp a r) σ μ=(evE φ a σ μ).bind (Pl φ r σ):=rfl
theorem Cv{α:Type}(x:Res α):(x.bind λa μ=>.ok a μ)=x:=by cases x<;>rfl
theorem S2{op:Cp}{x:D}:evC φ (.cons op e .nil) x σ μ=(evE φ e σ μ).bind (cpD op x):=by
 simp![evC,Cv]
theorem Pq{op op':Cp}{x:D}{e':Ex}:evC φ (.cons op e (.cons op' e' r)) x σ μ=(evE φ e σ μ).bind (kCh φ op x (.cons op' e' r) σ):=by
 rw[evC]
 all_goals rfl
theorem Pr{keep:Bool}{f:Nat}:evE φ (.call keep f es) σ μ=(du φ es σ μ).bind (f9 φ keep f):=rfl
theorem S3{b:Bt}:evE φ (.blt b m es) σ μ=(du φ es σ μ).bind (btD b m):=rfl
theorem S4{c:Cl}:evE φ (.isi a c) σ μ=(evE φ a σ μ).bind (Bc c):=rfl
theorem Pt{mt:Mt}:evE φ (.meth mt o es) σ μ=(evE φ o σ μ).bind (kM φ mt es σ):=rfl
theorem Uo:evE φ (.ix a b) σ μ=(evE φ a σ μ).bind (kIx φ b σ):=rfl
theorem Up{lo hi:ExO}:evE φ (.sl m a lo hi) σ μ=(evE φ a σ μ).bind (kSl φ m lo hi σ):=rfl
theorem S5:evE φ (.tup es) σ μ=(du φ es σ μ).bind kTup:=rfl
theorem S6:evE φ (.lst m es) σ μ=(du φ es σ μ).bind (mkL m):=rfl
theorem S7{t:Bool}:evE φ (.dic t es) σ μ=(du φ es σ μ).bind (Pf t):=rfl
theorem Pu{cap:List Nat}{nl:Nat}{tg:Tg}{it:It}{cs:Exs}{elt:Ex}:evE φ (.comp m cap nl tg it cs elt) σ μ=(evI φ it σ μ).bind (fg φ m tg cs elt (cap.map (λi=>(σ[i]?).getD none)++List.replicate nl none)):=rfl
theorem Pw:du φ .nil σ μ=.ok [] μ:=rfl
theorem Ni:du φ (.cons e es) σ μ=(evE φ e σ μ).bind (kEs φ es σ):=rfl
theorem Uq:evO φ .no σ μ=.ok none μ:=rfl
theorem Ur:evO φ (.so e) σ μ=(evE φ e σ μ).bind kInt:=rfl
theorem Px:xg φ .nil σ μ=.ok true μ:=rfl
theorem Nj:xg φ (.cons e es) σ μ=(evE φ e σ μ).bind (kCs φ es σ):=rfl
theorem S8:evI φ (.seq e) σ μ=(evE φ e σ μ).bind kSeq:=rfl
theorem S9:evI φ (.rng e) σ μ=(evE φ e σ μ).bind kRng:=rfl
theorem Py:evI φ (.rng2 a b) σ μ=(evE φ a σ μ).bind (Kb φ b σ):=rfl
theorem Ta:evI φ (.zip a b) σ μ=(evE φ a σ μ).bind (Pn φ b σ):=rfl
theorem Pz:evI φ (.enum a) σ μ=(evE φ a σ μ).bind kEnum:=rfl
theorem P0:evI φ (.vals a) σ μ=(evE φ a σ μ).bind kVals:=rfl
theorem Tb{i:Nat}:evS φ (.set i e) σ μ=(evE φ e σ μ).bind (Po i σ):=rfl
theorem Tc{is:List Nat}:evS φ (.unp is e) σ μ=(evE φ e σ μ).bind (Pp is σ):=rfl
theorem P1:evS φ (.setx o i e) σ μ=(evE φ e σ μ).bind (kSx φ o i σ):=rfl
theorem Us:evS φ (.ex e) σ μ=(evE φ e σ μ).bind (kNx σ):=rfl
theorem Td{x y:Sms}:evS φ (.ite c x y) σ μ=(evE φ c σ μ).bind (kIf φ x y σ):=rfl
theorem P2{tg:Tg}{it:It}{b:Sms}:evS φ (.loop tg it b) σ μ=(evI φ it σ μ).bind (As φ tg b σ):=rfl
theorem Te:evS φ (.ret e) σ μ=(evE φ e σ μ).bind kRet:=rfl
theorem P4:evS φ .pass σ μ=.ok (.nx σ) μ:=rfl
theorem Tf:evS φ .brk σ μ=.ok (.bk σ) μ:=rfl
theorem P5:evS φ .cont σ μ=.ok (.ct σ) μ:=rfl
theorem P6:jq φ .nil σ μ=.ok (.nx σ) μ:=rfl
theorem Nk:jq φ (.cons s rs) σ μ=(evS φ s σ μ).bind (kSs φ rs):=rfl
theorem aq{f:Nat}{ds:List D}{d:D}{μ':Sto}(h:φ f ds μ=.ok d μ')(hd:d.pure=true)(hl:μ'.length=μ.length)(hr:jd μ'):f9 φ false f ds μ=.ok d μ':=by
 rw[f9,h,xu hd hl hr]
theorem Gb{mt:Mt}{x:D}(h:iy mt x μ=true):kM φ mt es σ x μ=(du φ es σ μ).bind (mtD mt x):=by rw[kM,if_pos h]
theorem Kc{d:D}:Pk (some (some d)) μ=.ok d μ:=rfl
theorem Ky{i:Int}:kNeg (.int i) μ=.ok (.int (-i)) μ:=rfl
theorem Nl{b:Bool}:kNot (.bl b) μ=.ok (.bl (!b)) μ:=rfl
theorem P7{b:Ex}:M9 φ b σ (.bl true) μ=evE φ b σ μ:=rfl
theorem P8{b:Ex}:M9 φ b σ (.bl false) μ=.ok (.bl false) μ:=rfl
theorem Th{b:Ex}:kOr φ b σ (.bl true) μ=.ok (.bl true) μ:=rfl
theorem Ti{b:Ex}:kOr φ b σ (.bl false) μ=evE φ b σ μ:=rfl
theorem P9:Na φ a b σ (.bl true) μ=evE φ a σ μ:=rfl
theorem Qa:Na φ a b σ (.bl false) μ=evE φ b σ μ:=rfl
theorem Qb{y:D}:Kw φ r y σ (.bl true) μ=evC φ r y σ μ:=rfl
theorem Qc{y:D}:Kw φ r y σ (.bl false) μ=.ok (.bl false) μ:=rfl
theorem Tj:kCs φ es σ (.bl true) μ=xg φ es σ μ:=rfl
theorem Tn:kCs φ es σ (.bl false) μ=.ok false μ:=rfl
theorem Qd{elt:Ex}:Kx φ elt σ true μ=(evE φ elt σ μ).bind kOne:=rfl
theorem Qe{elt:Ex}:Kx φ elt σ false μ=.ok [] μ:=rfl
theorem Kz{i:Int}:kInt (.int i) μ=.ok (some i) μ:=rfl
theorem To{x y:Sms}:kIf φ x y σ (.bl true) μ=jq φ x σ μ:=rfl
theorem Tp{x y:Sms}:kIf φ x y σ (.bl false) μ=jq φ y σ μ:=rfl
theorem Qf{σ':Sl}:kSs φ rs (.nx σ') μ=jq φ rs σ' μ:=rfl
theorem Qg{d:D}:kSs φ rs (.rt d) μ=.ok (.rt d) μ:=rfl
theorem Qh{σ':Sl}:kSs φ rs (.bk σ') μ=.ok (.bk σ') μ:=rfl
theorem Qi{σ':Sl}:kSs φ rs (.ct σ') μ=.ok (.ct σ') μ:=rfl
theorem Kd{σ':Sl}:Nf (some σ') μ=.ok (.nx σ') μ:=rfl
theorem K0{ds:List D}:kSeq (.tup ds) μ=.ok (ds,none) μ:=rfl
theorem K1{ds:List D}:kSeq (.lst ds) μ=.ok (ds,none) μ:=rfl
theorem Gc{j:Int}(h:-1000000<=j/\j<=1000000):kRng (.int j) μ=.ok ((List.range j.toNat).map fun(i:Nat)=>D.int i,none) μ:=by
 have:=kj
 simp![kRng]
 rw[if_pos ⟨by lia,by lia⟩]
theorem j5{n:Nat}(h:n<=1000000):kRng (.int n) μ=.ok ((List.range n).map fun(i:Nat)=>D.int i,none) μ:=by
 rw[Gc ⟨by lia,by lia⟩,DK]
theorem Ke{i:Nat}{d:D}:dq (.one i) d σ=some (σ.set i (some d)):=rfl
theorem Tq{i j:Int}:cpD .lt (.int i) (.int j) μ=.ok (.bl (decide (i<j))) μ:=rfl
theorem Tr{i j:Int}:cpD .le (.int i) (.int j) μ=.ok (.bl (decide (i<=j))) μ:=rfl
theorem Ts{i j:Int}:cpD .gt (.int i) (.int j) μ=.ok (.bl (decide (j<i))) μ:=rfl
theorem Tt{i j:Int}:cpD .ge (.int i) (.int j) μ=.ok (.bl (decide (j<=i))) μ:=rfl
theorem Qj{i j:Int}:cpD .eq (.int i) (.int j) μ=.ok (.bl (decide (i=j))) μ:=rfl
theorem x5{x y:D}(hx:x.pure=true)(hy:y.pure=true):cpD .ne x y μ=.ok (.bl (!deq x y)) μ:=by simp[cpD,hx,hy]
theorem Qk{i j:Int}:cpD .ne (.int i) (.int j) μ=.ok (.bl (!decide (i=j))) μ:=x5 rfl rfl
theorem Ql{i j:Bool}:cpD .ne (.bl i) (.bl j) μ=.ok (.bl (!(i==j))) μ:=x5 rfl rfl
theorem Nm{x y:D}(hx:x.pure=true)(hy:y.pure=true):cpD .eq x y μ=.ok (.bl (deq x y)) μ:=by simp[cpD,hx,hy]
theorem bt_len{x:D}{xs:List D}(h:cw μ x=some xs):btD .len m [x] μ=.ok (.int xs.length) μ:=by simp[btD,seq1,h]
theorem bt_tuple{x:D}{xs:List D}(h:cw μ x=some xs):btD .tuple m [x] μ=.ok (.tup xs) μ:=by simp[btD,seq1,h]
theorem x6{x:D}{xs:List D}(h:listOf μ x=some xs):btD .listRev m [x] μ=mkL m xs.reverse μ:=by simp[btD,o9,h]
theorem bt_all{x:D}{xs:List D}{ns:List Bool}(h:cw μ x=some xs)(h2:j0 xs=some ns):btD .all m [x] μ=.ok (.bl (ns.all id)) μ:=by simp[btD,zj,h,h2]
theorem bt_min{i j:Int}:btD .min m [.int i,.int j] μ=.ok (.int (min i j)) μ:=by
 simp![btD,minD]
 congr 2
 split<;>lia
theorem bt_max{i j:Int}:btD .max m [.int i,.int j] μ=.ok (.int (max i j)) μ:=by
 simp![btD,maxD]
 congr 2
 split<;>lia
theorem Au{ds:List D}:cw μ (.tup ds)=some ds:=rfl
theorem bh{ds:List D}:cw μ (.lst ds)=some ds:=rfl
theorem og{ds:List D}:mkL .z ds μ=.ok (.lst ds) μ:=rfl
theorem vo{x:D}{xs:List D}{k:Nat}{d:D}(h:cw μ x=some xs)(hd:xs[k]? = some d):ixD x (.int k) μ=.ok d μ:=by
 have hk:k<xs.length:=(AK.mp hd).1
 have e:ixN xs.length (k:Int)=some k:=by simp[ixN,hk]
 simp![ixD,h,e,hd]
theorem Nn{i j:Nat}{a b:D}:dq (.many [i,j]) (.tup [a,b]) σ=some ((σ.set i (some a)).set j (some b)):=rfl
theorem Np{i j k:Nat}{a b c:D}:dq (.many [i,j,k]) (.tup [a,b,c]) σ=some (((σ.set i (some a)).set j (some b)).set k (some c)):=rfl
theorem Nq{i j k l:Nat}{a b c d:D}:dq (.many [i,j,k,l]) (.tup [a,b,c,d]) σ=some ((((σ.set i (some a)).set j (some b)).set k (some c)).set l (some d)):=rfl
theorem Nr{i j k l m:Nat}{a b c d e:D}:dq (.many [i,j,k,l,m]) (.tup [a,b,c,d,e]) σ=some (((((σ.set i (some a)).set j (some b)).set k (some c)).set l (some d)).set m (some e)):=rfl
theorem qe{α:Type}{tg:Tg}{b:Sms}{xs:List α}{en:α->D}(I:Nat->Sl->Prop)(h0:I 0 σ)(st:∀(k:Nat) a σ,xs[k]? = some a->I k σ->∃σ',fLp φ tg b (en a) σ μ=.ok (.nx σ') μ/\I (k+1) σ') :
  ∃σ',As φ tg b σ (xs.map en,none) μ=.ok (.nx σ') μ/\I xs.length σ':=by
 obtain⟨σ',μ',e,rfl,i⟩:=qd (f:=fLp φ tg b) (λk σ μ'=>μ'=μ/\I k σ) (ds:=xs.map en) (σ:=σ) (μ:=μ) 0 ⟨rfl,h0⟩ λj d σ μ' e ⟨q,i⟩=>by
  subst q
  rw[BX]at e
  cases ex:xs[j]? with
  |none=>rw[ex]at e;cases e
  |some a =>
   rw[ex]at e
   cases e
   obtain⟨σ',e',i'⟩:=st j a σ ex (by simpa using i)
   exact⟨σ',_,e',rfl,by simpa using i'⟩
 exact⟨σ',e,by simpa using i⟩
theorem comp_map{α:Type}{tg:Tg}{cs:Exs}{elt:Ex}{σ0:Sl}{xs:List α}{en:α->D}{g:α->D}(h:∀a∈xs,my φ tg cs elt σ0 (en a) μ=.ok [g a] μ):fg φ m tg cs elt σ0 (xs.map en,none) μ=mkL m (xs.map g) μ:=by
 have e:mapR none (my φ tg cs elt σ0) (xs.map en) μ=.ok (xs.map g) μ:=by
  induction xs with
  |nil=>simp[mapR]
  |cons a r ih =>
   simp![BL,mapR,pf,if_true,h a AR,Res.cb,ih λx hx=>h x (AO _ hx)]
   rfl
 rw[fg]
 show(mapR none _ (xs.map en) μ).bind _=_
 rw[e];rfl
theorem mz{α:Type}{tg:Tg}{cs:Exs}{elt:Ex}{σ0:Sl}{xs:List α}{en:α->D}{g:α->D}{p:α->Bool}(h:∀a∈xs,my φ tg cs elt σ0 (en a) μ=.ok (if p a=true then [g a]else []) μ):fg φ m tg cs elt σ0 (xs.map en,none) μ=mkL m ((xs.filter p).map g) μ:=by
 have e:mapR none (my φ tg cs elt σ0) (xs.map en) μ=.ok ((xs.filter p).map g) μ:=by
  induction xs with
  |nil=>simp[mapR]
  |cons a r ih =>
   simp![BL,mapR,pf,if_true,h a AR,Res.cb,ih λx hx=>h x (AO _ hx)]
   by_cases hp:p a=true
   ·simp[hp]
   ·simp[hp]
 rw[fg]
 show(mapR none _ (xs.map en) μ).bind _=_
 rw[e];rfl
noncomputable def many{S α:Type}(G:S->α×S):Nat->S->List α×S
 |0,s=>([],s)
 |n+1,s=>((G s).1::(many G n (G s).2).1,(many G n (G s).2).2)
theorem qf{S α:Type}(G:S->α×S):∀(n:Nat) (s:S),(many G n s).1.length=n
 |0,_=>rfl
 |n+1,s=>by simp[many,qf G n]
theorem qg{S α:Type}{G:S->α×S}{P:α->Prop}(h:∀s,P (G s).1):∀(n:Nat) (s:S),∀a∈(many G n s).1,P a
 |0,_,a,ha=>by simp[many]at ha
 |n+1,s,a,ha=>by
  rcases AJ.mp ha with rfl | q
  ·exact h s
  ·exact qg h n _ a q
theorem sd{S α:Type}{f:D->Sto->Res (List D)}{enS:S->Sto}{en:α->D}{G:S->α×S}:∀{ds:List D} {s:S},(∀d∈ds,∀s,f d (enS s)=.ok [en (G s).1] (enS (G s).2)) ->
  mapR none f ds (enS s)=.ok ((many G ds.length s).1.map en) (enS (many G ds.length s).2)
 | [],s,_=>by simp[mapR,many]
 |d::ds,s,h=>by
  simp![mapR,pf,if_true,h d AR s,Res.cb,sd (ds:=ds) λx hx=>h x (AO _ hx),many,AQ,BL]
  rfl
theorem se{S α:Type}{tg:Tg}{cs:Exs}{elt:Ex}{σ0:Sl}{ds:List D}{enS:S->Sto}{en:α->D}{G:S->α×S}{s:S}(h:∀d∈ds,∀s,my φ tg cs elt σ0 d (enS s)=.ok [en (G s).1] (enS (G s).2)) :
  fg φ m tg cs elt σ0 (ds,none) (enS s)=mkL m ((many G ds.length s).1.map en) (enS (many G ds.length s).2):=by
 rw[fg]
 show(mapR none _ ds (enS s)).bind _=_
 rw[sd h];rfl
theorem Tu{x:D}:kB φ op m b σ x μ=(evE φ b σ μ).bind (opD op m x):=rfl
theorem Nt{x:D}:Pl φ r σ x μ=evC φ r x σ μ:=rfl
theorem Qm{o:Cp}{x y:D}:kCh φ o x r σ y μ=(cpD o x y μ).bind (Kw φ r y σ):=rfl
theorem Qn{x:D}:kIx φ b σ x μ=(evE φ b σ μ).bind (ixD x):=rfl
theorem Nu{hi:ExO}{x:D}{l:Option Int}:Nc φ m hi σ x l μ=(evO φ hi σ μ).bind (slD m x l):=rfl
theorem Qo{lo hi:ExO}{x:D}:kSl φ m lo hi σ x μ=(evO φ lo σ μ).bind (Nc φ m hi σ x):=rfl
theorem Nv{ds:List D}:kTup ds μ=.ok (.tup ds) μ:=rfl
theorem Nw{d:D}{ds:List D}:Nd d ds μ=.ok (d::ds) μ:=rfl
theorem Qp{d:D}:kEs φ es σ d μ=(du φ es σ μ).bind (Nd d):=rfl
theorem Nx{x:D}:kOne x μ=.ok [x] μ:=rfl
theorem Ny{cs:Exs}{elt:Ex}:Pm φ cs elt μ σ=(xg φ cs σ μ).bind (Kx φ elt σ):=rfl
theorem K2{x:D}:Kb φ b σ x μ=(evE φ b σ μ).bind (Dy x):=rfl
theorem Nz{x:D}:Pn φ b σ x μ=(evE φ b σ μ).bind (Cu x):=rfl
theorem N0{i:Nat}{d:D}:Po i σ d μ=.ok (.nx (σ.set i (some d))) μ:=rfl
theorem N1{is:List Nat}{d:D}:Pp is σ d μ=Nf (dq (.many is) d σ) μ:=rfl
theorem N2{d:D}:kNx σ d μ=.ok (.nx σ) μ:=rfl
theorem N3{d:Unit}:kNx σ d μ=.ok (.nx σ) μ:=rfl
theorem N4{d x y:D}:Ng σ d x y μ=(Gy x y d μ).bind (kNx σ):=rfl
theorem N5{i:Ex}{d x:D}:Nh φ i σ d x μ=(evE φ i σ μ).bind (Ng σ d x):=rfl
theorem Qq{o i:Ex}{d:D}:kSx φ o i σ d μ=(evE φ o σ μ).bind (Nh φ i σ d):=rfl
theorem Qr{b:Sms}:kLp φ b μ σ=jq φ b σ μ:=rfl
theorem N6{d:D}:kRet d μ=.ok (.rt d) μ:=rfl
theorem K3{n:Nat}:List.replicate (n+1) (none:Option D)=none::List.replicate n none:=rfl
theorem K4:List.replicate 0 (none:Option D)=[]:=rfl
end
section
variable{φ:Phi}{σ:Sl}{μ:Sto}
noncomputable def Qs(φ:Phi)(b:Ex)(σ:Sl)(x:D)(μ:Sto):Res D:=(evE φ b σ μ).bind (Ks x)
noncomputable def K5(σ:Sl)(x y z:D)(μ:Sto):Res Fl:=(Gy x y z μ).bind (kNx σ)
noncomputable def K6(op:Operator)(σ:Sl)(x y old d:D)(μ:Sto):Res Fl:=(Pe op old d μ).bind (K5 σ x y)
noncomputable def N7(φ:Phi)(op:Operator)(e:Ex)(σ:Sl)(x y old:D)(μ:Sto):Res Fl:=(evE φ e σ μ).bind (K6 op σ x y old)
noncomputable def N8(φ:Phi)(op:Operator)(e:Ex)(σ:Sl)(x y:D)(μ:Sto):Res Fl:=(ixL x y μ).bind (N7 φ op e σ x y)
noncomputable def Qt(φ:Phi)(op:Operator)(i e:Ex)(σ:Sl)(x:D)(μ:Sto):Res Fl:=(evE φ i σ μ).bind (N8 φ op e σ x)
theorem Tv{a b:Ex}:evE φ (.dix a b) σ μ=(evE φ a σ μ).bind (Qs φ b σ):=rfl
theorem N9{b:Ex}{x:D}:Qs φ b σ x μ=(evE φ b σ μ).bind (Ks x):=rfl
theorem Qu{op:Operator}{o i e:Ex}:evS φ (.augx op o i e) σ μ=(evE φ o σ μ).bind (Qt φ op i e σ):=rfl
theorem Oa{op:Operator}{i e:Ex}{x:D}:Qt φ op i e σ x μ=(evE φ i σ μ).bind (N8 φ op e σ x):=rfl
theorem Ob{op:Operator}{e:Ex}{x y:D}:N8 φ op e σ x y μ=(ixL x y μ).bind (N7 φ op e σ x y):=rfl
theorem Oc{op:Operator}{e:Ex}{x y old:D}:N7 φ op e σ x y old μ=(evE φ e σ μ).bind (K6 op σ x y old):=rfl
theorem K7{x y:D}{i j:Int}:K6 .Add σ x y (.int i) (.int j) μ=K5 σ x y (.int (i+j)) μ:=rfl
theorem K8{x y:D}{i j:Int}:K6 .Sub σ x y (.int i) (.int j) μ=K5 σ x y (.int (i-j)) μ:=rfl
theorem Od{x y z:D}:K5 σ x y z μ=(Gy x y z μ).bind (kNx σ):=rfl
noncomputable def Qv(φ:Phi)(b:Ex)(σ:Sl)(x:D)(μ:Sto):Res D:=(evE φ b σ μ).bind (Md x)
noncomputable def Oe(φ:Phi)(k1:Bool)(f:Nat)(x:D)(ds:List D)(μ:Sto):Res D:=Iv k1 μ.length (φ f (x::ds) μ)
noncomputable def Tw(φ:Phi)(k1:Bool)(c m:Str)(f:Nat)(es:Exs)(σ:Sl)(x:D)(μ:Sto):Res D:=if isObj c m x μ=true then(du φ es σ μ).bind (Oe φ k1 f x)else .stuck
noncomputable def kMk(φ:Phi)(c:Str)(f:Nat)(ds:List D)(μ:Sto):Res D:=Iw μ.length (φ f (.loc μ.length::ds) (μ++[.o c []]))
noncomputable def Kf(φ:Phi)(f:Nat)(ds:List D)(μ:Sto):Res D:=E3 μ.length (φ f ds μ)
noncomputable def Of(f:Str)(σ:Sl)(d x:D)(μ:Sto):Res Fl:=(E2 f x d μ).bind (kNx σ)
noncomputable def Qw(φ:Phi)(o:Ex)(f:Str)(σ:Sl)(d:D)(μ:Sto):Res Fl:=(evE φ o σ μ).bind (Of f σ d)
noncomputable def kWh(φ:Phi)(c:Ex)(b:Sms)(σ:Sl)(μ:Sto):Res Fl:=whR (λσ μ=>(evE φ c σ μ).bind Kt) (λσ μ=>jq φ b σ μ) σ μ
noncomputable def kKeys(x:D)(μ:Sto):Res (List D×Gd):=match x with
 |.loc n=>match μ[n]? with
  |some (.d kvs)=>.ok (kvs.map (·.1),none) (μ.set n (.fd kvs))
  |_=>.stuck
 |_=>.stuck
theorem Tx{e:Ex}{f:Str}:evE φ (.att e f) σ μ=(evE φ e σ μ).bind (Pc f):=rfl
theorem Og{k1:Bool}{c m:Str}{f:Nat}{o:Ex}{es:Exs}:evE φ (.mcall k1 c m f o es) σ μ=(evE φ o σ μ).bind (Tw φ k1 c m f es σ):=rfl
theorem Qx{c:Str}{f:Nat}{es:Exs}:evE φ (.make c f es) σ μ=(du φ es σ μ).bind (kMk φ c f):=rfl
theorem Oh{f:Nat}{es:Exs}:evE φ (.callK f es) σ μ=(du φ es σ μ).bind (Kf φ f):=rfl
theorem Cw{e:Ex}:evE φ (.tru e) σ μ=(evE φ e σ μ).bind truD:=rfl
theorem Tz{a b:Ex}:evE φ (.gix a b) σ μ=(evE φ a σ μ).bind (Qv φ b σ):=rfl
theorem Oi{b:Ex}{x:D}:Qv φ b σ x μ=(evE φ b σ μ).bind (Md x):=rfl
theorem Qy:evE φ .dicr σ μ=.ok (.loc μ.length) (μ++[.dr []]):=rfl
theorem Qz{o e:Ex}{f:Str}:evS φ (.seta o f e) σ μ=(evE φ e σ μ).bind (Qw φ o f σ):=rfl
theorem Oj{o:Ex}{f:Str}{d:D}:Qw φ o f σ d μ=(evE φ o σ μ).bind (Of f σ d):=rfl
theorem Ol{f:Str}{d x:D}:Of f σ d x μ=(E2 f x d μ).bind (kNx σ):=rfl
theorem T1{c:Ex}{b:Sms}:evS φ (.whl c b) σ μ=kWh φ c b σ μ:=rfl
theorem Q0{a:Ex}:evI φ (.keys a) σ μ=(evE φ a σ μ).bind kKeys:=rfl
end
section
variable{μ:Sto}
theorem Q1{α β:Type}(a:α)(f:α->Sto->Res β):(Res.ok a μ).bind f=f a μ:=rfl
theorem Q2{α β:Type}(a:α)(k:α->Res β):iw (some a) k=k a:=rfl
theorem Ut(d:D):finD (.rt d) μ=.ok d μ:=rfl
theorem Uu(σ:Sl):finD (.nx σ) μ=.ok .non μ:=rfl
theorem Uv{α β:Type}(f:α->β)(a:α)(l:List α):(a::l).map f=f a::l.map f:=rfl
theorem Uw{α β:Type}(f:α->β):([]:List α).map f=[]:=rfl
theorem Ux{α:Type}(a:α)(l m:List α):a::l++m=a::(l++m):=rfl
theorem Uy{α:Type}(m:List α):[]++m=m:=rfl
theorem Uz{α:Type}(a:α)(l:List α):(a::l)[0]? = some a:=rfl
theorem U0{α:Type}(a:α)(l:List α)(i:Nat):(a::l)[i+1]? = l[i]?:=rfl
theorem U1{α:Type}(a b:α)(l:List α):(a::l).set 0 b=b::l:=rfl
theorem U2{α:Type}(a b:α)(l:List α)(i:Nat):(a::l).set (i+1) b=a::l.set i b:=rfl
theorem U3{α:Type}(a b:α):(some a).getD b=a:=rfl
theorem U4{op:Operator}{m:Mk}{i j:Int}:opD op m (.int i) (.int j) μ=opI op i j μ:=Ga
theorem U5{i j:Int}:opI .Add i j μ=.ok (.int (i+j)) μ:=op_add
theorem U6{i j:Int}:opI .Sub i j μ=.ok (.int (i-j)) μ:=op_sub
theorem U7{d:D}{b:Nat}:km true b (.ok d μ)=.ok d μ:=xw
end
end Lr
namespace Lp
open PySem
noncomputable abbrev ay:Nat:=3
noncomputable abbrev c9:Nat:=4
noncomputable abbrev bp:Nat:=5
noncomputable abbrev fu:Nat:=6
noncomputable abbrev je:Nat:=7
noncomputable abbrev j6:Nat:=8
noncomputable abbrev jf:Nat:=9
noncomputable abbrev ag:Nat:=11
noncomputable abbrev bq:Nat:=12
noncomputable abbrev qh:Nat:=13
noncomputable abbrev h9:Nat:=14
noncomputable abbrev jg:Nat:=15
noncomputable abbrev ia:Nat:=16
noncomputable abbrev a7:Nat:=17
noncomputable abbrev cf:Nat:=18
noncomputable abbrev br:Nat:=258
noncomputable abbrev jh:Nat:=259
noncomputable abbrev ib:Nat:=260
noncomputable abbrev ic:Nat:=261
noncomputable abbrev eh:Nat:=262
noncomputable abbrev au:Nat:=263
noncomputable abbrev fv:Nat:=264
noncomputable abbrev ie:Nat:=265
noncomputable abbrev ig:Nat:=266
noncomputable abbrev gx:Nat:=267
noncomputable abbrev nc:Nat:=268
noncomputable def D_law_next:Df:=⟨1,1,(.cons (.ite (.cmp (.blt .len .z (.cons (.var 0) .nil)) (.cons .gt (.cst (.int 0)) .nil)) (.cons (.ret (.meth .pop (.var 0) .nil)) .nil) .nil) (.cons (.ret (.cst (.int 0))) .nil))⟩
noncomputable def D_law_turn:Df:=⟨1,2,(.cons (.set 1 (.bin .Mod .z (.bin .Mult .z (.bin .Add .z (.bin .Mod .z (.var 0) (.bin .Pow .z (.cst (.int 10)) (.cst (.int 60)))) (.cst (.int 1))) (.cst (.int 69621))) (.cst (.int 2147483647)))) (.cons (.ret (.bin .FloorDiv .z (.bin .Mod .z (.bin .Mult .z (.var 1) (.var 1)) (.cst (.int 1000000007))) (.cst (.int 7)))) .nil))⟩
noncomputable def D_law_size:Df:=⟨2,3,(.cons (.set 2 (.call false c9 (.cons (.var 0) .nil))) (.cons (.ite (.cmp (.bin .Mod .z (.var 2) (.cst (.int 8))) (.cons .lt (.cst (.int 6)) .nil)) (.cons (.ret (.blt .min .z (.cons (.var 1) (.cons (.bin .Mod .z (.bin .FloorDiv .z (.var 2) (.cst (.int 8))) (.cst (.int 13))) .nil)))) .nil) .nil) (.cons (.ite (.cmp (.bin .Mod .z (.var 2) (.cst (.int 8))) (.cons .eq (.cst (.int 6)) .nil)) (.cons (.ret (.bin .Sub .z (.var 1) (.bin .Mod .z (.bin .FloorDiv .z (.var 2) (.cst (.int 8))) (.cst (.int 2))))) .nil) .nil) (.cons (.ret (.bin .Mod .z (.var 0) (.bin .Add .z (.var 1) (.cst (.int 1))))) .nil))))⟩
noncomputable def D_law_whole:Df:=⟨1,1,(.cons (.ret (.and (.isi (.var 0) .int) (.not (.isi (.var 0) .bool)))) .nil)⟩
noncomputable def ij:Exs:=(.cons (.cmp (.bin .Mod .z (.bin .RShift .z (.var 0) (.bin .Add .z (.var 1) (.cst (.int 1)))) (.cst (.int 2))) (.cons .eq (.cst (.int 1)) .nil)) .nil)
noncomputable def dj:Ex:=(.var 1)
noncomputable def D_law_lamp:Df:=⟨2,6,(.cons (.set 2 (.call false bp (.cons (.call false ay (.cons (.var 0) .nil)) (.cons (.bin .Pow .z (.cst (.int 10)) (.cst (.int 30))) .nil)))) (.cons (.set 3 (.blt .min .z (.cons (.var 2) (.cons (.call false bp (.cons (.call false ay (.cons (.var 0) .nil)) (.cons (.bin .Pow .z (.cst (.int 10)) (.cst (.int 30))) .nil))) .nil)))) (.cons (.set 4 (.call false c9 (.cons (.call false ay (.cons (.var 0) .nil)) .nil))) (.cons (.set 5 (.tup .nil)) (.cons (.ite (.cmp (.bin .Mod .z (.var 4) (.cst (.int 2))) (.cons .eq (.cst (.int 1)) .nil)) (.cons (.set 5 (.blt .tuple .z (.cons (.comp .z [4] 1 (.one 1) (.rng (.var 1)) ij dj) .nil))) .nil) .nil) (.cons (.ret (.tup (.cons (.var 2) (.cons (.var 3) (.cons (.var 5) .nil))))) .nil))))))⟩
noncomputable def D_law_day:Df:=⟨2,6,(.cons (.set 2 (.call false bp (.cons (.call false ay (.cons (.var 0) .nil)) (.cons (.bin .Pow .z (.cst (.int 10)) (.cst (.int 30))) .nil)))) (.cons (.set 3 (.call false bp (.cons (.call false ay (.cons (.var 0) .nil)) (.cons (.bin .Pow .z (.cst (.int 10)) (.cst (.int 30))) .nil)))) (.cons (.set 4 (.call false bp (.cons (.call false ay (.cons (.var 0) .nil)) (.cons (.bin .Pow .z (.cst (.int 10)) (.cst (.int 15))) .nil)))) (.cons (.set 5 (.blt .max .z (.cons (.cst (.int 1)) (.cons (.call false bp (.cons (.call false ay (.cons (.var 0) .nil)) (.cons (.bin .Pow .z (.cst (.int 10)) (.cst (.int 15))) .nil))) .nil)))) (.cons (.ret (.tup (.cons (.var 2) (.cons (.var 3) (.cons (.var 4) (.cons (.var 5) (.cons (.bin .Mod .z (.call false c9 (.cons (.call false ay (.cons (.var 0) .nil)) .nil)) (.bin .Add .z (.var 1) (.cst (.int 1)))) .nil))))))) .nil)))))⟩
noncomputable def fh:Ex:=(.call false je (.cons (.var 0) (.cons (.var 1) .nil)))
noncomputable def fi:Ex:=(.call false j6 (.cons (.var 0) (.cons (.var 1) .nil)))
noncomputable def D_law_book:Df:=⟨1,7,(.cons (.set 1 (.call false c9 (.cons (.call false ay (.cons (.var 0) .nil)) .nil))) (.cons (.set 2 (.bin .Add .z (.cst (.int 1)) (.bin .Mod .z (.var 1) (.cst (.int 3))))) (.cons (.set 3 (.bin .Add .z (.cst (.int 1)) (.bin .Mod .z (.bin .FloorDiv .z (.var 1) (.cst (.int 3))) (.cst (.int 4))))) (.cons (.ite (.cmp (.bin .Mod .z (.bin .FloorDiv .z (.var 1) (.cst (.int 12))) (.cst (.int 5))) (.cons .eq (.cst (.int 1)) .nil)) (.cons (.set 2 (.bin .Add .z (.cst (.int 1)) (.bin .Mod .z (.bin .FloorDiv .z (.var 1) (.cst (.int 60))) (.cst (.int 8))))) (.cons (.set 3 (.bin .Add .z (.cst (.int 1)) (.bin .Mod .z (.bin .FloorDiv .z (.var 1) (.cst (.int 480))) (.cst (.int 16))))) .nil)) .nil) (.cons (.set 4 (.call false bp (.cons (.call false ay (.cons (.var 0) .nil)) (.cons (.bin .Pow .z (.cst (.int 10)) (.cst (.int 30))) .nil)))) (.cons (.set 5 (.call false bp (.cons (.call false ay (.cons (.var 0) .nil)) (.cons (.bin .Pow .z (.cst (.int 10)) (.cst (.int 30))) .nil)))) (.cons (.set 6 (.comp .z [0,3] 1 (.one 2) (.rng (.var 2)) .nil fh)) (.cons (.ret (.tup (.cons (.var 4) (.cons (.var 5) (.cons (.blt .tuple .z (.cons (.var 6) .nil)) (.cons (.blt .tuple .z (.cons (.comp .z [0,2] 1 (.one 2) (.rng (.var 3)) .nil fi) .nil)) .nil)))))) .nil))))))))⟩
noncomputable def D_refuse_unless:Df:=⟨2,2,(.cons (.ite (.not (.var 0)) (.cons .never .nil) .nil) .nil)⟩
noncomputable def D_is_measure:Df:=⟨1,1,(.cons (.ret (.cmp (.cst (.int 0)) (.cons .le (.var 0) (.cons .le (.bin .Pow .z (.cst (.int 10)) (.cst (.int 30))) .nil)))) .nil)⟩
noncomputable def kz:Ex:=(.cmp (.var 0) (.cons .lt (.var 1) .nil))
noncomputable def D_rises:Df:=⟨1,1,(.cons (.ret (.blt .all .z (.cons (.comp .z [] 2 (.many [0,1]) (.zip (.var 0) (.sl .z (.var 0) (.so (.cst (.int 1))) .no)) .nil kz) .nil))) .nil)⟩
noncomputable def gm:Ex:=(.cmp (.cst (.int 0)) (.cons .le (.var 1) (.cons .lt (.var 0) .nil)))
noncomputable def D_made_lamp:Df:=⟨2,5,(.cons (.ex (.call false ag (.cons (.cmp (.blt .len .z (.cons (.var 0) .nil)) (.cons .eq (.cst (.int 3)) .nil)) (.cons (.cst (.str (PySem.Str.ofString "a lamp has a tank, its oil and the days away"))) .nil)))) (.cons (.unp [2,3,4] (.var 0)) (.cons (.ex (.call false ag (.cons (.call false bq (.cons (.var 2) .nil)) (.cons (.cst (.str (PySem.Str.ofString "a tank holds from 0 to 10**30 measures"))) .nil)))) (.cons (.ex (.call false ag (.cons (.cmp (.cst (.int 0)) (.cons .le (.var 3) (.cons .le (.var 2) .nil))) (.cons (.cst (.str (PySem.Str.ofString "a lamp has from 0 measures to what its tank holds"))) .nil)))) (.cons (.ex (.call false ag (.cons (.blt .all .z (.cons (.comp .z [1] 1 (.one 1) (.seq (.var 4)) .nil gm) .nil)) (.cons (.cst (.str (PySem.Str.ofString "a lamp is away on days of the book alone"))) .nil)))) (.cons (.ex (.call false ag (.cons (.call false qh (.cons (.var 4) .nil)) (.cons (.cst (.str (PySem.Str.ofString "the days away rise"))) .nil)))) (.cons (.ret (.tup (.cons (.var 2) (.cons (.var 3) (.cons (.blt .tuple .z (.cons (.var 4) .nil)) .nil))))) .nil)))))))⟩
noncomputable def D_made_day:Df:=⟨2,7,(.cons (.ex (.call false ag (.cons (.cmp (.blt .len .z (.cons (.var 0) .nil)) (.cons .eq (.cst (.int 5)) .nil)) (.cons (.cst (.str (PySem.Str.ofString "a day has a boat, a most, a price, a length and the wanted lamps"))) .nil)))) (.cons (.unp [2,3,4,5,6] (.var 0)) (.cons (.ex (.call false ag (.cons (.call false bq (.cons (.var 2) .nil)) (.cons (.cst (.str (PySem.Str.ofString "a boat brings from 0 to 10**30 measures"))) .nil)))) (.cons (.ex (.call false ag (.cons (.call false bq (.cons (.var 3) .nil)) (.cons (.cst (.str (PySem.Str.ofString "from 0 to 10**30 measures can be bought"))) .nil)))) (.cons (.ex (.call false ag (.cons (.cmp (.cst (.int 0)) (.cons .le (.var 4) (.cons .le (.bin .Pow .z (.cst (.int 10)) (.cst (.int 15))) .nil))) (.cons (.cst (.str (PySem.Str.ofString "a price is from 0 to 10**15"))) .nil)))) (.cons (.ex (.call false ag (.cons (.cmp (.cst (.int 1)) (.cons .le (.var 5) (.cons .le (.bin .Pow .z (.cst (.int 10)) (.cst (.int 15))) .nil))) (.cons (.cst (.str (PySem.Str.ofString "a night has from 1 to 10**15 ticks"))) .nil)))) (.cons (.ex (.call false ag (.cons (.cmp (.cst (.int 0)) (.cons .le (.var 6) (.cons .le (.var 1) .nil))) (.cons (.cst (.str (PySem.Str.ofString "from 0 to all lamps are wanted"))) .nil)))) (.cons (.ret (.tup (.cons (.var 2) (.cons (.var 3) (.cons (.var 4) (.cons (.var 5) (.cons (.var 6) .nil))))))) .nil))))))))⟩
noncomputable def gn:Ex:=(.call false h9 (.cons (.var 1) (.cons (.blt .len .z (.cons (.var 0) .nil)) .nil)))
noncomputable def gp:Ex:=(.call false jg (.cons (.var 1) (.cons (.blt .len .z (.cons (.var 0) .nil)) .nil)))
noncomputable def D_made_book:Df:=⟨4,6,(.cons (.ex (.call false ag (.cons (.call false bq (.cons (.var 0) .nil)) (.cons (.cst (.str (PySem.Str.ofString "a store keeps from 0 to 10**30 measures"))) .nil)))) (.cons (.ex (.call false ag (.cons (.call false bq (.cons (.var 1) .nil)) (.cons (.cst (.str (PySem.Str.ofString "a store has from 0 to 10**30 measures at first"))) .nil)))) (.cons (.ex (.call false ag (.cons (.cmp (.cst (.int 1)) (.cons .le (.blt .len .z (.cons (.var 2) .nil)) (.cons .le (.cst (.int 8)) .nil))) (.cons (.cst (.str (PySem.Str.ofString "a book has 1 to 8 lamps"))) .nil)))) (.cons (.ex (.call false ag (.cons (.cmp (.cst (.int 1)) (.cons .le (.blt .len .z (.cons (.var 3) .nil)) (.cons .le (.cst (.int 16)) .nil))) (.cons (.cst (.str (PySem.Str.ofString "a book has 1 to 16 days"))) .nil)))) (.cons (.set 4 (.blt .tuple .z (.cons (.comp .z [3] 1 (.one 1) (.seq (.var 2)) .nil gn) .nil))) (.cons (.set 5 (.blt .tuple .z (.cons (.comp .z [2] 1 (.one 1) (.seq (.var 3)) .nil gp) .nil))) (.cons (.ret (.tup (.cons (.var 0) (.cons (.var 1) (.cons (.var 4) (.cons (.var 5) .nil)))))) .nil)))))))⟩
noncomputable def dk:Exs:=(.cons (.not (.call false fu (.cons (.var 0) .nil))) .nil)
noncomputable def gb:Ex:=(.var 0)
noncomputable def D_law_all_whole:Df:=⟨1,1,(.cons (.ret (.cmp (.blt .len .z (.cons (.comp .z [] 1 (.one 0) (.seq (.var 0)) dk gb) .nil)) (.cons .eq (.cst (.int 0)) .nil))) .nil)⟩
noncomputable def dm:Sms:=(.cons (.ite (.or (.not (.isi (.var 2) .tuple)) (.or (.not (.call false a7 (.cons (.sl .z (.var 2) .no (.so (.cst (.int 2)))) .nil))) (.not (.isi (.ix (.var 2) (.cst (.int 2))) .tuple)))) (.cons (.ret (.cst (.bl false))) .nil) .nil) (.cons (.ite (.not (.call false a7 (.cons (.ix (.var 2) (.cst (.int 2))) .nil))) (.cons (.ret (.cst (.bl false))) .nil) .nil) .nil))
noncomputable def dn:Exs:=(.cons (.or (.not (.isi (.var 0) .tuple)) (.not (.call false a7 (.cons (.var 0) .nil)))) .nil)
noncomputable def gc:Ex:=(.var 0)
noncomputable def D_law_same_book:Df:=⟨2,3,(.cons (.ite (.or (.not (.isi (.var 0) .tuple)) (.or (.cmp (.blt .len .z (.cons (.var 0) .nil)) (.cons .ne (.cst (.int 4)) .nil)) (.or (.cmp (.var 0) (.cons .ne (.var 1) .nil)) (.not (.call false a7 (.cons (.sl .z (.var 0) .no (.so (.cst (.int 2)))) .nil)))))) (.cons (.ret (.cst (.bl false))) .nil) .nil) (.cons (.ite (.or (.not (.isi (.ix (.var 0) (.cst (.int 2))) .tuple)) (.not (.isi (.ix (.var 0) (.cst (.int 3))) .tuple))) (.cons (.ret (.cst (.bl false))) .nil) .nil) (.cons (.loop (.one 2) (.seq (.ix (.var 0) (.cst (.int 2)))) dm) (.cons (.ret (.cmp (.blt .len .z (.cons (.comp .z [] 1 (.one 0) (.seq (.ix (.var 0) (.cst (.int 3)))) dn gc) .nil)) (.cons .eq (.cst (.int 0)) .nil))) .nil))))⟩
noncomputable def eu:Ex:=(.blt .strI .z (.cons (.var 0) .nil))
noncomputable def D_numbers_row:Df:=⟨2,2,(.cons (.ret (.blt .joinS .z (.cons (.cst (.str (PySem.Str.ofString " "))) (.cons (.bin .Add .z (.lst .z (.cons (.var 0) .nil)) (.comp .z [] 1 (.one 0) (.seq (.var 1)) .nil eu)) .nil)))) .nil)⟩
noncomputable def D_lamp_row:Df:=⟨1,5,(.cons (.unp [1,2,3] (.var 0)) (.cons (.set 4 (.call false br (.cons (.cst (.str (PySem.Str.ofString "lamp"))) (.cons (.tup (.cons (.var 1) (.cons (.var 2) .nil))) .nil)))) (.cons (.ret (.ite (.tru (.var 3)) (.blt .catS .z (.cons (.blt .catS .z (.cons (.var 4) (.cons (.cst (.str (PySem.Str.ofString " "))) .nil))) (.cons (.call false br (.cons (.cst (.str (PySem.Str.ofString "away"))) (.cons (.var 3) .nil))) .nil))) (.var 4))) .nil)))⟩
noncomputable def gq:Ex:=(.call false jh (.cons (.var 0) .nil))
noncomputable def gr:Ex:=(.call false br (.cons (.cst (.str (PySem.Str.ofString "day"))) (.cons (.var 0) .nil)))
noncomputable def D_book_text:Df:=⟨1,6,(.cons (.unp [1,2,3,4] (.var 0)) (.cons (.set 5 (.lst .l (.cons (.call false br (.cons (.cst (.str (PySem.Str.ofString "store"))) (.cons (.tup (.cons (.var 1) (.cons (.var 2) .nil))) .nil))) .nil))) (.cons (.ex (.meth .extend (.var 5) (.cons (.comp .z [] 1 (.one 0) (.seq (.var 3)) .nil gq) .nil))) (.cons (.ex (.meth .extend (.var 5) (.cons (.comp .z [] 1 (.one 0) (.seq (.var 4)) .nil gr) .nil))) (.cons (.ret (.blt .joinS .z (.cons (.cst (.str (PySem.Str.ofString "\n"))) (.cons (.var 5) .nil)))) .nil)))))⟩
noncomputable def D_is_number:Df:=⟨1,1,(.cons (.ret (.and (.blt .isdig .z (.cons (.var 0) .nil)) (.and (.cmp (.blt .lenS .z (.cons (.var 0) .nil)) (.cons .le (.cst (.int 31)) .nil)) (.or (.cmp (.var 0) (.cons .eq (.cst (.str (PySem.Str.ofString "0"))) .nil)) (.not (.blt .startS .z (.cons (.var 0) (.cons (.cst (.str (PySem.Str.ofString "0"))) .nil)))))))) .nil)⟩
noncomputable def fw:Ex:=(.call false ic (.cons (.var 0) .nil))
noncomputable def fz:Ex:=(.blt .intS .z (.cons (.var 0) .nil))
noncomputable def D_numbers_of:Df:=⟨1,1,(.cons (.ite (.not (.blt .all .z (.cons (.comp .z [] 1 (.one 0) (.seq (.var 0)) .nil fw) .nil))) (.cons (.ret (.cst .non)) .nil) .nil) (.cons (.ret (.blt .tuple .z (.cons (.comp .z [] 1 (.one 0) (.seq (.var 0)) .nil fz) .nil))) .nil))⟩
noncomputable def D_read_numbers:Df:=⟨3,4,(.cons (.set 3 (.blt .splitS .z (.cons (.var 0) (.cons (.cst (.str (PySem.Str.ofString " "))) .nil)))) (.cons (.ite (.or (.cmp (.ix (.var 3) (.cst (.int 0))) (.cons .ne (.var 1) .nil)) (.cmp (.blt .len .z (.cons (.var 3) .nil)) (.cons .ne (.bin .Add .z (.var 2) (.cst (.int 1))) .nil))) (.cons (.ret (.cst .non)) .nil) .nil) (.cons (.ret (.call false eh (.cons (.sl .z (.var 3) (.so (.cst (.int 1))) .no) .nil))) .nil)))⟩
noncomputable def D_read_lamp:Df:=⟨1,6,(.cons (.unp [1,2,3] (.blt .partS .z (.cons (.var 0) (.cons (.cst (.str (PySem.Str.ofString " away "))) .nil)))) (.cons (.set 4 (.call false au (.cons (.var 1) (.cons (.cst (.str (PySem.Str.ofString "lamp"))) (.cons (.cst (.int 2)) .nil))))) (.cons (.set 5 (.ite (.blt .truS .z (.cons (.var 2) .nil)) (.call false eh (.cons (.blt .splitS .z (.cons (.var 3) (.cons (.cst (.str (PySem.Str.ofString " "))) .nil))) .nil)) (.tup .nil))) (.cons (.ite (.or (.cmp (.var 4) (.cons .is (.cst .non) .nil)) (.cmp (.var 5) (.cons .is (.cst .non) .nil))) (.cons (.ret (.cst .non)) .nil) .nil) (.cons (.ret (.bin .Add .z (.var 4) (.tup (.cons (.var 5) .nil)))) .nil)))))⟩
noncomputable def dz:Sms:=(.cons (.set 7 (.call false fv (.cons (.var 6) .nil))) (.cons (.set 8 (.call false au (.cons (.var 6) (.cons (.cst (.str (PySem.Str.ofString "day"))) (.cons (.cst (.int 5)) .nil))))) (.cons (.ite (.cmp (.var 8) (.cons .isnot (.cst .non) .nil)) (.cons (.ex (.meth .append (.var 4) (.cons (.var 8) .nil))) .nil) (.cons (.ite (.and (.cmp (.var 7) (.cons .isnot (.cst .non) .nil)) (.not (.tru (.var 4)))) (.cons (.ex (.meth .append (.var 3) (.cons (.var 7) .nil))) .nil) (.cons .never .nil)) .nil)) .nil)))
noncomputable def D_read_book:Df:=⟨1,9,(.cons (.set 1 (.blt .splitS .z (.cons (.var 0) (.cons (.cst (.str (PySem.Str.ofString "\n"))) .nil)))) (.cons (.set 2 (.call false au (.cons (.ix (.var 1) (.cst (.int 0))) (.cons (.cst (.str (PySem.Str.ofString "store"))) (.cons (.cst (.int 2)) .nil))))) (.cons (.ite (.cmp (.var 2) (.cons .is (.cst .non) .nil)) (.cons .never .nil) .nil) (.cons (.set 3 (.lst .l .nil)) (.cons (.set 4 (.lst .l .nil)) (.cons (.loop (.many [5,6]) (.enum (.sl .z (.var 1) (.so (.cst (.int 1))) .no)) dz) (.cons (.ite (.or (.not (.tru (.var 3))) (.not (.tru (.var 4)))) (.cons .never .nil) .nil) (.cons (.ret (.call false ia (.cons (.ix (.var 2) (.cst (.int 0))) (.cons (.ix (.var 2) (.cst (.int 1))) (.cons (.var 3) (.cons (.var 4) .nil)))))) .nil))))))))⟩
noncomputable def d0:Sms:=(.cons (.set 5 (.blt .catS .z (.cons (.blt .catS .z (.cons (.var 5) (.cons (.cst (.str (PySem.Str.ofString " "))) .nil))) (.cons (.blt .strI .z (.cons (.var 6) .nil)) .nil)))) .nil)
noncomputable def d5:Sms:=(.cons (.set 5 (.blt .catS .z (.cons (.blt .catS .z (.cons (.blt .catS .z (.cons (.cst (.str (PySem.Str.ofString "lamp "))) (.cons (.blt .strI .z (.cons (.var 2) .nil)) .nil))) (.cons (.cst (.str (PySem.Str.ofString " "))) .nil))) (.cons (.blt .strI .z (.cons (.var 3) .nil)) .nil)))) (.cons (.ite (.cmp (.blt .len .z (.cons (.var 4) .nil)) (.cons .gt (.cst (.int 0)) .nil)) (.cons (.set 5 (.blt .catS .z (.cons (.var 5) (.cons (.cst (.str (PySem.Str.ofString " away"))) .nil)))) .nil) .nil) (.cons (.loop (.one 6) (.seq (.var 4)) d0) (.cons (.ex (.meth .append (.var 1) (.cons (.var 5) .nil))) .nil))))
noncomputable def d6:Sms:=(.cons (.set 5 (.blt .catS .z (.cons (.blt .catS .z (.cons (.var 5) (.cons (.cst (.str (PySem.Str.ofString " "))) .nil))) (.cons (.blt .strI .z (.cons (.var 7) .nil)) .nil)))) .nil)
noncomputable def gs:Sms:=(.cons (.set 5 (.cst (.str (PySem.Str.ofString "day")))) (.cons (.loop (.one 7) (.seq (.var 6)) d6) (.cons (.ex (.meth .append (.var 1) (.cons (.var 5) .nil))) .nil)))
noncomputable def D_law_shown:Df:=⟨1,8,(.cons (.set 1 (.lst .l (.cons (.blt .catS .z (.cons (.blt .catS .z (.cons (.blt .catS .z (.cons (.cst (.str (PySem.Str.ofString "store "))) (.cons (.blt .strI .z (.cons (.ix (.var 0) (.cst (.int 0))) .nil)) .nil))) (.cons (.cst (.str (PySem.Str.ofString " "))) .nil))) (.cons (.blt .strI .z (.cons (.ix (.var 0) (.cst (.int 1))) .nil)) .nil))) .nil))) (.cons (.loop (.many [2,3,4]) (.seq (.ix (.var 0) (.cst (.int 2)))) d5) (.cons (.loop (.one 6) (.seq (.ix (.var 0) (.cst (.int 3)))) gs) (.cons (.ret (.frz 1)) .nil))))⟩
noncomputable def ik:Sms:=(.cons (.set 1 (.blt .catS .z (.cons (.blt .catS .z (.cons (.var 1) (.cons (.cst (.str (PySem.Str.ofString "\n"))) .nil))) (.cons (.var 2) .nil)))) .nil)
noncomputable def D_law_text:Df:=⟨1,3,(.cons (.set 1 (.ix (.var 0) (.cst (.int 0)))) (.cons (.loop (.one 2) (.seq (.sl .z (.var 0) (.so (.cst (.int 1))) .no)) ik) (.cons (.ret (.var 1)) .nil)))⟩
noncomputable def D_law_k59:Df:=⟨1,3,(.cons (.set 1 (.call false jf (.cons (.blt .listRev .l (.cons (.var 0) .nil)) .nil))) (.cons (.set 2 (.call false ib (.cons (.var 1) .nil))) (.cons (.ite (.or (.not (.isi (.var 2) .str)) (.cmp (.var 2) (.cons .ne (.call false gx (.cons (.call false ig (.cons (.var 1) .nil)) .nil)) .nil))) (.cons (.ret (.cst (.bl false))) .nil) .nil) (.cons (.ret (.call false cf (.cons (.call false ie (.cons (.var 2) .nil)) (.cons (.var 1) .nil)))) .nil))))⟩
noncomputable def Dz:Df:=⟨0,0,.nil⟩
noncomputable def GL:List Df:=[Dz,Dz,Dz,D_law_next,D_law_turn,D_law_size,D_law_whole,D_law_lamp,D_law_day,D_law_book,Dz,D_refuse_unless,D_is_measure,D_rises,D_made_lamp,D_made_day,D_made_book,D_law_all_whole,D_law_same_book,Dz,Dz,Dz,Dz,Dz,Dz,Dz,Dz,Dz,Dz,Dz,Dz,Dz,Dz,Dz,Dz,Dz,Dz,Dz,Dz,Dz,Dz,Dz,Dz,Dz,Dz,Dz,Dz,Dz,Dz,Dz,Dz,Dz,Dz,Dz,Dz,Dz,Dz,Dz,Dz,Dz,Dz,Dz,Dz,Dz,Dz,Dz,Dz,Dz,Dz,Dz,Dz,Dz,Dz,Dz,Dz,Dz,Dz,Dz,Dz,Dz,Dz,Dz,Dz,Dz,Dz,Dz,Dz,Dz,Dz,Dz,Dz,Dz,Dz,Dz,Dz,Dz,Dz,Dz,Dz,Dz,Dz,Dz,Dz,Dz,Dz,Dz,Dz,Dz,Dz,Dz,Dz,Dz,Dz,Dz,Dz,Dz,Dz,Dz,Dz,Dz,Dz,Dz,Dz,Dz,Dz,Dz,Dz,Dz,Dz,Dz,Dz,Dz,Dz,Dz,Dz,Dz,Dz,Dz,Dz,Dz,Dz,Dz,Dz,Dz,Dz,Dz,Dz,Dz,Dz,Dz,Dz,Dz,Dz,Dz,Dz,Dz,Dz,Dz,Dz,Dz,Dz,Dz,Dz,Dz,Dz,Dz,Dz,Dz,Dz,Dz,Dz,Dz,Dz,Dz,Dz,Dz,Dz,Dz,Dz,Dz,Dz,Dz,Dz,Dz,Dz,Dz,Dz,Dz,Dz,Dz,Dz,Dz,Dz,Dz,Dz,Dz,Dz,Dz,Dz,Dz,Dz,Dz,Dz,Dz,Dz,Dz,Dz,Dz,Dz,Dz,Dz,Dz,Dz,Dz,Dz,Dz,Dz,Dz,Dz,Dz,Dz,Dz,Dz,Dz,Dz,Dz,Dz,Dz,Dz,Dz,Dz,Dz,Dz,Dz,Dz,Dz,Dz,Dz,Dz,Dz,Dz,Dz,Dz,Dz,Dz,Dz,Dz,Dz,Dz,Dz,Dz,Dz,Dz,Dz,Dz,Dz,Dz,Dz,D_numbers_row,D_lamp_row,D_book_text,D_is_number,D_numbers_of,D_read_numbers,D_read_lamp,D_read_book,D_law_shown,D_law_text,D_law_k59]
theorem x8:GL[ay]? = some D_law_next:=rfl
theorem x9:GL[c9]? = some D_law_turn:=rfl
theorem ya:GL[bp]? = some D_law_size:=rfl
theorem uk:GL[fu]? = some D_law_whole:=rfl
theorem yb:GL[je]? = some D_law_lamp:=rfl
theorem Av:GL[j6]? = some D_law_day:=rfl
theorem yc:GL[jf]? = some D_law_book:=rfl
theorem ng:GL[ag]? = some D_refuse_unless:=rfl
theorem sf:GL[bq]? = some D_is_measure:=rfl
theorem Ge:GL[qh]? = some D_rises:=rfl
theorem um:GL[h9]? = some D_made_lamp:=rfl
theorem yd:GL[jg]? = some D_made_day:=rfl
theorem uo:GL[ia]? = some D_made_book:=rfl
theorem nh:GL[a7]? = some D_law_all_whole:=rfl
theorem ni:GL[cf]? = some D_law_same_book:=rfl
theorem qi:GL[br]? = some D_numbers_row:=rfl
theorem ye:GL[jh]? = some D_lamp_row:=rfl
theorem uq:GL[ib]? = some D_book_text:=rfl
theorem ur:GL[ic]? = some D_is_number:=rfl
theorem sg:GL[eh]? = some D_numbers_of:=rfl
theorem jo:GL[au]? = some D_read_numbers:=rfl
theorem nj:GL[fv]? = some D_read_lamp:=rfl
theorem uu:GL[ie]? = some D_read_book:=rfl
theorem uv:GL[ig]? = some D_law_shown:=rfl
theorem yf:GL[gx]? = some D_law_text:=rfl
theorem Aw:GL[nc]? = some D_law_k59:=rfl
end Lp
local macro_rules | `(tactic| simp! only [$ls,*]) => do
  let mut a := ls.getElems
  for s in "Ss Su Sv Sw Sx Sy Um Sz S0 S2 Pq Pr S3 S4 Pt Uo Up S5 S6 S7 Pu Pw Ni Uq Ur Px Nj S8 S9 Py Ta Pz P0 Tb Tc P1 Us Td P2 Te P4 Tf P5 P6 Nk Kc Ky Nl P7 P8 Th Ti P9 Qa Qb Qc Tj Tn Qd Qe Kz To Tp Qf Qg Qh Qi Kd K0 K1 Ke Tq Tr Ts Tt Qj Qk Ql bt_min bt_max og Nn Np Nq Nr Tu Nt Qm Qn Nu Qo Nv Nw Qp Nx Ny K2 Nz N0 N1 N2 N3 N4 N5 Qq Qr N6 K3 K4 Tv N9 Qu Oa Ob Oc K7 K8 Od Tx Og Qx Oh Cw Tz Oi Qy Qz Oj Ol T1 Q0 Q1 Q2 Ut Uu Uv Uw Ux Uy Uz U0 U1 U2 U3 U4 U5 U6 U7 Nat.reduceSub decide_true decide_false Bool.not_true Bool.not_false".splitOn " " do
    a := a.push ⟨(<- `(Lean.Parser.Tactic.simpLemma| $(Lean.mkIdent ((s.splitOn ".").foldl Lean.Name.mkStr .anonymous)):ident)).raw⟩
  `(tactic| simp only [$a,*])
namespace Lr
open Lp
open PySem
noncomputable def bo(c:Int):Int:=((c % 10 ^ 60+1)*69621 % 2147483647)*((c % 10 ^ 60+1)*69621 % 2147483647) % 1000000007 / 7
noncomputable def jl(c most:Int):Int:=if bo c % 8<6 then min most (bo c / 8 % 13)else if bo c % 8=6 then most-bo c / 8 % 2 else c % (most+1)
noncomputable def Lf(cs:List Int):O:=.l (cs.reverse.map D.int)
@[simp] theorem Q3 (cs:List Int):noR (Lf cs)=true:=rfl
section
variable{n:Nat}{μ ρ:Sto}
theorem Gf(cs:List Int):ao GL (n+1) ay [.loc 0] (Lf cs::ρ)=.ok (.int (cs.headD 0)) (Lf cs.tail::ρ):=by
 rw[ak x8,run_eq rfl]
 cases cs with
 |nil=>simp[D_law_next,jq,evS,evE,evC,du,btD,seq1,cw,Lf,cpD]
 |cons c r=>simp[D_law_next,jq,evS,evE,evC,du,btD,seq1,cw,Lf,cpD,iy,Lp.listOf,mtD,t6,mtL,ll,putL]
theorem nk(hr:∀cs,jd (Lf cs::ρ))(cs:List Int):f9 (ao GL (n+1)) false ay [.loc 0] (Lf cs::ρ)=.ok (.int (cs.headD 0)) (Lf cs.tail::ρ) :=
 aq (Gf cs) rfl rfl (hr _)
theorem Gg(c:Int):ao GL (n+1) c9 [.int c] μ=.ok (.int (bo c)) μ:=by
 rw[ak x9,run_eq rfl]
 have h1:(0:Int)<=(c % 10 ^ 60+1)*69621 % 2147483647:=ER _ (by decide)
 have h2:(c % 10 ^ 60+1)*69621 % 2147483647<2147483647:=FE _ (by decide)
 have hm:CMul ((c % 10 ^ 60+1)*69621 % 2147483647) ((c % 10 ^ 60+1)*69621 % 2147483647):=.left (by lia) (by lia)
 have hm0:CMul (c % 10 ^ 60+1) 69621:=.right (by decide) (by decide)
 have e1:opI .Pow 10 60 μ=.ok (.int (10 ^ 60)) μ:=op_pow (by decide)
 simp! only[D_law_turn,e1,op_mod (show(0:Int)<10 ^ 60 by decide),op_mul hm0,op_mod (show(0:Int)<2147483647 by decide),op_mul hm,op_mod (show(0:Int)<1000000007 by decide),vn (show(0:Int)<7 by decide) (by decide),bo]
theorem Cy(c:Int):0<=bo c:=Int.ediv_nonneg (ER _ (by decide)) (by decide)
theorem i4(hr:jd μ)(c:Int):f9 (ao GL (n+1)) false c9 [.int c] μ=.ok (.int (bo c)) μ:=aq (Gg c) rfl rfl hr
theorem Gh(hr:jd μ)(c most:Int)(hm:0<=most):ao GL (n+2) bp [.int c,.int most] μ=.ok (.int (jl c most)) μ:=by
 rw[ak ya,run_eq rfl]
 have f8:∀x:Int,opI .Mod x 8 μ=.ok (.int (x % 8)) μ:=λx=>op_mod (by decide)
 by_cases h1:bo c % 8<6
 ·simp! only[D_law_size,i4 hr,f8,h1,vn (show(0:Int)<8 by decide) (by decide),op_mod (show(0:Int)<13 by decide),jl,if_true]
 ·by_cases h2:bo c % 8=6
  ·simp! only[D_law_size,i4 hr,f8,h1,h2,vn (show(0:Int)<8 by decide) (by decide),op_mod (show(0:Int)<2 by decide),jl,if_true,if_false,Int.reduceLT]
  ·simp! only[D_law_size,i4 hr,f8,h1,h2,op_mod (show(0:Int)<most+1 by lia),jl,if_false]
theorem k6(hr:jd μ)(c most:Int)(hm:0<=most):f9 (ao GL (n+2)) false bp [.int c,.int most] μ=.ok (.int (jl c most)) μ :=
 aq (Gh hr c most hm) rfl rfl hr
theorem gf{c most:Int}(hm:1<=most):0<=jl c most/\jl c most<=most:=by
 have h1:=Cy c
 have h3:0<=c % (most+1):=ER _ (by lia)
 have h4:c % (most+1)<most+1:=FE _ (by lia)
 unfold jl
 split
 ·lia
 ·split<;>lia
theorem Cz(c:Int):ao GL (n+1) fu [.int c] μ=.ok (.bl true) μ:=by
 rw[ak uk,run_eq rfl]
 simp! only[D_law_whole,Bc]
theorem C0(hr:jd μ)(c:Int):f9 (ao GL (n+1)) false fu [.int c] μ=.ok (.bl true) μ:=aq (Cz c) rfl rfl hr
end
open PySem
structure Lamp where
 tank:Int
 oil:Int
 away:List Int
structure Day where
 boat:Int
 most:Int
 price:Int
 length:Int
 wanted:Int
structure Book where
 store:Int
 oil:Int
 lamps:List Lamp
 days:List Day
noncomputable def az(ns:List Int):D:=.tup (ns.map D.int)
noncomputable def eLamp(l:Lamp):D:=.tup [.int l.tank,.int l.oil,az l.away]
noncomputable def c7(d:Day):D:=.tup [.int d.boat,.int d.most,.int d.price,.int d.length,.int d.wanted]
noncomputable def bu(b:Book):D:=.tup [.int b.store,.int b.oil,.tup (b.lamps.map eLamp),.tup (b.days.map c7)]
theorem gy{k:Nat}(ns:List Int):D.pureN (k+1) (az ns)=true:=by
 simp![az,l7,DM,AT]
 exact λx _=>j4
theorem j7{k:Nat}(l:Lamp):D.pureN (k+2) (eLamp l)=true:=by
 simp![eLamp,l7,BI,HI,HD,HE,j4,gy]
theorem qj{k:Nat}(l:Day):D.pureN (k+1) (c7 l)=true:=by
 simp![c7,l7,BI,HI,HD,HE,j4]
theorem gz(b:Book):(bu b).pure=true:=by
 simp![D.pure,bu,l7,BI,HI,HD,HE,j4,DM,AY,AT]
 exact⟨λl _=>j7 l,λl _=>qj l⟩
theorem Om{b:Book}{μ:Sto}:ixD (bu b) (.int 0) μ=.ok (.int b.store) μ:=rfl
theorem Oo{b:Book}{μ:Sto}:ixD (bu b) (.int 1) μ=.ok (.int b.oil) μ:=rfl
theorem Kg{b:Book}{μ:Sto}:ixD (bu b) (.int 2) μ=.ok (.tup (b.lamps.map eLamp)) μ:=rfl
theorem Kh{b:Book}{μ:Sto}:ixD (bu b) (.int 3) μ=.ok (.tup (b.days.map c7)) μ:=rfl
theorem Oq{b:Lamp}{μ:Sto}:ixD (eLamp b) (.int 2) μ=.ok (az b.away) μ:=rfl
structure Wf (b:Book):Prop where
 store:0<=b.store/\b.store<=10 ^ 30
 oil:0<=b.oil/\b.oil<=10 ^ 30
 lamps:1<=b.lamps.length/\b.lamps.length<=8
 days:1<=b.days.length/\b.days.length<=16
 lamp:∀l∈b.lamps,(0<=l.tank/\l.tank<=10 ^ 30)/\(0<=l.oil/\l.oil<=l.tank)/\l.away.Pairwise (· < ·)/\∀a∈l.away,0<=a/\a<b.days.length
 day:∀d∈b.days,(0<=d.boat/\d.boat<=10 ^ 30)/\(0<=d.most/\d.most<=10 ^ 30)/\(0<=d.price/\d.price<=10 ^ 15)/\(1<=d.length/\d.length<=10 ^ 15)/\0<=d.wanted/\d.wanted<=b.lamps.length
noncomputable def yg(turn:Int)(days:Nat):List Int:=((List.range days).filter λk=>turn / 2 ^ (k+1) % 2=1).map fun(k:Nat)=>(k:Int)
noncomputable def oh(days:Nat)(cs:List Int):Lamp×List Int :=
 let tank:=jl (cs.headD 0) (10 ^ 30)
 (⟨tank,min tank (jl (cs.tail.headD 0) (10 ^ 30)),if bo (cs.tail.tail.headD 0) % 2=1 then yg (bo (cs.tail.tail.headD 0)) days else []⟩,cs.tail.tail.tail)
noncomputable def C1(lamps:Nat)(cs:List Int):Day×List Int :=
 (⟨jl (cs.headD 0) (10 ^ 30),jl (cs.tail.headD 0) (10 ^ 30),jl (cs.tail.tail.headD 0) (10 ^ 15),max 1 (jl (cs.tail.tail.tail.headD 0) (10 ^ 15)),bo (cs.tail.tail.tail.tail.headD 0) % (lamps+1)⟩,cs.tail.tail.tail.tail.tail)
section
variable{n:Nat}{μ ρ:Sto}
theorem p30:opI .Pow 10 30 μ=.ok (.int (10 ^ 30)) μ:=op_pow (by decide)
theorem p15:opI .Pow 10 15 μ=.ok (.int (10 ^ 15)) μ:=op_pow (by decide)
theorem Gi(hr:∀cs,jd (Lf cs::ρ))(cs:List Int)(days:Nat)(hd:days<=100) :
  ao GL (n+3) je [.loc 0,.int days] (Lf cs::ρ)=.ok (eLamp (oh days cs).1) (Lf (oh days cs).2::ρ):=by
 rw[ak yb,run_eq rfl]
 have hr':=hr
 have f2:∀(x:Int) μ,opI .Mod x 2 μ=.ok (.int (x % 2)) μ:=λx μ=>op_mod (by decide)
 have m30:(0:Int)<=10 ^ 30:=by decide
 by_cases h1:bo (cs.tail.tail.headD 0) % 2=1
 ·have hc:∀μ,fg (ao GL (n+2)) .z (.one 1) ij dj
    [some (.int (bo (cs.tail.tail.headD 0))),none] ((List.range days).map fun(k:Nat)=>D.int k,none) μ=.ok (.lst ((yg (bo (cs.tail.tail.headD 0)) days).map D.int)) μ:=λμ=>by
   rw[mz (en:=fun(k:Nat)=>D.int k) (g:=fun(k:Nat)=>D.int k) (p:=λk=>decide (bo (cs.tail.tail.headD 0) / 2 ^ (k+1) % 2=1))]
   ·simp![mkL,yg,BU];rfl
   ·intro k _
    simp! only[my,ij,dj,op_shr (show(0:Int)<=(k:Int)+1 by lia),f2]
    have e:((k:Int)+1).toNat=k+1:=by lia
    rw[e]
    by_cases hk:bo (cs.tail.tail.headD 0) / 2 ^ (k+1) % 2=1
    ·simp! only[dj,hk,if_true]
    ·simp! only[dj,hk,if_false,CH]
  simp! only[D_law_lamp,nk hr,i4 (hr' _),k6 (hr' _) _ _ m30,p30,f2,h1,j5 (show days<=1000000 by lia),hc,bt_tuple bh,oh,if_true,eLamp,az]
 ·simp! only[D_law_lamp,nk hr,i4 (hr' _),k6 (hr' _) _ _ m30,p30,f2,h1,oh,if_false,eLamp,az]
theorem Ki(hr:∀cs,jd (Lf cs::ρ))(cs:List Int)(lamps:Nat) :
  ao GL (n+3) j6 [.loc 0,.int lamps] (Lf cs::ρ)=.ok (c7 (C1 lamps cs).1) (Lf (C1 lamps cs).2::ρ):=by
 rw[ak Av,run_eq rfl]
 have hr':=hr
 have m30:(0:Int)<=10 ^ 30:=by decide
 have m15:(0:Int)<=10 ^ 15:=by decide
 simp! only[D_law_day,nk hr,i4 (hr' _),k6 (hr' _) _ _ m30,k6 (hr' _) _ _ m15,p30,p15,op_mod (show(0:Int)<(lamps:Int)+1 by lia),C1,c7]
theorem oy(l:Lamp):(eLamp l).pure=true:=j7 l
theorem sh(l:Day):(c7 l).pure=true:=qj l
noncomputable def ff(h:Int):Nat:=if h / 12 % 5=1 then(1+h / 60 % 8).toNat else(1+h % 3).toNat
noncomputable def k7(h:Int):Nat:=if h / 12 % 5=1 then(1+h / 480 % 16).toNat else(1+h / 3 % 4).toNat
theorem si(h:Int):1<=ff h/\ff h<=8:=by
 unfold ff
 split<;>lia
theorem vp(h:Int):1<=k7 h/\k7 h<=16:=by
 unfold k7
 split<;>lia
noncomputable def qk(cs:List Int):Book×List Int :=
 let h:=bo (cs.headD 0)
 let ls:=many (oh (k7 h)) (ff h) cs.tail.tail.tail
 let ds:=many (C1 (ff h)) (k7 h) ls.2
 (⟨jl (cs.tail.headD 0) (10 ^ 30),jl (cs.tail.tail.headD 0) (10 ^ 30),ls.1,ds.1⟩,ds.2)
theorem Gj(hr:∀cs,jd (Lf cs::ρ))(cs:List Int) :
  ao GL (n+4) jf [.loc 0] (Lf cs::ρ)=.ok (bu (qk cs).1) (Lf (qk cs).2::ρ):=by
 rw[ak yc,run_eq rfl]
 have hr':=hr
 have m30:(0:Int)<=10 ^ 30:=by decide
 have fm:∀(x y:Int) μ,0<y->opI .Mod x y μ=.ok (.int (x % y)) μ:=λx y μ h=>op_mod h
 have fd:∀(x y:Int) μ,0<y->y<1073741824->opI .FloorDiv x y μ=.ok (.int (x / y)) μ:=λx y μ h h2=>vn h h2
 have L:=si (bo (cs.headD 0))
 have Y:=vp (bo (cs.headD 0))
 have cl:∀(k:Nat) (cs':List Int) (days:Nat),days<=16->fg (ao GL (n+3)) .z (.one 2) .nil fh [some (.loc 0),some (.int days),none] ((List.range k).map fun(j:Nat)=>D.int j,none) (Lf cs'::ρ)
   = .ok (.lst ((many (oh days) k cs').1.map eLamp)) (Lf (many (oh days) k cs').2::ρ):=λk cs' days hd=>by
  have e:=se (m:=.z) (φ:=ao GL (n+3)) (tg:=.one 2) (cs:=.nil) (elt:=fh) (σ0:=[some (.loc 0),some (.int days),none]) (ds:=(List.range k).map fun(j:Nat)=>D.int j)
   (enS:=λcs=>Lf cs::ρ) (en:=eLamp) (G:=oh days) (s:=cs') λd _ s=>by
    simp! only[my,fh,aq (Gi (n:=n) hr s days (by lia)) (oy _) rfl (hr' _)]
  simp![AV,List.length_range]at e
  exact e
 have cy:∀(k:Nat) (cs':List Int) (lamps:Nat),fg (ao GL (n+3)) .z (.one 2) .nil fi [some (.loc 0),some (.int lamps),none] ((List.range k).map fun(j:Nat)=>D.int j,none) (Lf cs'::ρ)
   = .ok (.lst ((many (C1 lamps) k cs').1.map c7)) (Lf (many (C1 lamps) k cs').2::ρ):=λk cs' lamps=>by
  have e:=se (m:=.z) (φ:=ao GL (n+3)) (tg:=.one 2) (cs:=.nil) (elt:=fi) (σ0:=[some (.loc 0),some (.int lamps),none]) (ds:=(List.range k).map fun(j:Nat)=>D.int j)
   (enS:=λcs=>Lf cs::ρ) (en:=c7) (G:=C1 lamps) (s:=cs') λd _ s=>by
    simp! only[my,fi,aq (Ki (n:=n) hr s lamps) (sh _) rfl (hr' _)]
  simp![AV,List.length_range]at e
  exact e
 by_cases h1:bo (cs.headD 0) / 12 % 5=1
 ·have e1:1+bo (cs.headD 0) / 60 % 8=(ff (bo (cs.headD 0)):Int):=by unfold ff;rw[if_pos h1];lia
  have e2:1+bo (cs.headD 0) / 480 % 16=(k7 (bo (cs.headD 0)):Int):=by unfold k7;rw[if_pos h1];lia
  simp! only[D_law_book,nk hr,i4 (hr' _),k6 (hr' _) _ _ m30,p30,fm _ _ _ (show(0:Int)<3 by decide),fm _ _ _ (show(0:Int)<4 by decide),fm _ _ _ (show(0:Int)<5 by decide),fm _ _ _ (show(0:Int)<8 by decide),fm _ _ _ (show(0:Int)<16 by decide),
   fd _ _ _ (show(0:Int)<3 by decide) (by decide),fd _ _ _ (show(0:Int)<12 by decide) (by decide),fd _ _ _ (show(0:Int)<60 by decide) (by decide),fd _ _ _ (show(0:Int)<480 by decide) (by decide),h1,e1,e2,j5 (show ff (bo (cs.headD 0))<=1000000 by lia),j5 (show k7 (bo (cs.headD 0))<=1000000 by lia),cl _ _ _ Y.2,cy,bt_tuple bh,qk,bu]
 ·have e1:1+bo (cs.headD 0) % 3=(ff (bo (cs.headD 0)):Int):=by unfold ff;rw[if_neg h1];lia
  have e2:1+bo (cs.headD 0) / 3 % 4=(k7 (bo (cs.headD 0)):Int):=by unfold k7;rw[if_neg h1];lia
  simp! only[D_law_book,nk hr,i4 (hr' _),k6 (hr' _) _ _ m30,p30,fm _ _ _ (show(0:Int)<3 by decide),fm _ _ _ (show(0:Int)<4 by decide),fm _ _ _ (show(0:Int)<5 by decide),
   fd _ _ _ (show(0:Int)<3 by decide) (by decide),fd _ _ _ (show(0:Int)<12 by decide) (by decide),h1,e1,e2,j5 (show ff (bo (cs.headD 0))<=1000000 by lia),j5 (show k7 (bo (cs.headD 0))<=1000000 by lia),cl _ _ _ Y.2,cy,bt_tuple bh,qk,bu]
theorem C2(t:Int)(n:Nat):(yg t n).Pairwise (· < ·)/\∀a∈yg t n,0<=a/\a<n:=by
 unfold yg
 constructor
 ·rw[List.pairwise_map]
  refine List.Pairwise.filter _ ?_
  exact List.pairwise_lt_range.imp λh=>by lia
 ·intro a ha
  obtain⟨k,hk,rfl⟩:=BS.mp ha
  have:=GY.mp (GM.mp hk).1
  lia
theorem C3(cs:List Int):Wf (qk cs).1:=by
 have L:=si (bo (cs.headD 0))
 have Y:=vp (bo (cs.headD 0))
 have z30:(1:Int)<=10 ^ 30:=by decide
 have z15:(1:Int)<=10 ^ 15:=by decide
 have hd:(qk cs).1.days.length=k7 (bo (cs.headD 0)):=qf _ _ _
 have hl:(qk cs).1.lamps.length=ff (bo (cs.headD 0)):=qf _ _ _
 refine⟨gf z30,gf z30,by rw[hl];exact L,by rw[hd];exact Y,?_,?_⟩
 ·rw[hd]
  refine qg (P:=λl:Lamp=>(0<=l.tank/\l.tank<=10 ^ 30)/\(0<=l.oil/\l.oil<=l.tank)/\l.away.Pairwise (· < ·)/\∀a∈l.away,0<=a/\a<((k7 (bo (cs.headD 0)):Nat):Int)) (λs=>?_) _ _
  have s1:=gf (c:=s.headD 0) z30
  have s2:=gf (c:=s.tail.headD 0) z30
  refine⟨s1,?_,?_⟩
  ·simp![oh];lia
  ·simp![oh]
   split
   ·exact C2 _ _
   ·exact⟨.nil,λa h=>by simp at h⟩
 ·rw[hl]
  refine qg (P:=λd:Day=>(0<=d.boat/\d.boat<=10 ^ 30)/\(0<=d.most/\d.most<=10 ^ 30)/\(0<=d.price/\d.price<=10 ^ 15)/\(1<=d.length/\d.length<=10 ^ 15)/\0<=d.wanted/\d.wanted<=((ff (bo (cs.headD 0)):Nat):Int)) (λs=>?_) _ _
  have s1:=gf (c:=s.tail.tail.tail.headD 0) z15
  have w1:0<=bo (s.tail.tail.tail.tail.headD 0) % ((ff (bo (cs.headD 0)):Nat)+1:Int):=ER _ (by lia)
  have w2:bo (s.tail.tail.tail.tail.headD 0) % ((ff (bo (cs.headD 0)):Nat)+1:Int)<(ff (bo (cs.headD 0)):Nat)+1:=FE _ (by lia)
  refine⟨gf z30,gf z30,gf z15,?_,?_⟩
  ·simp![C1];lia
  ·simp![C1];lia
end
open PySem
theorem Ax(ns:List Int):mkL .l (ns.map D.int).reverse []=.ok (.loc 0) [Lf ns]:=by
 have hall:(ns.map D.int).reverse.all (D.pureN 8)=true:=by
  rw[<-List.map_reverse,DM,AT]
  exact λ_ _=>rfl
 simp![mkL,hall,if_true,Lf,List.map_reverse,AZ,GQ]
theorem yh{μ:Sto}{ds:List D}:listOf μ (.lst ds)=some ds:=rfl
theorem deqs_self{k:Nat}(ih:∀d:D,D.pureN k d=true->deq d d=true):∀ds:List D,ds.all (D.pureN k)=true->vd ds ds=true
 | [],_=>by rw[vd]
 |d::r,h=>by
  simp![BI,AY]at h
  rw[vd,ih d h.1,deqs_self ih r h.2];rfl
theorem j8:∀(k:Nat) (d:D),D.pureN k d=true->deq d d=true
 |0,d,h=>by cases d<;>simp_all[D.pureN,deq]
 |k+1,d,h=>by
  cases d with
  |tup ds=>rw[deq];exact deqs_self (j8 k) ds h
  |lst ds=>rw[deq];exact deqs_self (j8 k) ds h
  |loc n=>simp[D.pureN]at h
  |_=>simp[deq]
theorem C4(xs:List D)(k:Nat):cut xs none (some (k:Int))=xs.take k:=by
 simp![cut,sIx]
 rw[if_neg (by lia)]
 simp[List.take_eq_take_iff]
theorem ji(xs:List D)(k:Nat):cut xs (some (k:Int)) none=xs.drop k:=by
 simp![cut,sIx]
 rw[if_neg (by lia)]
 by_cases h:k<=xs.length
 ·rw[DK,Nat.min_eq_left h,BC (by simp)]
 ·rw[DK,Nat.min_eq_right (by lia),List.drop_eq_nil_of_le (show xs.length<=k by lia)];simp
section
variable{n:Nat}{μ ρ:Sto}{m:Mk}{φ:Phi}{σ:Sl}{es:Exs}
theorem Gk{xs:List D}{k:Nat}:slD m (.tup xs) none (some (k:Int)) μ=.ok (.tup (xs.take k)) μ:=by rw[slD,C4]
theorem Gm{xs:List D}{k:Nat}:slD m (.tup xs) (some (k:Int)) none μ=.ok (.tup (xs.drop k)) μ:=by rw[slD,ji]
theorem Q4{xs:List D}:slD m (.tup xs) none (some 2) μ=.ok (.tup (xs.take 2)) μ:=Gk (k:=2)
theorem Kj{xs:List D}:slD m (.tup xs) (some 1) none μ=.ok (.tup (xs.drop 1)) μ:=Gm (k:=1)
theorem vq{ns:List Int}:Bc .tuple (az ns) μ=.ok (.bl true) μ:=rfl
theorem Kk{xs:List D}:Bc .tuple (.tup xs) μ=.ok (.bl true) μ:=rfl
theorem k8{f:Nat}{ds:List D}{d:D}(h:φ f ds μ=.ok d (μ++ρ))(hd:d.pure=true)(hr:jd μ):f9 φ false f ds μ=.ok d μ:=by
 rw[f9,h]
 have e:(μ++ρ).take μ.length=μ:=by simp
 have hr':μ.all (eo μ.length)=true:=hr
 simp![km,CH,if_false,e,jc _ 8 d hd,hr',and_self,if_true]
theorem qm{o:O}:(μ++[o])[μ.length]? = some o:=by simp
theorem vt{o o':O}:(μ++[o]).set μ.length o'=μ++[o']:=by simp
theorem K9{ds:List D}(h:ds.all (D.pureN 8)=true):mkL .l ds μ=.ok (.loc μ.length) (μ++[.l ds]):=by simp![mkL,h,if_true]
theorem Ay{mt:Mt}{ds:List D}(h:∀d μ,iy mt d μ=(Lp.listOf μ d).isSome):kM φ mt es σ (.loc μ.length) (μ++[.l ds])=(du φ es σ (μ++[.l ds])).bind (mtD mt (.loc μ.length)):=by
 refine Gb ?_
 rw[h]
 simp![Lp.listOf,qm];rfl
theorem Az{ds:List D}:kM φ .append es σ (.loc μ.length) (μ++[.l ds])=(du φ es σ (μ++[.l ds])).bind (mtD .append (.loc μ.length)):=Ay λ_ _=>rfl
theorem D0{ds:List D}{d:D}(hd:d.pure=true)(hl:ds.length<1000000):mtD .append (.loc μ.length) [d] (μ++[.l ds])=.ok .non (μ++[.l (ds++[d])]):=by
 have:=kj
 simp![mtD,t6,qm,ll,mtL,dy,fits,hd,putL,vt]
 rw[if_pos ⟨trivial,by lia⟩]
theorem uw{α:Type}{tg:Tg}{b:Sms}{xs:List α}{en:α->D}(I:Nat->Sl->Sto->Prop)(h0:I 0 σ μ)(st:∀(k:Nat) a σ μ,xs[k]? = some a->I k σ μ->∃σ' μ',fLp φ tg b (en a) σ μ=.ok (.nx σ') μ'/\I (k+1) σ' μ') :
  ∃σ' μ',As φ tg b σ (xs.map en,none) μ=.ok (.nx σ') μ'/\I xs.length σ' μ':=by
 obtain⟨σ',μ',e,i⟩:=qd (f:=fLp φ tg b) I (ds:=xs.map en) (σ:=σ) (μ:=μ) 0 h0 λj d σ μ' e i=>by
  rw[BX]at e
  cases ex:xs[j]? with
  |none=>rw[ex]at e;cases e
  |some a =>
   rw[ex]at e
   cases e
   obtain⟨σ',μ'',e',i'⟩:=st j a σ μ' ex (by simpa using i)
   exact⟨σ',μ'',e',by simpa using i'⟩
 exact⟨σ',μ',e,by simpa using i⟩
theorem sj{α:Type}{tg:Tg}{cs:Exs}{elt:Ex}{σ0:Sl}{xs:List α}{en:α->D}(h:∀a∈xs,my φ tg cs elt σ0 (en a) μ=.ok [] μ):fg φ m tg cs elt σ0 (xs.map en,none) μ=mkL m [] μ:=by
 have e:xs.filter (λ_=>false)=[]:=List.filter_eq_nil_iff.mpr λa _=>by simp
 rw[mz (g:=en) (p:=λ_=>false) λa ha=>by rw[h a ha];rfl,e,DB]
theorem ux(hr:jd μ)(ns:List Int):ao GL (n+2) a7 [az ns] μ=.ok (.bl true) μ:=by
 rw[ak nh,run_eq rfl]
 have hc:fg (ao GL (n+1)) .z (.one 0) dk gb [none] (ns.map D.int,none) μ=.ok (.lst []) μ:=by
  rw[sj λa _=>by simp! only[my,dk,C0 hr]]
  rfl
 have ks:kSeq (az ns) μ=.ok (ns.map D.int,none) μ:=rfl
 simp! only[D_law_all_whole,ks,hc,bt_len bh,AZ,Int.natCast_zero]
theorem jy(hr:jd μ)(ns:List Int):f9 (ao GL (n+2)) false a7 [az ns] μ=.ok (.bl true) μ:=aq (ux hr ns) rfl rfl hr
theorem uy(hr:jd μ)(b:Book):ao GL (n+3) cf [bu b,bu b] μ=.ok (.bl true) μ:=by
 rw[ak ni,run_eq rfl]
 have ene:cpD .ne (bu b) (bu b) μ=.ok (.bl false) μ:=by rw[x5 (gz b) (gz b),j8 8 _ (gz b)];rfl
 have e4:(4:Int)=((4:Nat):Int):=rfl
 have eb:bu b=.tup [.int b.store,.int b.oil,.tup (b.lamps.map eLamp),.tup (b.days.map c7)]:=rfl
 have t2:List.take 2 [D.int b.store,.int b.oil,.tup (b.lamps.map eLamp),.tup (b.days.map c7)]=[b.store,b.oil].map D.int:=rfl
 have wd:∀d:Day,c7 d=az [d.boat,d.most,d.price,d.length,d.wanted]:=λd=>rfl
 have hc:fg (ao GL (n+2)) .z (.one 0) dn gc [none] (b.days.map c7,none) μ=.ok (.lst []) μ:=by
  rw[sj λd _=>by simp! only[my,dn,wd,vq,jy hr]]
  rfl
 obtain⟨σ',el,v,rfl⟩:=qe (φ:=ao GL (n+2)) (μ:=μ) (tg:=.one 2) (b:=dm) (xs:=b.lamps) (en:=eLamp) (σ:=[some (bu b),some (bu b),none]) (λ_ σ=>∃v,σ=[some (bu b),some (bu b),v]) ⟨none,rfl⟩ (by
  rintro k l σ hl ⟨v,rfl⟩
  refine⟨[some (bu b),some (bu b),some (eLamp l)],?_,_,rfl⟩
  have e2:eLamp l=.tup [.int l.tank,.int l.oil,az l.away]:=rfl
  have t2:List.take 2 [D.int l.tank,.int l.oil,az l.away]=[l.tank,l.oil].map D.int:=rfl
  have s2:slD .z (eLamp l) none (some 2) μ=.ok (az [l.tank,l.oil]) μ:=by rw[e2,Q4,t2];rfl
  have i1:Bc .tuple (eLamp l) μ=.ok (.bl true) μ:=rfl
  simp! only[fLp,dm,i1,s2,jy hr,Oq,vq])
 have s2:slD .z (bu b) none (some 2) μ=.ok (az [b.store,b.oil]) μ:=by rw[eb,Q4,t2];rfl
 have i0:Bc .tuple (bu b) μ=.ok (.bl true) μ:=rfl
 have ln:btD .len .z [bu b] μ=.ok (.int 4) μ:=rfl
 simp! only[D_law_same_book,i0,ln,ene,s2,jy hr,Kg,Kh,Kk,el,hc,bt_len bh,AZ,Int.natCast_zero]
theorem uz(hr:jd μ)(b:Book):f9 (ao GL (n+3)) false cf [bu b,bu b] μ=.ok (.bl true) μ:=aq (uy hr b) rfl rfl hr
theorem C5{b:Book}{i j k l:Nat}{σ:Sl}:dq (.many [i,j,k,l]) (bu b) σ=some ((((σ.set i (some (.int b.store))).set j (some (.int b.oil))).set k (some (.tup (b.lamps.map eLamp)))).set l (some (.tup (b.days.map c7)))):=rfl
end
open PySem
noncomputable def sq(b:Bool)(ds:List D):D:=match b with
 |true=>.lst ds
 |false=>.tup ds
section
variable{n:Nat}{μ ρ:Sto}{b:Bool}{m:Mk}
theorem Ot{ds:List D}:slD .z (sq b ds) (some 1) none μ=.ok (sq b (ds.drop 1)) μ:=by
 cases b
 ·exact Kj
 ·show mkL .z (cut ds (some ((1:Nat):Int)) none) μ=_
  rw[ji];rfl
theorem A0{w:Str}:ao GL (n+1) ag [.bl true,.str w] μ=.ok .non μ:=by
 rw[ak ng,run_eq rfl]
 simp! only[D_refuse_unless]
theorem nq(hr:jd μ){w:Str}:f9 (ao GL (n+1)) false ag [.bl true,.str w] μ=.ok .non μ:=aq A0 rfl rfl hr
theorem yi{x:Int}(h:0<=x/\x<=10 ^ 30):ao GL (n+1) bq [.int x] μ=.ok (.bl true) μ:=by
 rw[ak sf,run_eq rfl]
 simp! only[D_is_measure,p30,h.1,h.2]
theorem g6(hr:jd μ){x:Int}(h:0<=x/\x<=10 ^ 30):f9 (ao GL (n+1)) false bq [.int x] μ=.ok (.bl true) μ:=aq (yi h) rfl rfl hr
theorem nr:∀{ns:List Int},ns.Pairwise (· < ·)->∀p∈ns.zip (ns.drop 1),p.1<p.2
 | [],_,p,hp=>by simp at hp
 | [a],_,p,hp=>by simp at hp
 |a::c::r,h,p,hp=>by
  rcases AJ.mp hp with rfl | hp
  ·exact(FF.mp h).1 c AR
  ·exact nr (FF.mp h).2 p hp
noncomputable def Kl(l:Lamp)(many:Nat):Prop:=(0<=l.tank/\l.tank<=10 ^ 30)/\(0<=l.oil/\l.oil<=l.tank)/\l.away.Pairwise (· < ·)/\∀a∈l.away,0<=a/\a<many
noncomputable def Ou(d:Day)(many:Nat):Prop:=(0<=d.boat/\d.boat<=10 ^ 30)/\(0<=d.most/\d.most<=10 ^ 30)/\(0<=d.price/\d.price<=10 ^ 15)/\(1<=d.length/\d.length<=10 ^ 15)/\0<=d.wanted/\d.wanted<=many
theorem Gn{d:Day}{i j k l p:Nat}{σ:Sl}:dq (.many [i,j,k,l,p]) (c7 d) σ=some (((((σ.set i (some (.int d.boat))).set j (some (.int d.most))).set k (some (.int d.price))).set l (some (.int d.length))).set p (some (.int d.wanted))):=rfl
theorem Gp{l:Day}:btD .len .z [c7 l] μ=.ok (.int 5) μ:=rfl
theorem yj(hr:jd μ){d:Day}{many:Nat}(h:Ou d many):ao GL (n+2) jg [c7 d,.int many] μ=.ok (c7 d) μ:=by
 rw[ak yd,run_eq rfl]
 obtain⟨h1,h2,h3,h4,h5⟩:=h
 simp! only[D_made_day,Gp,nq hr,Gn,g6 hr h1,g6 hr h2,p15,h3.1,h3.2,h4.1,h4.2,h5.1,h5.2]
 rfl
end
open PySem
section
variable{n:Nat}{μ ρ:Sto}{m:Mk}{φ:Phi}
noncomputable def At(μ:Sto)(A:D)(ds:List D):Prop:=∃g,aw μ A=some (ds,g)/\gd g μ
theorem Km{ds:List D}:At μ (.tup ds) ds:=⟨none,rfl,trivial⟩
theorem Q5{k:Nat}{ds:List D}(h:μ[k]? = some (.l ds)):At μ (.loc k) ds:=⟨some (k,.l ds),by simp![aw,h],h⟩
theorem C6{A:D}{ds:List D}{g:Gd}(h:aw μ A=some (ds,g)):cw μ A=some ds:=by
 cases A with
 |loc k =>
  simp![aw]at h
  simp![cw]
  cases e:μ[k]? with
  |none=>rw[e]at h;cases h
  |some o=>rw[e]at h;cases o<;>first | (cases h;rfl) | cases h
 |_=>simp_all[aw,cw]
theorem At.seq{A:D}{ds:List D}(h:At μ A ds):cw μ A=some ds:=let ⟨_,h,_⟩:=h;C6 h
theorem At.slice{A:D}{ds:List D}(h:At μ A ds):∃B,slD .z A (some 1) none μ=.ok B μ/\cw [] B=some (ds.drop 1):=by
 obtain⟨g,h,_⟩:=h
 cases A with
 |tup es =>
  simp![aw,BB,DR]at h
  obtain⟨rfl,_⟩:=h
  exact⟨_,Kj,rfl⟩
 |lst es =>
  simp![aw,BB,DR]at h
  obtain⟨rfl,_⟩:=h
  exact⟨_,Ot (b:=true),rfl⟩
 |loc k =>
  have hl:Lp.listOf μ (.loc k)=some ds:=by
   simp![aw]at h
   simp![Lp.listOf]
   cases e:μ[k]? with
   |none=>rw[e]at h;cases h
   |some o=>rw[e]at h;cases o<;>first | (cases h;rfl) | cases h
  refine⟨.lst (ds.drop 1),?_,rfl⟩
  simp![slD,hl]
  rw[show(some 1:Option Int)=some ((1:Nat):Int)from rfl,ji];rfl
 |_=>simp[aw]at h
theorem j9{α:Type}{tg:Tg}{cs:Exs}{elt:Ex}{σ0:Sl}{xs:List α}{en:α->D}{g:α->D}{g0:Gd}(hg:gd g0 μ)(h:∀a∈xs,my φ tg cs elt σ0 (en a) μ=.ok [g a] μ):fg φ m tg cs elt σ0 (xs.map en,g0) μ=mkL m (xs.map g) μ:=by
 have e:mapR g0 (my φ tg cs elt σ0) (xs.map en) μ=.ok (xs.map g) μ:=by
  induction xs with
  |nil=>simp[mapR,hg]
  |cons a r ih =>
   simp![BL,mapR,hg,if_true,h a AR,Res.cb,ih λx hx=>h x (AO _ hx),List.singleton_append]
 rw[fg,e];rfl
theorem A1{A:D}{ns:List Int}(h:ns.Pairwise (· < ·))(hA:At μ A (ns.map D.int)):ao GL (n+1) qh [A] μ=.ok (.bl true) μ:=by
 rw[ak Ge,run_eq rfl]
 obtain⟨B,hB,hs⟩:=hA.slice
 obtain⟨g,hw,hg⟩:=hA
 have hz:Cu A B μ=.ok (((ns.map D.int).zip ((ns.map D.int).drop 1)).map λp=>.tup [p.1,p.2],g) μ:=by simp![Cu,hw,hs]
 have hc:fg (ao GL n) .z (.many [0,1]) .nil kz [none,none] (((ns.map D.int).zip ((ns.map D.int).drop 1)).map λp=>.tup [p.1,p.2],g) μ=.ok (.lst (((ns.zip (ns.drop 1)).map λ_=>true).map D.bl)) μ:=by
  have e:(((ns.map D.int).zip ((ns.map D.int).drop 1)).map λp=>D.tup [p.1,p.2])=(ns.zip (ns.drop 1)).map λp:Int×Int=>D.tup [.int p.1,.int p.2]:=by
   rw[<-List.map_drop,List.zip_map,BU];rfl
  rw[e,j9 hg (g:=λ_=>D.bl true) λp hp=>by
   have hlt:=nr h p hp
   simp! only[my,kz,hlt]]
  rw[og,BU];rfl
 have ha:((ns.zip (ns.drop 1)).map λ_=>true).all id=true:=by simp
 simp! only[D_rises,hB,hz,hc,bt_all bh (ky _),ha]
noncomputable def u0(p:Lamp×D):D:=.tup [.int p.1.tank,.int p.1.oil,p.2]
theorem A2{p:Lamp×D}{i j k:Nat}{σ:Sl}:dq (.many [i,j,k]) (u0 p) σ=some (((σ.set i (some (.int p.1.tank))).set j (some (.int p.1.oil))).set k (some p.2)):=rfl
theorem A3{p:Lamp×D}:btD .len .z [u0 p] μ=.ok (.int 3) μ:=rfl
theorem sk(hr:jd μ){p:Lamp×D}{many:Nat}(h:Kl p.1 many)(hA:At μ p.2 (p.1.away.map D.int)):ao GL (n+2) h9 [u0 p,.int many] μ=.ok (eLamp p.1) μ:=by
 rw[ak um,run_eq rfl]
 obtain⟨l,A⟩:=p
 obtain⟨h1,h2,h3,h4⟩:=h
 have hsq:=hA.seq
 have hri:=A1 (n:=n) h3 hA
 obtain⟨g,hw,hg⟩:=hA
 have hk:kSeq A μ=.ok (l.away.map D.int,g) μ:=by simp![kSeq,hw]
 have hc:fg (ao GL (n+1)) .z (.one 1) .nil gm [some (.int many),none] (l.away.map D.int,g) μ=.ok (.lst ((l.away.map λ_=>true).map D.bl)) μ:=by
  rw[j9 hg (g:=λ_=>D.bl true) λa ha=>by
   have q:=h4 a ha
   simp! only[my,gm,q.1,q.2]]
  rw[og,BU];rfl
 have ha:(l.away.map λ_=>true).all id=true:=by simp
 simp! only[D_made_lamp,A3,nq hr,A2,g6 hr h1,h2.1,h2.2,hk,hc,bt_all bh (ky _),ha,aq hri rfl rfl hr,bt_tuple hsq,eLamp,az]
theorem sm(hr:jd μ){bk:Book}(hb:Wf bk){ps:List (Lamp×D)}{LS DS:D}(hps:ps.map (·.1)=bk.lamps)(hA:∀p∈ps,At μ p.2 (p.1.away.map D.int))(hL:At μ LS (ps.map u0))(hD:At μ DS (bk.days.map c7)) :
  ao GL (n+3) ia [.int bk.store,.int bk.oil,LS,DS] μ=.ok (bu bk) μ:=by
 rw[ak uo,run_eq rfl]
 have hlen:ps.length=bk.lamps.length:=by rw[<-hps];simp
 have h1:(1:Int)<=(ps.length:Nat):=by have:=hb.lamps;omega
 have h2:((ps.length:Nat):Int)<=8:=by have:=hb.lamps;omega
 have h3:(1:Int)<=(bk.days.length:Nat):=by have:=hb.days;omega
 have h4:((bk.days.length:Nat):Int)<=16:=by have:=hb.days;omega
 have sL:=hL.seq
 have sD:=hD.seq
 obtain⟨gl,wl,hgl⟩:=hL
 obtain⟨gd',wd,hgd⟩:=hD
 have kl:kSeq LS μ=.ok (ps.map u0,gl) μ:=by simp![kSeq,wl]
 have kd:kSeq DS μ=.ok (bk.days.map c7,gd') μ:=by simp![kSeq,wd]
 have c1:fg (ao GL (n+2)) .z (.one 1) .nil gn [some DS,none] (ps.map u0,gl) μ=.ok (.lst (bk.lamps.map eLamp)) μ:=by
  rw[j9 hgl (g:=λp=>eLamp p.1) λp hp=>by
   have hm:p.1∈bk.lamps:=by rw[<-hps];exact BS.mpr ⟨p,hp,rfl⟩
   simp! only[my,gn,bt_len sD,AV,aq (sk (n:=n) hr (hb.lamp p.1 hm) (hA p hp)) (oy _) rfl hr]]
  rw[og,<-hps,BU];rfl
 have c2:fg (ao GL (n+2)) .z (.one 1) .nil gp [some LS,none] (bk.days.map c7,gd') μ=.ok (.lst (bk.days.map c7)) μ:=by
  rw[j9 hgd (g:=c7) λd hd=>by
   have e:=hb.day d hd
   rw[<-hlen]at e
   simp! only[my,gp,bt_len sL,AV,aq (yj (n:=n) (many:=ps.length) hr e) (sh _) rfl hr]]
  rfl
 simp! only[D_made_book,g6 hr hb.store,g6 hr hb.oil,nq hr,bt_len sL,bt_len sD,AV,h1,h2,h3,h4,kl,kd,c1,c2,bt_tuple bh,bu]
end
open PySem
section
variable{n:Nat}{μ ρ:Sto}
theorem nu:∀(xs:List Int) (lo:Int) (n:Nat),xs.Pairwise (· < ·)->(∀a∈xs,lo<=a/\a<n)->lo<=n->(xs.length:Int)<=n-lo
 | [],lo,n,_,_,h=>by simp;omega
 |x::r,lo,n,hp,hb,h=>by
  have hx:=hb x AR
  have hp':=FF.mp hp
  have:=nu r (x+1) n hp'.2 (λa ha=>⟨by have:=hp'.1 a ha;omega,(hb a (AO _ ha)).2⟩) (by omega)
  simp;omega
end
open PySem
noncomputable def num(n:Int):List Nat:=(Str.ofString (toString n)).cps.toList
structure Num (n:Int) (l:List Nat):Prop where
 ne:l≠[]
 dig:∀c∈l,48<=c/\c<=57
 len:l.length<=31
 val:(valL l:Int)=n
 head:l=[48]\/∀r,l≠48::r
theorem vv(c:Nat)(r:List Nat):valL (c::r)=(c-48)*10 ^ r.length+valL r:=by
 have g:∀(r:List Nat) (a:Nat),r.foldl (λa c=>a*10+(c-48)) a=a*10 ^ r.length+valL r:=λr=>by
  induction r with
  |nil=>intro a;simp[valL]
  |cons d r ih =>
   intro a
   rw[EL,ih]
   show _=a*10 ^ (r.length+1)+(d::r).foldl (λa c=>a*10+(c-48)) 0
   rw[EL,ih,Nat.pow_succ,Nat.add_mul,Nat.zero_mul,Nat.zero_add,Nat.mul_assoc,Nat.mul_comm 10]
   lia
 show(c::r).foldl (λa c=>a*10+(c-48)) 0=_
 rw[EL,g];simp
theorem D1:∀(l:List Nat),(∀c∈l,48<=c/\c<=57)->valL l<10 ^ l.length
 | [],_=>by simp[valL]
 |c::r,h=>by
  have ih:=D1 r λx hx=>h x (AO _ hx)
  have hc:=h c AR
  rw[vv,AQ,Nat.pow_succ]
  have:(c-48)*10 ^ r.length<=9*10 ^ r.length:=BR _ (by lia)
  lia
theorem i5{n:Int}(h0:0<=n)(h1:n<=10 ^ 30):Num n (num n):=by
 obtain⟨m,rfl⟩:=Int.eq_ofNat_of_zero_le h0
 have e:num (m:Int)=(Nat.toDigits 10 m).map Char.toNat:=PySem.W.KIN.signs_num m
 have hd:∀c∈num (m:Int),48<=c/\c<=57:=λc hc=>by
  rw[e]at hc
  obtain⟨ch,hch,q⟩:=BS.mp hc
  have r:=PyProof.Rows.digit_range (Nat.isDigit_of_mem_toDigits (by decide) (by decide) hch)
  rw[<-q];exact r
 have hv:valL (num (m:Int))=m:=by rw[e];exact PySem.W.KIN.val_back m
 have hne:num (m:Int)≠[]:=by rw[e];simp[Nat.toDigits_ne_nil]
 have hl:∀k,0<k->((num (m:Int)).length<=k↔m<10 ^ k):=λk hk=>by
  rw[e,AV];exact Nat.length_toDigits_le_iff (by decide) hk
 refine⟨hne,hd,(hl 31 (by decide)).mpr ?_,by rw[hv],?_⟩
 ·have:(10:Nat) ^ 30<10 ^ 31:=by decide
  have:(m:Int)<=((10 ^ 30:Nat):Int):=by simpa using h1
  lia
 ·generalize num (m:Int)=l at *
  cases l with
  |nil=>exact absurd rfl hne
  |cons c r =>
   by_cases hc:c=48
   ·subst hc
    cases r with
    |nil=>exact .inl rfl
    |cons d r =>
     have lt:=D1 (d::r) λx hx=>hd x (AO _ hx)
     rw[vv]at hv
     have:=(hl (d::r).length (by simp)).mpr (by simp![Nat.sub_self,Nat.zero_mul,Nat.zero_add]at hv;lia)
     simp at this
     lia
   ·exact .inr λq z=>hc (by cases z;rfl)
noncomputable def bx(c:Nat)(w:List Nat)(ps:List (List Nat)):List Nat:=w++ps.flatMap λp=>c::p
theorem vw(c:Nat):∀(w:List Nat) (ps:List (List Nat)),Str.join ⟨#[c]⟩ (ofL w::ps.map ofL)=ofL (bx c w ps)
 |w,[]=>by
  show ofL w=_
  rw[bx];simp
 |w,p::ps=>by
  show ofL w++⟨#[c]⟩++Str.join ⟨#[c]⟩ (ofL p::ps.map ofL)=_
  rw[vw c p ps]
  refine r0 ?_
  rw[EA,EA,Da,Da,bf,bf,bf]
  simp[bx]
theorem i6(c:Nat):∀(w:List Nat) (ps:List (List Nat)),c∉w->(∀p∈ps,c∉p)->cz c (bx c w ps)=w::ps
 |w,[],h,_=>by
  rw[bx,List.flatMap_nil,EJ,jx c w h]
 |w,p::ps,h,hp=>by
  have e:bx c w (p::ps)=w++c::bx c p ps:=by simp[bx]
  rw[e,kr c _ w h,i6 c p ps (hp p AR) λx hx=>hp x (AO _ hx)]
theorem i7(c:Nat)(w:List Nat)(ps:List (List Nat)){k:Nat}(h:∀p∈ps,p.length<=k):(bx c w ps).length<=w.length+ps.length*(k+1):=by
 unfold bx
 rw[BA]
 have:(ps.flatMap λp=>c::p).length<=ps.length*(k+1):=by
  induction ps with
  |nil=>simp
  |cons p ps ih =>
   have:=ih λx hx=>h x (AO _ hx)
   have:=h p AR
   simp![List.flatMap_cons,BA,AQ,Nat.succ_mul]
   lia
 lia
theorem Gq{c x:Nat}{w:List Nat}{ps:List (List Nat)}:x∈bx c w ps↔x∈w\/∃p∈ps,x=c\/x∈p:=by simp[bx]
noncomputable abbrev awayP:List Nat:=[32,97,119,97,121,32]
theorem part_free(w r:List Nat)(h:32∉w):de awayP (w++r)=(de awayP r).map λq=>(w++q.1,q.2):=by
 induction w with
 |nil =>
  rw[GQ]
  cases de awayP r<;>rfl
 |cons x w ih =>
  rw[AJ,not_or]at h
  have e:List.isPrefixOf awayP (x::(w++r))=false:=by
   simp[List.isPrefixOf,h.1]
  rw[EE,de,e,ih h.2]
  cases de awayP r<;>rfl
theorem Gr(d:Nat)(r:List Nat)(h:d≠97):de awayP (32::d::r)=(de awayP (d::r)).map λq=>(32::q.1,q.2):=by
 have e:List.isPrefixOf awayP (32::d::r)=false:=by
  simp[List.isPrefixOf,Ne.symm h]
 rw[de,e]
 simp
theorem A4(r:List Nat):de awayP (awayP++r)=some ([],r):=by
 show de awayP (32::97::119::97::121::32::r)=_
 rw[de]
 simp[List.isPrefixOf]
noncomputable def C7(p:List Nat):Prop:=p≠[]/\∀c∈p,48<=c/\c<=57
theorem Num.fig{n:Int}{l:List Nat}(h:Num n l):C7 l:=⟨h.ne,h.dig⟩
theorem C7.no{p:List Nat}(h:C7 p):32∉p:=λz=>by have:=h.2 _ z;lia
theorem C7.no10{p:List Nat}(h:C7 p):10∉p:=λz=>by have:=h.2 _ z;lia
theorem sr(r:List Nat):∀(ps:List (List Nat)),(∀p∈ps,C7 p)->de awayP ((ps.flatMap λp=>32::p)++r)=(de awayP r).map λq=>((ps.flatMap λp=>32::p)++q.1,q.2)
 | [],_=>by cases h:de awayP r<;>simp[h]
 |p::ps,h=>by
  have hp:=h p AR
  obtain⟨d,q,rfl⟩:=FG hp.1
  have hd:=hp.2 d AR
  have e:((d::q)::ps).flatMap (λp=>32::p)++r=32::d::(q++((ps.flatMap λp=>32::p)++r)):=by simp
  rw[e,Gr _ _ (by lia),<-EE,part_free _ _ hp.no,sr r ps λx hx=>h x (AO _ hx)]
  cases de awayP r<;>simp
theorem vx{w r:List Nat}(hw:32∉w){ps:List (List Nat)}(h:∀p∈ps,C7 p):de awayP (bx 32 w ps++r)=(de awayP r).map λq=>(bx 32 w ps++q.1,q.2):=by
 rw[bx,Ev,part_free _ _ hw,sr r ps h]
 cases de awayP r<;>simp
theorem su{w:List Nat}(hw:32∉w){ps:List (List Nat)}(h:∀p∈ps,C7 p):de awayP (bx 32 w ps)=none:=by
 have:=vx (r:=[]) hw h
 rwa [EJ]at this
open PySem
theorem ka{b c:Nat}(h:b<=c):∀(k:Nat) (d:D),D.belowN b k d=true->D.belowN c k d=true
 |0,d,e=>by cases d<;>simp_all[D.belowN];lia
 |k+1,d,e=>by
  cases d with
  |tup ds =>
   simp![D.belowN,AT]at e ⊢
   exact λx hx=>ka h k x (e x hx)
  |lst ds =>
   simp![D.belowN,AT]at e ⊢
   exact λx hx=>ka h k x (e x hx)
  |loc n=>simp_all[D.belowN];lia
  |_=>rfl
section
variable{n:Nat}{μ ρ:Sto}{φ:Phi}{es:Exs}{σ:Sl}
theorem Kn{ds:List D}:kM φ .extend es σ (.loc μ.length) (μ++[.l ds])=(du φ es σ (μ++[.l ds])).bind (mtD .extend (.loc μ.length)):=Ay λ_ _=>rfl
theorem D2{ds ys:List D}(hd:ys.all D.pure=true)(hl:ds.length+ys.length<=1000000):mtD .extend (.loc μ.length) [.lst ys] (μ++[.l ds])=.ok .non (μ++[.l (ds++ys)]):=by
 have:=kj
 have hf:ys.all (fits (.l ds))=true:=hd
 simp![mtD,t6,qm,ll,mtL,dy,Lp.listOf,hf,putL,vt]
 rw[if_pos ⟨trivial,by lia⟩]
theorem A5(hr:jd μ)(ds:List D):jd (μ++[.l ds]):=by
 unfold jd at hr ⊢
 rw[AT]at hr ⊢
 intro o ho
 rcases CC.mp ho with h | h
 ·have:=hr o h
  cases o with
  |r xs =>
   simp![eo,AT]at this ⊢
   exact λx hx=>ka (by simp) 8 x (this x hx)
  |o _ _ =>
   simp![eo,AT]at this ⊢
   exact λx hx=>ka (by simp) 8 _ (this x hx)
  |dr _ =>
   simp![eo,AT]at this ⊢
   exact λx hx=>ka (by simp) 8 _ (this x hx)
  |_=>rfl
 ·simp![EZ]at h
  subst h;rfl
end
open PySem
noncomputable abbrev eS(l:List Nat):D:=.str (ofL l)
noncomputable abbrev wStore:List Nat:=[115,116,111,114,101]
noncomputable abbrev wLamp:List Nat:=[108,97,109,112]
noncomputable abbrev wDay:List Nat:=[100,97,121]
noncomputable abbrev wAway:List Nat:=[97,119,97,121]
theorem A6:Str.ofString "store"=ofL wStore:=by decide +kernel
theorem sv:Str.ofString "lamp"=ofL wLamp:=by decide +kernel
theorem C8:Str.ofString "day"=ofL wDay:=by decide +kernel
theorem Ko:Str.ofString "away"=ofL wAway:=by decide +kernel
theorem Be:Str.ofString " "=ofL [32]:=by decide +kernel
theorem Ov:Str.ofString "\n"=ofL [10]:=by decide +kernel
theorem C9:Str.ofString "store "=ofL [115,116,111,114,101,32]:=by decide +kernel
theorem A7:Str.ofString "lamp "=ofL [108,97,109,112,32]:=by decide +kernel
theorem Gs:Str.ofString " away"=ofL [32,97,119,97,121]:=by decide +kernel
theorem u3:Str.ofString " away "=ofL awayP:=by decide +kernel
theorem s_0:Str.ofString "0"=ofL [48]:=by decide +kernel
theorem i8(l:List Nat):(ofL l).length=l.length:=by simp[ofL,Str.length]
theorem A8{a b:List Nat}(h:ofL a=ofL b):a=b:=by rw[<-bf a,h,bf]
theorem Gu(a b:List Nat):ofL a++ofL b=ofL (a++b):=r0 (by rw[EA,Da,bf,bf,bf])
noncomputable def qq(n:Int):Prop:=0<=n/\n<=10 ^ 30
theorem sx:∀ps:List (List Nat),pd (ps.map eS)=some (ps.map ofL)
 | []=>rfl
 |p::ps=>by simp[pd,sx ps]
section
variable{n:Nat}{μ ρ:Sto}{φ:Phi}{σ:Sl}
theorem bt_strI{i:Int}(h:qq i):btD .strI .z [.int i] μ=.ok (eS (num i)) μ:=by
 have:(10:Int) ^ 30<10 ^ 60:=by decide
 simp![btD,dy,E1]
 rw[if_pos ⟨h.1,by have:=h.2;lia⟩,num]
 show _=Res.ok (D.str (ofL _)) μ
 rw[l6]
theorem c8{a b:List Nat}(h:a.length+b.length<=1000000):btD .catS .z [eS a,eS b] μ=.ok (eS (a++b)) μ:=by
 simp![btD,w8,i8,h,if_true,Gu]
theorem Gv(ps:List (List Nat)):(((ps.map ofL).map (·.length)).sum)=(ps.map List.length).sum:=by
 rw[BU]
 exact congrArg List.sum (List.map_congr_left λp _=>i8 p)
theorem A9{k:Nat}:∀(ps:List (List Nat)),(∀p∈ps,p.length<=k)->(ps.map List.length).sum<=ps.length*k
 | [],_=>by simp
 |p::ps,h=>by
  have:=A9 ps λx hx=>h x (AO _ hx)
  have:=h p AR
  simp![BL,List.sum_cons,AQ,Nat.succ_mul]
  lia
theorem vy{L:D}{c:Nat}{w:List Nat}{ps:List (List Nat)}(hL:Lp.listOf μ L=some ((w::ps).map eS)){k:Nat}(hk:∀p∈w::ps,p.length<=k)(hb:(ps.length+1)*(k+1)<=1000000):btD .joinS .z [eS [c],L] μ=.ok (eS (bx c w ps)) μ:=by
 simp![btD,rj,hL,GA,sx]
 have:=A9 (w::ps) hk
 rw[Nat.mul_succ]at hb
 rw[if_pos (by rw[Gv,AV,i8];simp![AQ,AZ]at *;lia)]
 show Res.ok (D.str (Str.join ⟨#[c]⟩ (ofL w::ps.map ofL))) μ=_
 rw[vw]
theorem f6{i:Int}(h:qq i):(num i).length<=31:=(i5 h.1 h.2).len
theorem jk{F:D}(w:List Nat)(hw:w.length<=31)(ns:List Int)(hn:ns.length<=100)(h:∀i∈ns,qq i)(hF:kSeq F μ=.ok (ns.map D.int,none) μ):ao GL (n+1) br [eS w,F] μ=.ok (eS (bx 32 w (ns.map num))) μ:=by
 rw[ak qi,run_eq rfl]
 have c1:fg (ao GL n) .z (.one 0) .nil eu [none] (ns.map D.int,none) μ=.ok (.lst ((ns.map num).map eS)) μ:=by
  rw[comp_map (en:=D.int) (g:=λi=>eS (num i)) λi hi=>by
   simp! only[my,eu,bt_strI (h i hi)]]
  rw[og,BU];rfl
 have cat:opD .Add .z (.lst [eS w]) (.lst ((ns.map num).map eS)) μ=.ok (.lst ((w::ns.map num).map eS)) μ:=by
  have:=kj
  simp![opD,Lp.listOf]
  rw[if_pos (by simp;lia)];rfl
 have jn:=vy (μ:=μ) (L:=.lst ((w::ns.map num).map eS)) (c:=32) (w:=w) (ps:=ns.map num) rfl (k:=31) (λp hp=>by
  rcases AJ.mp hp with rfl | hp
  ·exact hw
  ·obtain⟨i,hi,rfl⟩:=BS.mp hp
   exact f6 (h i hi)) (by rw[AV];have:=BR (31+1) (show ns.length+1<=101 by lia);lia)
 generalize (w::ns.map num).map eS=JD at *
 generalize (ns.map num).map eS=ND at *
 generalize ns.map D.int=ID at *
 simp! only[D_numbers_row,hF,c1,og,cat,Be,jn]
end
noncomputable def i9(l:Lamp):List (List Nat):=[num l.tank,num l.oil]++if l.away=[]then []else wAway::l.away.map num
noncomputable def a8(l:Lamp):List Nat:=bx 32 wLamp (i9 l)
noncomputable def nv(d:Day):List Int:=[d.boat,d.most,d.price,d.length,d.wanted]
noncomputable def kh(d:Day):List Nat:=bx 32 wDay ((nv d).map num)
noncomputable def storeR(b:Book):List Nat:=bx 32 wStore ([b.store,b.oil].map num)
noncomputable def bw(b:Book):List (List Nat):=b.lamps.map a8++b.days.map kh
noncomputable def jm(b:Book):List Nat:=bx 10 (storeR b) (bw b)
structure Wl (l:Lamp):Prop where
 tank:qq l.tank
 oil:qq l.oil
 away:∀a∈l.away,qq a
 few:l.away.length<=16
theorem ny{b:Book}(hb:Wf b){l:Lamp}(hl:l∈b.lamps):Wl l:=by
 obtain⟨h1,h2,h3,h4⟩:=hb.lamp l hl
 have:=hb.days
 have p:(16:Int)<=10 ^ 30:=by decide
 refine⟨h1,⟨h2.1,by lia⟩,λa ha=>⟨(h4 a ha).1,by have:=(h4 a ha).2;lia⟩,?_⟩
 have:=nu l.away 0 b.days.length h3 h4 (by lia)
 lia
theorem sy{b:Book}(hb:Wf b){d:Day}(hd:d∈b.days):∀i∈nv d,qq i:=by
 obtain⟨h1,h2,h3,h4,h5⟩:=hb.day d hd
 have:=hb.lamps
 have p:(10:Int) ^ 15<=10 ^ 30:=by decide
 have q:(8:Int)<=10 ^ 30:=by decide
 intro i hi
 simp![nv,AJ,AU,or_false]at hi
 rcases hi with rfl | rfl | rfl | rfl | rfl
 ·exact h1
 ·exact h2
 ·exact⟨h3.1,by lia⟩
 ·exact⟨by lia,by lia⟩
 ·exact⟨h5.1,by lia⟩
theorem Ba{l:Lamp}(h:Wl l):∀p∈i9 l,p.length<=31:=λp hp=>by
 unfold i9 at hp
 rcases CC.mp hp with z | z
 ·simp![AJ,AU,or_false]at z
  rcases z with rfl | rfl
  ·exact f6 h.tank
  ·exact f6 h.oil
 ·split at z
  ·cases z
  ·rcases AJ.mp z with rfl | z
   ·decide
   ·obtain⟨i,hi,rfl⟩:=BS.mp z
    exact f6 (h.away i hi)
theorem yk{l:Lamp}(h:Wl l):(i9 l).length<=19:=by
 unfold i9
 have:=h.few
 split<;>simp<;>lia
theorem kb{l:Lamp}(h:Wl l):(a8 l).length<=700:=by
 have:=i7 32 wLamp (i9 l) (Ba h)
 have:=BR (31+1) (yk h)
 have e:wLamp.length=4:=rfl
 unfold a8
 lia
theorem kc{ns:List Int}(h:∀i∈ns,qq i):∀p∈ns.map num,p.length<=31:=λp hp=>by
 obtain⟨i,hi,rfl⟩:=BS.mp hp
 exact f6 (h i hi)
theorem vz{d:Day}(h:∀i∈nv d,qq i):(kh d).length<=700:=by
 have:=i7 32 wDay _ (kc h)
 have e:((nv d).map num).length=5:=rfl
 have e2:wDay.length=3:=rfl
 unfold kh
 rw[e]at this
 lia
theorem k9{b:Book}(hb:Wf b):(storeR b).length<=700:=by
 have:=i7 32 wStore ([b.store,b.oil].map num) (kc (λi hi=>by
  simp![AJ,AU,or_false]at hi
  rcases hi with rfl | rfl
  ·exact hb.store
  ·exact hb.oil))
 have e2:wStore.length=5:=rfl
 unfold storeR
 simp![AV,AQ,AZ]at this
 lia
theorem nz{b:Book}(hb:Wf b):∀p∈bw b,p.length<=700:=λp hp=>by
 rcases CC.mp hp with z | z
 ·obtain⟨l,hl,rfl⟩:=BS.mp z
  exact kb (ny hb hl)
 ·obtain⟨d,hd,rfl⟩:=BS.mp z
  exact vz (sy hb hd)
theorem lb{b:Book}(hb:Wf b):(bw b).length<=24:=by
 have:=hb.lamps
 have:=hb.days
 simp[bw];lia
theorem Bb{b:Book}(hb:Wf b):(jm b).length<=20000:=by
 have:=i7 10 (storeR b) (bw b) (nz hb)
 have:=k9 hb
 have:=BR (700+1) (lb hb)
 unfold jm
 lia
section
variable{n:Nat}{μ ρ:Sto}{φ:Phi}{σ:Sl}
theorem yl(hr:jd μ){l:Lamp}(h:Wl l):ao GL (n+2) jh [eLamp l] μ=.ok (eS (a8 l)) μ:=by
 rw[ak ye,run_eq rfl]
 have k1:=aq (jk (n:=n) (μ:=μ) (F:=.tup [.int l.tank,.int l.oil]) wLamp (by decide) [l.tank,l.oil] (by simp) (λi hi=>by
  simp![AJ,AU,or_false]at hi
  rcases hi with rfl | rfl
  ·exact h.tank
  ·exact h.oil) rfl) rfl rfl hr
 have k2:=aq (jk (n:=n) (μ:=μ) (F:=az l.away) wAway (by decide) l.away (by have:=h.few;lia) h.away rfl) rfl rfl hr
 have ub:∀σ:Sl,dq (.many [1,2,3]) (eLamp l) σ=some (((σ.set 1 (some (.int l.tank))).set 2 (some (.int l.oil))).set 3 (some (az l.away))):=λ_=>rfl
 have tr:truD (az l.away) μ=.ok (.bl (!l.away.isEmpty)) μ:=by
  simp![truD,az,cw,List.isEmpty_map]
 have hl:=kb h
 by_cases ha:l.away=[]
 ·have e:bx 32 wLamp ([l.tank,l.oil].map num)=a8 l:=by unfold a8 i9;rw[if_pos ha];rfl
  have tr':truD (az l.away) μ=.ok (.bl false) μ:=by rw[tr,ha];rfl
  rw[e]at k1
  generalize az l.away=AW at *
  simp! only[D_lamp_row,ub,sv,k1,tr',Cw]
 ·have tr':truD (az l.away) μ=.ok (.bl true) μ:=by
   rw[tr];cases q:l.away with
   |nil=>exact absurd q ha
   |cons a r=>rfl
  have e:(bx 32 wLamp ([l.tank,l.oil].map num)++[32])++bx 32 wAway (l.away.map num)=a8 l:=by
   unfold a8 i9;rw[if_neg ha];simp[bx]
  have el:=congrArg List.length e
  rw[BA,BA]at el
  have c1:=c8 (μ:=μ) (a:=bx 32 wLamp ([l.tank,l.oil].map num)) (b:=[32]) (by lia)
  have c2:=c8 (μ:=μ) (a:=bx 32 wLamp ([l.tank,l.oil].map num)++[32]) (b:=bx 32 wAway (l.away.map num)) (by rw[BA];lia)
  rw[e]at c2
  generalize bx 32 wLamp ([l.tank,l.oil].map num)++[32]=R1 at *
  generalize bx 32 wLamp ([l.tank,l.oil].map num)=R0 at *
  generalize bx 32 wAway (l.away.map num)=R2 at *
  generalize az l.away=AW at *
  simp! only[D_lamp_row,ub,sv,k1,tr',Cw,Be,Ko,k2,c1,c2]
theorem u4(hr:jd μ){b:Book}(hb:Wf b):ao GL (n+3) ib [bu b] μ=.ok (eS (jm b)) (μ++[.l ((storeR b::bw b).map eS)]):=by
 rw[ak uq,run_eq rfl]
 have k1:=aq (jk (n:=n+1) (μ:=μ) (F:=.tup [.int b.store,.int b.oil]) wStore (by decide) [b.store,b.oil] (by simp) (λi hi=>by
  simp![AJ,AU,or_false]at hi
  rcases hi with rfl | rfl
  ·exact hb.store
  ·exact hb.oil) rfl) rfl rfl hr
 have e0:mkL .l [eS (storeR b)] μ=.ok (.loc μ.length) (μ++[.l ([storeR b].map eS)]):=K9 rfl
 have S1:∀xs:List (List Nat),jd (μ++[.l (xs.map eS)]):=λxs=>A5 hr _
 have c1:∀xs:List (List Nat),fg (ao GL (n+2)) .z (.one 0) .nil gq [none] (b.lamps.map eLamp,none) (μ++[.l (xs.map eS)])=.ok (.lst ((b.lamps.map a8).map eS)) (μ++[.l (xs.map eS)]):=λxs=>by
  rw[comp_map (en:=eLamp) (g:=λl=>eS (a8 l)) λl hl=>by
   have k:=aq (yl (n:=n) (S1 xs) (ny hb hl)) rfl rfl (S1 xs)
   generalize xs.map eS=XD at *
   simp! only[my,gq,k]]
  rw[og,BU];rfl
 have c2:∀xs:List (List Nat),fg (ao GL (n+2)) .z (.one 0) .nil gr [none] (b.days.map c7,none) (μ++[.l (xs.map eS)])=.ok (.lst ((b.days.map kh).map eS)) (μ++[.l (xs.map eS)]):=λxs=>by
  rw[comp_map (en:=c7) (g:=λd=>eS (kh d)) λd hd=>by
   have k:=aq (jk (n:=n+1) (μ:=μ++[.l (xs.map eS)]) (F:=c7 d) wDay (by decide) (nv d) (by simp[nv]) (sy hb hd) rfl) rfl rfl (S1 xs)
   change f9 _ _ _ _ _=.ok (eS (kh d)) _ at k
   generalize xs.map eS=XD at *
   simp! only[my,gr,C8,k]]
  rw[og,BU];rfl
 have pu:∀xs:List (List Nat),(xs.map eS).all D.pure=true:=λxs=>by rw[DM,AT];exact λ_ _=>rfl
 have q1:=hb.lamps
 have q2:=hb.days
 have x1:=D2 (μ:=μ) (ds:=[storeR b].map eS) (ys:=(b.lamps.map a8).map eS) (pu _) (by simp;lia)
 rw[<-CZ]at x1
 have x2:=D2 (μ:=μ) (ds:=([storeR b]++b.lamps.map a8).map eS) (ys:=(b.days.map kh).map eS) (pu _) (by simp;lia)
 rw[<-CZ]at x2
 have er:[storeR b]++b.lamps.map a8++b.days.map kh=storeR b::bw b:=by simp[bw]
 rw[er]at x2
 have jn:=vy (μ:=μ++[.l ((storeR b::bw b).map eS)]) (L:=.loc μ.length) (c:=10) (w:=storeR b) (ps:=bw b) (by simp![Lp.listOf,qm]) (k:=700) (λp hp=>by
  rcases AJ.mp hp with rfl | hp
  ·exact k9 hb
  ·exact nz hb p hp) (by have:=BR (700+1) (show(bw b).length+1<=25 by have:=lb hb;lia);lia)
 change btD .joinS .z [eS [10],_] _=.ok (eS (jm b)) _ at jn
 have k1':f9 (ao GL (n+2)) false br [eS wStore,.tup [.int b.store,.int b.oil]] μ=.ok (eS (storeR b)) μ:=k1
 have kl:∀ν:Sto,kSeq (.tup (b.lamps.map eLamp)) ν=.ok (b.lamps.map eLamp,none) ν:=λ_=>rfl
 have kd:∀ν:Sto,kSeq (.tup (b.days.map c7)) ν=.ok (b.days.map c7,none) ν:=λ_=>rfl
 have c1:=c1 [storeR b]
 have c2:=c2 ([storeR b]++b.lamps.map a8)
 generalize (storeR b::bw b).map eS=Z3 at *
 generalize ([storeR b]++b.lamps.map a8).map eS=Z2 at *
 generalize [storeR b].map eS=Z1 at *
 generalize (b.lamps.map a8).map eS=Z4 at *
 generalize (b.days.map kh).map eS=Z5 at *
 simp! only[D_book_text,C5,A6,k1',e0,Kn,kl,c1,x1,kd,c2,x2,Ov,jn]
end
open PySem
section
variable{n:Nat}{μ ρ:Sto}{φ:Phi}{σ:Sl}
theorem qo(c:Nat)(w:List Nat)(ps:List (List Nat))(p:List Nat):bx c w (ps++[p])=bx c w ps++[c]++p:=by simp[bx]
theorem ym(w:List Nat)(ps:List (List Nat))(hn:ps.length<=1000)(hw:w.length<=700)(hp:∀p∈ps,p.length<=700):ao GL (n+1) gx [.lst ((w::ps).map eS)] μ=.ok (eS (bx 10 w ps)) μ:=by
 rw[ak yf,run_eq rfl]
 obtain⟨σ',l,v2,rfl⟩:=qe (φ:=ao GL n) (μ:=μ) (tg:=.one 2) (b:=ik) (xs:=ps) (en:=eS)
  (σ:=[some (.lst ((w::ps).map eS)),some (eS w),none]) (λj σ=>∃v2,σ=[some (.lst ((w::ps).map eS)),some (eS (bx 10 w (ps.take j))),v2]) ⟨none,by simp[bx]⟩ (by
   rintro j p σ hpj ⟨v2,rfl⟩
   have hl:=i7 10 w (ps.take j) (k:=700) λq hq=>hp q (EI hq)
   have hl2:(ps.take j).length*(700+1)<=1000*(700+1):=BR _ (by rw[CK];lia)
   have hpl:=hp p (BZ hpj)
   have e:bx 10 w (ps.take (j+1))=bx 10 w (ps.take j)++[10]++p:=by
    rw[CS,hpj];exact qo _ _ _ _
   refine⟨[some (.lst ((w::ps).map eS)),some (eS (bx 10 w (ps.take (j+1)))),some (eS p)],?_,_,rfl⟩
   rw[e]
   generalize bx 10 w (ps.take j)=R at *
   generalize (w::ps).map eS=WD at *
   have c1:=c8 (μ:=μ) (a:=R) (b:=[10]) (by simp![AQ,AZ];lia)
   have c2:=c8 (μ:=μ) (a:=R++[10]) (b:=p) (by simp![BA,AQ,AZ];lia)
   simp! only[fLp,ik,Ov,c1,c2])
 rw[BC (AM _)]at l
 have i0:ixD (.lst ((w::ps).map eS)) (.int 0) μ=.ok (eS w) μ:=vo (k:=0) bh rfl
 have sl:slD .z (.lst ((w::ps).map eS)) (some 1) none μ=.ok (.lst (ps.map eS)) μ:=by
  show mkL .z (cut ((w::ps).map eS) (some ((1:Nat):Int)) none) μ=_
  rw[ji];rfl
 have ks:kSeq (.lst (ps.map eS)) μ=.ok (ps.map eS,none) μ:=rfl
 generalize (w::ps).map eS=WD at *
 generalize ps.map eS=PD at *
 simp! only[D_law_text,i0,sl,ks,l]
theorem td(d:Day)(h:∀i∈nv d,qq i){v0 v1 v2 v3 v4 v7:Option D}:∃v7',As (ao GL n) (.one 7) d6 [v0,v1,v2,v3,v4,some (eS wDay),some (c7 d),v7] ((nv d).map D.int,none) μ=.ok (.nx [v0,v1,v2,v3,v4,some (eS (kh d)),some (c7 d),v7']) μ:=by
 obtain⟨σ',l,v7',rfl⟩:=qe (φ:=ao GL n) (μ:=μ) (tg:=.one 7) (b:=d6) (xs:=nv d) (en:=D.int)
  (σ:=[v0,v1,v2,v3,v4,some (eS wDay),some (c7 d),v7]) (λj σ=>∃v7,σ=[v0,v1,v2,v3,v4,some (eS (bx 32 wDay (((nv d).take j).map num))),some (c7 d),v7]) ⟨v7,by simp[bx]⟩ (by
   rintro j i σ hi ⟨v7,rfl⟩
   have hi':=h i (BZ hi)
   have hl:=i7 32 wDay (((nv d).take j).map num) (k:=31) (kc λq hq=>h q (EI hq))
   have hl2:(((nv d).take j).map num).length<=5:=by rw[AV,CK];exact Nat.min_le_right _ _
   have hl3:=BR (31+1) hl2
   have e3:wDay.length=3:=rfl
   have e:bx 32 wDay (((nv d).take (j+1)).map num)=bx 32 wDay (((nv d).take j).map num)++[32]++num i:=by
    rw[CS,hi,Option.toList_some,CZ];exact qo _ _ _ _
   refine⟨[v0,v1,v2,v3,v4,some (eS (bx 32 wDay (((nv d).take (j+1)).map num))),some (c7 d),some (.int i)],?_,_,rfl⟩
   rw[e]
   generalize bx 32 wDay (((nv d).take j).map num)=R at *
   have c1:=c8 (μ:=μ) (a:=R) (b:=[32]) (by simp![AQ,AZ];lia)
   have c2:=c8 (μ:=μ) (a:=R++[32]) (b:=num i) (by have:=f6 hi';simp![BA,AQ,AZ];lia)
   simp! only[fLp,d6,Be,c1,bt_strI hi',c2])
 rw[BC (AM _)]at l
 exact⟨v7',l⟩
theorem oz(w:List Nat)(hw:w.length<=200)(as:List Int)(h:∀i∈as,qq i)(hn:as.length<=16){v0 v1 v2 v3 v4 v6 v7:Option D}:∃v6',As (ao GL n) (.one 6) d0 [v0,v1,v2,v3,v4,some (eS w),v6,v7] (as.map D.int,none) μ=.ok (.nx [v0,v1,v2,v3,v4,some (eS (bx 32 w (as.map num))),v6',v7]) μ:=by
 obtain⟨σ',l,v6',rfl⟩:=qe (φ:=ao GL n) (μ:=μ) (tg:=.one 6) (b:=d0) (xs:=as) (en:=D.int)
  (σ:=[v0,v1,v2,v3,v4,some (eS w),v6,v7]) (λj σ=>∃v6,σ=[v0,v1,v2,v3,v4,some (eS (bx 32 w ((as.take j).map num))),v6,v7]) ⟨v6,by simp[bx]⟩ (by
   rintro j i σ hi ⟨v6,rfl⟩
   have hi':=h i (BZ hi)
   have hl:=i7 32 w ((as.take j).map num) (k:=31) (kc λq hq=>h q (EI hq))
   have hl2:((as.take j).map num).length<=16:=by rw[AV,CK];lia
   have hl3:=BR (31+1) hl2
   have e:bx 32 w ((as.take (j+1)).map num)=bx 32 w ((as.take j).map num)++[32]++num i:=by
    rw[CS,hi,Option.toList_some,CZ];exact qo _ _ _ _
   refine⟨[v0,v1,v2,v3,v4,some (eS (bx 32 w ((as.take (j+1)).map num))),some (.int i),v7],?_,_,rfl⟩
   rw[e]
   generalize bx 32 w ((as.take j).map num)=R at *
   have c1:=c8 (μ:=μ) (a:=R) (b:=[32]) (by simp![AQ,AZ];lia)
   have c2:=c8 (μ:=μ) (a:=R++[32]) (b:=num i) (by have:=f6 hi';simp![BA,AQ,AZ];lia)
   simp! only[fLp,d0,Be,c1,bt_strI hi',c2])
 rw[BC (AM _)]at l
 exact⟨v6',l⟩
theorem u5{b:Book}(hb:Wf b):ao GL (n+1) ig [bu b] μ=.ok (.lst ((storeR b::bw b).map eS)) (μ++[.dead]):=by
 rw[ak uv,run_eq rfl]
 have q1:=hb.lamps
 have q2:=hb.days
 have ap:∀(X:List (List Nat)) (p:List Nat),X.length<=100->mtD .append (.loc μ.length) [eS p] (μ++[.l (X.map eS)])=.ok .non (μ++[.l ((X++[p]).map eS)]):=λX p h=>by
  rw[D0 rfl (by rw[AV];lia),CZ];rfl
 obtain⟨σ1,μ1,l1,v2,v3,v4,v5,v6,rfl,rfl⟩:=uw (φ:=ao GL n) (μ:=μ++[.l ([storeR b].map eS)]) (tg:=.many [2,3,4]) (b:=d5) (xs:=b.lamps) (en:=eLamp)
  (σ:=[some (bu b),some (.loc μ.length),none,none,none,none,none,none])
  (λj σ μ'=>∃v2 v3 v4 v5 v6,σ=[some (bu b),some (.loc μ.length),v2,v3,v4,v5,v6,none]/\μ'=μ++[.l ((storeR b::(b.lamps.take j).map a8).map eS)])
  ⟨_,_,_,_,_,rfl,rfl⟩ (by
   rintro j l σ μ' hlj ⟨v2,v3,v4,v5,v6,rfl,rfl⟩
   have hj:=(AK.mp hlj).1
   have h:=ny hb (BZ hlj)
   have hX:(storeR b::(b.lamps.take j).map a8).length<=100:=by simp;lia
   have e1:storeR b::(b.lamps.take (j+1)).map a8=(storeR b::(b.lamps.take j).map a8)++[a8 l]:=by
    rw[CS,hlj];simp
   have bt:∀σ:Sl,dq (.many [2,3,4]) (eLamp l) σ=some (((σ.set 2 (some (.int l.tank))).set 3 (some (.int l.oil))).set 4 (some (az l.away))):=λ_=>rfl
   have nt:=f6 h.tank
   have no:=f6 h.oil
   have hap:=ap (storeR b::(b.lamps.take j).map a8) (a8 l) hX
   have e0:[108,97,109,112,32]++num l.tank++[32]++num l.oil=bx 32 wLamp [num l.tank,num l.oil]:=by simp[bx]
   have hl0:(bx 32 wLamp [num l.tank,num l.oil]).length<=100:=by rw[<-e0];simp;lia
   rw[e1]
   generalize hZ:storeR b::(b.lamps.take j).map a8=X at *
   have c1:=c8 (μ:=μ++[.l (X.map eS)]) (a:=[108,97,109,112,32]) (b:=num l.tank) (by simp;lia)
   have c2:=c8 (μ:=μ++[.l (X.map eS)]) (a:=[108,97,109,112,32]++num l.tank) (b:=[32]) (by simp;lia)
   have c3:=c8 (μ:=μ++[.l (X.map eS)]) (a:=[108,97,109,112,32]++num l.tank++[32]) (b:=num l.oil) (by simp;lia)
   rw[e0]at c3
   have s1:=bt_strI (μ:=μ++[.l (X.map eS)]) h.tank
   have s2:=bt_strI (μ:=μ++[.l (X.map eS)]) h.oil
   have bl:btD .len .z [az l.away] (μ++[.l (X.map eS)])=.ok (.int l.away.length) (μ++[.l (X.map eS)]):=by rw[az,bt_len Au,AV]
   have ks:kSeq (az l.away) (μ++[.l (X.map eS)])=.ok (l.away.map D.int,none) (μ++[.l (X.map eS)]):=rfl
   generalize [108,97,109,112,32]++num l.tank++[32]=R2 at *
   generalize [108,97,109,112,32]++num l.tank=R1 at *
   by_cases ha:l.away=[]
   ·have e3:bx 32 (bx 32 wLamp [num l.tank,num l.oil]) (l.away.map num)=a8 l:=by rw[ha];unfold a8 i9;rw[if_pos ha];simp[bx]
    obtain⟨v6',lw⟩:=oz (n:=n) (μ:=μ++[.l (X.map eS)]) (bx 32 wLamp [num l.tank,num l.oil]) (by lia) l.away h.away h.few (v0:=some (bu b)) (v1:=some (.loc μ.length)) (v2:=some (.int l.tank)) (v3:=some (.int l.oil)) (v4:=some (az l.away)) (v6:=v6) (v7:=none)
    rw[e3]at lw
    have z:¬(0:Int)<(l.away.length:Int):=by rw[ha];decide
    refine⟨[some (bu b),some (.loc μ.length),some (.int l.tank),some (.int l.oil),some (az l.away),some (eS (a8 l)),v6',none],_,?_,_,_,_,_,_,rfl,rfl⟩
    generalize (X++[a8 l]).map eS=XD2 at *
    generalize X.map eS=XD at *
    generalize bx 32 wLamp [num l.tank,num l.oil]=R3 at *
    generalize l.away.map D.int=AD at *
    simp! only[fLp,d5,bt,A7,s1,c1,Be,c2,s2,c3,bl,z,ks,lw,Az,hap]
   ·have e3:bx 32 (bx 32 wLamp [num l.tank,num l.oil]++[32,97,119,97,121]) (l.away.map num)=a8 l:=by unfold a8 i9;rw[if_neg ha];simp[bx]
    have c4:=c8 (μ:=μ++[.l (X.map eS)]) (a:=bx 32 wLamp [num l.tank,num l.oil]) (b:=[32,97,119,97,121]) (by simp![AQ,AZ];lia)
    obtain⟨v6',lw⟩:=oz (n:=n) (μ:=μ++[.l (X.map eS)]) (bx 32 wLamp [num l.tank,num l.oil]++[32,97,119,97,121]) (by simp![BA,AQ,AZ];lia) l.away h.away h.few (v0:=some (bu b)) (v1:=some (.loc μ.length)) (v2:=some (.int l.tank)) (v3:=some (.int l.oil)) (v4:=some (az l.away)) (v6:=v6) (v7:=none)
    rw[e3]at lw
    have z:(0:Int)<(l.away.length:Int):=by
     cases q:l.away with
     |nil=>exact absurd q ha
     |cons a r=>simp
    refine⟨[some (bu b),some (.loc μ.length),some (.int l.tank),some (.int l.oil),some (az l.away),some (eS (a8 l)),v6',none],_,?_,_,_,_,_,_,rfl,rfl⟩
    generalize (X++[a8 l]).map eS=XD2 at *
    generalize X.map eS=XD at *
    generalize bx 32 wLamp [num l.tank,num l.oil]++[32,97,119,97,121]=R4 at *
    generalize bx 32 wLamp [num l.tank,num l.oil]=R3 at *
    generalize l.away.map D.int=AD at *
    simp! only[fLp,d5,bt,A7,s1,c1,Be,c2,s2,c3,bl,z,Gs,c4,ks,lw,Az,hap])
 rw[BC (AM _)]at l1
 obtain⟨σ2,μ2,l2,w5,w6,w7,rfl,rfl⟩:=uw (φ:=ao GL n) (μ:=μ++[.l ((storeR b::b.lamps.map a8).map eS)]) (tg:=.one 6) (b:=gs) (xs:=b.days) (en:=c7)
  (σ:=[some (bu b),some (.loc μ.length),v2,v3,v4,v5,v6,none])
  (λj σ μ'=>∃w5 w6 w7,σ=[some (bu b),some (.loc μ.length),v2,v3,v4,w5,w6,w7]/\μ'=μ++[.l ((storeR b::b.lamps.map a8++(b.days.take j).map kh).map eS)])
  ⟨_,_,_,rfl,by simp⟩ (by
   rintro j d σ μ' hdj ⟨w5,w6,w7,rfl,rfl⟩
   have hj:=(AK.mp hdj).1
   have h:=sy hb (BZ hdj)
   have hX:(storeR b::b.lamps.map a8++(b.days.take j).map kh).length<=100:=by simp;lia
   have e1:storeR b::b.lamps.map a8++(b.days.take (j+1)).map kh=(storeR b::b.lamps.map a8++(b.days.take j).map kh)++[kh d]:=by
    rw[CS,hdj];simp
   have hap:=ap (storeR b::b.lamps.map a8++(b.days.take j).map kh) (kh d) hX
   rw[e1]
   generalize storeR b::b.lamps.map a8++(b.days.take j).map kh=X at *
   obtain⟨w7',lw⟩:=td (n:=n) (μ:=μ++[.l (X.map eS)]) d h (v0:=some (bu b)) (v1:=some (.loc μ.length)) (v2:=v2) (v3:=v3) (v4:=v4) (v7:=w7)
   have ks:kSeq (c7 d) (μ++[.l (X.map eS)])=.ok ((nv d).map D.int,none) (μ++[.l (X.map eS)]):=rfl
   refine⟨[some (bu b),some (.loc μ.length),v2,v3,v4,some (eS (kh d)),some (c7 d),w7'],_,?_,_,_,_,rfl,rfl⟩
   generalize (X++[kh d]).map eS=XD2 at *
   generalize X.map eS=XD at *
   generalize (nv d).map D.int=AD at *
   simp! only[fLp,gs,C8,ks,lw,Az,hap])
 rw[BC (AM _),show storeR b::b.lamps.map a8++b.days.map kh=storeR b::bw b from rfl]at l2
 have ns:=f6 hb.store
 have no:=f6 hb.oil
 have e0:[115,116,111,114,101,32]++num b.store++[32]++num b.oil=storeR b:=by simp[storeR,bx]
 have c1:=c8 (μ:=μ) (a:=[115,116,111,114,101,32]) (b:=num b.store) (by simp;lia)
 have c2:=c8 (μ:=μ) (a:=[115,116,111,114,101,32]++num b.store) (b:=[32]) (by simp;lia)
 have c3:=c8 (μ:=μ) (a:=[115,116,111,114,101,32]++num b.store++[32]) (b:=num b.oil) (by simp;lia)
 rw[e0]at c3
 have s1:=bt_strI (μ:=μ) hb.store
 have s2:=bt_strI (μ:=μ) hb.oil
 have m0:mkL .l [eS (storeR b)] μ=.ok (.loc μ.length) (μ++[.l ([storeR b].map eS)]):=K9 rfl
 have kl:∀ν:Sto,kSeq (.tup (b.lamps.map eLamp)) ν=.ok (b.lamps.map eLamp,none) ν:=λ_=>rfl
 have kd:∀ν:Sto,kSeq (.tup (b.days.map c7)) ν=.ok (b.days.map c7,none) ν:=λ_=>rfl
 have ef:∀w5 w6 w7 (ds:List D),evE (ao GL n) (.frz 1) [some (bu b),some (.loc μ.length),v2,v3,v4,w5,w6,w7] (μ++[.l ds])=.ok (.lst ds) (μ++[.dead]):=λw5 w6 w7 ds=>by
  simp[evE]
 generalize [115,116,111,114,101,32]++num b.store++[32]=R2 at *
 generalize [115,116,111,114,101,32]++num b.store=R1 at *
 generalize (storeR b::bw b).map eS=Z3 at *
 generalize (storeR b::b.lamps.map a8).map eS=Z2 at *
 generalize [storeR b].map eS=Z1 at *
 simp! only[D_law_shown,C9,Om,s1,c1,Be,c2,Oo,s2,c3,m0,Kg,kl,l1,Kh,kd,l2,ef]
end
open PySem
section
variable{n:Nat}{μ ρ:Sto}{φ:Phi}{σ:Sl}
theorem kf{l:List Nat}{c:Nat}(h:l.length<=100000):btD .splitS .z [eS l,eS [c]] μ=.ok (.lst ((cz c l).map eS)) μ:=by
 have e:(ofL [c]).cps.toList=[c]:=bf [c]
 have e2:(ofL l).cps.toList=l:=bf l
 simp![btD,pe,w8,e,i8,h,if_true,e2,og]
theorem v9{l:List Nat}(h:l.length<=100000)(hn:de awayP l=none):btD .partS .z [eS l,eS awayP] μ=.ok (.tup [eS l,eS [],eS []]) μ:=by
 have e:(ofL awayP).cps.toList=awayP:=bf awayP
 have e2:(ofL l).cps.toList=l:=bf l
 have e3:Str.empty=ofL []:=rfl
 have e4:0<awayP.length:=by decide
 simp![btD,rk,w8,e,i8,h,e2,hn,e3,e4,and_self,if_true]
theorem Dc{l a b:List Nat}(h:l.length<=100000)(hn:de awayP l=some (a,b)):btD .partS .z [eS l,eS awayP] μ=.ok (.tup [eS a,eS awayP,eS b]) μ:=by
 have e:(ofL awayP).cps.toList=awayP:=bf awayP
 have e2:(ofL l).cps.toList=l:=bf l
 have e4:0<awayP.length:=by decide
 simp![btD,rk,w8,e,i8,h,e2,hn,e4,and_self,if_true]
theorem Num.digs{i:Int}{l:List Nat}(h:Num i l):Lp.digs l=true:=by
 unfold Lp.digs
 rw[AY]
 refine⟨?_,by rw[AT];exact λc hc=>decide_eq_true (h.dig c hc)⟩
 cases l with
 |nil=>exact absurd rfl h.ne
 |cons a r=>rfl
theorem u6{i:Int}{l:List Nat}(h:Num i l):ao GL (n+1) ic [eS l] μ=.ok (.bl true) μ:=by
 rw[ak ur,run_eq rfl]
 have e2:(ofL l).cps.toList=l:=bf l
 have e0:(ofL [48]).cps.toList=[48]:=bf [48]
 have d1:btD .isdig .z [eS l] μ=.ok (.bl true) μ:=by
  have a:(l.all λc=>decide (c<128))=true:=by
   rw[AT]
   intro c hc
   have:=h.dig c hc
   exact decide_eq_true (by lia)
  simp![btD,dy,str1,e2,a,h.digs,if_true]
 have d2:btD .lenS .z [eS l] μ=.ok (.int l.length) μ:=by
  have:=h.len
  have q:l.length<=1000000:=by lia
  simp![btD,dy,str1,i8,q,if_true]
 have d3:cpD .eq (eS l) (eS [48]) μ=.ok (.bl (decide (l=[48]))) μ:=by
  rw[Nm rfl rfl]
  congr 2
  show decide (ofL l=ofL [48])=_
  rw[decide_eq_decide]
  exact⟨A8,λq=>by rw[q]⟩
 have d4:btD .startS .z [eS l,eS [48]] μ=.ok (.bl (([48]:List Nat).isPrefixOf l)) μ:=by
  simp![btD,w8,e2,e0]
 have le:((l.length:Nat):Int)<=31:=by have:=h.len;lia
 rcases h.head with z | z
 ·have z':decide (l=[48])=true:=decide_eq_true z
  simp! only[D_is_number,d1,d2,le,s_0,d3,z']
 ·have z':¬l=[48]:=z []
  have z2:([48]:List Nat).isPrefixOf l=false:=by
   cases l with
   |nil=>rfl
   |cons a r =>
    have:a≠48:=λq=>z r (by rw[q])
    simp[List.isPrefixOf,Ne.symm this]
  simp! only[D_is_number,d1,d2,le,s_0,d3,z',d4,z2]
theorem ly(hr:jd μ)(ns:List Int)(h:∀i∈ns,qq i):ao GL (n+2) eh [.lst ((ns.map num).map eS)] μ=.ok (az ns) μ:=by
 rw[ak sg,run_eq rfl]
 have em:(ns.map num).map eS=ns.map λi=>eS (num i):=by rw[BU];rfl
 have c1:fg (ao GL (n+1)) .z (.one 0) .nil fw [none] ((ns.map num).map eS,none) μ=.ok (.lst ((ns.map λ_=>true).map D.bl)) μ:=by
  rw[em,comp_map (en:=λi=>eS (num i)) (g:=λ_=>D.bl true) λi hi=>by
   have k:=aq (u6 (n:=n) (μ:=μ) (i5 (h i hi).1 (h i hi).2)) rfl rfl hr
   simp! only[my,fw,k]]
  rw[og,BU];rfl
 have c2:fg (ao GL (n+1)) .z (.one 0) .nil fz [none] ((ns.map num).map eS,none) μ=.ok (.lst (ns.map D.int)) μ:=by
  rw[em,comp_map (en:=λi=>eS (num i)) (g:=λi=>D.int i) λi hi=>by
   have nm:=i5 (h i hi).1 (h i hi).2
   have e2:(ofL (num i)).cps.toList=num i:=bf _
   have bi:btD .intS .z [eS (num i)] μ=.ok (.int i) μ:=by
    have q:(num i).length<=600:=by have:=nm.len;lia
    simp![btD,dy,str1,e2,i8,nm.digs,q,and_self,if_true,nm.val]
   simp! only[my,fz,bi]]
  rw[og]
 have ba:=bt_all (m:=.z) (μ:=μ) (x:=.lst ((ns.map λ_=>true).map D.bl)) bh (ky _)
 have ha:(ns.map λ_=>true).all id=true:=by simp
 rw[ha]at ba
 have ks:kSeq (.lst ((ns.map num).map eS)) μ=.ok ((ns.map num).map eS,none) μ:=rfl
 have tt:btD .tuple .z [.lst (ns.map D.int)] μ=.ok (az ns) μ:=bt_tuple bh
 generalize (ns.map λ_=>true).map D.bl=BD at *
 generalize (ns.map num).map eS=ND at *
 generalize ns.map D.int=ID at *
 simp! only[D_numbers_of,ks,c1,ba,c2,tt]
theorem n4(hr:jd μ){w:List Nat}(hw:32∉w)(hl:w.length<=31)(ns:List Int)(hn:ns.length<=100)(h:∀i∈ns,qq i):ao GL (n+3) au [eS (bx 32 w (ns.map num)),eS w,.int ns.length] μ=.ok (az ns) μ:=by
 rw[ak jo,run_eq rfl]
 have len:=i7 32 w (ns.map num) (k:=31) (kc h)
 have len2:=BR (31+1) (show(ns.map num).length<=100 by rw[AV];exact hn)
 have sp:=kf (μ:=μ) (l:=bx 32 w (ns.map num)) (c:=32) (by lia)
 rw[i6 32 w _ hw λp hp=>by
  obtain⟨i,hi,rfl⟩:=BS.mp hp
  exact(i5 (h i hi).1 (h i hi).2).fig.no]at sp
 have i0:ixD (.lst ((w::ns.map num).map eS)) (.int 0) μ=.ok (eS w) μ:=vo (k:=0) bh rfl
 have ne:cpD .ne (eS w) (eS w) μ=.ok (.bl false) μ:=by
  rw[x5 rfl rfl,j8 8 _ rfl];rfl
 have bl:btD .len .z [.lst ((w::ns.map num).map eS)] μ=.ok (.int (ns.length+1)) μ:=by rw[bt_len bh];simp
 have sl:slD .z (.lst ((w::ns.map num).map eS)) (some 1) none μ=.ok (.lst ((ns.map num).map eS)) μ:=by
  show mkL .z (cut ((w::ns.map num).map eS) (some ((1:Nat):Int)) none) μ=_
  rw[ji];rfl
 have k:=aq (ly (n:=n) hr ns h) (gy ns) rfl hr
 generalize (w::ns.map num).map eS=WD at *
 generalize (ns.map num).map eS=ND at *
 generalize bx 32 w (ns.map num)=R at *
 simp! only[D_read_numbers,Be,sp,i0,ne,bl,sl,k]
theorem tf{w w':List Nat}(hne:w≠w')(hw:32∉w)(ps:List (List Nat))(hp:∀p∈ps,32∉p)(hl:(bx 32 w ps).length<=700)(k:Int):ao GL (n+1) au [eS (bx 32 w ps),eS w',.int k] μ=.ok .non μ:=by
 rw[ak jo,run_eq rfl]
 have sp:=kf (μ:=μ) (l:=bx 32 w ps) (c:=32) (by lia)
 rw[i6 32 w _ hw hp]at sp
 have i0:ixD (.lst ((w::ps).map eS)) (.int 0) μ=.ok (eS w) μ:=vo (k:=0) bh rfl
 have ne:cpD .ne (eS w) (eS w') μ=.ok (.bl true) μ:=by
  rw[x5 rfl rfl]
  have:deq (eS w) (eS w')=false:=decide_eq_false λz=>hne (A8 z)
  rw[this];rfl
 generalize (w::ps).map eS=WD at *
 generalize bx 32 w ps=R at *
 simp! only[D_read_numbers,Be,sp,i0,ne]
theorem Dd{l:Lamp}(h:Wl l):∀p∈i9 l,32∉p:=λp hp=>by
 unfold i9 at hp
 rcases CC.mp hp with z | z
 ·simp![AJ,AU,or_false]at z
  rcases z with rfl | rfl
  ·exact(i5 h.tank.1 h.tank.2).fig.no
  ·exact(i5 h.oil.1 h.oil.2).fig.no
 ·split at z
  ·cases z
  ·rcases AJ.mp z with rfl | z
   ·decide
   ·obtain⟨i,hi,rfl⟩:=BS.mp z
    exact(i5 (h.away i hi).1 (h.away i hi).2).fig.no
theorem gg{ns:List Int}(h:∀i∈ns,qq i):∀p∈ns.map num,C7 p:=λp hp=>by
 obtain⟨i,hi,rfl⟩:=BS.mp hp
 exact(i5 (h i hi).1 (h i hi).2).fig
theorem u7(hr:jd μ){l:Lamp}(h:Wl l):ao GL (n+4) fv [eS (a8 l)] μ=.ok (eLamp l) μ:=by
 rw[ak nj,run_eq rfl]
 have len:=kb h
 have h2:∀i∈[l.tank,l.oil],qq i:=λi hi=>by
  simp![AJ,AU,or_false]at hi
  rcases hi with rfl | rfl
  ·exact h.tank
  ·exact h.oil
 have k1:=aq (n4 (n:=n) hr (w:=wLamp) (by decide) (by decide) [l.tank,l.oil] (by simp) h2) (gy _) rfl hr
 change f9 _ _ _ [_,_,.int 2] _=_ at k1
 have add:∀A:D,opD .Add .z (az [l.tank,l.oil]) (.tup [A]) μ=.ok (.tup [.int l.tank,.int l.oil,A]) μ:=λA=>by
  have:=kj
  simp![az,opD]
  rw[if_pos (by simp;lia)];rfl
 have n1:cpD .is (az [l.tank,l.oil]) .non μ=.ok (.bl false) μ:=rfl
 have n2:∀xs:List D,cpD .is (.tup xs) .non μ=.ok (.bl false) μ:=λ_=>rfl
 have t0:btD .truS .z [eS []] μ=.ok (.bl false) μ:=rfl
 have t1:btD .truS .z [eS awayP] μ=.ok (.bl true) μ:=rfl
 by_cases ha:l.away=[]
 ·have e:a8 l=bx 32 wLamp ([l.tank,l.oil].map num):=by unfold a8 i9;rw[if_pos ha];rfl
  have pt:=v9 (μ:=μ) (l:=a8 l) (by lia) (by rw[e];exact su (by decide) (gg h2))
  rw[<-e]at k1
  have el:eLamp l=.tup [.int l.tank,.int l.oil,.tup []]:=by rw[eLamp,ha];rfl
  rw[el]
  generalize a8 l=R at *
  generalize az [l.tank,l.oil]=NN at *
  simp! only[D_read_lamp,u3,pt,sv,k1,t0,n1,n2,add]
 ·obtain⟨a,r,er⟩:=FG ha
  have hn:=h.away
  have e:a8 l=bx 32 wLamp ([l.tank,l.oil].map num)++(awayP++bx 32 (num a) (r.map num)):=by
   unfold a8 i9;rw[if_neg ha,er];simp[bx]
  have pt:=Dc (μ:=μ) (l:=a8 l) (a:=bx 32 wLamp ([l.tank,l.oil].map num)) (b:=bx 32 (num a) (r.map num)) (by lia) (by
   rw[e,vx (by decide) (gg h2),A4];simp)
  have ha2:∀i∈a::r,qq i:=by rw[<-er];exact hn
  have sp:=kf (μ:=μ) (l:=bx 32 (num a) (r.map num)) (c:=32) (by have:=congrArg List.length e;simp![BA]at this;lia)
  rw[i6 32 (num a) _ (gg ha2 _ (by simp)).no λp hp=>(gg ha2 p (by simp at hp ⊢;exact .inr hp)).no]at sp
  have k2:=aq (ly (n:=n+1) hr (a::r) ha2) (gy _) rfl hr
  have el:eLamp l=.tup [.int l.tank,.int l.oil,az (a::r)]:=by rw[eLamp,er]
  rw[BL (f:=num)]at k2
  have n3:cpD .is (az (a::r)) .non μ=.ok (.bl false) μ:=rfl
  rw[el]
  generalize (num a::r.map num).map eS=SD at *
  generalize bx 32 (num a) (r.map num)=R2 at *
  generalize bx 32 wLamp ([l.tank,l.oil].map num)=R1 at *
  generalize a8 l=R at *
  generalize az [l.tank,l.oil]=NN at *
  generalize az (a::r)=AA at *
  simp! only[D_read_lamp,u3,pt,sv,k1,t1,Be,sp,k2,n1,n3,add]
theorem oi(hr:jd μ){d:Day}(h:∀i∈nv d,qq i):ao GL (n+4) fv [eS (kh d)] μ=.ok .non μ:=by
 rw[ak nj,run_eq rfl]
 have len:=vz h
 have pt:=v9 (μ:=μ) (l:=kh d) (by lia) (su (by decide) (gg h))
 have k1:=aq (tf (n:=n+2) (μ:=μ) (w:=wDay) (w':=wLamp) (by decide) (by decide) ((nv d).map num) (λp hp=>(gg h p hp).no) len 2) rfl rfl hr
 have k1':f9 (ao GL (n+3)) false au [eS (kh d),eS wLamp,.int 2] μ=.ok .non μ:=k1
 have t0:btD .truS .z [eS []] μ=.ok (.bl false) μ:=rfl
 have n1:cpD .is .non .non μ=.ok (.bl true) μ:=rfl
 generalize kh d=R at *
 simp! only[D_read_lamp,u3,pt,sv,k1',t0,n1]
end
open PySem
theorem qp{w:List Nat}(hw:10∉w){ps:List (List Nat)}(h:∀p∈ps,10∉p):10∉bx 32 w ps:=λz=>by
 rcases Gq.mp z with y | ⟨p,hp,y | y⟩
 ·exact hw y
 ·lia
 ·exact h p hp y
theorem yn{l:Lamp}(h:Wl l):∀p∈i9 l,10∉p:=λp hp=>by
 unfold i9 at hp
 rcases CC.mp hp with z | z
 ·simp![AJ,AU,or_false]at z
  rcases z with rfl | rfl
  ·exact(i5 h.tank.1 h.tank.2).fig.no10
  ·exact(i5 h.oil.1 h.oil.2).fig.no10
 ·split at z
  ·cases z
  ·rcases AJ.mp z with rfl | z
   ·decide
   ·obtain⟨i,hi,rfl⟩:=BS.mp z
    exact(i5 (h.away i hi).1 (h.away i hi).2).fig.no10
theorem In2{b:Book}(hb:Wf b):∀i∈[b.store,b.oil],qq i:=λi hi=>by
 simp![AJ,AU,or_false]at hi
 rcases hi with rfl | rfl
 ·exact hb.store
 ·exact hb.oil
theorem yo{b:Book}(hb:Wf b):cz 10 (jm b)=storeR b::bw b:=by
 refine i6 10 _ _ (qp (by decide) λp hp=>(gg (In2 hb) p hp).no10) λp hp=>?_
 rcases CC.mp hp with z | z
 ·obtain⟨l,hl,rfl⟩:=BS.mp z
  exact qp (by decide) (yn (ny hb hl))
 ·obtain⟨d,hd,rfl⟩:=BS.mp z
  exact qp (by decide) λp hp=>(gg (sy hb hd) p hp).no10
section
variable{n:Nat}{μ ρ:Sto}{φ:Phi}{σ:Sl}
theorem apA{ds:List D}{o:O}{d:D}(hd:d.pure=true)(hl:ds.length<1000000):mtD .append (.loc μ.length) [d] (μ++[.l ds,o])=.ok .non (μ++[.l (ds++[d]),o]):=by
 have:=kj
 have a:(μ++[.l ds,o])[μ.length]? = some (.l ds):=by simp
 have s:∀o',(μ++[.l ds,o]).set μ.length o'=μ++[o',o]:=λo'=>by simp
 simp![mtD,t6,a,ll,mtL,dy,fits,hd,putL,s]
 rw[if_pos ⟨trivial,by lia⟩]
theorem apB{ds:List D}{o:O}{d:D}(hd:d.pure=true)(hl:ds.length<1000000):mtD .append (.loc (μ.length+1)) [d] (μ++[o,.l ds])=.ok .non (μ++[o,.l (ds++[d])]):=by
 have:=D0 (μ:=μ++[o]) (ds:=ds) (d:=d) hd hl
 simpa using this
theorem T2{es:Exs}{ds:List D}{o:O}:kM φ .append es σ (.loc μ.length) (μ++[.l ds,o])=(du φ es σ (μ++[.l ds,o])).bind (mtD .append (.loc μ.length)):=Gb (by
 have a:(μ++[.l ds,o])[μ.length]? = some (.l ds):=by simp
 simp![iy,Lp.listOf,a];rfl)
theorem T3{es:Exs}{ds:List D}{o:O}:kM φ .append es σ (.loc (μ.length+1)) (μ++[o,.l ds])=(du φ es σ (μ++[o,.l ds])).bind (mtD .append (.loc (μ.length+1))):=Gb (by
 have a:(μ++[o,.l ds])[μ.length+1]? = some (.l ds):=by simp
 simp![iy,Lp.listOf,a];rfl)
theorem T4{ds:List D}{o:O}:truD (.loc μ.length) (μ++[.l ds,o])=.ok (.bl (!ds.isEmpty)) (μ++[.l ds,o]):=by
 have a:(μ++[.l ds,o])[μ.length]? = some (.l ds):=by simp
 simp![truD,cw,a]
theorem Q6{ds:List D}{o:O}:truD (.loc (μ.length+1)) (μ++[o,.l ds])=.ok (.bl (!ds.isEmpty)) (μ++[o,.l ds]):=by
 have a:(μ++[o,.l ds])[μ.length+1]? = some (.l ds):=by simp
 simp![truD,cw,a]
theorem D3(hr:jd μ)(xs ys:List D):jd (μ++[.l xs,.l ys]):=by
 have:=A5 (A5 hr xs) ys
 simpa using this
theorem u9(hr:jd μ){b:Book}(hb:Wf b):∃ρ,ao GL (n+5) ie [eS (jm b)] μ=.ok (bu b) (μ++ρ):=by
 rw[ak uu,run_eq rfl]
 have q1:=hb.lamps
 have q2:=hb.days
 have sp:=kf (μ:=μ) (l:=jm b) (c:=10) (by have:=Bb hb;lia)
 rw[yo hb]at sp
 have i0:ixD (.lst ((storeR b::bw b).map eS)) (.int 0) μ=.ok (eS (storeR b)) μ:=vo (k:=0) bh rfl
 have k0:=aq (n4 (n:=n+1) hr (w:=wStore) (by decide) (by decide) [b.store,b.oil] (by simp) (In2 hb)) (gy _) rfl hr
 have k0':f9 (ao GL (n+4)) false au [eS (storeR b),eS wStore,.int 2] μ=.ok (az [b.store,b.oil]) μ:=k0
 have n0:cpD .is (az [b.store,b.oil]) .non μ=.ok (.bl false) μ:=rfl
 have m0:mkL .l [] μ=.ok (.loc μ.length) (μ++[.l []]):=K9 rfl
 have m1:mkL .l [] (μ++[.l []])=.ok (.loc (μ.length+1)) (μ++[.l [],.l []]):=by rw[K9 rfl];simp
 have sl:∀ν:Sto,slD .z (.lst ((storeR b::bw b).map eS)) (some 1) none ν=.ok (.lst ((bw b).map eS)) ν:=λν=>by
  show mkL .z (cut ((storeR b::bw b).map eS) (some ((1:Nat):Int)) none) ν=_
  rw[ji];rfl
 have ke:∀ν:Sto,kEnum (.lst ((bw b).map eS)) ν=.ok (((List.range (bw b).length).zip (bw b)).map (λp:Nat×List Nat=>D.tup [.int p.1,eS p.2]),none) ν:=λν=>by
  simp![kEnum,aw,AV]
  congr 2
  rw[<-List.map_id (List.range (bw b).length),List.zip_map,BU,List.map_id]
  rfl
 obtain⟨σ',μ',l,v5,v6,v7,v8,rfl,rfl⟩:=uw (φ:=ao GL (n+4)) (μ:=μ++[.l (([]:List Lamp).map eLamp),.l (([]:List Day).map c7)]) (tg:=.many [5,6]) (b:=dz) (xs:=(List.range (bw b).length).zip (bw b)) (en:=λp:Nat×List Nat=>D.tup [.int p.1,eS p.2])
  (σ:=[some (eS (jm b)),some (.lst ((storeR b::bw b).map eS)),some (az [b.store,b.oil]),some (.loc μ.length),some (.loc (μ.length+1)),none,none,none,none])
  (λj σ μ'=>∃v5 v6 v7 v8,σ=[some (eS (jm b)),some (.lst ((storeR b::bw b).map eS)),some (az [b.store,b.oil]),some (.loc μ.length),some (.loc (μ.length+1)),v5,v6,v7,v8]/\μ'=μ++[.l ((b.lamps.take j).map eLamp),.l ((b.days.take (j-b.lamps.length)).map c7)])
  ⟨none,none,none,none,rfl,by simp⟩ (by
   rintro j ⟨i,p⟩ σ μ' hp ⟨v5,v6,v7,v8,rfl,rfl⟩
   rw[DO]at hp
   obtain⟨hi,hp⟩:=hp
   have hj:=(AK.mp hp).1
   have bt:∀σ:Sl,dq (.many [5,6]) (D.tup [.int i,eS p]) σ=some ((σ.set 5 (some (.int i))).set 6 (some (eS p))):=λ_=>rfl
   have S:=D3 hr ((b.lamps.take j).map eLamp) ((b.days.take (j-b.lamps.length)).map c7)
   have L1:((b.lamps.take j).map eLamp).length<1000000:=by simp;lia
   have L2:((b.days.take (j-b.lamps.length)).map c7).length<1000000:=by simp;lia
   by_cases hc:j<b.lamps.length
   ·have eg:b.lamps[j]? = some b.lamps[j]:=AE hc
    have ep:p=a8 b.lamps[j]:=by
     unfold bw at hp
     rw[AS (by simpa using hc),BX,eg]at hp
     exact(BP hp).symm
    have hw:=ny hb (EF hc)
    have e1:(b.lamps.take (j+1)).map eLamp=(b.lamps.take j).map eLamp++[eLamp b.lamps[j]]:=by rw[CS,eg,CZ];rfl
    have e2:j-b.lamps.length=0:=by lia
    have e3:j+1-b.lamps.length=0:=by lia
    rw[e1,e3]
    rw[e2]at S L2 ⊢
    generalize b.lamps[j]=la at *
    subst ep
    have k1:=aq (u7 (n:=n) S hw) (j7 la) rfl S
    have k2:=aq (tf (n:=n+3) (μ:=μ++[.l ((b.lamps.take j).map eLamp),.l ((b.days.take 0).map c7)]) (w:=wLamp) (w':=wDay) (by decide) (by decide) (i9 la) (Dd hw) (kb hw) 5) rfl rfl S
    have k2':f9 (ao GL (n+4)) false au [eS (a8 la),eS wDay,.int 5] (μ++[.l ((b.lamps.take j).map eLamp),.l ((b.days.take 0).map c7)])=.ok .non (μ++[.l ((b.lamps.take j).map eLamp),.l ((b.days.take 0).map c7)]):=k2
    have n1:∀ν:Sto,cpD .isnot .non .non ν=.ok (.bl false) ν:=λ_=>rfl
    have n2:∀ν:Sto,cpD .isnot (eLamp la) .non ν=.ok (.bl true) ν:=λ_=>rfl
    refine⟨[some (eS (jm b)),some (.lst ((storeR b::bw b).map eS)),some (az [b.store,b.oil]),some (.loc μ.length),some (.loc (μ.length+1)),some (.int i),some (eS (a8 la)),some (eLamp la),some .non],_,?_,_,_,_,_,rfl,rfl⟩
    have ed:(b.days.take 0).map c7=[]:=rfl
    rw[ed]at k1 k2' ⊢
    generalize (storeR b::bw b).map eS=RD at *
    generalize (b.lamps.take j).map eLamp=LD at *
    have ap:=apA (μ:=μ) (ds:=LD) (o:=.l []) (d:=eLamp la) (j7 la) L1
    have tb:=Q6 (μ:=μ) (ds:=[]) (o:=.l LD)
    have te:(!([]:List D).isEmpty)=false:=rfl
    rw[te]at tb
    simp! only[fLp,dz,bt,k1,C8,k2',n1,n2,Cw,tb,T2,ap]
   ·have hd:j-b.lamps.length<b.days.length:=by simp[bw]at hj;lia
    have eg:b.days[j-b.lamps.length]? = some b.days[j-b.lamps.length]:=AE hd
    have ep:p=kh b.days[j-b.lamps.length]:=by
     unfold bw at hp
     rw[BY (by simpa using hc),BX,AV,eg]at hp
     exact(BP hp).symm
    have hw:=sy hb (EF hd)
    have e1:(b.lamps.take (j+1)).map eLamp=(b.lamps.take j).map eLamp:=by rw[BC (by lia),BC (by lia)]
    have e2:(b.days.take (j+1-b.lamps.length)).map c7=(b.days.take (j-b.lamps.length)).map c7++[c7 b.days[j-b.lamps.length]]:=by
     rw[show j+1-b.lamps.length=j-b.lamps.length+1 by lia,CS,eg,CZ];rfl
    rw[e1,e2]
    generalize b.days[j-b.lamps.length]=da at *
    subst ep
    generalize (b.lamps.take j).map eLamp=LD at *
    generalize (b.days.take (j-b.lamps.length)).map c7=DD at *
    have k1:=aq (oi (n:=n) S hw) rfl rfl S
    have k2:=aq (n4 (n:=n+1) S (w:=wDay) (by decide) (by decide) (nv da) (by simp[nv]) hw) (gy _) rfl S
    have k2':f9 (ao GL (n+4)) false au [eS (kh da),eS wDay,.int 5] (μ++[.l LD,.l DD])=.ok (c7 da) (μ++[.l LD,.l DD]):=k2
    have n2:∀ν:Sto,cpD .isnot (c7 da) .non ν=.ok (.bl true) ν:=λ_=>rfl
    refine⟨[some (eS (jm b)),some (.lst ((storeR b::bw b).map eS)),some (az [b.store,b.oil]),some (.loc μ.length),some (.loc (μ.length+1)),some (.int i),some (eS (kh da)),some .non,some (c7 da)],_,?_,_,_,_,_,rfl,rfl⟩
    generalize (storeR b::bw b).map eS=RD at *
    have ap:=apB (μ:=μ) (ds:=DD) (o:=.l LD) (d:=c7 da) (qj da) L2
    simp! only[fLp,dz,bt,k1,C8,k2',n2,T3,ap])
 have lz:((List.range (bw b).length).zip (bw b)).length=b.lamps.length+b.days.length:=by simp[bw]
 rw[lz,BC (by lia),BC (by lia),DB,DB]at l
 have S:=D3 hr (b.lamps.map eLamp) (b.days.map c7)
 have aA:(μ++[.l (b.lamps.map eLamp),.l (b.days.map c7)])[μ.length]? = some (.l (b.lamps.map eLamp)):=by simp
 have aB:(μ++[.l (b.lamps.map eLamp),.l (b.days.map c7)])[μ.length+1]? = some (.l (b.days.map c7)):=by simp
 have em:(b.lamps.map λla=>(la,az la.away)).map u0=b.lamps.map eLamp:=by rw[BU];rfl
 have mb:=aq (sm (n:=n+1) S hb (ps:=b.lamps.map λla=>(la,az la.away)) (by rw[BU];exact List.map_id _) (λp hp=>by
  obtain⟨la,_,rfl⟩:=BS.mp hp
  exact Km) (by rw[em];exact Q5 aA) (Q5 aB)) (gz b) rfl S
 have tA:=T4 (μ:=μ) (ds:=b.lamps.map eLamp) (o:=.l (b.days.map c7))
 have tB:=Q6 (μ:=μ) (ds:=b.days.map c7) (o:=.l (b.lamps.map eLamp))
 have zA:(b.lamps.map eLamp).isEmpty=false:=by
  cases e:b.lamps with
  |nil=>rw[e]at q1;simp at q1
  |cons a r=>rfl
 have zB:(b.days.map c7).isEmpty=false:=by
  cases e:b.days with
  |nil=>rw[e]at q2;simp at q2
  |cons a r=>rfl
 rw[zA]at tA
 rw[zB]at tB
 have x0:∀ν:Sto,ixD (az [b.store,b.oil]) (.int 0) ν=.ok (.int b.store) ν:=λ_=>rfl
 have x1:∀ν:Sto,ixD (az [b.store,b.oil]) (.int 1) ν=.ok (.int b.oil) ν:=λ_=>rfl
 refine⟨[.l (b.lamps.map eLamp),.l (b.days.map c7)],?_⟩
 generalize (storeR b::bw b).map eS=RD at *
 generalize (bw b).map eS=RS at *
 generalize az [b.store,b.oil]=SO at *
 generalize b.lamps.map eLamp=LD at *
 generalize b.days.map c7=DD at *
 simp! only[D_read_book,Ov,sp,i0,A6,k0',n0,m0,m1,sl,ke,l,Cw,tA,tB,x0,x1,mb]
end
theorem Ow(ns:List Int):∃μ',ao GL 6 nc [.lst (ns.map D.int)] []=.ok (.bl true) μ':=by
 rw[ak Aw,run_eq rfl]
 have hr:∀cs,jd [Lf cs]:=λcs=>rfl
 have hb:=C3 ns
 have ev:=Gj (n:=1) (ρ:=[]) (λ_=>rfl) ns
 generalize (qk ns).1=b at hb ev
 generalize (qk ns).2=cs at ev
 have k0:=aq ev (gz b) rfl (hr cs)
 have k1:=k8 (u4 (n:=2) (hr cs) hb) rfl (hr cs)
 have k2:=k8 (u5 (n:=4) (μ:=[Lf cs]) hb) (by
  show((storeR b::bw b).map eS).all (D.pureN 7)=true
  rw[DM,AT];exact λ_ _=>rfl) (hr cs)
 have k3:=aq (ym (n:=4) (μ:=[Lf cs]) (storeR b) (bw b) (by have:=lb hb;lia) (k9 hb) (nz hb)) rfl rfl (hr cs)
 have k3':f9 (ao GL 5) false gx [.lst ((storeR b::bw b).map eS)] [Lf cs]=.ok (eS (jm b)) [Lf cs]:=k3
 obtain⟨ρ,er⟩:=u9 (n:=0) (μ:=[Lf cs]) (hr cs) hb
 have k4:=k8 er (gz b) (hr cs)
 have k5:f9 (ao GL 5) false cf [bu b,bu b] [Lf cs]=.ok (.bl true) [Lf cs]:=uz (n:=2) (hr cs) b
 have t1:Bc .str (eS (jm b)) [Lf cs]=.ok (.bl true) [Lf cs]:=rfl
 have ne:cpD .ne (eS (jm b)) (eS (jm b)) [Lf cs]=.ok (.bl false) [Lf cs]:=by
  rw[x5 rfl rfl,j8 8 _ rfl];rfl
 refine⟨[Lf cs],?_⟩
 generalize (storeR b::bw b).map eS=RD at *
 generalize jm b=TX at *
 simp! only[D_law_k59,x6 yh,Ax,k0,k1,t1,k2,k3',ne,k4,k5]
end Lr
namespace Lp.Law
open PySem PySem.Spec PyProof.Rows L2 Lp
noncomputable def top(i:Nat):Stmt:=PySem.Challenge.pw_lamprota_k59_books_written.main.body.getD i (.Pass ⟨0,0,0,0⟩)
noncomputable def e0:Ent:=⟨ag,"refuse_unless",top 5,["holds","words"],["holds","words"],D_refuse_unless⟩
noncomputable def e1:Ent:=⟨bq,"is_measure",top 6,["number"],["number"],D_is_measure⟩
noncomputable def e2:Ent:=⟨qh,"rises",top 7,["things"],["things"],D_rises⟩
noncomputable def e3:Ent:=⟨h9,"made_lamp",top 8,["lamp","many_days","tank","oil","away"],["lamp","many_days"],D_made_lamp⟩
noncomputable def e4:Ent:=⟨jg,"made_day",top 9,["day","many_lamps","boat","most","price","length","wanted"],["day","many_lamps"],D_made_day⟩
noncomputable def e5:Ent:=⟨ia,"made_book",top 10,["store","oil","lamps","days","book_lamps","book_days"],["store","oil","lamps","days"],D_made_book⟩
noncomputable def e6:Ent:=⟨br,"numbers_row",top 13,["word","numbers"],["word","numbers"],D_numbers_row⟩
noncomputable def e7:Ent:=⟨jh,"lamp_row",top 14,["lamp","tank","oil","away","row"],["lamp"],D_lamp_row⟩
noncomputable def e8:Ent:=⟨ib,"book_text",top 15,["book","store","oil","lamps","days","rows"],["book"],D_book_text⟩
noncomputable def e9:Ent:=⟨ic,"is_number",top 16,["word"],["word"],D_is_number⟩
noncomputable def e10:Ent:=⟨eh,"numbers_of",top 17,["words"],["words"],D_numbers_of⟩
noncomputable def e11:Ent:=⟨au,"read_numbers",top 18,["row","word","many","words"],["row","word","many"],D_read_numbers⟩
noncomputable def e12:Ent:=⟨fv,"read_lamp",top 19,["row","front","parting","days","numbers","away"],["row"],D_read_lamp⟩
noncomputable def e13:Ent:=⟨ie,"read_book",top 20,["text","rows","stored","lamps","days","place","row","lamp","day"],["text"],D_read_book⟩
noncomputable def e14:Ent:=⟨ay,"_law_next",top 22,["left"],["left"],D_law_next⟩
noncomputable def e15:Ent:=⟨c9,"_law_turn",top 23,["cell","stir"],["cell"],D_law_turn⟩
noncomputable def e16:Ent:=⟨bp,"_law_size",top 24,["cell","most","turn"],["cell","most"],D_law_size⟩
noncomputable def e17:Ent:=⟨fu,"_law_whole",top 25,["found"],["found"],D_law_whole⟩
noncomputable def e18:Ent:=⟨je,"_law_lamp",top 26,["left","days","tank","oil","turn","away"],["left","days"],D_law_lamp⟩
noncomputable def e19:Ent:=⟨j6,"_law_day",top 27,["left","lamps","boat","most","price","length"],["left","lamps"],D_law_day⟩
noncomputable def e20:Ent:=⟨jf,"_law_book",top 28,["left","head","lamps","days","store","oil","made"],["left"],D_law_book⟩
noncomputable def e21:Ent:=⟨a7,"_law_all_whole",top 29,["parts"],["parts"],D_law_all_whole⟩
noncomputable def e22:Ent:=⟨cf,"_law_same_book",top 30,["found","due","lamp"],["found","due"],D_law_same_book⟩
noncomputable def e23:Ent:=⟨ig,"_law_shown",top 31,["book","rows","tank","oil","away","row","day","number"],["book"],D_law_shown⟩
noncomputable def e24:Ent:=⟨gx,"_law_text",top 32,["rows","text","row"],["rows"],D_law_text⟩
noncomputable def e25:Ent:=⟨nc,"law",top 33,["script","book","found"],["script"],D_law_k59⟩
noncomputable def ents:List Ent:=[e0,e1,e2,e3,e4,e5,e6,e7,e8,e9,e10,e11,e12,e13,e14,e15,e16,e17,e18,e19,e20,e21,e22,e23,e24,e25]
noncomputable def lg:List Str:=["zip","all","len","tuple","str","int","enumerate","min","isinstance","bool","range","max","list","reversed"]
noncomputable def cns:List (Str×Int):=[("MOST_FIGURES",31)]
theorem arS{k:Nat}{Q:List Value->Prop}(h:∀a us,us.length=k->Q (a::us)):∀us:List Value,us.length=k+1->Q us
 | [],e=>nomatch e
 |a::us,e=>h a us (Nat.succ.inj e)
theorem ar0{Q:List Value->Prop}(h:∀(_:Unit),Q []):∀us:List Value,us.length=0->Q us
 | [],_=>h ()
theorem ar1{Q:List Value->Prop}(h:∀(a0:Value),Q [a0]):∀us:List Value,us.length=1->Q us:=arS λa0=>ar0 (Q:=λus=>Q (a0::us)) (λ_=>h a0)
theorem ar2{Q:List Value->Prop}(h:∀(a0 a1:Value),Q [a0,a1]):∀us:List Value,us.length=2->Q us:=arS λa0=>ar1 (Q:=λus=>Q (a0::us)) (h a0)
theorem ar3{Q:List Value->Prop}(h:∀(a0 a1 a2:Value),Q [a0,a1,a2]):∀us:List Value,us.length=3->Q us:=arS λa0=>ar2 (Q:=λus=>Q (a0::us)) (h a0)
theorem ar4{Q:List Value->Prop}(h:∀(a0 a1 a2 a3:Value),Q [a0,a1,a2,a3]):∀us:List Value,us.length=4->Q us:=arS λa0=>ar3 (Q:=λus=>Q (a0::us)) (h a0)
section
variable{P:Program}{w:World}{K:PySem.W.Frag}{mg:Str -> Option Value}{base:Heap}
theorem dv0(B:∀(j:Nat) x,lg[j]? = some x->mg x=none)(cn:kx cns mg):Derived GL P w K mg base ents e0:=dmk λn fa cdv A outer s H E hu C =>
 (ar (p8 (d9 (dh (ae 0))) (ar p7 cv) cv) cv)
theorem dv1(B:∀(j:Nat) x,lg[j]? = some x->mg x=none)(cn:kx cns mg):Derived GL P w K mg base ents e1:=dmk λn fa cdv A outer s H E hu C =>
 (ar (cq (jw aj (Dw hu .le (ae 0) (jv hu .le (bb aj aj))))) cv)
theorem dv2(B:∀(j:Nat) x,lg[j]? = some x->mg x=none)(cn:kx cns mg):Derived GL P w K mg base ents e2:=dmk λn fa cdv A outer s H E hu C =>
 (ar (cq (ug (B 1 _ rfl) (aa (gw ["one","other"] (J5 (B 0 _ rfl) (ae 0) (G2 (ae 0) (G1 aj) G0)) (λ_ _ _ _=>⟨(lx (a9 0 (a9 1 lu))),di,(jw (ae 0) (jv hu .lt (ae 1)))⟩)) af))) cv)
theorem dv3(B:∀(j:Nat) x,lg[j]? = some x->mg x=none)(cn:kx cns mg):Derived GL P w K mg base ents e3:=dmk λn fa cdv A outer s H E hu C =>
 (ar (oa (ai (C 0 _ rfl) (aa (jw (et (B 2 _ rfl) (aa (ae 0) af)) (jv hu .eq aj)) (aa cg af)))) (ar (Ab (lx (a9 2 (a9 3 (a9 4 lu)))) (ae 0)) (ar (oa (ai (C 0 _ rfl) (aa (ai (C 1 _ rfl) (aa (ae 2) af)) (aa cg af)))) (ar (oa (ai (C 0 _ rfl) (aa (jw aj (Dw hu .le (ae 3) (jv hu .le (ae 2)))) (aa cg af)))) (ar (oa (ai (C 0 _ rfl) (aa (ug (B 1 _ rfl) (aa (gw ["many_days","day"] (fc (ae 4)) (λ_ _ _ _=>⟨(cm 1),di,(jw aj (Dw hu .le (ae 1) (jv hu .lt (ae 0))))⟩)) af)) (aa cg af)))) (ar (oa (ai (C 0 _ rfl) (aa (ai (C 2 _ rfl) (aa (ae 4) af)) (aa cg af)))) (ar (cq (mn (aa (ae 2) (aa (ae 3) (aa (fo (B 3 _ rfl) (aa (ae 4) af)) af))))) cv)))))))
theorem dv4(B:∀(j:Nat) x,lg[j]? = some x->mg x=none)(cn:kx cns mg):Derived GL P w K mg base ents e4:=dmk λn fa cdv A outer s H E hu C =>
 (ar (oa (ai (C 0 _ rfl) (aa (jw (et (B 2 _ rfl) (aa (ae 0) af)) (jv hu .eq aj)) (aa cg af)))) (ar (Ab (lx (a9 2 (a9 3 (a9 4 (a9 5 (a9 6 lu)))))) (ae 0)) (ar (oa (ai (C 0 _ rfl) (aa (ai (C 1 _ rfl) (aa (ae 2) af)) (aa cg af)))) (ar (oa (ai (C 0 _ rfl) (aa (ai (C 1 _ rfl) (aa (ae 3) af)) (aa cg af)))) (ar (oa (ai (C 0 _ rfl) (aa (jw aj (Dw hu .le (ae 4) (jv hu .le (bb aj aj)))) (aa cg af)))) (ar (oa (ai (C 0 _ rfl) (aa (jw aj (Dw hu .le (ae 5) (jv hu .le (bb aj aj)))) (aa cg af)))) (ar (oa (ai (C 0 _ rfl) (aa (jw aj (Dw hu .le (ae 6) (jv hu .le (ae 1)))) (aa cg af)))) (ar (cq (mn (aa (ae 2) (aa (ae 3) (aa (ae 4) (aa (ae 5) (aa (ae 6) af))))))) cv))))))))
theorem dv5(B:∀(j:Nat) x,lg[j]? = some x->mg x=none)(cn:kx cns mg):Derived GL P w K mg base ents e5:=dmk λn fa cdv A outer s H E hu C =>
 (ar (oa (ai (C 0 _ rfl) (aa (ai (C 1 _ rfl) (aa (ae 0) af)) (aa cg af)))) (ar (oa (ai (C 0 _ rfl) (aa (ai (C 1 _ rfl) (aa (ae 1) af)) (aa cg af)))) (ar (oa (ai (C 0 _ rfl) (aa (jw aj (Dw hu .le (et (B 2 _ rfl) (aa (ae 2) af)) (jv hu .le aj))) (aa cg af)))) (ar (oa (ai (C 0 _ rfl) (aa (jw aj (Dw hu .le (et (B 2 _ rfl) (aa (ae 3) af)) (jv hu .le aj))) (aa cg af)))) (ar (cc 4 (fo (B 3 _ rfl) (aa (gw ["days","lamp"] (fc (ae 2)) (λ_ _ _ _=>⟨(cm 1),di,(ai (C 3 _ rfl) (aa (ae 1) (aa (et (B 2 _ rfl) (aa (ae 0) af)) af)))⟩)) af))) (ar (cc 5 (fo (B 3 _ rfl) (aa (gw ["lamps","day"] (fc (ae 3)) (λ_ _ _ _=>⟨(cm 1),di,(ai (C 4 _ rfl) (aa (ae 1) (aa (et (B 2 _ rfl) (aa (ae 0) af)) af)))⟩)) af))) (ar (cq (mn (aa (ae 0) (aa (ae 1) (aa (ae 4) (aa (ae 5) af)))))) cv)))))))
theorem dv6(B:∀(j:Nat) x,lg[j]? = some x->mg x=none)(cn:kx cns mg):Derived GL P w K mg base ents e6:=dmk λn fa cdv A outer s H E hu C =>
 (ar (cq (r9 cg (aa (bb (z7 (aa (ae 0) af)) (gw ["number"] (fc (ae 1)) (λ_ _ _ _=>⟨(cm 0),di,(h8 (B 4 _ rfl) (aa (ae 0) af))⟩))) af))) cv)
theorem dv7(B:∀(j:Nat) x,lg[j]? = some x->mg x=none)(cn:kx cns mg):Derived GL P w K mg base ents e7:=dmk λn fa cdv A outer s H E hu C =>
 (ar (Ab (lx (a9 1 (a9 2 (a9 3 lu)))) (ae 0)) (ar (cc 4 (ai (C 6 _ rfl) (aa cg (aa (mn (aa (ae 1) (aa (ae 2) af))) af)))) (ar (cq (Jz (Ct (ae 3)) (ft (ft (ae 4) cg) (ai (C 6 _ rfl) (aa cg (aa (ae 3) af)))) (ae 4))) cv)))
theorem dv8(B:∀(j:Nat) x,lg[j]? = some x->mg x=none)(cn:kx cns mg):Derived GL P w K mg base ents e8:=dmk λn fa cdv A outer s H E hu C =>
 (ar (Ab (lx (a9 1 (a9 2 (a9 3 (a9 4 lu))))) (ae 0)) (ar (cc 5 (z7 (aa (ai (C 6 _ rfl) (aa cg (aa (mn (aa (ae 1) (aa (ae 2) af))) af))) af))) (ar (oa (mr (ae 5) (aa (gw ["lamp"] (fc (ae 3)) (λ_ _ _ _=>⟨(cm 0),di,(ai (C 7 _ rfl) (aa (ae 0) af))⟩)) af))) (ar (oa (mr (ae 5) (aa (gw ["day"] (fc (ae 4)) (λ_ _ _ _=>⟨(cm 0),di,(ai (C 6 _ rfl) (aa cg (aa (ae 0) af)))⟩)) af))) (ar (cq (r9 cg (aa (ae 5) af))) cv)))))
theorem dv9(B:∀(j:Nat) x,lg[j]? = some x->mg x=none)(cn:kx cns mg):Derived GL P w K mg base ents e9:=dmk λn fa cdv A outer s H E hu C =>
 (ar (cq (Fq (Aq (ae 0)) (Fq (jw (Cs (B 2 _ rfl) (aa (ae 0) af)) (jv hu .le (Ka (cn 0 _ rfl)))) (Du (So (jw (ae 0) (jv hu .eq cg)) (M6 (Jy (xq (ae 0) (aa cg af))))))))) cv)
theorem T5(B:∀(j:Nat) x,lg[j]? = some x->mg x=none)(cn:kx cns mg):Derived GL P w K mg base ents e10:=dmk λn fa cdv A outer s H E hu C =>
 (ar (p8 (d9 (dh (ug (B 1 _ rfl) (aa (gw ["word"] (fc (ae 0)) (λ_ _ _ _=>⟨(cm 0),di,(ai (C 9 _ rfl) (aa (ae 0) af))⟩)) af)))) (ar (cq rz) cv) cv) (ar (cq (fo (B 3 _ rfl) (aa (gw ["word"] (fc (ae 0)) (λ_ _ _ _=>⟨(cm 0),di,(Cr (B 5 _ rfl) (aa (ae 0) af))⟩)) af))) cv))
theorem T6(B:∀(j:Nat) x,lg[j]? = some x->mg x=none)(cn:kx cns mg):Derived GL P w K mg base ents e11:=dmk λn fa cdv A outer s H E hu C =>
 (ar (cc 3 (ku (ae 0) (aa cg af))) (ar (p8 (Cb (mq (d8 (uf (ae 3) aj) (iz hu .ne (ae 1))) (lr (d8 (et (B 2 _ rfl) (aa (ae 3) af)) (iz hu .ne (bb (ae 2) aj)))))) (ar (cq rz) cv) cv) (ar (cq (ai (C 10 _ rfl) (aa (G2 (ae 3) (G1 aj) G0) af))) cv)))
theorem T7(B:∀(j:Nat) x,lg[j]? = some x->mg x=none)(cn:kx cns mg):Derived GL P w K mg base ents e12:=dmk λn fa cdv A outer s H E hu C =>
 (ar (Ab (lx (a9 1 (a9 2 (a9 3 lu)))) (Ar (ae 0) (aa cg af))) (ar (cc 4 (ai (C 11 _ rfl) (aa (ae 1) (aa cg (aa aj af))))) (ar (cc 5 (Jz (F9 (ae 2)) (ai (C 10 _ rfl) (aa (ku (ae 3) (aa cg af)) af)) (mn af))) (ar (p8 (Cb (mq (d8 (ae 4) (iz hu .is rz)) (lr (d8 (ae 5) (iz hu .is rz))))) (ar (cq rz) cv) cv) (ar (cq (bb (ae 4) (mn (aa (ae 5) af)))) cv)))))
theorem T8(B:∀(j:Nat) x,lg[j]? = some x->mg x=none)(cn:kx cns mg):Derived GL P w K mg base ents e13:=dmk λn fa cdv A outer s H E hu C =>
 (ar (cc 1 (ku (ae 0) (aa cg af))) (ar (cc 2 (ai (C 11 _ rfl) (aa (uf (ae 1) aj) (aa cg (aa aj af))))) (ar (p8 (d8 (ae 2) (iz hu .is rz)) (ar p7 cv) cv) (ar (cc 3 (z7 af)) (ar (cc 4 (z7 af)) (ar (uh (F6 (B 6 _ rfl) (G2 (ae 1) (G1 aj) G0)) (lx (a9 5 (a9 6 lu))) (ar (cc 7 (ai (C 12 _ rfl) (aa (ae 6) af))) (ar (cc 8 (ai (C 11 _ rfl) (aa (ae 6) (aa cg (aa aj af))))) (ar (p8 (d8 (ae 8) (iz hu .isnot rz)) (ar (oa (h7 (ae 4) (aa (ae 8) af))) cv) (ar (p8 (Cb (J0 (d8 (ae 7) (iz hu .isnot rz)) (Fs (d9 (Ct (ae 4)))))) (ar (oa (h7 (ae 3) (aa (ae 7) af))) cv) (ar p7 cv)) cv)) cv)))) (ar (p8 (Cb (mq (d9 (Ct (ae 3))) (lr (d9 (Ct (ae 4)))))) (ar p7 cv) cv) (ar (cq (ai (C 5 _ rfl) (aa (uf (ae 2) aj) (aa (uf (ae 2) aj) (aa (ae 3) (aa (ae 4) af)))))) cv))))))))
theorem T9(B:∀(j:Nat) x,lg[j]? = some x->mg x=none)(cn:kx cns mg):Derived GL P w K mg base ents e14:=dmk λn fa cdv A outer s H E hu C =>
 (ar (p8 (d8 (et (B 2 _ rfl) (aa (ae 0) af)) (iz hu .gt aj)) (ar (cq (Cd (ae 0))) cv) cv) (ar (cq aj) cv))
theorem Ua(B:∀(j:Nat) x,lg[j]? = some x->mg x=none)(cn:kx cns mg):Derived GL P w K mg base ents e15:=dmk λn fa cdv A outer s H E hu C =>
 (ar (cc 1 (bb (bb (bb (bb (ae 0) (bb aj aj)) aj) aj) aj)) (ar (cq (bb (bb (bb (ae 1) (ae 1)) aj) aj)) cv))
theorem Ub(B:∀(j:Nat) x,lg[j]? = some x->mg x=none)(cn:kx cns mg):Derived GL P w K mg base ents e16:=dmk λn fa cdv A outer s H E hu C =>
 (ar (cc 2 (ai (C 15 _ rfl) (aa (ae 0) af))) (ar (p8 (d8 (bb (ae 2) aj) (iz hu .lt aj)) (ar (cq (z8 (B 7 _ rfl) (aa (ae 1) (aa (bb (bb (ae 2) aj) aj) af)))) cv) cv) (ar (p8 (d8 (bb (ae 2) aj) (iz hu .eq aj)) (ar (cq (bb (ae 1) (bb (bb (ae 2) aj) aj))) cv) cv) (ar (cq (bb (ae 0) (bb (ae 1) aj))) cv))))
theorem Uc(B:∀(j:Nat) x,lg[j]? = some x->mg x=none)(cn:kx cns mg):Derived GL P w K mg base ents e17:=dmk λn fa cdv A outer s H E hu C =>
 (ar (cq (Fq (p5 (ae 0) (B 8 _ rfl) (B 5 _ rfl)) (Du (Jy (p5 (ae 0) (B 8 _ rfl) (B 9 _ rfl)))))) cv)
theorem Ud(B:∀(j:Nat) x,lg[j]? = some x->mg x=none)(cn:kx cns mg):Derived GL P w K mg base ents e18:=dmk λn fa cdv A outer s H E hu C =>
 (ar (cc 2 (ai (C 16 _ rfl) (aa (ai (C 14 _ rfl) (aa (ae 0) af)) (aa (bb aj aj) af)))) (ar (cc 3 (z8 (B 7 _ rfl) (aa (ae 2) (aa (ai (C 16 _ rfl) (aa (ai (C 14 _ rfl) (aa (ae 0) af)) (aa (bb aj aj) af))) af)))) (ar (cc 4 (ai (C 15 _ rfl) (aa (ai (C 14 _ rfl) (aa (ae 0) af)) af))) (ar (cc 5 (mn af)) (ar (p8 (d8 (bb (ae 4) aj) (iz hu .eq aj)) (ar (cc 5 (fo (B 3 _ rfl) (aa (gw ["turn","day"] (z9 (B 10 _ rfl) (ae 1)) (λ_ _ _ _=>⟨(cm 1),(p6 (d8 (bb (bb (ae 0) (bb (ae 1) aj)) aj) (iz hu .eq aj)) di),(ae 1)⟩)) af))) cv) cv) (ar (cq (mn (aa (ae 2) (aa (ae 3) (aa (ae 5) af))))) cv))))))
theorem Ue(B:∀(j:Nat) x,lg[j]? = some x->mg x=none)(cn:kx cns mg):Derived GL P w K mg base ents e19:=dmk λn fa cdv A outer s H E hu C =>
 (ar (cc 2 (ai (C 16 _ rfl) (aa (ai (C 14 _ rfl) (aa (ae 0) af)) (aa (bb aj aj) af)))) (ar (cc 3 (ai (C 16 _ rfl) (aa (ai (C 14 _ rfl) (aa (ae 0) af)) (aa (bb aj aj) af)))) (ar (cc 4 (ai (C 16 _ rfl) (aa (ai (C 14 _ rfl) (aa (ae 0) af)) (aa (bb aj aj) af)))) (ar (cc 5 (Ft (B 11 _ rfl) (aa aj (aa (ai (C 16 _ rfl) (aa (ai (C 14 _ rfl) (aa (ae 0) af)) (aa (bb aj aj) af))) af)))) (ar (cq (mn (aa (ae 2) (aa (ae 3) (aa (ae 4) (aa (ae 5) (aa (bb (ai (C 15 _ rfl) (aa (ai (C 14 _ rfl) (aa (ae 0) af)) af)) (bb (ae 1) aj)) af))))))) cv)))))
theorem Ug(B:∀(j:Nat) x,lg[j]? = some x->mg x=none)(cn:kx cns mg):Derived GL P w K mg base ents e20:=dmk λn fa cdv A outer s H E hu C =>
 (ar (cc 1 (ai (C 15 _ rfl) (aa (ai (C 14 _ rfl) (aa (ae 0) af)) af))) (ar (cc 2 (bb aj (bb (ae 1) aj))) (ar (cc 3 (bb aj (bb (bb (ae 1) aj) aj))) (ar (p8 (d8 (bb (bb (ae 1) aj) aj) (iz hu .eq aj)) (ar (cc 2 (bb aj (bb (bb (ae 1) aj) aj))) (ar (cc 3 (bb aj (bb (bb (ae 1) aj) aj))) cv)) cv) (ar (cc 4 (ai (C 16 _ rfl) (aa (ai (C 14 _ rfl) (aa (ae 0) af)) (aa (bb aj aj) af)))) (ar (cc 5 (ai (C 16 _ rfl) (aa (ai (C 14 _ rfl) (aa (ae 0) af)) (aa (bb aj aj) af)))) (ar (Aa 6 ["left","days","k"] (z9 (B 10 _ rfl) (ae 2)) (λ_ _ _ _=>⟨(cm 2),di,(ai (C 18 _ rfl) (aa (ae 0) (aa (ae 1) af)))⟩)) (ar (cq (mn (aa (ae 4) (aa (ae 5) (aa (fo (B 3 _ rfl) (aa (ae 6) af)) (aa (fo (B 3 _ rfl) (aa (gw ["left","lamps","k"] (z9 (B 10 _ rfl) (ae 3)) (λ_ _ _ _=>⟨(cm 2),di,(ai (C 19 _ rfl) (aa (ae 0) (aa (ae 1) af)))⟩)) af)) af)))))) cv))))))))
theorem Uh(B:∀(j:Nat) x,lg[j]? = some x->mg x=none)(cn:kx cns mg):Derived GL P w K mg base ents e21:=dmk λn fa cdv A outer s H E hu C =>
 (ar (cq (jw (et (B 2 _ rfl) (aa (gw ["part"] (fc (ae 0)) (λ_ _ _ _=>⟨(cm 0),(p6 (d9 (dh (ai (C 17 _ rfl) (aa (ae 0) af)))) di),(ae 0)⟩)) af)) (jv hu .eq aj))) cv)
theorem Ui(B:∀(j:Nat) x,lg[j]? = some x->mg x=none)(cn:kx cns mg):Derived GL P w K mg base ents e22:=dmk λn fa cdv A outer s H E hu C =>
 (ar (p8 (Cb (mq (d9 (dh (p5 (ae 0) (B 8 _ rfl) (B 3 _ rfl)))) (mq (d8 (et (B 2 _ rfl) (aa (ae 0) af)) (iz hu .ne aj)) (mq (d8 (ae 0) (iz hu .ne (ae 1))) (lr (d9 (dh (ai (C 21 _ rfl) (aa (G2 (ae 0) G0 (G1 aj)) af))))))))) (ar (cq Jx) cv) cv) (ar (p8 (Cb (mq (d9 (dh (p5 (uf (ae 0) aj) (B 8 _ rfl) (B 3 _ rfl)))) (lr (d9 (dh (p5 (uf (ae 0) aj) (B 8 _ rfl) (B 3 _ rfl))))))) (ar (cq Jx) cv) cv) (ar (uh (fc (uf (ae 0) aj)) (cm 2) (ar (p8 (Cb (mq (d9 (dh (p5 (ae 2) (B 8 _ rfl) (B 3 _ rfl)))) (mq (d9 (dh (ai (C 21 _ rfl) (aa (G2 (ae 2) G0 (G1 aj)) af)))) (lr (d9 (dh (p5 (uf (ae 2) aj) (B 8 _ rfl) (B 3 _ rfl)))))))) (ar (cq Jx) cv) cv) (ar (p8 (d9 (dh (ai (C 21 _ rfl) (aa (uf (ae 2) aj) af)))) (ar (cq Jx) cv) cv) cv))) (ar (cq (jw (et (B 2 _ rfl) (aa (gw ["day"] (fc (uf (ae 0) aj)) (λ_ _ _ _=>⟨(cm 0),(p6 (Cb (mq (d9 (dh (p5 (ae 0) (B 8 _ rfl) (B 3 _ rfl)))) (lr (d9 (dh (ai (C 21 _ rfl) (aa (ae 0) af))))))) di),(ae 0)⟩)) af)) (jv hu .eq aj))) cv))))
theorem Uj(B:∀(j:Nat) x,lg[j]? = some x->mg x=none)(cn:kx cns mg):Derived GL P w K mg base ents e23:=dmk λn fa cdv A outer s H E hu C =>
 (ar (cc 1 (z7 (aa (ft (ft (ft cg (h8 (B 4 _ rfl) (aa (uf (ae 0) aj) af))) cg) (h8 (B 4 _ rfl) (aa (uf (ae 0) aj) af))) af))) (ar (uh (fc (uf (ae 0) aj)) (lx (a9 2 (a9 3 (a9 4 lu)))) (ar (cc 5 (ft (ft (ft cg (h8 (B 4 _ rfl) (aa (ae 2) af))) cg) (h8 (B 4 _ rfl) (aa (ae 3) af)))) (ar (p8 (d8 (et (B 2 _ rfl) (aa (ae 4) af)) (iz hu .gt aj)) (ar (cc 5 (ft (ae 5) cg)) cv) cv) (ar (uh (fc (ae 4)) (cm 6) (ar (cc 5 (ft (ft (ae 5) cg) (h8 (B 4 _ rfl) (aa (ae 6) af)))) cv)) (ar (oa (h7 (ae 1) (aa (ae 5) af))) cv))))) (ar (uh (fc (uf (ae 0) aj)) (cm 6) (ar (cc 5 cg) (ar (uh (fc (ae 6)) (cm 7) (ar (cc 5 (ft (ft (ae 5) cg) (h8 (B 4 _ rfl) (aa (ae 7) af)))) cv)) (ar (oa (h7 (ae 1) (aa (ae 5) af))) cv)))) (ar (cq (M5 1)) cv))))
theorem Uk(B:∀(j:Nat) x,lg[j]? = some x->mg x=none)(cn:kx cns mg):Derived GL P w K mg base ents e24:=dmk λn fa cdv A outer s H E hu C =>
 (ar (cc 1 (uf (ae 0) aj)) (ar (uh (fc (G2 (ae 0) (G1 aj) G0)) (cm 2) (ar (cc 1 (ft (ft (ae 1) cg) (ae 2))) cv)) (ar (cq (ae 1)) cv)))
theorem Ul(B:∀(j:Nat) x,lg[j]? = some x->mg x=none)(cn:kx cns mg):Derived GL P w K mg base ents e25:=dmk λn fa cdv A outer s H E hu C =>
 (ar (cc 1 (ai (C 20 _ rfl) (aa (Af (B 12 _ rfl) (B 13 _ rfl) (ae 0)) af))) (ar (cc 2 (ai (C 8 _ rfl) (aa (ae 1) af))) (ar (p8 (Cb (mq (d9 (dh (p5 (ae 2) (B 8 _ rfl) (B 4 _ rfl)))) (lr (d8 (ae 2) (iz hu .ne (ai (C 24 _ rfl) (aa (ai (C 23 _ rfl) (aa (ae 1) af)) af))))))) (ar (cq Jx) cv) cv) (ar (cq (ai (C 22 _ rfl) (aa (ai (C 13 _ rfl) (aa (ae 2) af)) (aa (ae 1) af)))) cv))))
theorem dvs(B:∀(j:Nat) x,lg[j]? = some x->mg x=none)(cn:kx cns mg):∀(j:Nat) e,ents[j]? = some e->Derived GL P w K mg base ents e:=(Lp.cx (dv0 B cn) (Lp.cx (dv1 B cn) (Lp.cx (dv2 B cn) (Lp.cx (dv3 B cn) (Lp.cx (dv4 B cn) (Lp.cx (dv5 B cn) (Lp.cx (dv6 B cn) (Lp.cx (dv7 B cn) (Lp.cx (dv8 B cn) (Lp.cx (dv9 B cn) (Lp.cx (T5 B cn) (Lp.cx (T6 B cn) (Lp.cx (T7 B cn) (Lp.cx (T8 B cn) (Lp.cx (T9 B cn) (Lp.cx (Ua B cn) (Lp.cx (Ub B cn) (Lp.cx (Uc B cn) (Lp.cx (Ud B cn) (Lp.cx (Ue B cn) (Lp.cx (Ug B cn) (Lp.cx (Uh B cn) (Lp.cx (Ui B cn) (Lp.cx (Uj B cn) (Lp.cx (Uk B cn) (Lp.cx (Ul B cn) Lp.Kv))))))))))))))))))))))))))
end
end Lp.Law
namespace PySem.W.Fast
noncomputable def tw11218454319796510532:=0
noncomputable def tw16748042715471142306:=0
noncomputable def tw77806364875542300:=0
noncomputable def tw10377920378266856833:=0
noncomputable def tw16772894995107798683:=0
noncomputable def tw1243170811874435978:=0
noncomputable def tw12194193240132716757:=0
noncomputable def tw11593003528094703510:=0
noncomputable def tw3288682700591350212:=0
noncomputable def tw5081219745081165401:=0
noncomputable def tw17560673180099415322:=0
noncomputable def tw18095155778667833597:=0
noncomputable def tw3150240601803740071:=0
noncomputable def tw9149679460218017609:=0
noncomputable def tw15724562909192856477:=0
noncomputable def tw10523491416988102237:=0
noncomputable def tw4505495097845588349:=0
noncomputable def tw5681374729135111971:=0
noncomputable def tw4477345153798176681:=0
noncomputable def tw17510812357104906298:=0
noncomputable def tw3950326964308772856:=0
noncomputable def tw12054873361746572086:=0
noncomputable def tw6724295120953939356:=0
noncomputable def tw17090395743934858695:=0
noncomputable def tw8997805295622430160:=0
noncomputable def tw12207250710485672471:=0
noncomputable def tw3810945707978562060:=0
noncomputable def tw1746691250577271341:=0
noncomputable def tw14300003605688407641:=0
noncomputable def tw3527490263944765864:=0
noncomputable def tw4485972674022223556:=0
noncomputable def tw4253627059313522474:=0
noncomputable def tw9535372978116065843:=0
noncomputable def tw268663868867453936:=0
noncomputable def tw4918207082244690066:=0
noncomputable def tw12386075872862710550:=0
noncomputable def tw8748025045814398626:=0
noncomputable def tw14659589174874224018:=0
noncomputable def tw16866354836114588488:=0
noncomputable def tw11627538773612731841:=0
noncomputable def tw12446746236591713395:=0
noncomputable def tw17166042951705080001:=0
noncomputable def tw9541614237755451080:=0
noncomputable def tw16786356169977792800:=0
noncomputable def tw7139947623521410969:=0
noncomputable def tw17881351348925308584:=0
noncomputable def tw3430183349723602938:=0
noncomputable def tw12004303029547899184:=0
noncomputable def tw5279799008146895688:=0
end PySem.W.Fast
open PySem PySem.W PyProof.Rows Lp.Law
open Lp (ModOf)
set_option maxHeartbeats 0 in
theorem PySem.Challenge.cw_lamprota_k59_books_written_holds : PySem.Challenge.rw_lamprota_k59_books_written.Holds := by
 w_on;o_law;k_head;(case hw=>w_witness2)
 k_fill
 refine Lp.Ca (l:=PySem.Challenge.rw_lamprota_k59_books_written) (n:=6) ⟨rfl,by decide,by decide⟩ rfl rfl (λw h Y=>PySem.W.kIn_of Y) ?F
 case F =>
  intro w mg fa h KX G hmg
  have m0:ModOf (L2.KOf KX) mg e0:=by
   dsimp only[L2.KOf]
   refine' Lp.cj (e:=e0) KX G ?a ?l ?c ?k λ_ _ _ _ _ _=>ar2 λ_ _=>rfl
   all_goals try dsimp only[e0]
   (case a=>k_is);(case l=>k_is);(case c=>k_is);(case k=>k_is)
  have m1:ModOf (L2.KOf KX) mg e1:=by
   dsimp only[L2.KOf]
   refine' Lp.cj (e:=e1) KX G ?a ?l ?c ?k λ_ _ _ _ _ _=>ar1 λ_=>rfl
   all_goals try dsimp only[e1]
   (case a=>k_is);(case l=>k_is);(case c=>k_is);(case k=>k_is)
  have m2:ModOf (L2.KOf KX) mg e2:=by
   dsimp only[L2.KOf]
   refine' Lp.cj (e:=e2) KX G ?a ?l ?c ?k λ_ _ _ _ _ _=>ar1 λ_=>rfl
   all_goals try dsimp only[e2]
   (case a=>k_is);(case l=>k_is);(case c=>k_is);(case k=>k_is)
  have m3:ModOf (L2.KOf KX) mg e3:=by
   dsimp only[L2.KOf]
   refine' Lp.cj (e:=e3) KX G ?a ?l ?c ?k λ_ _ _ _ _ _=>ar2 λ_ _=>rfl
   all_goals try dsimp only[e3]
   (case a=>k_is);(case l=>k_is);(case c=>k_is);(case k=>k_is)
  have m4:ModOf (L2.KOf KX) mg e4:=by
   dsimp only[L2.KOf]
   refine' Lp.cj (e:=e4) KX G ?a ?l ?c ?k λ_ _ _ _ _ _=>ar2 λ_ _=>rfl
   all_goals try dsimp only[e4]
   (case a=>k_is);(case l=>k_is);(case c=>k_is);(case k=>k_is)
  have m5:ModOf (L2.KOf KX) mg e5:=by
   dsimp only[L2.KOf]
   refine' Lp.cj (e:=e5) KX G ?a ?l ?c ?k λ_ _ _ _ _ _=>ar4 λ_ _ _ _=>rfl
   all_goals try dsimp only[e5]
   (case a=>k_is);(case l=>k_is);(case c=>k_is);(case k=>k_is)
  have m6:ModOf (L2.KOf KX) mg e6:=by
   dsimp only[L2.KOf]
   refine' Lp.cj (e:=e6) KX G ?a ?l ?c ?k λ_ _ _ _ _ _=>ar2 λ_ _=>rfl
   all_goals try dsimp only[e6]
   (case a=>k_is);(case l=>k_is);(case c=>k_is);(case k=>k_is)
  have m7:ModOf (L2.KOf KX) mg e7:=by
   dsimp only[L2.KOf]
   refine' Lp.cj (e:=e7) KX G ?a ?l ?c ?k λ_ _ _ _ _ _=>ar1 λ_=>rfl
   all_goals try dsimp only[e7]
   (case a=>k_is);(case l=>k_is);(case c=>k_is);(case k=>k_is)
  have m8:ModOf (L2.KOf KX) mg e8:=by
   dsimp only[L2.KOf]
   refine' Lp.cj (e:=e8) KX G ?a ?l ?c ?k λ_ _ _ _ _ _=>ar1 λ_=>rfl
   all_goals try dsimp only[e8]
   (case a=>k_is);(case l=>k_is);(case c=>k_is);(case k=>k_is)
  have m9:ModOf (L2.KOf KX) mg e9:=by
   dsimp only[L2.KOf]
   refine' Lp.cj (e:=e9) KX G ?a ?l ?c ?k λ_ _ _ _ _ _=>ar1 λ_=>rfl
   all_goals try dsimp only[e9]
   (case a=>k_is);(case l=>k_is);(case c=>k_is);(case k=>k_is)
  have m10:ModOf (L2.KOf KX) mg e10:=by
   dsimp only[L2.KOf]
   refine' Lp.cj (e:=e10) KX G ?a ?l ?c ?k λ_ _ _ _ _ _=>ar1 λ_=>rfl
   all_goals try dsimp only[e10]
   (case a=>k_is);(case l=>k_is);(case c=>k_is);(case k=>k_is)
  have m11:ModOf (L2.KOf KX) mg e11:=by
   dsimp only[L2.KOf]
   refine' Lp.cj (e:=e11) KX G ?a ?l ?c ?k λ_ _ _ _ _ _=>ar3 λ_ _ _=>rfl
   all_goals try dsimp only[e11]
   (case a=>k_is);(case l=>k_is);(case c=>k_is);(case k=>k_is)
  have m12:ModOf (L2.KOf KX) mg e12:=by
   dsimp only[L2.KOf]
   refine' Lp.cj (e:=e12) KX G ?a ?l ?c ?k λ_ _ _ _ _ _=>ar1 λ_=>rfl
   all_goals try dsimp only[e12]
   (case a=>k_is);(case l=>k_is);(case c=>k_is);(case k=>k_is)
  have m13:ModOf (L2.KOf KX) mg e13:=by
   dsimp only[L2.KOf]
   refine' Lp.cj (e:=e13) KX G ?a ?l ?c ?k λ_ _ _ _ _ _=>ar1 λ_=>rfl
   all_goals try dsimp only[e13]
   (case a=>k_is);(case l=>k_is);(case c=>k_is);(case k=>k_is)
  have m14:ModOf (L2.KOf KX) mg e14:=by
   dsimp only[L2.KOf]
   refine' Lp.cj (e:=e14) KX G ?a ?l ?c ?k λ_ _ _ _ _ _=>ar1 λ_=>rfl
   all_goals try dsimp only[e14]
   (case a=>k_is);(case l=>k_is);(case c=>k_is);(case k=>k_is)
  have m15:ModOf (L2.KOf KX) mg e15:=by
   dsimp only[L2.KOf]
   refine' Lp.cj (e:=e15) KX G ?a ?l ?c ?k λ_ _ _ _ _ _=>ar1 λ_=>rfl
   all_goals try dsimp only[e15]
   (case a=>k_is);(case l=>k_is);(case c=>k_is);(case k=>k_is)
  have m16:ModOf (L2.KOf KX) mg e16:=by
   dsimp only[L2.KOf]
   refine' Lp.cj (e:=e16) KX G ?a ?l ?c ?k λ_ _ _ _ _ _=>ar2 λ_ _=>rfl
   all_goals try dsimp only[e16]
   (case a=>k_is);(case l=>k_is);(case c=>k_is);(case k=>k_is)
  have m17:ModOf (L2.KOf KX) mg e17:=by
   dsimp only[L2.KOf]
   refine' Lp.cj (e:=e17) KX G ?a ?l ?c ?k λ_ _ _ _ _ _=>ar1 λ_=>rfl
   all_goals try dsimp only[e17]
   (case a=>k_is);(case l=>k_is);(case c=>k_is);(case k=>k_is)
  have m18:ModOf (L2.KOf KX) mg e18:=by
   dsimp only[L2.KOf]
   refine' Lp.cj (e:=e18) KX G ?a ?l ?c ?k λ_ _ _ _ _ _=>ar2 λ_ _=>rfl
   all_goals try dsimp only[e18]
   (case a=>k_is);(case l=>k_is);(case c=>k_is);(case k=>k_is)
  have m19:ModOf (L2.KOf KX) mg e19:=by
   dsimp only[L2.KOf]
   refine' Lp.cj (e:=e19) KX G ?a ?l ?c ?k λ_ _ _ _ _ _=>ar2 λ_ _=>rfl
   all_goals try dsimp only[e19]
   (case a=>k_is);(case l=>k_is);(case c=>k_is);(case k=>k_is)
  have m20:ModOf (L2.KOf KX) mg e20:=by
   dsimp only[L2.KOf]
   refine' Lp.cj (e:=e20) KX G ?a ?l ?c ?k λ_ _ _ _ _ _=>ar1 λ_=>rfl
   all_goals try dsimp only[e20]
   (case a=>k_is);(case l=>k_is);(case c=>k_is);(case k=>k_is)
  have m21:ModOf (L2.KOf KX) mg e21:=by
   dsimp only[L2.KOf]
   refine' Lp.cj (e:=e21) KX G ?a ?l ?c ?k λ_ _ _ _ _ _=>ar1 λ_=>rfl
   all_goals try dsimp only[e21]
   (case a=>k_is);(case l=>k_is);(case c=>k_is);(case k=>k_is)
  have m22:ModOf (L2.KOf KX) mg e22:=by
   dsimp only[L2.KOf]
   refine' Lp.cj (e:=e22) KX G ?a ?l ?c ?k λ_ _ _ _ _ _=>ar2 λ_ _=>rfl
   all_goals try dsimp only[e22]
   (case a=>k_is);(case l=>k_is);(case c=>k_is);(case k=>k_is)
  have m23:ModOf (L2.KOf KX) mg e23:=by
   dsimp only[L2.KOf]
   refine' Lp.cj (e:=e23) KX G ?a ?l ?c ?k λ_ _ _ _ _ _=>ar1 λ_=>rfl
   all_goals try dsimp only[e23]
   (case a=>k_is);(case l=>k_is);(case c=>k_is);(case k=>k_is)
  have m24:ModOf (L2.KOf KX) mg e24:=by
   dsimp only[L2.KOf]
   refine' Lp.cj (e:=e24) KX G ?a ?l ?c ?k λ_ _ _ _ _ _=>ar1 λ_=>rfl
   all_goals try dsimp only[e24]
   (case a=>k_is);(case l=>k_is);(case c=>k_is);(case k=>k_is)
  have m25:ModOf (L2.KOf KX) mg e25:=by
   dsimp only[L2.KOf]
   refine' Lp.cj (e:=e25) KX G ?a ?l ?c ?k λ_ _ _ _ _ _=>ar1 λ_=>rfl
   all_goals try dsimp only[e25]
   (case a=>k_is);(case l=>k_is);(case c=>k_is);(case k=>k_is)
  have b0:mg "zip"=none:=BH KX G (by k_is)
  have b1:mg "all"=none:=BH KX G (by k_is)
  have b2:mg "len"=none:=BH KX G (by k_is)
  have b3:mg "tuple"=none:=BH KX G (by k_is)
  have b4:mg "str"=none:=BH KX G (by k_is)
  have b5:mg "int"=none:=BH KX G (by k_is)
  have b6:mg "enumerate"=none:=BH KX G (by k_is)
  have b7:mg "min"=none:=BH KX G (by k_is)
  have b8:mg "isinstance"=none:=BH KX G (by k_is)
  have b9:mg "bool"=none:=BH KX G (by k_is)
  have b10:mg "range"=none:=BH KX G (by k_is)
  have b11:mg "max"=none:=BH KX G (by k_is)
  have b12:mg "list"=none:=BH KX G (by k_is)
  have b13:mg "reversed"=none:=BH KX G (by k_is)
  have c0:∃t,mg "MOST_FIGURES"=some (.int 31 t):=⟨_,PySem.W.mg_of KX G (by k_is)⟩
  exact Lp.Fp (T:=Lp.GL) (es:=ents) (n:=6) (j:=25) (e:=e25) (Lp.cx m0 (Lp.cx m1 (Lp.cx m2 (Lp.cx m3 (Lp.cx m4 (Lp.cx m5 (Lp.cx m6 (Lp.cx m7 (Lp.cx m8 (Lp.cx m9 (Lp.cx m10 (Lp.cx m11 (Lp.cx m12 (Lp.cx m13 (Lp.cx m14 (Lp.cx m15 (Lp.cx m16 (Lp.cx m17 (Lp.cx m18 (Lp.cx m19 (Lp.cx m20 (Lp.cx m21 (Lp.cx m22 (Lp.cx m23 (Lp.cx m24 (Lp.cx m25 Lp.Kv)))))))))))))))))))))))))) (λbase=>dvs (Lp.cx b0 (Lp.cx b1 (Lp.cx b2 (Lp.cx b3 (Lp.cx b4 (Lp.cx b5 (Lp.cx b6 (Lp.cx b7 (Lp.cx b8 (Lp.cx b9 (Lp.cx b10 (Lp.cx b11 (Lp.cx b12 (Lp.cx b13 Lp.Kv)))))))))))))) (Lp.cx c0 Lp.Kv)) rfl hmg rfl (λns hn=>Lr.Ow ns)
