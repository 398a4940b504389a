import PyProof.Rows.All
import Wide.All
import OpenK.AllK
import Wide.FinOn
import Lean
import PyProof.EqAt
import PyProof.EqKinds
import PyProof.TupleCall
import PySem.Syntax
import PyProof.Rows.ZipGen
import PyProof.EnumMake
import PyProof.EnumFor
import PyProof.Rows.EnumRows
import PyProof.DictValues
import KE.KSortTup
import PyProof.Rows.SetFrom
import PyProof.WalksMore
import PyProof.FactsAll.set
import PyProof.ForAny
import PyProof.CollectWalk
import PyProof.ListRange
import PyProof.Rows.SortShell
import PySem.Challenge.RW_lamprota_k12_whole_walks_go_on
open List renaming getElem?_eq_getElem → AA, size_toArray → AD, getElem?_eq_some_iff → AE, length_map → AG, prefix_refl → AH, mem_cons_of_mem → AJ, all_eq_true → AM, mem_cons → AO, getElem?_eq_none → AQ, map_cons → AR, mem_cons_self → AS, getD_eq_getElem?_getD → AT, getElem?_append_left → AV, getElem?_map → AX, mem_map → AZ, all_cons → BB, map_map → BC, take_of_length_le → BF, length_cons → BH, ext_getElem? → BI, not_mem_nil → BJ, getElem?_append_right → BM, mem_append_right → BP, map_append → BR, take_add_one → BZ, getElem?_set_ne → CA, mem_of_getElem? → CB, length_append → CC, length_nil → CF, nil_prefix → CG, getElem_mem → CH, mem_iff_getElem → CJ, any_cons → CK, getElem?_zip_eq_some → CN, mem_singleton → CO, getElem?_set_self → CQ, sum_append → CS, length_take → CT, zip_cons_cons → CU, getElem?_replicate → Da, replicate_succ → DA, map_nil → DC, all_nil → DD, sum_cons → DG, length_drop → DH, countP_cons → DI, pairwise_cons → DL, mem_append → DM, length_range → DN, map_congr_left → DT, getElem?_range → DU, cons_append → DV, lookup_cons → DW, getElem?_cons_zero → DY, getElem?_cons_succ → DZ, set_cons_zero → EC, set_cons_succ → ED, all_map → EE, nodup_cons → EF, find?_cons → EG, flatten_cons → EL, pairwise_iff_getElem → EN, mem_filter → ES, append_nil → EU, forIn_cons → EV, zip_nil_right → EW, append_assoc → FE, range_succ_eq_map → FG, eraseIdxIfInBounds_toArray → FI, getElem?_toArray → FL, any_eq_true → FM, map_drop → FO, take_append_of_le_length → FS, of_mem_zip → FT, nil_append → FU, filterMap_cons → FY, toList_toArray → FZ, prefix_append → GC, getElem?_drop → GG, drop_eq_getElem_cons → GH, zip_nil_left → GI, reverse_cons → GJ, foldl_append → GP, getElem?_take_of_lt → GQ, eraseIdx_cons_succ → HA, getElem_map → HH, length_set → HQ, length_replicate → HU, dropLast_eq_take → HV, countP_mono_left → HX, take_append_drop → HY, any_map → ID
open PySem renaming wpAny_bind → AB, wpAny_pure → AL, wpAny_field → BQ, wpAny_setField_rec → BS, wpAny_callSpecial?_slot → BY, wpAny_loadPart' → CD, wpAny_call_entry → CM, wpAny_seqItems → CY, wpAny_truthy_bool → CZ, wpAny_newObj_type → Db, sizeLine_eq → DF, wpAny_pyIter_tuple → DJ, wpAny_mono → DO, wpAny_holding → DP, mem_of_lookup → DS, wpAny_Call_Name_kw → EA, wpAny_passesOwn → ET, tupleKind_room_in1 → EX, richCompare_meets_room → FB, wpAny_updateSeq_pair → FR, wpAny_ite_split → FV, call_meets → GB, wpAny_pyIter_list → GM, wpAny_letGo → GN, wpAny_attempt → GS, wpAny_onRaise → GU, wpAny_forIn_list → GY, noFill_tuple_add → GZ, wpAny_isInstance → HF, wpAny_typeOf → HJ, wpAny_rule → HM
open PySem.Heap renaming get?_push_of_some → AC, lt_size → AI, get?_push_size → AN, size_push → CW, get?_update_other → FD, get?_update_self → FJ
open Nat renaming le_refl → AF, lt_of_lt_of_le → AU, ne_of_lt → AW, le_trans → CL, lt_irrefl → CP, zero_le → CV, ne_of_gt → DB, le_of_lt → EM, lt_succ_of_lt → FF, le_succ → FP, lt_succ_self → HD, le_add_right → HG, sub_self → HP
open Bool renaming false_ne_true → AY, and_eq_true → BA, false_eq_true → BD, beq_eq_decide_eq → CI, and_true → DR, true_and → EI, not_false → GF, and_self → GR, not_true → GX, and_false → If
open PySem.W renaming mg_none_of → BK, kia_one → EH, cellsFrom_some → HI
open Option.some renaming inj → BL, injEq → BN
open Int renaming emod_lt_of_pos → BO, emod_nonneg → BX, toNat_natCast → Do, le_refl → EZ, emod_eq_of_lt → FH, fdiv_eq_ediv_of_nonneg → GA
open PyProof.Rows renaming callWith_type1 → BU, slot_tuple_getitem → BV, boot_list → HN, boot_min → HW
open Array renaming length_toList → BW, getElem?_toList → EJ, perm_iff_toList_perm → GD
open PySem.Paired renaming length → DE
open PySem.F renaming slot_tuple_iterator_next → DK, slot_enumerate_next → EK, args_tuple_add_2 → ER, entry_tuple_add → EY, slot_tuple_add → FC, slot_dict_get → FK, slot_dict_valueiterator_iter → FN, args_tuple_iterator_next_1 → FW, slot_zip_next → FX, entry_tuple_iterator_next → Go, plainAttrs_list → GO, slot_dict_values → GW, args_dict_get_3 → HB, plainAttrs_dict → HC, entry_dict_get → HK, slot_list_pop → HR
open Option renaming isSome_iff_exists → DQ, getD_some → DX, isSome_map → GK, bind_some → HE, map_eq_some_iff → HL, map_some → HS
open PySem.Calls renaming spliced_cons → Ev, callWith_builtin → EB, spliced_nil → FA, Name_function_global → Gt, evalArgs_plain → HZ
open PySem.AutoSeq1 renaming sub_tuple_tuple → EO
open Prod.mk renaming injEq → GV
open PySem.Heap.SameBut renaming update → Ix
open PySem.SeqAt.EqAt renaming int_str → IA, str_int → IB, int_int → IC
set_option Elab.async false
set_option linter.all false
set_option maxRecDepth 100000
namespace L2
open PySem PySem.Spec PyProof.Rows
noncomputable abbrev Key:=Sum Int Str
noncomputable def Ci:Key→Value→Bool
 | .inl k,v=>Value.isInt k v
 | .inr x,v=>Value.isStrOf x v
noncomputable def V3 (w:World):Key→Int
 | .inl k=>hashInt k
 | .inr x=>hashStr w x
theorem da:∀{k:Key} {v:Value},Ci k v=true→(∃i t,k=Sum.inl i∧v=Value.int i t)∨(∃x t,k=Sum.inr x∧v=Value.str x t)
 | .inl i,v,h=>by
  obtain⟨t,e⟩:=Value.isInt_shape (k:=i) (v:=v) h
  exact .inl ⟨i,t,rfl,e⟩
 | .inr x,v,h=>by
  obtain⟨t,e⟩:=Value.isStrOf_shape (x:=x) (v:=v) h
  exact .inr ⟨x,t,rfl,e⟩
theorem Dt (i:Int) (t:Tok):Ci (.inl i) (.int i t)=true:=by simp[Ci,Value.isInt]
theorem Du (x:Str) (t:Tok):Ci (.inr x) (.str x t)=true:=by simp[Ci,Value.isStrOf]
theorem Oq (a b:Int):decide ((Sum.inl a:Key)=Sum.inl b)=(a==b):=by
 by_cases e:a=b
 ·subst e;simp
 ·have h:¬(Sum.inl a:Key)=Sum.inl b:=fun q=>e (Sum.inl.inj q)
  rw[decide_eq_false h]
  exact(beq_eq_false_iff_ne.mpr e).symm
theorem Ot (a b:Str):decide ((Sum.inr a:Key)=Sum.inr b)=decide (a=b):=by
 by_cases e:a=b
 ·subst e;simp
 ·have h:¬(Sum.inr a:Key)=Sum.inr b:=fun q=>e (Sum.inr.inj q)
  rw[decide_eq_false h,decide_eq_false e]
theorem Ou (a:Int) (b:Str):decide ((Sum.inl a:Key)=Sum.inr b)=false:=decide_eq_false (fun q=>nomatch q)
theorem Ov (a:Str) (b:Int):decide ((Sum.inr a:Key)=Sum.inl b)=false:=decide_eq_false (fun q=>nomatch q)
noncomputable def bz (prog:Program) (w:World):PySem.KeyKind prog w Key where
 is:=Ci
 hash:=V3 w
 inj:=fun v a b ha hb=>by
  rcases da ha with⟨i,t,rfl,rfl⟩ | ⟨x,t,rfl,rfl⟩
  ·rcases da hb with⟨j,u,rfl,e⟩ | ⟨y,u,rfl,e⟩
   ·injection e with e1 _;rw[e1]
   ·exact nomatch e
  ·rcases da hb with⟨j,u,rfl,e⟩ | ⟨y,u,rfl,e⟩
   ·exact nomatch e
   ·injection e with e1 _;rw[e1]
 byValue:=fun k v h=>by
  rcases da h with⟨i,t,rfl,rfl⟩ | ⟨x,t,rfl,rfl⟩<;>rfl
 pyHash:=fun hv h=>by
  rcases da hv with⟨i,t,rfl,rfl⟩ | ⟨x,t,rfl,rfl⟩
  ·exact wpAny_pyHash_int h
  ·exact wpAny_pyHash_str h
 eqBool:=fun hu hv h=>by
  rcases da hu with⟨i,t,rfl,rfl⟩ | ⟨x,t,rfl,rfl⟩
  ·rcases da hv with⟨j,u,rfl,rfl⟩ | ⟨y,u,rfl,rfl⟩
   ·rw[Oq]at h;exact wpAny_eqBool_int h
   ·rw[Ou]at h;exact IA i t y u _ _ _ _ h
  ·rcases da hv with⟨j,u,rfl,rfl⟩ | ⟨y,u,rfl,rfl⟩
   ·rw[Ov]at h;exact IB x t j u _ _ _ _ h
   ·rw[Ot]at h;exact wpAny_eqBool_str h
 «strs»:=fun k x t v h=>by
  rcases da h with⟨i,u,rfl,e⟩ | ⟨y,u,rfl,e⟩
  ·exact nomatch e
  ·injection e with e1 _
   subst e1
   cases v<;>rfl
theorem zg (prog:Program) (w:World) (i:Int) (t:Tok):(bz prog w).is (.inl i) (.int i t)=true:=Dt i t
theorem zh (prog:Program) (w:World) (x:Str) (t:Tok):(bz prog w).is (.inr x) (.str x t)=true:=Du x t
end L2
namespace L2
open PySem PySem.Spec PyProof.Rows
inductive V where
 | non | bl (b:Bool) | int (i:Int) | str (x:Str) | byt (b:Array UInt8) | flt (b:UInt64) | ref (a:Addr) | ty (n:String)
 deriving DecidableEq
noncomputable def RelV:V→Value→Prop
 | .non,u=>u=Value.none
 | .bl b,u=>u=Value.bool b
 | .int i,u=>∃t,u=Value.int i t
 | .str x,u=>∃t,u=Value.str x t
 | .byt b,u=>∃t,u=Value.bytes b t
 | .flt b,u=>∃t,u=Value.float b t
 | .ref a,u=>u=Value.ref a
 | .ty n,u=>u=Value.type n
noncomputable abbrev bq:List V→List Value→Prop:=Paired RelV
theorem bq.length {xs:List V} {us:List Value} (r:bq xs us):xs.length=us.length:=DE r
theorem bq.get:∀{xs:List V} {us:List Value} {i:Nat} {x:V},bq xs us→xs[i]? = some x→∃u,us[i]? = some u∧RelV x u
 | _,_,_,_,.nil,e=>by simp at e
 | _,_,0,_,.cons r _,e=>by simp at e;subst e;exact⟨_,rfl,r⟩
 | _,_,i+1,x,.cons _ t,e=>by
  obtain⟨u,h1,h2⟩:=bq.get (i:=i) (x:=x) t (by simpa using e)
  exact⟨u,by simpa using h1,h2⟩
theorem bq.set {x:V} {u:Value} (r:RelV x u):∀{xs:List V} {us:List Value} (i:Nat),bq xs us→bq (xs.set i x) (us.set i u)
 | _,_,_,.nil=>.nil
 | _,_,0,.cons _ t=>.cons r t
 | _,_,i+1,.cons q t=>.cons q (bq.set r i t)
theorem bq.append:∀{xs ys:List V} {us ws:List Value},bq xs us→bq ys ws→bq (xs++ys) (us++ws)
 | _,_,_,_,.nil,s=>s
 | _,_,_,_,.cons r t,s=>.cons r (bq.append t s)
theorem bq.take:∀{xs:List V} {us:List Value} (n:Nat),bq xs us→bq (xs.take n) (us.take n)
 | _,_,0,_=>.nil
 | _,_,_+1,.nil=>.nil
 | _,_,n+1,.cons r t=>.cons r (bq.take n t)
theorem bq.drop:∀{xs:List V} {us:List Value} (n:Nat),bq xs us→bq (xs.drop n) (us.drop n)
 | _,_,0,r=>r
 | _,_,_+1,.nil=>.nil
 | _,_,n+1,.cons _ t=>bq.drop n t
noncomputable def Jt:Option V→Option Value→Prop
 | some v,some u=>RelV v u
 | none,none=>True
 | _,_=>False
noncomputable def KV {κ:Type}:List (κ×V)→List (κ×Value)→Prop:=Paired fun(p:κ×V) (q:κ×Value)=>p.1=q.1∧RelV p.2 q.2
noncomputable def kV:Key→V
 | .inl i=>.int i
 | .inr x=>.str x
inductive HO where
 /-- a list -/
 | lst (xs:List V)
 /-- a tuple (never changes) -/
 | tup (xs:List V)
 /-- a dict whose keys are ints and texts;one whose keys are tuples of ints and texts (the empty one is both) -/
 | dK (kvs:List (Key×V)) | dT (kvs:List (List Key×V))
 /-- a set of ints: its members,its size -/
 | set (S:Int→Bool) (n:Nat)
 /-- an instance of the class at C,its dict at dx,its attributes -/
 | ins (C dx:Addr) (fs:List (Str×V))
 /-- the dict of the instance at x -/
 | own (x:Addr)
 /-- the dict of an exception -/
 | xd (fs:List (Str×V))
 /-- a bound method,f of x -/
 | met (f x:Addr)
 /-- a range object lo,lo+1,.. below hi -/
 | rng (lo hi:Int)
 /-- a thing that is known to the object (the script;a dict while a loop walks it): read,never written while it is so -/
 | frz (o:Obj) (u:HO)
 /-- a code object's table -/
 | tbl (ps:Array Value)
 /-- any other thing,by what is true of its one object (a def of one's own: SetO a S n:=HO.ext fun h=>..) -/
 | ext (φ:Heap→Prop)
noncomputable abbrev Hp:=Addr→Option HO
noncomputable def upd (H:Hp) (a:Addr) (o:HO):Hp:=fun b=>if b=a then some o else H b
theorem a8 {H:Hp} {a:Addr} {o:HO}:upd H a o a=some o:=by unfold upd;rw[if_pos rfl]
theorem ay {H:Hp} {a b:Addr} {o:HO} (h:b≠a):upd H a o b=H b:=by unfold upd;rw[if_neg h]
theorem Dw {H:Hp} {a:Addr} {o u:HO}:upd (upd H a o) a u=upd H a u:=by
 funext b;unfold upd;split<;>rfl
theorem ma {H:Hp} {a b:Addr} {o u:HO} (h:H a=some o) (h':H b=some u) (d:o≠u):a≠b:=by
 intro e;subst e;rw[h]at h';exact d (BL h')
theorem bu {H:Hp} {a b:Addr} {o:HO} (h:H a=some o) (h':H b=none):a≠b:=by
 intro e;subst e;rw[h]at h';cases h'
noncomputable def ou (h:Heap) (a:Addr) (items:Array Value):Prop:=∃o,h.get? a=some o∧o.cls=.type "tuple"∧o.dict=none∧∃n,o.data=.seq items n
theorem ou.tup {h:Heap} {a:Addr} {items:Array Value} (x:ou h a items):IsTup h a items:=let ⟨o,e,c,_,d⟩:=x;⟨o,e,c,d⟩
theorem ou.new (h:Heap) (items:Array Value):ou (h.push {cls:=.type "tuple",data:=.seq items}) h.objs.size items:=⟨_,AN _ rfl,rfl,rfl,_,rfl⟩
section
variable (P : Program) (w : World)
noncomputable def gv (H:Hp) (h:Heap) (a:Addr):HO→Prop
 | .lst xs=>xs.length≤sizeLine∧∃(its:List Value) (n:Nat),bq xs its∧h.get? a=some {cls:=.type "list",data:=.seq its.toArray n}
 | .tup xs=>xs.length≤sizeLine∧∃its:List Value,bq xs its∧ou h a its.toArray
 | .dK kvs=>kvs.length≤sizeLine∧(a==sysModules)=false∧∃vs,KV kvs vs∧h.DictOf (bz P w) a vs
 | .dT kvs=>kvs.length≤sizeLine∧(a==sysModules)=false∧∃xs:List (List Key×Addr×Value),
   Paired (fun(p:List Key×V) (q:List Key×Addr×Value)=>p.1=q.1∧H q.2.1=some (.tup (p.1.map kV))∧RelV p.2 q.2.2) kvs xs ∧
   ∃o es ep,h.get? a=some o∧o.ExactDict∧o.data=.dict es ep∧es.toList=xs.map (entryOfKey (tupleKind (bz P w)))∧(xs.map (·.1)).Nodup
 | .set S n=>h.SetOf (intKind P w) a S n
 | .ins C dx fs=>H dx=some (.own a)∧fs.length≤1000∧dx≠a∧h.get? a=some (PySem.W.instObj C dx) ∧
   ∃mA,h.Ns1 dx mA∧(∀f,Jt (fs.lookup f) (mA f))∧PySem.Within mA (fs.map (·.1))
 | .own _=>∃o,h.get? a=some o
 | .xd fs=>∃mA,h.Ns1 a mA∧∀f,Jt (fs.lookup f) (mA f)
 | .rng lo hi=>∃t u v,h.get? a=some {cls:=.type "range",data:=.fields #[.int lo t,.int hi u,.int 1 v]}
 | .frz o u=>h.get? a=some o∧gv H h a u
 | .tbl ps=>h.get? a=some {cls:=.none,data:=.fields ps}
 | .met f x=>h.get? a=some (PySem.W.methodObj (.ref f) (.ref x))
 | .ext φ=>φ h∧(∃o,h.get? a=some o)∧∀h1 h2:Heap,φ h1→(∀o,h1.get? a=some o→h2.get? a=some o)→φ h2
noncomputable def HOk (H:Hp) (h:Heap):Prop:=∀a o,H a=some o→gv P w H h a o
end
section
variable {P : Program} {w : World} {H H' : Hp} {h h' : Heap} {a : Addr} {o : HO}
theorem gv.lt (x:gv P w H h a o):a<h.objs.size:=by
 cases o with
 | lst xs=>obtain⟨_,_,_,_,e⟩:=x;exact AI e
 | tup xs=>obtain⟨_,_,_,p⟩:=x;exact p.tup.lt
 | dK kvs=>obtain⟨_,_,_,_,o,_,_,e,_⟩:=x;exact AI e
 | dT kvs=>obtain⟨_,_,_,_,o,_,_,e,_⟩:=x;exact AI e
 | set S n=>obtain⟨o,_,_,_,e,_⟩:=x;exact AI e
 | ins C dx fs=>obtain⟨_,_,_,e,_⟩:=x;exact AI e
 | own y=>obtain⟨_,e⟩:=x;exact AI e
 | xd fs=>obtain⟨_,⟨_,_,_,e,_⟩,_⟩:=x;exact AI e
 | rng lo hi=>obtain⟨_,_,_,e⟩:=x;exact AI e
 | frz ob u=>obtain⟨e,_⟩:=x;exact AI e
 | tbl ps=>exact AI (show h.get? a=some _ from x)
 | met f y=>exact AI (show h.get? a=some _ from x)
 | ext φ=>obtain⟨_,⟨_,e⟩,_⟩:=x;exact AI e
theorem Paired.mapP {α β:Type} {F G:α→β→Prop}:∀{l₁:List α} {l₂:List β},Paired F l₁ l₂→(∀a b,F a b→G a b)→Paired G l₁ l₂
 | _,_,.nil,_=>.nil
 | _,_,.cons r t,f=>.cons (f _ _ r) (Paired.mapP t f)
theorem gv.stay (x:gv P w H h a o) (k:∀b u,(b=a∨H b=some (.own a))→h.get? b=some u→h'.get? b=some u)
  (ho:∀b,H b=some (.own a)→H' b=some (.own a)) (ht:∀b xs,H b=some (.tup xs)→H' b=some (.tup xs)):gv P w H' h' a o:=by
 induction o with
 | lst xs=>obtain⟨z,its,n,r,e⟩:=x;exact⟨z,its,n,r,k _ _ (.inl rfl) e⟩
 | tup xs=>obtain⟨z,its,r,ob,e,c⟩:=x;exact⟨z,its,r,ob,k _ _ (.inl rfl) e,c⟩
 | dK kvs=>obtain⟨z,y,vs,r,ob,es,ep,e,c⟩:=x;exact⟨z,y,vs,r,ob,es,ep,k _ _ (.inl rfl) e,c⟩
 | dT kvs =>
  obtain⟨z,y,xs,r,ob,es,ep,e,c⟩:=x
  exact⟨z,y,xs,Paired.mapP r fun p q z=>⟨z.1,ht _ _ z.2.1,z.2.2⟩,ob,es,ep,k _ _ (.inl rfl) e,c⟩
 | set S n=>obtain⟨ob,es,ep,t,e,c⟩:=x;exact⟨ob,es,ep,t,k _ _ (.inl rfl) e,c⟩
 | ins C dx fs =>
  obtain⟨d,z,ne,e,mA,⟨od,es,ep,e2,c⟩,r⟩:=x
  exact⟨ho _ d,z,ne,k _ _ (.inl rfl) e,mA,⟨od,es,ep,k _ _ (.inr d) e2,c⟩,r⟩
 | own y=>obtain⟨ob,e⟩:=x;exact⟨ob,k _ _ (.inl rfl) e⟩
 | xd fs=>obtain⟨mA,⟨od,es,ep,e,c⟩,r⟩:=x;exact⟨mA,⟨od,es,ep,k _ _ (.inl rfl) e,c⟩,r⟩
 | rng lo hi=>obtain⟨t,u,v,e⟩:=x;exact⟨t,u,v,k _ _ (.inl rfl) e⟩
 | frz ob u ih=>obtain⟨e,q⟩:=x;exact⟨k _ _ (.inl rfl) e,ih q⟩
 | tbl ps =>
  have e:h.get? a=some {cls:=.none,data:=.fields ps}:=x
  show h'.get? a=some {cls:=.none,data:=.fields ps}
  exact k a _ (.inl rfl) e
 | met f y =>
  have e:h.get? a=some (PySem.W.methodObj (.ref f) (.ref y)):=x
  show h'.get? a=some (PySem.W.methodObj (.ref f) (.ref y))
  exact k a _ (.inl rfl) e
 | ext φ=>obtain⟨p,⟨o,e⟩,st⟩:=x;exact⟨st _ _ p fun o q=>k _ _ (.inl rfl) q,⟨o,k _ _ (.inl rfl) e⟩,st⟩
theorem HOk.lt (x:HOk P w H h) (e:H a=some o):a<h.objs.size:=(x a o e).lt
theorem HOk.fresh (x:HOk P w H h) (e:h.objs.size≤a):H a=none:=by
 cases q:H a with
 | none=>rfl
 | some u=>exact absurd (AU (x.lt q) e) (CP _)
theorem HOk.kept (x:HOk P w H h) (k:∀b u,h.get? b=some u→h'.get? b=some u):HOk P w H h':=fun a o e =>
 (x a o e).stay (fun b u _ q=>k b u q) (fun _ q=>q) fun _ _ q=>q
theorem HOk.laid (x:HOk P w H h) (k:∀b u,h.get? b=some u→h'.get? b=some u) (hp:h.objs.size≤a) (new:gv P w (upd H a o) h' a o):HOk P w (upd H a o) h':=fun b u e=>by
 have hn:=x.fresh hp
 by_cases hb:b=a
 ·subst hb;rw[a8]at e;cases e;exact new
 ·rw[ay hb]at e
  exact(x b u e).stay (fun c v _ q=>k c v q) (fun c q=>by rw[ay (bu q hn)];exact q) fun c xs q=>by rw[ay (bu q hn)];exact q
end
noncomputable def Rd (H:Hp) (a:Addr) (u:HO):Prop:=H a=some u∨∃o,H a=some (.frz o u)
theorem Rd.ok {P:Program} {w:World} {H:Hp} {h:Heap} {a:Addr} {u:HO} (r:Rd H a u) (x:HOk P w H h):gv P w H h a u:=by
 rcases r with r | ⟨o,r⟩
 ·exact x a u r
 ·obtain⟨_,q⟩:=x a _ r
  exact q
noncomputable def Mut:Option HO→Prop
 | some (.lst _)=>True
 | some (.dK _)=>True
 | some (.dT _)=>True
 | some (.set _ _)=>True
 | some (.ins _ _ _)=>True
 | some (.ext _)=>True
 | _=>False
section
variable {P : Program} {w : World} {H : Hp} {h h' : Heap} {x e : Addr} {o' : HO}
theorem HOk.write (ok:HOk P w H h) (mu:Mut (H x)) (he:e=x∨H e=some (.own x)) (k:∀b u,b≠e→h.get? b=some u→h'.get? b=some u) (heo:∃u,h'.get? e=some u)
  (new:gv P w (upd H x o') h' x o'):HOk P w (upd H x o') h':=fun b u q=>by
 have nown:∀c y,H c=some (.own y)→c≠x:=fun c y r z=>by subst z;rw[r]at mu;exact mu
 have ntup:∀c xs,H c=some (.tup xs)→c≠x:=fun c xs r z=>by subst z;rw[r]at mu;exact mu
 by_cases hb:b=x
 ·subst hb;rw[a8]at q;cases q;exact new
 ·rw[ay hb]at q
  by_cases hbe:b=e
  ·have q':H b=some (.own x):=by
    rcases he with z | z
    ·exact absurd (hbe.trans z) hb
    ·rw[hbe];exact z
   rw[q]at q';cases q'
   obtain⟨v,hv⟩:=heo
   exact⟨v,by rw[hbe];exact hv⟩
  ·refine(ok b u q).stay (fun c v hc r=>k c v ?_ r) (fun c r=>by rw[ay (nown c b r)];exact r) fun c xs r=>by rw[ay (ntup c xs r)];exact r
   rcases hc with rfl | hc
   ·exact hbe
   ·rintro rfl
    rcases he with z | z
    ·exact nown c b hc z
    ·rw[hc]at z;cases z;exact hb rfl
end
structure Un (fs ex:List Addr) (H H':Hp) (h h':Heap):Prop where
 keep:∀b o,h.get? b=some o→H b=none→b∉fs→b∉ex→h'.get? b=some o
 slot:∀b o,h.get? b=some o→H b=none→b∈fs→b∉ex→∃sl,h'.get? b=some {o with slots:=sl}
 free:∀b o,h.get? b=some o→H b=none→b∉ex→H' b=none
 there:∀b o,h.get? b=some o→b∉ex→∃o',h'.get? b=some o'
 tups:∀b xs,H b=some (.tup xs)→H' b=some (.tup xs)
 frzs:∀b o u,H b=some (.frz o u)→H' b=some (.frz o u)
 tbls:∀b ps,H b=some (.tbl ps)→∃more,H' b=some (.tbl (ps++more))
section
variable {fs fs' ex ex' : List Addr} {H H1 H2 : Hp} {h h1 h2 h' : Heap} {a x e : Addr} {o : HO}
theorem Un.any (u:Un fs ex H H1 h h1) {b:Addr} {ob:Obj} (q:h.get? b=some ob) (n:H b=none) (hx:b∉ex):∃sl,h1.get? b=some {ob with slots:=sl}:=by
 by_cases hb:b∈fs
 ·exact u.slot b ob q n hb hx
 ·exact⟨ob.slots,u.keep b ob q n hb hx⟩
theorem Un.kept (k:∀b u,h.get? b=some u→h'.get? b=some u):Un fs ex H H h h' :=
 ⟨fun b ob q _ _ _=>k b ob q,fun b ob q _ _ _=>⟨ob.slots,k b ob q⟩,fun _ _ _ n _=>n,fun b ob q _=>⟨ob,k b ob q⟩,fun _ _ q=>q,fun _ _ _ q=>q,fun _ ps q=>⟨#[],by rw[q];simp⟩⟩
theorem Un.refl:Un fs ex H H h h:=Un.kept fun _ _ q=>q
theorem Un.laid (k:∀b u,h.get? b=some u→h'.get? b=some u) (hp:h.objs.size≤a) (hn:H a=none):Un fs ex H (upd H a o) h h' where
 keep:=fun b u q _ _ _=>k b u q
 slot:=fun b u q _ _ _=>⟨u.slots,k b u q⟩
 free:=fun b u q n _=>by rw[ay (AW (AU (AI q) hp))];exact n
 there:=fun b u q _=>⟨u,k b u q⟩
 tups:=fun b xs q=>by rw[ay (bu q hn)];exact q
 frzs:=fun b u xs q=>by rw[ay (bu q hn)];exact q
 tbls:=fun b ps q=>⟨#[],by rw[ay (bu q hn),q];simp⟩
theorem Un.write (mu:Mut (H x)) (he:e=x∨H e=some (.own x)) (k:∀b u,b≠e→h.get? b=some u→h'.get? b=some u) (heo:∃u,h'.get? e=some u):Un fs ex H (upd H x o) h h':=by
 have hx:∀b,H b=none→b≠x:=fun b n z=>by subst z;rw[n]at mu;exact mu
 have hb:∀b,H b=none→b≠e:=fun b n z=>by
  subst z
  rcases he with r | r
  ·exact hx b n r
  ·rw[n]at r;cases r
 have hm:∀b u,H b=some u→¬Mut (some u)→b≠x:=fun b u q nm z=>by subst z;rw[q]at mu;exact nm mu
 refine⟨fun b u q n _ _=>k b u (hb b n) q,fun b u q n _ _=>⟨u.slots,k b u (hb b n) q⟩,fun b u q n _=>by rw[ay (hx b n)];exact n,fun b u q _=>?_,
  fun b xs q=>by rw[ay (hm b _ q fun z=>z)];exact q,fun b u xs q=>by rw[ay (hm b _ q fun z=>z)];exact q,fun b ps q=>⟨#[],by rw[ay (hm b _ q fun z=>z),q];simp⟩⟩
 by_cases hbe:b=e
 ·subst hbe;exact heo
 ·exact⟨u,k b u hbe q⟩
end
noncomputable def trk (h:Heap) (H:Hp):List Addr:=(List.range h.objs.size).filter fun a=>(H a).isSome
noncomputable def Hc (h:Heap) (H:Hp):Heap:=PySem.W.hideAll h (trk h H)
theorem Dx (h:Heap) (H:Hp):(Hc h H).objs.size=h.objs.size:=PySem.W.hideAll_size _ _
theorem Hd {h:Heap} {H:Hp} {b:Addr} {o:Obj} (e:h.get? b=some o) (n:H b=none):(Hc h H).get? b=some o :=
 PySem.W.hideAll_get _ e fun hm=>by
  have q:(H b).isSome=true:=(ES.mp hm).2
  rw[n]at q;simp at q
theorem Lw {h:Heap} {H:Hp} {b:Addr} {o:Obj} (e:(Hc h H).get? b=some o):h.get? b=some o∧H b=none:=by
 have e':h.get? b=some o:=PySem.W.of_hideAll (trk h H) e
 refine⟨e',?_⟩
 cases q:H b with
 | none=>rfl
 | some x =>
  have hm:b∈trk h H:=ES.mpr ⟨List.mem_range.mpr (AI e'),by simp[q]⟩
  have z:(Hc h H).get? b=none:=PySem.W.hideAll_none (trk h H) hm
  rw[z]at e;cases e
noncomputable def Lx (g h:Heap) (L:Addr):List (Addr×Obj):=(List.range h.objs.size).filterMap fun a=>if a=L∨(g.get? a).isSome=true then none else(h.get? a).map fun o=>(a,o)
noncomputable def rest (g h:Heap) (L d:Addr):List (Addr×Obj):=(Lx g h L).filter fun p=>decide (p.1≠d)
end L2
namespace L2
open PySem PySem.Spec PyProof.Rows
structure Mod (K:PySem.W.Frag) (mg:Str→Option Value) (base:Heap):Prop where
 kin:K.In base
 glob:base.Ns mainGlobals mg
 blt:∃mb,base.Ns builtinsNs mb∧∀x:Str,x≠"__name__"→mb x=bootBuiltins x
 nolimit:base.NoLimit
structure Cx where
 prog:Program
 w:World
 K:PySem.W.Frag
 mg:Str→Option Value
 base:Heap
 A:Around
 N:List Str
 s₀:Shared
 H₀:Hp
 env:Env
 outer:List Env
 stack:List Env
 ex:List Addr
 fn:Str→Bool
 calm:Bool
 pn:List (Addr×Obj)
 xe:Value→Shared→Prop
noncomputable def frs (l:List Env):List Addr:=l.filterMap (·.frame)
noncomputable abbrev Cx.fs (X:Cx):List Addr:=frs X.outer
noncomputable def Vis (sc:Scope) (x:Str):Prop:=sc.names.lookup x=some .local∨sc.names.lookup x=some .cell∨sc.names.lookup x=some .free
noncomputable def Loc (sc:Scope) (x:Str):Prop:=sc.names.lookup x=some .local∨sc.names.lookup x=some .cell
noncomputable def Look (env:Env) (h:Heap) (m:Str→Option Value) (x:Str) (u:Value):Prop :=
 (env.kindOf x=some .local∧m x=some u)∨((env.kindOf x=some .cell∨env.kindOf x=some .free)∧∃c,env.cells.lookup x=some c∧h.IsCell c (some u))
structure Cx.Ok (X:Cx):Prop where
 mod:Mod X.K X.mg X.base
 kind:X.env.scope.kind=.function
 glob:X.env.globals=mainGlobals
 blt:X.env.builtins=builtinsNs
 above:X.s₀.heap.objs.size≤X.env.locals
 inj:∀x y c,X.env.cells.lookup x=some c→X.env.cells.lookup y=some c→x=y
 has:∀x,(X.env.kindOf x=some .cell∨X.env.kindOf x=some .free)→∃c,X.env.cells.lookup x=some c
 cab:∀x c,X.fn x=true→X.env.cells.lookup x=some c→X.s₀.heap.objs.size≤c
 hd:X.calm=true→X.A.handled=none
 frames:X.A.frames=some X.stack
 stk:X.stack=X.outer∨(X.stack=X.env::X.outer∧X.env.frame=some X.env.locals)
 exf:∀b∈X.ex,b≠X.env.locals∧∀x c,X.env.cells.lookup x=some c→c≠b
 bs:∀b o,X.base.get? b=some o→X.s₀.heap.get? b=some o∧X.H₀ b=none
 bsz:X.base.objs.size≤X.s₀.heap.objs.size
 noex:∀b o,X.base.get? b=some o→b∉X.ex
 exfs:∀b∈X.ex,b∉X.fs
 funs:X.s₀.heap.FunFrames X.base X.outer
 frf:∀b∈X.fs,X.H₀ b=none
structure Inv (X:Cx) (pins:List (Addr×Obj)) (σ:List (Option V)) (H:Hp) (s:Shared):Prop where
 ok:X.Ok
 os:s.os=X.s₀.os
 bare:AllBare s.gens
 base:Un X.fs X.ex X.H₀ H X.s₀.heap s.heap
 loc:∃m,s.heap.Ns X.env.locals m∧∀(i:Nat) (x:Str) (v:V),X.N[i]? = some x→σ[i]? = some (some v)→Vis X.env.scope x→∃u,RelV v u∧Look X.env s.heap m x u
 cell:∀x c,X.env.cells.lookup x=some c→∃v,s.heap.IsCell c v
 free:H X.env.locals=none
 freeC:∀x c,X.env.cells.lookup x=some c→H c=none
 pin:∀p∈X.pn++pins,s.heap.get? p.1=some p.2∧H p.1=none∧p.1≠X.env.locals∧p.1∉X.fs∧∀v,p.2.data≠.cell v
 hok:HOk X.prog X.w H s.heap
 len:σ.length=X.N.length
section
variable {X : Cx} {pins : List (Addr × Obj)} {σ : List (Option V)} {H H' : Hp} {s : Shared} {h' : Heap}
theorem Cx.Ok.nofr (ok:X.Ok) {b:Addr} {o:Obj} (e:X.base.get? b=some o):b∉X.fs:=fun hb=>by
 have:=(ok.funs.mem hb).1
 rw[e]at this;cases this
theorem Inv.bs (I:Inv X pins σ H s):∀b o,X.base.get? b=some o→s.heap.get? b=some o∧H b=none:=fun b o e =>
 ⟨I.base.keep b o (I.ok.bs b o e).1 (I.ok.bs b o e).2 (I.ok.nofr e) (I.ok.noex b o e),I.base.free b o (I.ok.bs b o e).1 (I.ok.bs b o e).2 (I.ok.noex b o e)⟩
theorem Inv.bk (I:Inv X pins σ H s):∀b o,X.base.get? b=some o→s.heap.get? b=some o:=fun b o e=>(I.bs b o e).1
theorem Inv.mod (I:Inv X pins σ H s):Mod X.K X.mg X.base:=I.ok.mod
theorem Inv.kIn (I:Inv X pins σ H s):X.K.In s.heap:=I.ok.mod.kin.keeps I.bk
theorem Inv.fr (I:Inv X pins σ H s):∃m,Fr X.base X.env.locals s.heap m :=
 let ⟨m,hn,_⟩:=I.loc
 ⟨m,hn,I.bk,CL I.ok.bsz I.ok.above⟩
theorem Inv.lt (I:Inv X pins σ H s):X.env.locals<s.heap.objs.size:=let ⟨_,hn,_⟩:=I.loc;hn.lt
theorem Inv.sz (I:Inv X pins σ H s):X.s₀.heap.objs.size≤s.heap.objs.size:=CL I.ok.above (EM I.lt)
theorem Inv.nofs (I:Inv X pins σ H s) {a:Addr} (h:s.heap.objs.size≤a):a∉X.fs:=fun hb=>by
 obtain⟨_,o,ho,_⟩:=I.ok.funs.mem hb
 exact absurd (AU (AI ho) (CL I.sz h)) (CP _)
theorem Inv.cne (I:Inv X pins σ H s):∀x c,X.env.cells.lookup x=some c→c≠X.env.locals:=fun x c e z=>by
 obtain⟨v,o,ho,hd⟩:=I.cell x c e
 obtain⟨m,⟨o',es,ep,ho',hd',_⟩,_⟩:=I.loc
 rw[z,ho']at ho;cases ho;rw[hd']at hd;cases hd
theorem Inv.funs (I:Inv X pins σ H s):s.heap.FunFrames X.base X.outer:=by
 have all:∀(l:List Env),(∀b∈frs l,b∈X.fs)→X.s₀.heap.FunFrames X.base l→s.heap.FunFrames X.base l:=by
  intro l
  induction l with
  | nil=>intro _ _;trivial
  | cons env r ih =>
   intro hs hl
   obtain⟨hk,⟨L,o,hf,hn,ho,hd⟩,hr⟩:=hl
   have hL:L∈X.fs:=hs L (by unfold frs;rw[FY,hf];exact AS)
   obtain⟨sl,e⟩:=I.base.slot L o ho (I.ok.frf L hL) hL fun z=>I.ok.exfs L z hL
   exact⟨hk,⟨L,_,hf,hn,e,hd⟩,ih (fun b hb=>hs b (by unfold frs;rw[FY,hf];exact AJ _ hb)) hr⟩
 exact all X.outer (fun _ hb=>hb) I.ok.funs
theorem Inv.stack (I:Inv X pins σ H s):s.heap.FunFrames X.base X.stack:=by
 rcases I.ok.stk with e | ⟨e,hf⟩
 ·rw[e];exact I.funs
 ·rw[e]
  obtain⟨m,hn,_⟩:=I.loc
  refine .cons (by rw[I.ok.kind];decide) hf hn ?_ I.funs
  exact Heap.get?_none_of_le (CL I.ok.bsz I.ok.above)
theorem Inv.stkSub (I:Inv X pins σ H s):∀b∈frs X.stack,b∈X.env.locals::X.fs:=fun b hb=>by
 rcases I.ok.stk with e | ⟨e,hf⟩
 ·rw[e]at hb;exact AJ _ hb
 ·rw[e]at hb
  unfold frs at hb
  rw[FY,hf]at hb
  exact hb
theorem Inv.stkFree (I:Inv X pins σ H s):∀b∈frs X.stack,H b=none:=fun b hb=>by
 rcases AO.mp (I.stkSub b hb)with e | hb
 ·rw[e];exact I.free
 ·obtain⟨_,o,ho,_⟩:=I.ok.funs.mem hb
  exact I.base.free b o ho (I.ok.frf b hb) fun z=>I.ok.exfs b z hb
theorem Inv.step {g':Array GenState} {t':Nat} {d':Drawn} {ch:List Addr} (I:Inv X pins σ H s)
  (hch:∀b∈ch,(b∈X.ex∨X.s₀.heap.objs.size≤b)∧b≠X.env.locals∧(∀x c,X.env.cells.lookup x=some c→c≠b)∧∀p∈X.pn++pins,p.1≠b)
  (keep:∀b o,b≠X.env.locals→b∉X.fs→b∉ch→s.heap.get? b=some o→H b=none→h'.get? b=some o)
  (slot:∀b o,b≠X.env.locals→b∈X.fs→b∉ch→s.heap.get? b=some o→H b=none→∃sl,h'.get? b=some {o with slots:=sl}) (free:∀b o,b∉ch→s.heap.get? b=some o→H b=none→H' b=none)
  (there:∀b o,b∉ch→s.heap.get? b=some o→∃o',h'.get? b=some o')
  (tups:∀b xs,H b=some (.tup xs)→H' b=some (.tup xs)) (frzs:∀b o u,H b=some (.frz o u)→H' b=some (.frz o u)) (tbls:∀b ps,H b=some (.tbl ps)→∃more,H' b=some (.tbl (ps++more)))
  (ns:∀m,s.heap.Ns X.env.locals m→h'.Ns X.env.locals m) (hok:HOk X.prog X.w H' h') (hg:AllBare g') :
  Inv X pins σ H' {s with heap:=h',gens:=g',drawn:=d',toks:=t'}:=by
 have neL:∀b o,X.s₀.heap.get? b=some o→b≠X.env.locals:=fun b o e=>AW (AU (AI e) I.ok.above)
 have neC:∀b o,X.s₀.heap.get? b=some o→b∉X.ex→b∉ch:=fun b o e hx hb=>by
  rcases(hch b hb).1 with z | z
  ·exact hx z
  ·exact absurd (AU (AI e) z) (CP _)
 have cellK:∀x c,X.env.cells.lookup x=some c→∀v,s.heap.IsCell c v→h'.IsCell c v:=fun x c e v ⟨o,ho,hd⟩=>by
  have nch:c∉ch:=fun z=>(hch c z).2.2.1 x c e rfl
  by_cases hc:c∈X.fs
  ·obtain⟨sl,q⟩:=slot c o (I.cne x c e) hc nch ho (I.freeC x c e)
   exact⟨_,q,hd⟩
  ·exact⟨o,keep c o (I.cne x c e) hc nch ho (I.freeC x c e),hd⟩
 refine⟨I.ok,I.os,hg,⟨fun b o e n hb hx=>?_,fun b o e n hb hx=>?_,fun b o e n hx=>?_,fun b o e hx=>?_,fun b xs e=>tups b xs (I.base.tups b xs e),fun b o xs e=>frzs b o xs (I.base.frzs b o xs e),fun b ps e=>?_⟩,?_,fun x c e=>?_,?_,fun x c e=>?_,fun p hp=>?_,hok,I.len⟩
 ·exact keep b o (neL b o e) hb (neC b o e hx) (I.base.keep b o e n hb hx) (I.base.free b o e n hx)
 ·obtain⟨sl,e1⟩:=I.base.slot b o e n hb hx
  obtain⟨sl',e2⟩:=slot b _ (neL b o e) hb (neC b o e hx) e1 (I.base.free b o e n hx)
  exact⟨sl',e2⟩
 ·obtain⟨o',e1⟩:=I.base.there b o e hx
  exact free b o' (neC b o e hx) e1 (I.base.free b o e n hx)
 ·obtain⟨o',e1⟩:=I.base.there b o e hx
  exact there b o' (neC b o e hx) e1
 ·obtain⟨m1,e1⟩:=I.base.tbls b ps e
  obtain⟨m2,e2⟩:=tbls b _ e1
  exact⟨m1++m2,by rw[e2,Array.append_assoc]⟩
 ·obtain⟨m,hn,hl⟩:=I.loc
  refine⟨m,ns m hn,fun i x v e1 e2 e3=>?_⟩
  obtain⟨u,r,l⟩:=hl i x v e1 e2 e3
  refine⟨u,r,?_⟩
  rcases l with l | ⟨k,c,e,z⟩
  ·exact .inl l
  ·exact .inr ⟨k,c,e,cellK x c e _ z⟩
 ·obtain⟨v,z⟩:=I.cell x c e
  exact⟨v,cellK x c e v z⟩
 ·obtain⟨m,⟨o,_,_,ho,_⟩,_⟩:=I.loc
  exact free _ o (fun z=>(hch _ z).2.1 rfl) ho I.free
 ·obtain⟨v,o,ho,hd⟩:=I.cell x c e
  exact free c o (fun z=>(hch c z).2.2.1 x c e rfl) ho (I.freeC x c e)
 ·obtain⟨e,n,ne,nf,d⟩:=I.pin p hp
  have nch:p.1∉ch:=fun z=>(hch p.1 z).2.2.2 p hp rfl
  exact⟨keep p.1 p.2 ne nf nch e n,free p.1 p.2 nch e n,ne,nf,d⟩
theorem Inv.un {t':Nat} (I:Inv X pins σ H s) (u:Un X.fs [] H H' s.heap h') (hok:HOk X.prog X.w H' h'):Inv X pins σ H' {s with heap:=h',toks:=t'}:=by
 obtain⟨m,⟨o,es,ep,ho,r⟩,_⟩:=id I.loc
 obtain⟨sl,hL⟩:=u.any ho I.free (by simp)
 exact I.step (g':=s.gens) (d':=s.drawn) (ch:=[]) (fun _ z=>nomatch z) (fun b o _ hb _ e n=>u.keep b o e n hb (by simp)) (fun b o _ hb _ e n=>u.slot b o e n hb (by simp)) (fun b o _ e n=>u.free b o e n (by simp)) (fun b o _ e=>u.there b o e (by simp)) u.tups u.frzs u.tbls (fun m' hm=>by
  obtain⟨o',es',ep',ho',r'⟩:=hm
  rw[ho]at ho';cases ho'
  exact⟨_,es',ep',hL,r'⟩) hok I.bare
theorem Inv.call {g':Array GenState} {t':Nat} {d':Drawn} {ch:List Addr} (I:Inv X pins σ H s) (u:Un (frs X.stack) ch H H' s.heap h') (hok:HOk X.prog X.w H' h') (hg:AllBare g')
  (hch:∀b∈ch,(b∈X.ex∨X.s₀.heap.objs.size≤b)∧b≠X.env.locals∧(∀x c,X.env.cells.lookup x=some c→c≠b)∧∀p∈X.pn++pins,p.1≠b) :
  Inv X pins σ H' {s with heap:=h',gens:=g',drawn:=d',toks:=t'}:=by
 obtain⟨m,⟨o,es,ep,ho,r⟩,_⟩:=id I.loc
 obtain⟨sl,hL⟩:=u.any ho I.free fun z=>(hch _ z).2.1 rfl
 exact I.step (ch:=ch) hch (fun b o hL hb hc e n=>u.keep b o e n (fun z=>(AO.mp (I.stkSub b z)).elim hL hb) hc) (fun b o _ _ hc e n=>u.any e n hc) (fun b o hc e n=>u.free b o e n hc) (fun b o hc e=>u.there b o e hc) u.tups u.frzs u.tbls (fun m' hm=>by
  obtain⟨o',es',ep',ho',r'⟩:=hm
  rw[ho]at ho';cases ho'
  exact⟨_,es',ep',hL,r'⟩) hok hg
theorem Inv.turned {t':Nat} {it:Addr} (I:Inv X pins σ H s) (k:∀b o,b≠it→s.heap.get? b=some o→h'.get? b=some o) (hn:H it=none) (hL:it≠X.env.locals)
  (h1:it∈X.ex∨X.s₀.heap.objs.size≤it) (h2:∀x c,X.env.cells.lookup x=some c→c≠it) (h3:∀p∈X.pn++pins,p.1≠it):Inv X pins σ H {s with heap:=h',toks:=t'}:=by
 have nit:∀b u,H b=some u→b≠it:=fun b u e z=>by rw[z,hn]at e;cases e
 refine I.step (g':=s.gens) (d':=s.drawn) (ch:=[it]) (fun b hb=>?_) (fun b o _ _ hc e _=>k b o (fun z=>hc (by simp[z])) e) (fun b o _ _ hc e _=>⟨o.slots,k b o (fun z=>hc (by simp[z])) e⟩) (fun _ _ _ _ n=>n)
  (fun b o hc e=>⟨o,k b o (fun z=>hc (by simp[z])) e⟩) (fun _ _ e=>e) (fun _ _ _ e=>e) (fun b ps e=>⟨#[],by rw[e];simp⟩) (fun m hm=>?_) (fun b u e=>?_) I.bare
 ·have e:b=it:=by simpa using hb
  subst e
  exact⟨h1,hL,h2,h3⟩
 ·obtain⟨o,es,ep,ho,r⟩:=hm
  exact⟨o,es,ep,k _ o (Ne.symm hL) ho,r⟩
 ·refine(I.hok b u e).stay (fun c v hc q=>k c v ?_ q) (fun _ q=>q) fun _ _ q=>q
  rcases hc with z | z
  ·rw[z];exact nit b u e
  ·exact nit c _ z
theorem Inv.tok (I:Inv X pins σ H s) (t:Nat):Inv X pins σ H {s with toks:=t}:=I.un (h':=s.heap) (t':=t) Un.refl I.hok
theorem Inv.kept {t':Nat} (I:Inv X pins σ H s) (k:∀b u,s.heap.get? b=some u→h'.get? b=some u):Inv X pins σ H {s with heap:=h',toks:=t'}:=I.un (Un.kept k) (I.hok.kept k)
theorem Inv.laid {a:Addr} {o:HO} {t':Nat} (I:Inv X pins σ H s) (k:∀b u,s.heap.get? b=some u→h'.get? b=some u) (hp:s.heap.objs.size≤a) (new:gv X.prog X.w (upd H a o) h' a o) :
  Inv X pins σ (upd H a o) {s with heap:=h',toks:=t'}:=I.un (Un.laid k hp (I.hok.fresh hp)) (I.hok.laid k hp new)
theorem Inv.write {x e:Addr} {o:HO} {t':Nat} (I:Inv X pins σ H s) (mu:Mut (H x)) (he:e=x∨H e=some (.own x)) (k:∀b u,b≠e→s.heap.get? b=some u→h'.get? b=some u) (heo:∃u,h'.get? e=some u)
  (new:gv X.prog X.w (upd H x o) h' x o):Inv X pins σ (upd H x o) {s with heap:=h',toks:=t'}:=I.un (Un.write mu he k heo) (I.hok.write mu he k heo new)
theorem Inv.weak {σ':List (Option V)} (I:Inv X pins σ H s) (hl:σ'.length=σ.length) (w:∀(i:Nat) v,σ'[i]? = some (some v)→σ[i]? = some (some v)):Inv X pins σ' H s :=
 ⟨I.ok,I.os,I.bare,I.base,let ⟨m,hn,hl'⟩:=I.loc;⟨m,hn,fun i x v e1 e2 e3=>hl' i x v e1 (w i v e2) e3⟩,I.cell,I.free,I.freeC,I.pin,I.hok,hl.trans I.len⟩
theorem Inv.pins_of {pins':List (Addr×Obj)} (I:Inv X pins σ H s) (h:∀p∈pins',s.heap.get? p.1=some p.2∧H p.1=none∧p.1≠X.env.locals∧p.1∉X.fs∧∀v,p.2.data≠.cell v):Inv X pins' σ H s :=
 ⟨I.ok,I.os,I.bare,I.base,I.loc,I.cell,I.free,I.freeC,fun p hp=>(DM.mp hp).elim (fun z=>I.pin p (List.mem_append_left _ z)) (h p),I.hok,I.len⟩
theorem Ap {N:List Str} (hN:N.Nodup) {i j:Nat} {x:Str} (a:N[i]? = some x) (b:N[j]? = some x):i=j:=by
 obtain⟨h1,e1⟩:=AE.mp a
 obtain⟨h2,e2⟩:=AE.mp b
 exact(List.getElem_inj hN).mp (e1.trans e2.symm)
theorem vz {M:Model} {A:Around} {E:Value→Shared→Prop} {i:Nat} {x:Str} {v:V} {u:Value} {Q:Unit→Shared→Prop} (I:Inv X pins σ H s) (hN:X.N.Nodup) (hi:X.N[i]? = some x) (hx:Loc X.env.scope x) (r:RelV v u)
  (h:∀s',Inv X pins (σ.set i (some v)) H s'→(∃a,Heap.SameBut a s.heap s'.heap∧(a=X.env.locals∨X.env.cells.lookup x=some a))→Q () s') (hf:X.fn x=true∨X.env.scope.names.lookup x=some .local:=by first | exact .inl rfl | exact .inr rfl | assumption):wpAny M A (storeName X.env x u) Q E s:=by
 obtain⟨m,hn,hl⟩:=id I.loc
 have hcls:(X.env.scope.kind==.class || (X.env.scope.kind==.module&&X.env.locals != X.env.globals))=false:=by rw[I.ok.kind];rfl
 have hiσ:i<σ.length:=by rw[I.len];exact(AE.mp hi).1
 have cne:=I.cne
 have tracked:∀{a:Addr} {h':Heap},(∃o,s.heap.get? a=some o∧H a=none)→Heap.SameBut a s.heap h'→HOk X.prog X.w H h':=fun {a h'} ha hs b ob e=>by
  obtain⟨_,_,hfree⟩:=ha
  refine(I.hok b ob e).stay (fun c w' hc q=>(hs.2 c ?_).trans q) (fun _ q=>q) fun _ _ q=>q
  rintro rfl
  rcases hc with rfl | hc
  ·rw[hfree]at e;cases e
  ·rw[hfree]at hc;cases hc
 rcases hx with hk | hk
 ·refine wpAny_storeName_local hk hn (fun h' hn' hs=>?_) hcls
  obtain⟨oL,_,_,hoL,_⟩:=id hn
  refine h _ ⟨I.ok,I.os,I.bare,⟨fun b o e n hb hx=>?_,fun b o e n hb hx=>?_,I.base.free,fun b o e hx=>?_,I.base.tups,I.base.frzs,I.base.tbls⟩,⟨_,hn',fun j y v' e1 e2 e3=>?_⟩,fun y c e=>?_,I.free,I.freeC,fun p hp=>?_,tracked ⟨oL,hoL,I.free⟩ hs,by simpa using I.len⟩ ⟨_,hs,.inl rfl⟩
  ·exact(hs.2 b (AW (AU (AI e) I.ok.above))).trans (I.base.keep b o e n hb hx)
  ·obtain⟨sl,e1⟩:=I.base.slot b o e n hb hx
   exact⟨sl,(hs.2 b (AW (AU (AI e) I.ok.above))).trans e1⟩
  ·obtain⟨o',e1⟩:=I.base.there b o e hx
   exact⟨o',(hs.2 b (AW (AU (AI e) I.ok.above))).trans e1⟩
  ·by_cases hj:j=i
   ·subst hj
    rw[hi]at e1;cases e1
    rw[CQ hiσ]at e2
    cases e2
    exact⟨u,r,.inl ⟨hk,by simp⟩⟩
   ·rw[CA (Ne.symm hj)]at e2
    obtain⟨u',r',q⟩:=hl j y v' e1 e2 e3
    refine⟨u',r',?_⟩
    rcases q with⟨k,e⟩ | ⟨k,c,e,z⟩
    ·refine .inl ⟨k,?_⟩
     have:y≠x:=fun e=>hj (Ap hN e1 (e ▸ hi))
     simp[this,e]
    ·exact .inr ⟨k,c,e,z.sameBut hs (cne y c e)⟩
  ·obtain⟨w',z⟩:=I.cell y c e
   exact⟨w',z.sameBut hs (cne y c e)⟩
  ·obtain⟨e,n,ne,nf,d⟩:=I.pin p hp
   exact⟨(hs.2 p.1 ne).trans e,n,ne,nf,d⟩
 ·have hfn:X.fn x=true:=by
   rcases hf with z | z
   ·exact z
   ·rw[z]at hk;cases hk
  obtain⟨c,hc⟩:=I.ok.has x (.inl hk)
  obtain⟨w',z⟩:=I.cell x c hc
  refine wpAny_storeName_cell I.ok.kind hk hc z (fun h' hc' hs=>?_)
  obtain⟨oc,hoc,hocd⟩:=id z
  refine h {s with heap:=h'} ⟨I.ok,I.os,I.bare,⟨fun b o e n hb hx=>?_,fun b o e n hb hx=>?_,I.base.free,fun b o e hx=>?_,I.base.tups,I.base.frzs,I.base.tbls⟩,⟨m,hn.sameBut hs (Ne.symm (cne x c hc)),fun j y v' e1 e2 e3=>?_⟩,fun y c' e=>?_,I.free,I.freeC,fun p hp=>?_,tracked ⟨oc,hoc,I.freeC x c hc⟩ hs,by simpa using I.len⟩ ⟨c,hs,.inr hc⟩
  ·exact(hs.2 b (AW (AU (AI e) (I.ok.cab x c hfn hc)))).trans (I.base.keep b o e n hb hx)
  ·obtain⟨sl,e1⟩:=I.base.slot b o e n hb hx
   exact⟨sl,(hs.2 b (AW (AU (AI e) (I.ok.cab x c hfn hc)))).trans e1⟩
  ·obtain⟨o',e1⟩:=I.base.there b o e hx
   exact⟨o',(hs.2 b (AW (AU (AI e) (I.ok.cab x c hfn hc)))).trans e1⟩
  ·by_cases hj:j=i
   ·subst hj
    rw[hi]at e1;cases e1
    rw[CQ hiσ]at e2
    cases e2
    exact⟨u,r,.inr ⟨.inl hk,c,hc,hc'⟩⟩
   ·rw[CA (Ne.symm hj)]at e2
    obtain⟨u',r',q⟩:=hl j y v' e1 e2 e3
    refine⟨u',r',?_⟩
    rcases q with q | ⟨k,c',e,z'⟩
    ·exact .inl q
    ·refine .inr ⟨k,c',e,z'.sameBut hs ?_⟩
     rintro rfl
     exact hj (Ap hN e1 (I.ok.inj _ _ _ e hc ▸ hi))
  ·by_cases hcc:c'=c
   ·subst hcc;exact⟨_,hc'⟩
   ·obtain⟨w2,z2⟩:=I.cell y c' e
    exact⟨w2,z2.sameBut hs hcc⟩
  ·obtain⟨e,n,ne,nf,d⟩:=I.pin p hp
   refine⟨(hs.2 p.1 ?_).trans e,n,ne,nf,d⟩
   intro q
   rw[q,hoc]at e
   have q':oc=p.2:=BL e
   exact d w' (by rw[←q'];exact hocd)
theorem Aq {M:Model} {A:Around} {E:Value→Shared→Prop} {i:Nat} {x:Str} {v:V} {u:Value} {Q:Unit→Shared→Prop} (I:Inv X pins σ H s) (hN:X.N.Nodup) (hi:X.N[i]? = some x) (hx:Loc X.env.scope x) (r:RelV v u)
  (h:∀s',Inv X pins (σ.set i (some v)) H s'→Q () s') (hf:X.fn x=true∨X.env.scope.names.lookup x=some .local:=by first | exact .inl rfl | exact .inr rfl | assumption):wpAny M A (storeName X.env x u) Q E s :=
 vz I hN hi hx r (fun s' I' _=>h s' I') hf
theorem Inv.call' {s':Shared} {ch:List Addr} (I:Inv X pins σ H s) (ho:s'.os=s.os) (u:Un (frs X.stack) ch H H' s.heap s'.heap) (hok:HOk X.prog X.w H' s'.heap) (hg:AllBare s'.gens)
  (hch:∀b∈ch,(b∈X.ex∨X.s₀.heap.objs.size≤b)∧b≠X.env.locals∧(∀x c,X.env.cells.lookup x=some c→c≠b)∧∀p∈X.pn++pins,p.1≠b):Inv X pins σ H' s':=by
 obtain⟨h',g',d',t',o'⟩:=s'
 have e:o'=s.os:=ho
 subst e
 exact I.call (g':=g') (t':=t') (d':=d') u hok hg hch
end
noncomputable abbrev XK:=Value→Option Addr→Hp→Prop
noncomputable abbrev St:=List (Option V)
noncomputable abbrev VK:=V→Hp→Prop
noncomputable abbrev TE:=St→Hp→VK→Prop
noncomputable abbrev TT:=St→Hp→(Bool→Hp→Prop)→Prop
noncomputable abbrev TA:=St→Hp→(List V→Hp→Prop)→Prop
structure Ends where
 nx:St→Hp→Prop
 rt:VK
 bk:St→Hp→Prop:=fun _ _=>False
 ct:St→Hp→Prop:=fun _ _=>False
noncomputable abbrev TS:=Ends→St→Hp→Prop
noncomputable def EP (X:Cx) (pins:List (Addr×Obj)) (σ:St) (Q:VK) (u:Value) (s':Shared):Prop:=∃v H',Inv X pins σ H' s'∧RelV v u∧Q v H'
noncomputable def TP (X:Cx) (pins:List (Addr×Obj)) (σ:St) (Q:Bool→Hp→Prop) (b:Bool) (s':Shared):Prop:=∃H',Inv X pins σ H' s'∧Q b H'
noncomputable def AP (X:Cx) (pins:List (Addr×Obj)) (σ:St) (Q:List V→Hp→Prop) (us:List Value) (s':Shared):Prop:=∃vs H',Inv X pins σ H' s'∧bq vs us∧Q vs H'
noncomputable def SP (X:Cx) (pins:List (Addr×Obj)) (D:Ends) (f:Flow) (s':Shared):Prop :=
 match f with
 | .next=>∃σ' H',Inv X pins σ' H' s'∧D.nx σ' H'
 | .brk=>∃σ' H',Inv X pins σ' H' s'∧D.bk σ' H'
 | .cont=>∃σ' H',Inv X pins σ' H' s'∧D.ct σ' H'
 | .ret u=>∃v σ' H',Inv X pins σ' H' s'∧RelV v u∧D.rt v H'
noncomputable def PE (X:Cx) (e:Expr) (t:TE):Prop :=
 ∀(pins:List (Addr×Obj)) (s:Shared) (σ:St) (H:Hp) (Q:VK),Inv X pins σ H s→t σ H Q→wpAny (model X.prog X.w) X.A (eval e X.env) (EP X pins σ Q) X.xe s
noncomputable def PT (X:Cx) (e:Expr) (t:TT):Prop :=
 ∀(pins:List (Addr×Obj)) (s:Shared) (σ:St) (H:Hp) (Q:Bool→Hp→Prop),Inv X pins σ H s→t σ H Q→wpAny (model X.prog X.w) X.A (isTrue e X.env (eval e X.env)) (TP X pins σ Q) X.xe s
noncomputable def PW (X:Cx) (e:Expr) (t:TT):Prop :=
 ∀(whole:Sem Value) (pins:List (Addr×Obj)) (s:Shared) (σ:St) (H:Hp) (Q:Bool→Hp→Prop),Inv X pins σ H s→t σ H Q→wpAny (model X.prog X.w) X.A (isTrue e X.env whole) (TP X pins σ Q) X.xe s
theorem PW.pt {X:Cx} {e:Expr} {t:TT} (h:PW X e t):PT X e t:=h _
noncomputable def PA (X:Cx) (es:List Expr) (t:TA):Prop :=
 ∀(pos:Pos) (pins:List (Addr×Obj)) (s:Shared) (σ:St) (H:Hp) (Q:List V→Hp→Prop),Inv X pins σ H s→t σ H Q→wpAny (model X.prog X.w) X.A (spliced (backTo pos (starEach es X.env))) (AP X pins σ Q) X.xe s
noncomputable def PS (X:Cx) (st:Stmt) (t:TS):Prop :=
 ∀(pins:List (Addr×Obj)) (s:Shared) (σ:St) (H:Hp) (D:Ends),Inv X pins σ H s→t D σ H→wpAny (model X.prog X.w) X.A (exec st X.env) (SP X pins D) X.xe s
noncomputable def PSs (X:Cx) (st:List Stmt) (t:TS):Prop :=
 ∀(pins:List (Addr×Obj)) (s:Shared) (σ:St) (H:Hp) (D:Ends),Inv X pins σ H s→t D σ H→wpAny (model X.prog X.w) X.A (execs st X.env) (SP X pins D) X.xe s
theorem thn {α:Type} {t:Sem α} {Q Q':α→Shared→Prop} {M:Model} {A:Around} {E:Value→Shared→Prop} {s:Shared} (h:wpAny M A t Q E s) (hQ:∀a s,Q a s→Q' a s):wpAny M A t Q' E s:=DO h hQ fun _ _ x=>x
end L2
namespace L2
open PySem PySem.Spec PyProof.Rows
section
variable {X : Cx}
theorem bin {a b:Expr} {ta tb:TE} (ha:PE X a ta) (hb:PE X b tb) {pins:List (Addr×Obj)} {s:Shared} {σ:St} {H:Hp} {R:V→V→Hp→Prop} (I:Inv X pins σ H s) (h:ta σ H fun x H1=>tb σ H1 fun y H2=>R x y H2)
  {α:Type} {Q:α→Shared→Prop} {f:Value→Value→Sem α}
  (hf:∀v u s2 x y H2,Inv X pins σ H2 s2→RelV x v→RelV y u→R x y H2→wpAny (model X.prog X.w) X.A (f v u) Q X.xe s2) :
  wpAny (model X.prog X.w) X.A (eval a X.env) (fun v s₁=>wpAny (model X.prog X.w) X.A (eval b X.env) (fun u s₂=>wpAny (model X.prog X.w) X.A (f v u) Q X.xe s₂) X.xe s₁) X.xe s:=by
 refine thn (ha pins s σ H _ I h) fun v s1 ⟨x,H1,I1,r1,q1⟩=>?_
 refine thn (hb pins s1 σ H1 _ I1 q1) fun u s2 ⟨y,H2,I2,r2,q2⟩=>?_
 exact hf v u s2 x y H2 I2 r1 r2 q2
noncomputable def U8 (i:Nat):TE:=fun σ H Q=>∃v,σ[i]? = some (some v)∧Q v H
noncomputable def tC (v:V):TE:=fun _ H Q=>Q v H
theorem sr {i:Nat} {x:Str} {pos:Pos} (hN:X.N[i]? = some x) (hv:Vis X.env.scope x) (hd:(x==("__debug__":Str))=false:=by decide) (hcd:(x==("__classdict__":Str))=false:=by decide):PE X (.Name x pos) (U8 i):=by
 intro pins s σ H Q I h
 obtain⟨v,e,h⟩:=h
 obtain⟨m,hn,hl⟩:=I.loc
 obtain⟨u,r,l⟩:=hl i x v hN e hv
 have fin:EP X pins σ Q u s:=⟨v,H,I,r,h⟩
 rcases l with⟨hk,hm⟩ | ⟨hk,c,hc,hcell⟩
 ·exact wpAny_Name (wpAny_loadName_local I.ok.kind hk hn hm fin) hd
 ·rcases hk with hk | hk
  ·exact wpAny_Name (wpAny_loadName_cell I.ok.kind hk hc hcell fin) hd
  ·exact wpAny_Name (wpAny_loadName_free I.ok.kind hk hc hcell fin hcd) hd
theorem Ju {i j pos}:PE X (.Constant (.int i) j pos) (tC (.int i)):=fun _ _ _ H _ I h=>wpAny_Constant_int ⟨.int i,H,I.tok _,⟨_,rfl⟩,h⟩
theorem S3 {b j pos}:PE X (.Constant (.bool b) j pos) (tC (.bl b)):=fun _ _ _ H _ I h=>Constant_bool ⟨.bl b,H,I,rfl,h⟩
theorem Ow {j pos}:PE X (.Constant .none j pos) (tC .non):=fun _ _ _ H _ I h=>Constant_none ⟨.non,H,I,rfl,h⟩
theorem Ox {x j pos}:PE X (.Constant (.str x) j pos) (tC (.str x)):=fun _ _ _ H _ I h=>Calls.Constant_str ⟨.str x,H,I.tok _,⟨_,rfl⟩,h⟩
noncomputable def Gl (X:Cx) (x:Str):Prop:=X.env.kindOf x=some .globalImplicit
theorem Ly {E:Value→Shared→Prop} {pins:List (Addr×Obj)} {s:Shared} {σ:St} {H:Hp} {x:Str} {u:Value} {pos:Pos} {Q:Value→Shared→Prop} (I:Inv X pins σ H s) (hg:Gl X x) (hm:X.mg x=some u) (h:Q u s)
  (hd:(x==("__debug__":Str))=false:=by decide):wpAny (model X.prog X.w) X.A (eval (.Name x pos) X.env) Q E s :=
 Gt I.ok.kind hg (Calls.loadGlobal_global (by rw[I.ok.glob];exact I.mod.glob.keeps I.bk) hm h) hd
theorem my {E:Value→Shared→Prop} {pins:List (Addr×Obj)} {s:Shared} {σ:St} {H:Hp} {x:Str} {u:Value} {pos:Pos} {Q:Value→Shared→Prop} (I:Inv X pins σ H s) (hg:Gl X x) (hm:X.mg x=none) (hv:bootBuiltins x=some u) (h:Q u s)
  (hn:x≠"__name__":=by decide) (hd:(x==("__debug__":Str))=false:=by decide):wpAny (model X.prog X.w) X.A (eval (.Name x pos) X.env) Q E s:=by
 obtain⟨mb,h1,h2⟩:=I.mod.blt
 exact Gt I.ok.kind hg (Calls.loadGlobal_builtin (by rw[I.ok.glob];exact I.mod.glob.keeps I.bk) hm (by rw[I.ok.blt];exact h1.keeps I.bk) ((h2 x hn).trans hv) h) hd
theorem Lz {x:Str} {v:V} {u:Value} {pos:Pos} (hg:Gl X x) (hm:X.mg x=none) (hv:bootBuiltins x=some u) (r:RelV v u) (hn:x≠"__name__":=by decide) (hd:(x==("__debug__":Str))=false:=by decide):PE X (.Name x pos) (tC v) :=
 fun _ _ _ H _ I h=>my I hg hm hv ⟨v,H,I,r,h⟩ hn hd
variable {a b : Expr} {ta tb : TE} {pos : Pos}
variable {tA tB' : TT} {rest : List Expr}
noncomputable def V4 (t u:TT):TT:=fun σ H Q=>t σ H fun c H1=>if c=true then u σ H1 Q else Q false H1
noncomputable def tOr (t u:TT):TT:=fun σ H Q=>t σ H fun c H1=>if c=true then Q true H1 else u σ H1 Q
noncomputable def V5 (t:TT):TT:=fun σ H Q=>t σ H fun c H1=>Q (!c) H1
theorem L0 (ha:PT X a tA):PW X (.BoolOp .And [a] pos) tA:=by
 intro wh pins s σ H Q I h
 refine isTrue_and (thn (ha pins s σ H Q I h) fun c s1 e=>?_)
 cases c with
 | true=>exact isTrue_and_nil e
 | false=>exact e
theorem Oy (ha:PT X a tA):PW X (.BoolOp .Or [a] pos) tA:=by
 intro wh pins s σ H Q I h
 refine isTrue_or (thn (ha pins s σ H Q I h) fun c s1 e=>?_)
 cases c with
 | false=>exact isTrue_or_nil e
 | true=>exact e
theorem Oz (ha:PT X a tA) (hb:PW X (.BoolOp .And (b::rest) pos) tB'):PW X (.BoolOp .And (a::b::rest) pos) (V4 tA tB'):=by
 intro wh pins s σ H Q I h
 refine isTrue_and (thn (ha pins s σ H _ I h) fun c s1 ⟨H1,I1,q1⟩=>?_)
 cases c with
 | true=>exact hb wh pins s1 σ H1 Q I1 q1
 | false=>exact⟨H1,I1,q1⟩
theorem S4 (ha:PT X a tA) (hb:PW X (.BoolOp .Or (b::rest) pos) tB'):PW X (.BoolOp .Or (a::b::rest) pos) (tOr tA tB'):=by
 intro wh pins s σ H Q I h
 refine isTrue_or (thn (ha pins s σ H _ I h) fun c s1 ⟨H1,I1,q1⟩=>?_)
 cases c with
 | true=>exact⟨H1,I1,q1⟩
 | false=>exact hb wh pins s1 σ H1 Q I1 q1
theorem O0 (ha:PT X a tA):PT X (.UnaryOp .Not a pos) (V5 tA):=by
 intro pins s σ H Q I h
 exact isTrue_not (ha pins s σ H (fun c H1=>Q (!c) H1) I h)
noncomputable def S5 (ta tb:TE):TE:=fun σ H Q=>ta σ H fun x H1=>∃c,x=.bl c∧if c=true then tb σ H1 Q else Q (.bl false) H1
noncomputable def V6 (ta tb:TE):TE:=fun σ H Q=>ta σ H fun x H1=>∃c,x=.bl c∧if c=true then Q (.bl true) H1 else tb σ H1 Q
noncomputable def S6 (ta:TE):TE:=fun σ H Q=>ta σ H fun x H1=>∃c,x=.bl c∧Q (.bl (!c)) H1
theorem Jv {op} {t:TE} (h:PE X a t):PE X (.BoolOp op [a] pos) t:=fun pins s σ H Q I hw=>BoolOp_one (h pins s σ H Q I hw)
theorem O1 (ha:PE X a ta) (hb:PE X (.BoolOp .And (b::rest) pos) tb):PE X (.BoolOp .And (a::b::rest) pos) (S5 ta tb):=by
 intro pins s σ H Q I h
 refine BoolOp_and (thn (ha pins s σ H _ I h) fun v s1 ⟨x,H1,I1,r1,q1⟩=>?_)
 obtain⟨c,rfl,q1⟩:=q1
 cases r1
 refine CZ ?_
 cases c with
 | true=>exact hb pins s1 σ H1 Q I1 q1
 | false=>exact⟨.bl false,H1,I1,rfl,q1⟩
theorem S7 (ha:PE X a ta) (hb:PE X (.BoolOp .Or (b::rest) pos) tb):PE X (.BoolOp .Or (a::b::rest) pos) (V6 ta tb):=by
 intro pins s σ H Q I h
 refine BoolOp_or (thn (ha pins s σ H _ I h) fun v s1 ⟨x,H1,I1,r1,q1⟩=>?_)
 obtain⟨c,rfl,q1⟩:=q1
 cases r1
 refine CZ ?_
 cases c with
 | false=>exact hb pins s1 σ H1 Q I1 q1
 | true=>exact⟨.bl true,H1,I1,rfl,q1⟩
theorem O2 (ha:PE X a ta):PE X (.UnaryOp .Not a pos) (S6 ta):=by
 intro pins s σ H Q I h
 refine UnaryOp_ (thn (ha pins s σ H _ I h) fun v s1 ⟨x,H1,I1,r1,q1⟩=>?_)
 obtain⟨c,rfl,q1⟩:=q1
 cases r1
 exact not_of (CZ ⟨.bl (!c),H1,I1,rfl,q1⟩)
end
end L2
namespace L2
open PySem PySem.Spec PyProof.Rows
noncomputable def SqL (K:PySem.W.Frag) (H:Hp) (a:Addr) (xs:List V):Prop :=
 Rd H a (.lst xs) ∨
  ∃(o:Obj) (its:Array Value) (n:Nat),K.lookup a=some o∧o.cls=.type "list"∧o.dict=none∧o.data=.seq its n∧its.size≤sizeLine∧bq xs its.toList
noncomputable def SqT (K:PySem.W.Frag) (H:Hp) (a:Addr) (xs:List V):Prop :=
 Rd H a (.tup xs) ∨
  ∃(o:Obj) (its:Array Value) (n:Nat),K.lookup a=some o∧o.cls=.type "tuple"∧o.data=.seq its n∧its.size≤sizeLine∧bq xs its.toList∧o.dict=none
noncomputable def V7:Value→Option V
 | .none=>some .non
 | .bool b=>some (.bl b)
 | .int i _=>some (.int i)
 | .str x _=>some (.str x)
 | .bytes b _=>some (.byt b)
 | .float b _=>some (.flt b)
 | .ref a=>some (.ref a)
 | .type n=>some (.ty n)
 | _=>none
theorem RelV.abs {x:V} {u:Value} (r:RelV x u):V7 u=some x:=by
 cases x with
 | non=>cases r;rfl
 | bl _=>cases r;rfl
 | int _=>obtain⟨t,rfl⟩:=r;rfl
 | str _=>obtain⟨t,rfl⟩:=r;rfl
 | byt _=>obtain⟨t,rfl⟩:=r;rfl
 | flt _=>obtain⟨t,rfl⟩:=r;rfl
 | ref _=>cases r;rfl
 | ty _=>cases r;rfl
theorem RelV.inj {x y:V} {u:Value} (r:RelV x u) (q:RelV y u):x=y:=BL (r.abs.symm.trans q.abs)
theorem bq.inj:∀{xs ys:List V} {us:List Value},bq xs us→bq ys us→xs=ys
 | _,_,_,.nil,.nil=>rfl
 | _,_,_,.cons r t,.cons r' t'=>by rw[r.inj r',bq.inj t t']
section
variable {X : Cx} {pins : List (Addr × Obj)} {σ : St} {H : Hp} {s : Shared} {a : Addr} {xs ys : List V}
theorem SqL.of {K:PySem.W.Frag} (h:H a=some (.lst xs)):SqL K H a xs:=.inl (.inl h)
theorem SqT.of {K:PySem.W.Frag} (h:H a=some (.tup xs)):SqT K H a xs:=.inl (.inl h)
theorem Inv.list (I:Inv X pins σ H s) (h:SqL X.K H a xs):∃its:List Value,bq xs its∧PlainL s.heap a its.toArray∧xs.length≤sizeLine:=by
 rcases h with h | ⟨o,its,n,hk,hc,hd,hs,hz,r⟩
 ·obtain⟨z,its,n,r,e⟩:=h.ok I.hok
  exact⟨its,r,⟨_,n,e,rfl,rfl,rfl⟩,z⟩
 ·refine⟨its.toList,r,⟨o,n,I.kIn a o hk,hc,hd,by simpa using hs⟩,?_⟩
  have e:=r.length
  simp only[BW]at e
  lia
theorem Inv.tuple (I:Inv X pins σ H s) (h:SqT X.K H a xs):∃its:List Value,bq xs its∧IsTup s.heap a its.toArray∧xs.length≤sizeLine:=by
 rcases h with h | ⟨o,its,n,hk,hc,hs,hz,r,_⟩
 ·obtain⟨z,its,r,p⟩:=h.ok I.hok
  exact⟨its,r,p.tup,z⟩
 ·refine⟨its.toList,r,⟨o,I.kIn a o hk,hc,n,by simpa using hs⟩,?_⟩
  have e:=r.length
  simp only[BW]at e
  lia
theorem Inv.list_inj (I:Inv X pins σ H s) (h:SqL X.K H a xs) (h':SqL X.K H a ys):xs=ys:=by
 obtain⟨its,r,⟨o,n,e,_,_,d⟩,_⟩:=I.list h
 obtain⟨its',r',⟨o',n',e',_,_,d'⟩,_⟩:=I.list h'
 rw[e]at e';cases e'
 rw[d]at d'
 injection d' with d1 _
 have:its=its':=by simpa using congrArg Array.toList d1
 subst this
 exact r.inj r'
theorem Inv.tuple_inj (I:Inv X pins σ H s) (h:SqT X.K H a xs) (h':SqT X.K H a ys):xs=ys:=by
 obtain⟨its,r,⟨o,e,_,n,d⟩,_⟩:=I.tuple h
 obtain⟨its',r',⟨o',e',_,n',d'⟩,_⟩:=I.tuple h'
 rw[e]at e';cases e'
 rw[d]at d'
 injection d' with d1 _
 have:its=its':=by simpa using congrArg Array.toList d1
 subst this
 exact r.inj r'
end
noncomputable abbrev Cx.wish (X:Cx) (E:Value→Shared→Prop):Cx:={X with xe:=E}
noncomputable abbrev Cx.nox (X:Cx):Cx:=X.wish fun _ _=>False
theorem Cx.Ok.wish {X:Cx} (ok:X.Ok) (E:Value→Shared→Prop):(X.wish E).Ok :=
 ⟨ok.mod,ok.kind,ok.glob,ok.blt,ok.above,ok.inj,ok.has,ok.cab,ok.hd,ok.frames,ok.stk,ok.exf,ok.bs,ok.bsz,ok.noex,ok.exfs,ok.funs,ok.frf⟩
theorem Cx.Ok.unwish {X:Cx} {E:Value→Shared→Prop} (ok:(X.wish E).Ok):X.Ok :=
 ⟨ok.mod,ok.kind,ok.glob,ok.blt,ok.above,ok.inj,ok.has,ok.cab,ok.hd,ok.frames,ok.stk,ok.exf,ok.bs,ok.bsz,ok.noex,ok.exfs,ok.funs,ok.frf⟩
section
variable {X : Cx} {pins : List (Addr × Obj)} {σ : St} {H : Hp} {s : Shared} {E : Value → Shared → Prop}
theorem Inv.wish (I:Inv X pins σ H s) (E:Value→Shared→Prop):Inv (X.wish E) pins σ H s:=⟨I.ok.wish E,I.os,I.bare,I.base,I.loc,I.cell,I.free,I.freeC,I.pin,I.hok,I.len⟩
theorem Inv.unwish (I:Inv (X.wish E) pins σ H s):Inv X pins σ H s:=⟨I.ok.unwish,I.os,I.bare,I.base,I.loc,I.cell,I.free,I.freeC,I.pin,I.hok,I.len⟩
theorem SP.unwish {D:Ends} {f:Flow} {s':Shared} (h:SP (X.wish E) pins D f s'):SP X pins D f s':=by
 cases f with
 | next=>obtain⟨σ',H',I,q⟩:=h;exact⟨σ',H',I.unwish,q⟩
 | brk=>obtain⟨σ',H',I,q⟩:=h;exact⟨σ',H',I.unwish,q⟩
 | cont=>obtain⟨σ',H',I,q⟩:=h;exact⟨σ',H',I.unwish,q⟩
 | ret u=>obtain⟨v,σ',H',I,r,q⟩:=h;exact⟨v,σ',H',I.unwish,r,q⟩
theorem PSs.nox {st:List Stmt} {t:TS} (h:PSs X.nox st t):PSs X st t:=fun pins s σ H D I hw =>
 DO (h pins s σ H D (I.wish _) hw) (fun _ _ q=>q.unwish) fun _ _ z=>False.elim z
end
section
variable {X : Cx} {st : Stmt} {rest : List Stmt} {t u : TS} {e : Expr} {te : TE} {pos : Pos}
noncomputable def tNext:TS:=fun D σ H=>D.nx σ H
noncomputable def V8 (t u:TS):TS:=fun D σ H=>t {D with nx:=u D} σ H
theorem L1:PSs X [] tNext:=fun _ _ σ H _ I h=>wpAny_execs_nil ⟨σ,H,I,h⟩
theorem He (h1:PS X st t) (h2:PSs X rest u):PSs X (st::rest) (V8 t u):=by
 intro pins s σ H D I h
 refine wpAny_execs_cons (thn (h1 pins s σ H {D with nx:=u D} I h) fun f s1 q=>?_)
 cases f with
 | next =>
  obtain⟨σ',H',I',q⟩:=q
  exact h2 pins s1 σ' H' D I' q
 | ret v=>exact q
 | brk=>exact q
 | cont=>exact q
theorem Inv.quiet {pins:List (Addr×Obj)} {σ:St} {H:Hp} {s:Shared} (I:Inv X pins σ H s):interactive X.env=false:=by simp[interactive,I.ok.kind]
noncomputable def S8 (te:TE):TS:=fun D σ H=>te σ H fun _ H1=>D.nx σ H1
theorem L3 (he:PE X e te) (hs:swapsWith e none pos.line X.env=pure false:=by rfl):PS X (.Expr e pos) (S8 te):=by
 intro pins s σ H D I h
 exact wpAny_Expr_any (thn (he pins s σ H _ I h) fun v s1 ⟨x,H1,I1,r1,q1⟩=>⟨σ,H1,I1,q1⟩) I.quiet hs
noncomputable def V9 (te:TE):TS:=fun D σ H=>te σ H D.rt
theorem O3 (he:PE X e te):PS X (.Return (some e) pos) (V9 te):=by
 intro pins s σ H D I h
 exact wpAny_Return_some (thn (he pins s σ H _ I h) fun v s1 ⟨x,H1,I1,r1,q1⟩=>⟨x,σ,H1,I1,r1,q1⟩)
noncomputable def Wa (c:TT) (t u:TS):TS:=fun D σ H=>c σ H fun b H1=>if b=true then t D σ H1 else u D σ H1
theorem S9 {c:Expr} {a b:List Stmt} {tc:TT} (hc:PT X c tc) (ha:PSs X a t) (hb:PSs X b u):PS X (.If c a b pos) (Wa tc t u):=by
 intro pins s σ H D I h
 refine wpAny_If (thn (hc pins s σ H _ I h) fun d s1 ⟨H1,I1,q1⟩=>?_)
 cases d with
 | true=>exact ha pins s1 σ H1 D I1 q1
 | false=>exact hb pins s1 σ H1 D I1 q1
end
noncomputable abbrev TG:=V→St→Hp→(St→Hp→Prop)→Prop
noncomputable abbrev TGs:=List V→St→Hp→(St→Hp→Prop)→Prop
noncomputable def PG (X:Cx) (target:Expr) (t:TG):Prop :=
 ∀(pins:List (Addr×Obj)) (s:Shared) (σ:St) (H:Hp) (v:V) (u:Value) (Q:St→Hp→Prop),Inv X pins σ H s→RelV v u→t v σ H Q →
  wpAny (model X.prog X.w) X.A (assign target X.env u) (fun _ s'=>∃σ' H',Inv X pins σ' H' s'∧Q σ' H') X.xe s
noncomputable def PGs (X:Cx) (ts:List Expr) (t:TGs):Prop :=
 ∀(pins:List (Addr×Obj)) (s:Shared) (σ:St) (H:Hp) (vs:List V) (us:List Value) (Q:St→Hp→Prop),Inv X pins σ H s→bq vs us→t vs σ H Q →
  wpAny (model X.prog X.w) X.A (assignInOrder ((assignEach ts X.env).map (·.2)) us) (fun _ s'=>∃σ' H',Inv X pins σ' H' s'∧Q σ' H') X.xe s
noncomputable abbrev TSet:=V→V→V→Hp→(Hp→Prop)→Prop
noncomputable def Su (X:Cx) (t:TSet):Prop :=
 ∀(pins:List (Addr×Obj)) (s:Shared) (σ:St) (H:Hp) (o i v:V) (ov iv u:Value) (Q:Hp→Prop),Inv X pins σ H s→RelV o ov→RelV i iv→RelV v u→t o i v H Q →
  wpAny (model X.prog X.w) X.A (setItem ov iv u) (fun _ s'=>∃H',Inv X pins σ H' s'∧Q H') X.xe s
section
variable {X : Cx} {pos : Pos}
noncomputable def L4 (i:Nat):TG:=fun v σ H Q=>Q (σ.set i (some v)) H
theorem Dy {i:Nat} {x:Str} (hN:X.N.Nodup) (hi:X.N[i]? = some x) (hx:Loc X.env.scope x) (hf:X.fn x=true∨X.env.scope.names.lookup x=some .local:=by first | exact .inl rfl | exact .inr rfl | assumption):PG X (.Name x pos) (L4 i):=by
 intro pins s σ H v u Q I r h
 exact wpAny_assign_Name (Aq I hN hi hx r (fun s' I'=>⟨_,H,I',h⟩) hf)
noncomputable def gNil:TGs:=fun vs σ H Q=>vs=[]∧Q σ H
noncomputable def Ta (t:TG) (u:TGs):TGs:=fun vs σ H Q=>∃v r,vs=v::r∧t v σ H fun σ' H'=>u r σ' H' Q
theorem L5:PGs X [] gNil:=by
 intro pins s σ H vs us Q I r h
 obtain⟨e,h⟩:=h
 subst e
 cases r
 exact assignInOrder_nil ⟨σ,H,I,h⟩
theorem Hf {e:Expr} {es:List Expr} {t:TG} {u:TGs} (h1:PG X e t) (h2:PGs X es u)
  (hs:(assignEach (e::es) X.env).map (·.2)=assign e X.env::(assignEach es X.env).map (·.2):=by rfl):PGs X (e::es) (Ta t u):=by
 intro pins s σ H vs us Q I r h
 obtain⟨v,vr,e1,h⟩:=h
 subst e1
 cases r with
 | cons r rr =>
  rw[hs]
  refine assignInOrder_cons (thn (h1 pins s σ H _ _ _ I r h) fun _ s1 ⟨σ1,H1,I1,q1⟩=>?_)
  exact h2 pins s1 σ1 H1 _ _ Q I1 rr q1
noncomputable def Wb (K:PySem.W.Frag) (n:Nat) (t:TGs):TG:=fun v σ H Q=>∃a xs,v=.ref a∧SqT K H a xs∧xs.length=n∧t xs σ H Q
theorem O4 {es:List Expr} {k:Nat} {t:TGs} {n:Nat} (hc:X.calm=true) (h:PGs X es t)
  (hn:(assignEach es X.env).length=n:=by rfl) (hst:(assignEach es X.env).findIdx? (·.1)=none:=by rfl):PG X (.Tuple es k pos) (Wb X.K n t):=by
 intro pins s σ H v u Q I r hw
 obtain⟨a,xs,e1,hq,hl,hw⟩:=hw
 subst e1
 cases r
 obtain⟨its,rv,ht,hz⟩:=I.tuple hq
 refine assign_Tuple_tuple (I.ok.hd hc) ht (by simp[hn,←hl,rv.length]) hst fun h' hx=>?_
 have I1:Inv X pins σ H {s with heap:=h'}:=I.kept (t':=s.toks) fun b o e=>hx b o (AW (AI e)) e
 exact h pins _ σ H xs _ Q I1 (by simpa using rv) hw
noncomputable def Wc (to ti:TE) (t:TSet):TG:=fun v σ H Q=>to σ H fun o H1=>ti σ H1 fun i H2=>t o i v H2 fun H3=>Q σ H3
theorem O5 {o i:Expr} {to ti:TE} {t:TSet} (ho:PE X o to) (hi:PE X i ti) (hs:Su X t)
  (ha:∀v,assign (.Subscript o i pos) X.env v=(do
   let ov ←holding [v] (eval o X.env)
   let iv ←holding [v,ov] (eval i X.env)
   standAt pos
   holding [v,ov,iv] (setItem ov iv v)
   release [v,ov,iv] []):=by intro _;rfl):PG X (.Subscript o i pos) (Wc to ti t):=by
 intro pins s σ H v u Q I r h
 rw[ha]
 refine AB (DP (thn (ho pins s σ H _ I h) fun ov s1 ⟨x,H1,I1,r1,q1⟩=>?_))
 refine AB (DP (thn (hi pins s1 σ H1 _ I1 q1) fun iv s2 ⟨y,H2,I2,r2,q2⟩=>?_))
 refine AB (wpAny_standAt (AB (DP (thn (hs pins s2 σ H2 x y v ov iv u _ I2 r1 r2 r q2) fun _ s3 ⟨H3,I3,q3⟩=>?_))))
 exact wpAny_release ⟨σ,H3,I3,q3⟩
noncomputable def U9 (te:TE) (g:TG):TS:=fun D σ H=>te σ H fun x H1=>g x σ H1 D.nx
theorem Jw {tg e:Expr} {te:TE} {g:TG} (he:PE X e te) (hg:PG X tg g) (hs:swapsWithSole [tg] e pos.line X.env=pure false:=by rfl) (hw:swappedStores [tg] e X.env=pure none:=by rfl)
  (h1:(assignEach [tg] X.env).map (·.2)=[assign tg X.env]:=by rfl):PS X (.Assign [tg] e pos) (U9 te g):=by
 intro pins s σ H D I h
 refine wpAny_Assign_stores (thn (he pins s σ H _ I h) fun v s1 ⟨x,H1,I1,r1,q1⟩=>?_) hs hw
 rw[h1]
 exact thn (hg pins s1 σ H1 x v _ I1 r1 q1) fun _ s2 q=>q
theorem O6 {i:Nat} {x:Str} {e:Expr} {te:TE} {pos':Pos} (hN:X.N.Nodup) (hi:X.N[i]? = some x) (hx:Loc X.env.scope x) (he:PE X e te) (hs:swapsWith e (some (.Name x pos')) pos.line X.env=pure false:=by rfl) (hf:X.fn x=true∨X.env.scope.names.lookup x=some .local:=by first | exact .inl rfl | exact .inr rfl | assumption) :
  PS X (.Assign [.Name x pos'] e pos) (U9 te (L4 i)):=by
 intro pins s σ H D I h
 refine wpAny_Assign_Name (thn (he pins s σ H _ I h) fun v s1 ⟨y,H1,I1,r1,q1⟩=>?_) hs
 exact Aq I1 hN hi hx r1 (fun s2 I2=>⟨_,H1,I2,q1⟩) hf
end
structure It where
 go:Nat→Hp→Prop
 yld:Nat→Hp→V→Hp→Prop
 stop:Nat→Hp→Prop
noncomputable def Cj (X:Cx) (pins:List (Addr×Obj)) (H:Hp) (b:Addr):Prop :=
 H b=none∧b≠X.env.locals∧b∉X.fs∧(b∈X.ex∨X.s₀.heap.objs.size≤b)∧(∀x c,X.env.cells.lookup x=some c→c≠b)∧∀p∈X.pn++pins,p.1≠b
theorem Inv.fpOk {X:Cx} {pins:List (Addr×Obj)} {σ:St} {H H':Hp} {s:Shared} {b:Addr} (I:Inv X pins σ H s) (hb:s.heap.objs.size≤b) (hn:H' b=none):Cj X pins H' b:=by
 refine⟨hn,DB (AU I.lt hb),I.nofs hb,.inr (CL I.sz hb),fun x c e z=>?_,fun p hp z=>?_⟩
 ·obtain⟨v,q⟩:=I.cell x c e
  exact absurd (AU q.lt (by rw[z];exact hb)) (CP _)
 ·exact absurd (AU (AI (I.pin p hp).1) (by rw[z];exact hb)) (CP _)
structure Turn (P:Program) (w:World) (K:PySem.W.Frag) (tg:Expr) (J:It) (fp:List Addr) (it:Addr) (tn:Nat→Heap→Prop):Prop where
 mem:it∈fp
 obj:∀i h,tn i h→∀b∈fp,∃o,h.get? b=some o∧∀v,o.data≠.cell v
 keep:∀i h h',tn i h→(∀b∈fp,∀o,h.get? b=some o→h'.get? b=some o)→tn i h'
 item:∀(X:Cx),X.prog=P→X.w=w→X.K=K→X.calm=true→∀(i:Nat) (pins:List (Addr×Obj)) (s:Shared) (σ:St) (H:Hp) (E:Value→Shared→Prop),Inv X pins σ H s→(∀b∈fp,Cj X pins H b)→tn i s.heap→J.go i H →
  wpAny (model P w) X.A (pyNext (.ref it)) (fun r s1=>∃u,r=some u ∧
   wpAny (model P w) X.A (letOwnedTupleGo tg (.ref it) u) (fun _ s2=>∃x H',Inv X pins σ H' s2∧RelV x u∧J.yld i H x H'∧tn (i+1) s2.heap∧∀b∈fp,H' b=none) E s1) E s
 done:∀(X:Cx),X.prog=P→X.w=w→X.K=K→X.calm=true→∀(i:Nat) (pins:List (Addr×Obj)) (s:Shared) (σ:St) (H:Hp) (E:Value→Shared→Prop),Inv X pins σ H s→(∀b∈fp,Cj X pins H b)→tn i s.heap→J.stop i H →
  wpAny (model P w) X.A (pyNext (.ref it)) (fun r s1=>r=none∧Inv X pins σ H s1) E s
 self:∀(A:Around) (i:Nat) (s:Shared) (Q:Value→Shared→Prop) (E:Value→Shared→Prop),tn i s.heap→Q (.ref it) s→wpAny (model P w) A (pyIter (.ref it)) Q E s
noncomputable abbrev TI:=St→Hp→(It→Hp→Prop)→Prop
noncomputable def PIE (X:Cx) (pins:List (Addr×Obj)) (σ:St) (tg:Expr) (R:It→Hp→Prop) (itv:Value) (s2:Shared):Prop :=
 ∃(it:Addr) (fp:List Addr) (tn:Nat→Heap→Prop) (J:It) (H':Hp),itv=.ref it∧Inv X pins σ H' s2∧Turn X.prog X.w X.K tg J fp it tn∧tn 0 s2.heap∧(∀b∈fp,Cj X pins H' b)∧R J H'
noncomputable def PI (X:Cx) (tg iter:Expr) (wi:TI):Prop :=
 ∀(pins:List (Addr×Obj)) (s:Shared) (σ:St) (H:Hp) (R:It→Hp→Prop),Inv X pins σ H s→wi σ H R →
  wpAny (model X.prog X.w) X.A (eval iter X.env) (fun v s1=>wpAny (model X.prog X.w) X.A (pyIter v) (PIE X pins σ tg R) X.xe s1) X.xe s
theorem Hg {M:Model} {A:Around} {E:Value→Shared→Prop} {s:Shared} {tg:Expr} {it:Addr} {u:Value} {o:Obj} {n:String} {vs:Array Value} {Q:Unit→Shared→Prop} (ho:s.heap.get? it=some o) (hc:o.cls=.type n) (hd:o.data=.fields vs)
  (hn:["enumerate","zip","dict_itemiterator","dict_reverseitemiterator","odict_iterator","itertools.zip_longest","itertools.pairwise"].contains n=false) (hQ:Q () s):wpAny M A (letOwnedTupleGo tg (.ref it) u) Q E s:=by
 unfold letOwnedTupleGo
 cases tg<;>first
  | exact AL hQ
  | (cases u<;>first
    | exact AL hQ
    | (
     refine AB (wpAny_load ho ?_)
     rw[hc,hd]
     show wpAny M A (if(["enumerate","zip","dict_itemiterator","dict_reverseitemiterator","odict_iterator","itertools.zip_longest","itertools.pairwise"].contains n&&vs[0]?==some (rawInt _))=true then _ else _) Q E s
     rw[if_neg (by intro h;rw[hn,Bool.false_and]at h;cases h)]
     exact AL hQ))
noncomputable def Itl (K:PySem.W.Frag) (a:Addr):It :=
 ⟨fun i H=>∃xs x,SqL K H a xs∧xs[i]? = some x,fun i H x H'=>H'=H∧∀xs,SqL K H a xs→xs[i]? = some x,fun i H=>∃xs,SqL K H a xs∧xs.length≤i⟩
noncomputable def Itt (K:PySem.W.Frag) (a:Addr):It :=
 ⟨fun i H=>∃xs x,SqT K H a xs∧xs[i]? = some x,fun i H x H'=>H'=H∧∀xs,SqT K H a xs→xs[i]? = some x,fun i H=>∃xs,SqT K H a xs∧xs.length≤i⟩
noncomputable def Itr (lo:Int) (n:Nat):It:=⟨fun i _=>i<n,fun i H x H'=>H'=H∧x=.int (lo+i),fun i _=>n≤i⟩
theorem Dz {P:Program} {w:World} {K:PySem.W.Frag} {tg:Expr} (a it:Addr):Turn P w K tg (Itl K a) [it] it (fun i h=>h.IsListIter it a i) where
 mem:=by simp
 obj:=fun i h st b hb=>by
  have e:b=it:=by simpa using hb
  subst e
  obtain⟨o,e,c,d⟩:=st
  exact⟨o,e,fun v z=>by rw[d]at z;cases z⟩
 keep:=fun i h h' st k=>st.at fun o e=>k it (by simp) o e
 item:=by
  intro X hP hw hK hc i pins s σ H E I hf st hg
  subst hP hw hK
  obtain⟨xs,x,hq,hx⟩:=hg
  obtain⟨its,rv,p,hz⟩:=I.list hq
  obtain⟨u,hu,ru⟩:=rv.get hx
  obtain⟨f0,f1,f2,f3,f4,f5⟩:=hf it (by simp)
  refine wpAny_pyNext_list_item st p.isList (x:=u) (by simpa using hu) fun h' st' sb=>?_
  have I1:Inv X pins σ H {s with heap:=h'}:=I.turned (t':=s.toks) (fun b o hb e=>(sb.2 b hb).trans e) f0 f1 f3 f4 f5
  obtain⟨o,e,c,d⟩:=id st'
  exact⟨u,rfl,Hg (s:={s with heap:=h'}) e c d (by decide) ⟨x,H,I1,ru,⟨rfl,fun ys hy=>by rw[I.list_inj hy hq];exact hx⟩,st',fun b hb=>(hf b hb).1⟩⟩
 done:=by
  intro X hP hw hK hc i pins s σ H E I hf st hg
  subst hP hw hK
  obtain⟨xs,hq,hx⟩:=hg
  obtain⟨its,rv,p,hz⟩:=I.list hq
  obtain⟨f0,f1,f2,f3,f4,f5⟩:=hf it (by simp)
  have hl:=rv.length
  exact wpAny_pyNext_list_end (I.ok.hd hc) st p.isList (by simp;lia) fun h' eb=>⟨rfl,I.turned (t':=s.toks) (fun b o hb e=>eb b o hb e) f0 f1 f3 f4 f5⟩
 self:=fun _ _ _ _ _ st h=>wpAny_pyIter_listiter st h
theorem Ck {P:Program} {w:World} {K:PySem.W.Frag} {tg:Expr} (a it:Addr):Turn P w K tg (Itt K a) [it] it (fun i h=>h.IsTupleIter it a i) where
 mem:=by simp
 obj:=fun i h st b hb=>by
  have e:b=it:=by simpa using hb
  subst e
  obtain⟨o,e,c,d⟩:=st
  exact⟨o,e,fun v z=>by rw[d]at z;cases z⟩
 keep:=fun i h h' st k=>st.at fun o e=>k it (by simp) o e
 item:=by
  intro X hP hw hK hc i pins s σ H E I hf st hg
  subst hP hw hK
  obtain⟨xs,x,hq,hx⟩:=hg
  obtain⟨its,rv,p,hz⟩:=I.tuple hq
  obtain⟨u,hu,ru⟩:=rv.get hx
  obtain⟨f0,f1,f2,f3,f4,f5⟩:=hf it (by simp)
  refine wpAny_pyNext_tuple_item st (show s.heap.IsTuple a its.toArray from p) (x:=u) (by simpa using hu) fun h' st' sb=>?_
  have I1:Inv X pins σ H {s with heap:=h'}:=I.turned (t':=s.toks) (fun b o hb e=>(sb.2 b hb).trans e) f0 f1 f3 f4 f5
  obtain⟨o,e,c,d⟩:=id st'
  exact⟨u,rfl,Hg (s:={s with heap:=h'}) e c d (by decide) ⟨x,H,I1,ru,⟨rfl,fun ys hy=>by rw[I.tuple_inj hy hq];exact hx⟩,st',fun b hb=>(hf b hb).1⟩⟩
 done:=by
  intro X hP hw hK hc i pins s σ H E I hf st hg
  subst hP hw hK
  obtain⟨xs,hq,hx⟩:=hg
  obtain⟨its,rv,p,hz⟩:=I.tuple hq
  obtain⟨f0,f1,f2,f3,f4,f5⟩:=hf it (by simp)
  have hl:=rv.length
  exact wpAny_pyNext_tuple_end (I.ok.hd hc) st (show s.heap.IsTuple a its.toArray from p) (by simp;lia) fun h' eb=>⟨rfl,I.turned (t':=s.toks) (fun b o hb e=>eb b o hb e) f0 f1 f3 f4 f5⟩
 self:=fun _ _ _ _ _ st h=>wpAny_pyIter_tupleiter st h
theorem Cm {P:Program} {w:World} {K:PySem.W.Frag} {tg:Expr} (it:Addr) (lo:Int) (n:Nat):Turn P w K tg (Itr lo n) [it] it (fun i h=>IsRangeIter h it (lo+(i:Nat)*1) ((n:Int)-(i:Nat)) 1) where
 mem:=by simp
 obj:=fun i h st b hb=>by
  have e:b=it:=by simpa using hb
  subst e
  exact⟨_,st,fun v z=>by
   have z':Data.fields _=Data.cell v:=z
   cases z'⟩
 keep:=fun i h h' st k=>k it (by simp) _ st
 item:=by
  intro X hP hw hK hc i pins s σ H E I hf st hg
  subst hP hw hK
  obtain⟨f0,f1,f2,f3,f4,f5⟩:=hf it (by simp)
  have W:=Walks.range (prog:=X.prog) (w:=X.w) (I.ok.hd hc) it lo 1 n
  refine W.item i s _ _ hg st fun v h' tk hv st' kk=>?_
  obtain⟨t,rfl⟩:=hv
  have I1:Inv X pins σ H {s with heap:=h',toks:=tk}:=I.turned (fun b o hb e=>kk b o (by simpa using hb) e) f0 f1 f3 f4 f5
  refine⟨_,rfl,Hg (s:={s with heap:=h',toks:=tk}) (n:="range_iterator") st' rfl rfl (by decide) ⟨.int (lo+i),H,I1,⟨t,?_⟩,⟨rfl,rfl⟩,st',fun b hb=>(hf b hb).1⟩⟩
  rw[Int.mul_one]
 done:=by
  intro X hP hw hK hc i pins s σ H E I hf st hg
  subst hP hw hK
  obtain⟨f0,f1,f2,f3,f4,f5⟩:=hf it (by simp)
  exact wpAny_pyNext_range_end (I.ok.hd hc) st (by have:n≤i:=hg;lia) fun h' eb=>⟨rfl,I.turned (t':=s.toks) (fun b o hb e=>eb b o hb e) f0 f1 f3 f4 f5⟩
 self:=fun _ _ _ _ _ st h=>wpAny_pyIter_rangeiter st h
end L2
namespace L2
open PySem PySem.Spec PyProof.Rows
section
variable {X : Cx} {tg : Expr}
theorem Ar {pins:List (Addr×Obj)} {σ:St} {H:Hp} {s:Shared} {R:It→Hp→Prop} {E:Value→Shared→Prop} {lo hi:Int} {t u v:Tok} {tk:Nat} (I:Inv X pins σ H s) (h1:-(2 ^ 62)≤lo) (h2:lo<2 ^ 62) (h3:-(2 ^ 62)≤hi) (h4:hi<2 ^ 62)
  (q:R (Itr lo (hi-lo).toNat) H):wpAny (model X.prog X.w) X.A (pyIter (.ref s.heap.objs.size)) (PIE X pins σ tg R) E {s with heap:=s.heap.push {cls:=.type "range",data:=.fields #[.int lo t,.int hi u,.int 1 v]},toks:=tk}:=by
 refine wpAny_pyIter_range (IsRange.new ..) (small_one h1 h2 h3 h4) ?_
 have I1:Inv X pins σ H {s with heap:=s.heap.push {cls:=.type "range",data:=.fields #[.int lo t,.int hi u,.int 1 v]},toks:=tk}:=I.kept fun b o e=>AC _ e
 refine⟨(s.heap.push {cls:=.type "range",data:=.fields #[.int lo t,.int hi u,.int 1 v]}).objs.size,[(s.heap.push {cls:=.type "range",data:=.fields #[.int lo t,.int hi u,.int 1 v]}).objs.size],_,_,H,rfl,
  I1.kept (t':=tk) fun b o e=>AC _ e,Cm _ lo (hi-lo).toNat,?_,fun b hb=>?_,q⟩
 ·have e1:lo+((0:Nat):Int)*1=lo:=by simp
  have e2:(((hi-lo).toNat:Nat):Int)-((0:Nat):Int)=Builtin.Range.rangeSize lo hi 1:=by rw[rangeSize_one];split<;>lia
  show IsRangeIter _ _ (lo+((0:Nat):Int)*1) ((((hi-lo).toNat:Nat):Int)-((0:Nat):Int)) 1
  rw[e1,e2]
  exact AN _ rfl
 ·have e:b=(s.heap.push {cls:=.type "range",data:=.fields #[.int lo t,.int hi u,.int 1 v]}).objs.size:=by simpa using hb
  subst e
  exact I1.fpOk (AF _) (I1.hok.fresh (AF _))
noncomputable def Tb (ta:TA):TI:=fun σ H R=>ta σ H fun vs H1=>∃j:Int,vs=[.int j] ∧ -(2 ^ 62)≤j∧j<2 ^ 62∧R (Itr 0 j.toNat) H1
noncomputable def Tc (ta:TA):TI:=fun σ H R=>ta σ H fun vs H1=>∃i j:Int,vs=[.int i,.int j]∧(-(2 ^ 62)≤i∧i<2 ^ 62 ∧ -(2 ^ 62)≤j∧j<2 ^ 62)∧R (Itr i (j-i).toNat) H1
theorem D0 {a:Expr} {ta:TA} {p pos:Pos} (hg:Gl X "range") (hm:X.mg "range"=none) (ha:PA X [a] ta) (hs:starEach [a] X.env=[(false,eval a X.env)]:=by rfl):PI X tg (.Call (.Name "range" p) [a] [] pos) (Tb ta):=by
 intro pins s σ H R I h
 refine Call_ (my I hg hm boot_range (BU (thn (ha pos pins s σ H _ I h) fun us s1 ⟨vs,H1,I1,r1,q1⟩=>?_) hs rfl))
 obtain⟨j,e,q1,q2,q⟩:=q1
 subst e
 cases r1 with
 | cons r rr =>
  cases rr
  obtain⟨t,rfl⟩:=r
  exact call_range_1 (Ar I1 (by lia) (by lia) q1 q2 (by simpa using q))
theorem D2 {a b:Expr} {ta:TA} {p pos:Pos} (hg:Gl X "range") (hm:X.mg "range"=none) (ha:PA X [a,b] ta) (hs:starEach [a,b] X.env=[(false,eval a X.env),(false,eval b X.env)]:=by rfl) (hs2:starEach [b] X.env=[(false,eval b X.env)]:=by rfl) :
  PI X tg (.Call (.Name "range" p) [a,b] [] pos) (Tc ta):=by
 intro pins s σ H R I h
 refine Call_ (my I hg hm boot_range (BU (thn (ha pos pins s σ H _ I h) fun us s1 ⟨vs,H1,I1,r1,q1⟩=>?_) (by rw[hs,hs2]) (by rw[hs2];rfl)))
 obtain⟨i,j,e,⟨q1,q2,q3,q4⟩,q⟩:=q1
 subst e
 cases r1 with
 | cons r rr =>
  cases rr with
  | cons r' rr =>
   cases rr
   obtain⟨t,rfl⟩:=r
   obtain⟨t',rfl⟩:=r'
   exact call_range_2 (Ar I1 q1 q2 q3 q4 q)
noncomputable def Wd (wi:TI) (g:TG) (tb:TS):TS:=fun D σ H=>wi σ H fun J H1=>∃W:Nat→Nat→St→Hp→Prop,(∃m,W 0 m σ H1)∧∀i m σ H,W i m σ H →
 (J.stop i H∧D.nx σ H)∨(J.go i H∧∃N:St→Hp→Prop,(∀σ' H',N σ' H'→∃m',m'<m∧W (i+1) m' σ' H')∧∀x H',J.yld i H x H'→g x σ H' fun σ2 H2=>tb {D with nx:=N,ct:=N,bk:=D.nx} σ2 H2)
noncomputable def wa (fp:List Addr) (h:Heap):List (Addr×Obj):=fp.filterMap fun b=>(h.get? b).map fun o=>(b,o)
theorem lq {fp:List Addr} {h:Heap} {b:Addr} {o:Obj} (hb:b∈fp) (e:h.get? b=some o):(b,o)∈wa fp h:=List.mem_filterMap.mpr ⟨b,hb,by rw[e];rfl⟩
theorem D3 {fp:List Addr} {h:Heap} {p:Addr×Obj} (hp:p∈wa fp h):p.1∈fp∧h.get? p.1=some p.2:=by
 obtain⟨b,hb,e⟩:=List.mem_filterMap.mp hp
 cases q:h.get? b with
 | none=>rw[q]at e;cases e
 | some o =>
  rw[q]at e
  have e':(b,o)=p:=BL e
  subst e'
  exact⟨hb,q⟩
theorem Inv.pinned {pins:List (Addr×Obj)} {σ:St} {H:Hp} {s:Shared} {fp:List Addr} (I:Inv X pins σ H s) (hf:∀b∈fp,Cj X pins H b) (ho:∀b∈fp,∃o,s.heap.get? b=some o∧∀v,o.data≠.cell v):Inv X (pins++wa fp s.heap) σ H s :=
 I.pins_of fun p hp=>(DM.mp hp).elim (fun z=>I.pin p (BP _ z)) fun z=>by
  obtain⟨hb,e⟩:=D3 z
  obtain⟨f0,f1,f2,_⟩:=hf p.1 hb
  obtain⟨o,e',d⟩:=ho p.1 hb
  rw[e]at e';cases e'
  exact⟨e,f0,f1,f2,d⟩
theorem Inv.unpinned {pins pl:List (Addr×Obj)} {σ:St} {H:Hp} {s:Shared} (I:Inv X (pins++pl) σ H s):Inv X pins σ H s:=I.pins_of fun p hp=>I.pin p (BP _ (List.mem_append_left _ hp))
theorem O7 {iter:Expr} {body:List Stmt} {wi:TI} {g:TG} {tb:TS} {pos:Pos} (hp:PassesOwn (model X.prog X.w) X.A X.env X.xe) (hc:X.calm=true) (hi:PI X tg iter wi) (hg:PG X tg g) (hb:PSs X body tb)
  (hs:∀x,foldedSetIterable iter X.env x=pure x:=by intro _;rfl):PS X (.For tg iter body [] pos) (Wd wi g tb):=by
 intro pins s σ H D I h
 refine wpAny_For (thn (hi pins s σ H _ I h) fun v s1 h1=>thn h1 fun itv s2 h2=>?_) hs
 obtain⟨it,fp,tn,J,H2,e,I2,T,st2,f2,W,⟨m0,w0⟩,turn⟩:=h2
 subst e
 -- what stays true of the iterator's objects through the loop
 have stat:∀{H':Hp},(∀b∈fp,H' b=none)→∀b∈fp,Cj X pins H' b:=fun hn b hb=>⟨hn b hb,(f2 b hb).2⟩
 refine codeAny_forLoop_any (fun n s'=>∃i σ' H',Inv X pins σ' H' s'∧tn i s'.heap∧(∀b∈fp,H' b=none)∧W i n σ' H') ?_ m0 ⟨0,σ,H2,I2,st2,fun b hb=>(f2 b hb).1,w0⟩
 rintro n s3 ⟨i,σ3,H3,I3,st3,fr3,w3⟩
 rcases turn i n σ3 H3 w3 with⟨stop,qn⟩ | ⟨go,N,hN,step⟩
 ·refine ET hp (thn (T.done X rfl rfl rfl hc i pins s3 σ3 H3 X.xe I3 (stat fr3) st3 stop) fun r s4 ⟨hr,I4⟩=>?_)
  subst hr
  exact wpAny_execs_nil ⟨σ3,H3,I4,qn⟩
 ·refine ET hp (thn (T.item X rfl rfl rfl hc i pins s3 σ3 H3 X.xe I3 (stat fr3) st3 go) fun r s4 ⟨u,hr,h4⟩=>?_)
  subst hr
  refine ET hp (thn h4 fun _ s5 ⟨x,H5,I5,r5,y5,st5,fr5⟩=>?_)
  have I5':=I5.pinned (stat fr5) (T.obj _ _ st5)
  refine ET hp (thn (hg _ s5 σ3 H5 x u _ I5' r5 (step x H5 y5)) fun _ s6 ⟨σ6,H6,I6,q6⟩=>?_)
  refine ET hp (thn (hb _ s6 σ6 H6 _ I6 q6) fun f s7 q7=>?_)
  have again:∀{σ7:St} {H7:Hp},Inv X (pins++wa fp s5.heap) σ7 H7 s7→N σ7 H7→∃m,m<n∧∃i σ' H',Inv X pins σ' H' s7∧tn i s7.heap∧(∀b∈fp,H' b=none)∧W i m σ' H':=fun {σ7 H7} I7 n7=>by
   obtain⟨m',hm,w7⟩:=hN σ7 H7 n7
   refine⟨m',hm,i+1,σ7,H7,I7.unpinned,T.keep _ _ _ st5 fun b hb o e=>(I7.pin (b,o) (BP _ (BP _ (lq hb e)))).1,fun b hb=>?_,w7⟩
   obtain⟨o,e,d⟩:=T.obj _ _ st5 b hb
   exact(I7.pin (b,o) (BP _ (BP _ (lq hb e)))).2.1
  cases f with
  | next=>obtain⟨σ7,H7,I7,n7⟩:=q7;exact again I7 n7
  | cont=>obtain⟨σ7,H7,I7,n7⟩:=q7;exact again I7 n7
  | brk=>obtain⟨σ7,H7,I7,q7⟩:=q7;exact⟨σ7,H7,I7.unpinned,q7⟩
  | ret v=>obtain⟨x7,σ7,H7,I7,r7,q7⟩:=q7;exact⟨x7,σ7,H7,I7.unpinned,r7,q7⟩
end
end L2
namespace L2
open PySem PySem.Spec PyProof.Rows
noncomputable abbrev R2:=V→V→Hp→VK→Prop
noncomputable def OpR (X:Cx) (f:Value→Value→Sem Value) (r:R2):Prop :=
 ∀(pins:List (Addr×Obj)) (s:Shared) (σ:St) (H:Hp) (x y:V) (v u:Value) (Q:VK),Inv X pins σ H s→RelV x v→RelV y u→r x y H Q →
  wpAny (model X.prog X.w) X.A (f v u) (EP X pins σ Q) X.xe s
noncomputable def UnR (X:Cx) (f:Value→Sem Value) (r:V→Hp→VK→Prop):Prop :=
 ∀(pins:List (Addr×Obj)) (s:Shared) (σ:St) (H:Hp) (x:V) (v:Value) (Q:VK),Inv X pins σ H s→RelV x v→r x H Q →
  wpAny (model X.prog X.w) X.A (f v) (EP X pins σ Q) X.xe s
noncomputable def fk (X:Cx) (f:Value) (r:List V→Hp→VK→Prop):Prop :=
 ∀(pins:List (Addr×Obj)) (s:Shared) (σ:St) (H:Hp) (xs:List V) (us:List Value) (Q:VK),Inv X pins σ H s→bq xs us→r xs H Q →
  wpAny (model X.prog X.w) X.A (call f us) (EP X pins σ Q) X.xe s
noncomputable def We (X:Cx) (r:V→Hp→(Bool→Hp→Prop)→Prop):Prop :=
 ∀(pins:List (Addr×Obj)) (s:Shared) (σ:St) (H:Hp) (x:V) (v:Value) (Q:Bool→Hp→Prop),Inv X pins σ H s→RelV x v→r x H Q →
  wpAny (model X.prog X.w) X.A (truthy v) (TP X pins σ Q) X.xe s
noncomputable def tOp (r:R2) (ta tb:TE):TE:=fun σ H Q=>ta σ H fun x H1=>tb σ H1 fun y H2=>r x y H2 Q
noncomputable def tUn (r:V→Hp→VK→Prop) (ta:TE):TE:=fun σ H Q=>ta σ H fun x H1=>r x H1 Q
noncomputable def rI (C:Int→Int→Prop) (g:Int→Int→V):R2:=fun x y H Q=>∃i j,x=.int i∧y=.int j∧C i j∧Q (g i j) H
noncomputable def rI0 (g:Int→Int→V):R2:=fun x y H Q=>∃i j,x=.int i∧y=.int j∧Q (g i j) H
noncomputable def rU (g:Int→V):V→Hp→VK→Prop:=fun x H Q=>∃i,x=.int i∧Q (g i) H
section
variable {X : Cx} {a b c : Expr} {ta tb tc : TE} {pos : Pos}
theorem Va (ha:PE X a ta) (hb:PE X b tb) {pins:List (Addr×Obj)} {s:Shared} {σ:St} {H:Hp} {R:V→V→Hp→Prop} (I:Inv X pins σ H s)
  (h:ta σ H fun x H1=>tb σ H1 fun y H2=>R x y H2) {Q:Value→Shared→Prop} {f:Value→Value→Sem Value}
  (hf:∀v u s2 x y H2,Inv X pins σ H2 s2→RelV x v→RelV y u→R x y H2→wpAny (model X.prog X.w) X.A (f v u) Q X.xe s2) :
  wpAny (model X.prog X.w) X.A (eval a X.env) (fun v s₁=>wpAny (model X.prog X.w) X.A (eval b X.env) (fun u s₂=>wpAny (model X.prog X.w) X.A (f v u) Q X.xe s₂) X.xe s₁) X.xe s:=by
 refine thn (ha pins s σ H _ I h) fun v s1 ⟨x,H1,I1,r1,q1⟩=>?_
 refine thn (hb pins s1 σ H1 _ I1 q1) fun u s2 ⟨y,H2,I2,r2,q2⟩=>?_
 exact hf v u s2 x y H2 I2 r1 r2 q2
theorem Td {op:Operator} {r:R2} (ho:OpR X (binaryOp op) r) (ha:PE X a ta) (hb:PE X b tb):PE X (.BinOp a op b pos) (tOp r ta tb):=by
 intro pins s σ H Q I h
 exact wpAny_BinOp (Va ha hb I h fun v u s2 x y H2 I2 rx ry q=>ho pins s2 σ H2 x y v u Q I2 rx ry q)
theorem Te {op:UnaryOp} {r:V→Hp→VK→Prop} (ho:UnR X (unaryOp op) r) (ha:PE X a ta):PE X (.UnaryOp op a pos) (tUn r ta):=by
 intro pins s σ H Q I h
 exact UnaryOp_ (thn (ha pins s σ H _ I h) fun v s1 ⟨x,H1,I1,r1,q1⟩=>ho pins s1 σ H1 x v Q I1 r1 q1)
theorem opI {f:Value→Value→Sem Value} {C:Int→Int→Prop} {g:Int→Int→Int}
  (rule:∀(i j:Int) (t u:Tok) (s:Shared) (Q:Value→Shared→Prop) (E:Value→Shared→Prop),C i j→Q (.int (g i j) s.toks) {s with toks:=s.toks+1}→wpAny (model X.prog X.w) X.A (f (.int i t) (.int j u)) Q E s) :
  OpR X f (rI C fun i j=>.int (g i j)):=by
 intro pins s σ H x y v u Q I rx ry h
 obtain⟨i,j,rfl,rfl,hc,q⟩:=h
 obtain⟨t,rfl⟩:=rx
 obtain⟨t',rfl⟩:=ry
 exact rule i j t t' s _ _ hc ⟨.int (g i j),H,I.tok _,⟨_,rfl⟩,q⟩
theorem Vb {f:Value→Value→Sem Value} {g:Int→Int→Int}
  (rule:∀(i j:Int) (t u:Tok) (s:Shared) (Q:Value→Shared→Prop) (E:Value→Shared→Prop),Q (.int (g i j) s.toks) {s with toks:=s.toks+1}→wpAny (model X.prog X.w) X.A (f (.int i t) (.int j u)) Q E s) :
  OpR X f (rI0 fun i j=>.int (g i j)):=by
 intro pins s σ H x y v u Q I rx ry h
 obtain⟨i,j,rfl,rfl,q⟩:=h
 obtain⟨t,rfl⟩:=rx
 obtain⟨t',rfl⟩:=ry
 exact rule i j t t' s _ _ ⟨.int (g i j),H,I.tok _,⟨_,rfl⟩,q⟩
theorem Sv {f:Value→Value→Sem Value} {g:Int→Int→Bool}
  (rule:∀(i j:Int) (t u:Tok) (s:Shared) (Q:Value→Shared→Prop) (E:Value→Shared→Prop),Q (.bool (g i j)) s→wpAny (model X.prog X.w) X.A (f (.int i t) (.int j u)) Q E s) :
  OpR X f (rI0 fun i j=>.bl (g i j)):=by
 intro pins s σ H x y v u Q I rx ry h
 obtain⟨i,j,rfl,rfl,q⟩:=h
 obtain⟨t,rfl⟩:=rx
 obtain⟨t',rfl⟩:=ry
 exact rule i j t t' s _ _ ⟨.bl (g i j),H,I,rfl,q⟩
noncomputable def Wf (i j:Int):Prop:=0<j∧j<1073741824
noncomputable def Wg (i j:Int):Prop:=0≤j∧j≤1000000∧i.natAbs<2 ^ 64
noncomputable def CMul (i j:Int):Prop:=(-(2 ^ 64)<i∧i<2 ^ 64)∨(-(2 ^ 64)<j∧j<2 ^ 64)
theorem CMul.ok {i j:Int} (h:CMul i j):IntMulOk i j:=by
 rcases h with⟨h1,h2⟩ | ⟨h1,h2⟩
 ·exact .of_left (intBits_le_64 h1 h2)
 ·exact .of_right (intBits_le_64 h1 h2)
theorem Co (k:Nat):(0:Int)≤2 ^ k:=by
 rw[two_pow_cast]
 exact Int.natCast_nonneg _
theorem op_add:OpR X (binaryOp .Add) (rI0 fun i j=>.int (i+j)):=Vb fun _ _ _ _ _ _ _ q=>add_int q
theorem op_sub:OpR X (binaryOp .Sub) (rI0 fun i j=>.int (i-j)):=Vb fun _ _ _ _ _ _ _ q=>sub_int q
theorem op_mul:OpR X (binaryOp .Mult) (rI CMul fun i j=>.int (i*j)):=opI fun _ _ _ _ _ _ _ hc q=>mul_int q hc.ok
theorem L6:OpR X (binaryOp .FloorDiv) (rI Wf fun i j=>.int (i / j)):=opI fun i j _ _ _ _ _ hc q=>by
 have h1:(0:Int)<j:=hc.1
 have h2:j<1073741824:=hc.2
 exact floordiv_int (by lia) (by rw[GA i (by lia)];exact q) (.inl (PyProof.noPylong_small (by lia)))
theorem op_mod:OpR X (binaryOp .Mod) (rI (fun _ j=>0<j) fun i j=>.int (i % j)):=opI fun i j _ _ _ _ _ hc q=>by
 have h1:(0:Int)<j:=hc
 exact mod_int' (by lia) (by rw[Int.fmod_eq_emod_of_nonneg i (by lia)];exact q)
theorem op_pow:OpR X (binaryOp .Pow) (rI Wg fun i j=>.int (i ^ j.toNat)):=opI fun _ _ _ _ _ _ _ hc q=>pow_int_small hc.1 hc.2.1 hc.2.2 q
theorem op_shr:OpR X (binaryOp .RShift) (rI (fun _ j=>0≤j) fun i j=>.int (i / 2 ^ j.toNat)):=opI fun i j _ _ _ _ _ hc q =>
 rshift_int hc (by rw[GA i (Co _)];exact q)
theorem unI {f:Value→Sem Value} {g:Int→Int}
  (rule:∀(i:Int) (t:Tok) (s:Shared) (Q:Value→Shared→Prop) (E:Value→Shared→Prop),Q (.int (g i) s.toks) {s with toks:=s.toks+1}→wpAny (model X.prog X.w) X.A (f (.int i t)) Q E s) :
  UnR X f (rU fun i=>.int (g i)):=by
 intro pins s σ H x v Q I rx h
 obtain⟨i,rfl,q⟩:=h
 obtain⟨t,rfl⟩:=rx
 exact rule i t s _ _ ⟨.int (g i),H,I.tok _,⟨_,rfl⟩,q⟩
theorem O8:UnR X (unaryOp .USub) (rU fun i=>.int (-i)):=unI fun _ _ _ _ _ q=>neg_int q
end
section
variable {X : Cx} {a b c : Expr} {ta tb tc : TE} {pos : Pos}
theorem Jx {pins:List (Addr×Obj)} {σ:St} {H:Hp} {s:Shared} {Q:VK} {k k':Bool} (I:Inv X pins σ H s) (q:Q (.bl k) H) (e:k=k'):EP X pins σ Q (.bool k') s:=by
 subst e
 exact⟨.bl k,H,I,rfl,q⟩
theorem Tf:OpR X (compareOp .Lt) (rI0 fun i j=>.bl (decide (i<j))):=Sv fun _ _ _ _ _ _ _ q=>lt_int q
theorem Th:OpR X (compareOp .LtE) (rI0 fun i j=>.bl (decide (i≤j))):=Sv fun _ _ _ _ _ _ _ q=>le_int q
theorem Ti:OpR X (compareOp .Gt) (rI0 fun i j=>.bl (decide (j<i))):=Sv fun _ _ _ _ _ _ _ q=>gt_int q
theorem Tj:OpR X (compareOp .GtE) (rI0 fun i j=>.bl (decide (j≤i))):=Sv fun _ _ _ _ _ _ _ q=>ge_int q
theorem O9:OpR X (compareOp .Is) (fun x y H Q=>y=.non∧Q (.bl (decide (x=.non))) H):=by
 intro pins s σ H x y v u Q I rx ry h
 obtain⟨rfl,q⟩:=h
 cases ry
 refine is_none_gen (Jx I q ?_)
 cases x<;>first
  | (cases rx;rfl)
  | (obtain⟨t,rfl⟩:=rx;rfl)
theorem L7:OpR X (compareOp .IsNot) (fun x y H Q=>y=.non∧Q (.bl (!decide (x=.non))) H):=by
 intro pins s σ H x y v u Q I rx ry h
 obtain⟨rfl,q⟩:=h
 cases ry
 refine isnot_none_gen (Jx I q ?_)
 cases x<;>first
  | (cases rx;rfl)
  | (obtain⟨t,rfl⟩:=rx;rfl)
noncomputable def Vc (K:PySem.W.Frag) (x:V) (H:Hp) (k:Bool):Prop :=
 match x with
 | .non=>k=false
 | .bl b=>k=b
 | .int i=>k=(i != 0)
 | .str y=>y.length≤sizeLine∧k=((y.length:Int) != 0)
 | .byt y=>y.size≤sizeLine∧k=((y.size:Int) != 0)
 | .ref p=>(∃xs,SqL K H p xs∧k=!xs.isEmpty)∨(∃xs,SqT K H p xs∧k=!xs.isEmpty)∨∃kvs,H p=some (.dK kvs)∧k=!kvs.isEmpty
 | _=>False
theorem Cq {κ:Type} {kvs:List (κ×V)} {vs:List (κ×Value)} (r:KV kvs vs):(!vs.isEmpty)=!kvs.isEmpty:=by
 cases r<;>rfl
theorem su {xs:List V} {its:List Value} (r:bq xs its):(!its.toArray.isEmpty)=!xs.isEmpty:=by
 cases r<;>simp
theorem sv:(sizeLine:Nat)<2 ^ 63:=by rw[DF];decide
theorem Pa:We X (fun x H Q=>∃k,Vc X.K x H k∧Q k H):=by
 intro pins s σ H x v Q I rx h
 obtain⟨k,e,q⟩:=h
 have hl:=sv
 have hs:sizeLine=16777216:=DF
 cases x with
 | non =>
  cases rx
  have e':k=false:=e
  subst e'
  exact truthy_none ⟨H,I,q⟩
 | bl b =>
  cases rx
  have e':k=b:=e
  subst e'
  exact CZ ⟨H,I,q⟩
 | int i =>
  obtain⟨t,rfl⟩:=rx
  have e':k=(i != 0):=e
  subst e'
  exact PySem.P.truthy_int ⟨H,I,q⟩
 | str y =>
  obtain⟨t,rfl⟩:=rx
  obtain⟨hy,e'⟩:y.length≤sizeLine∧k=((y.length:Int) != 0):=e
  subst e'
  exact PySem.P.truthy_str (by lia) ⟨H,I.tok _,q⟩
 | byt y =>
  obtain⟨t,rfl⟩:=rx
  obtain⟨hy,e'⟩:y.size≤sizeLine∧k=((y.size:Int) != 0):=e
  subst e'
  exact PySem.W.truthy_bytes (by lia) ⟨H,I.tok _,q⟩
 | ref p =>
  cases rx
  have e':(∃xs,SqL X.K H p xs∧k=!xs.isEmpty)∨(∃xs,SqT X.K H p xs∧k=!xs.isEmpty)∨∃kvs,H p=some (.dK kvs)∧k=!kvs.isEmpty:=e
  rcases e' with⟨xs,hx,e'⟩ | ⟨xs,hx,e'⟩ | ⟨kvs,hx,e'⟩
  ·subst e'
   obtain⟨its,r,pl,hz⟩:=I.list hx
   have hlen:=r.length
   exact wpAny_truthy_list pl.isList (by simp only[AD];lia) ⟨H,I.tok _,by rw[su r];exact q⟩
  ·subst e'
   obtain⟨its,r,pl,hz⟩:=I.tuple hx
   have hlen:=r.length
   exact truthy_tuple pl (by simp only[AD];lia) ⟨H,I.tok _,by rw[su r];exact q⟩
  ·subst e'
   obtain⟨hz,hS,vs,r,m⟩:kvs.length≤sizeLine∧(p==sysModules)=false∧∃vs,KV kvs vs∧s.heap.DictOf (bz X.prog X.w) p vs:=I.hok p _ hx
   have hlen:kvs.length=vs.length:=DE r
   exact wpAny_truthy_dict hS m (by lia) ⟨H,I.tok _,by rw[Cq r];exact q⟩
 | _=>exact(show False from e).elim
theorem Hh (ha:PE X a ta) (he:∀whole,isTrue a X.env whole=(do let v ←whole;standAt a.pos;holding [v] (truthy v))) :
  PT X a (fun σ H Q=>ta σ H fun x H'=>∃k,Vc X.K x H' k∧Q k H'):=by
 intro pins s σ H Q I h
 exact isTrue_plain (thn (ha pins s σ H _ I h) fun v s1 ⟨x,H1,I1,r1,q1⟩=>Pa pins s1 σ H1 x v Q I1 r1 q1) (he _)
theorem vals1 {x:V} {us:List Value} (r:bq [x] us):∃u,us=[u]∧RelV x u:=by
 cases r with
 | cons r1 r2=>cases r2;exact⟨_,rfl,r1⟩
theorem vals2 {x y:V} {us:List Value} (r:bq [x,y] us):∃u w',us=[u,w']∧RelV x u∧RelV y w':=by
 cases r with
 | cons r1 r2 =>
  cases r2 with
  | cons r3 r4=>cases r4;exact⟨_,_,rfl,r1,r3⟩
theorem D4 (hc:X.calm=true):fk X (.builtin "max") (fun xs H Q=>∃i j,xs=[.int i,.int j]∧Q (.int (if j > i then j else i)) H):=by
 intro pins s σ H xs us Q I r h
 obtain⟨i,j,rfl,q⟩:=h
 obtain⟨u,w',rfl,⟨t,rfl⟩,⟨t',rfl⟩⟩:=vals2 r
 refine max_two_ints (I.ok.hd hc) fun h' tk k=>⟨_,H,I.kept k,?_,q⟩
 by_cases hj:j > i
 ·rw[if_pos hj,if_pos hj];exact⟨_,rfl⟩
 ·rw[if_neg hj,if_neg hj];exact⟨_,rfl⟩
theorem D5 (hc:X.calm=true):fk X (.builtin "min") (fun xs H Q=>∃i j,xs=[.int i,.int j]∧Q (.int (if j<i then j else i)) H):=by
 intro pins s σ H xs us Q I r h
 obtain⟨i,j,rfl,q⟩:=h
 obtain⟨u,w',rfl,⟨t,rfl⟩,⟨t',rfl⟩⟩:=vals2 r
 refine min_two_ints (I.ok.hd hc) fun h' tk k=>⟨_,H,I.kept k,?_,q⟩
 by_cases hj:j<i
 ·rw[if_pos hj,if_pos hj];exact⟨_,rfl⟩
 ·rw[if_neg hj,if_neg hj];exact⟨_,rfl⟩
end
end L2
namespace L2
open PySem PySem.Spec PyProof.Rows
structure Room (k:Nat) (A:Around):Prop where
 hd:A.handled=none
 dp:A.depth+3*k+5<recursionLimit
 un:A.units+16*k+200<cLine
theorem Room.deeper {k:Nat} {A:Around} (r:Room (k+1) A) (env:Env):Room k (A.deeper env) :=
 ⟨r.hd,by have:=r.dp;show A.depth+1+3*k+5<_;lia,by have:=r.un;show A.units+3+16*k+200<_;lia⟩
theorem Room.depth {k:Nat} {A:Around} (r:Room k A):A.depth<recursionLimit:=by have:=r.dp;lia
theorem Room.units {k:Nat} {A:Around} (r:Room k A):A.units+64<cLine:=by have:=r.un;lia
noncomputable def tNil:TA:=fun _ H Q=>Q [] H
noncomputable def To (ta:TE) (tr:TA):TA:=fun σ H Q=>ta σ H fun x H1=>tr σ H1 fun xs H2=>Q (x::xs) H2
section
variable {X : Cx} {e : Expr} {es : List Expr} {te : TE} {t : TA} {pos : Pos}
theorem Jy:PA X [] tNil:=fun _ _ _ _ H Q I h=>FA ⟨[],H,I,.nil,h⟩
theorem zi (ha:PE X e te) (hr:PA X es t) (hs:starEach (e::es) X.env=(false,eval e X.env)::starEach es X.env:=by rfl):PA X (e::es) (To te t):=by
 intro pos pins s σ H Q I h
 rw[hs]
 show wpAny _ _ (spliced ((false,eval e X.env)::backTo pos (starEach es X.env))) _ _ s
 refine Ev (thn (ha pins s σ H _ I h) fun u s1 ⟨x,H1,I1,r1,q1⟩=>?_)
 exact thn (hr pos pins s1 σ H1 _ I1 q1) fun us s2 ⟨xs,H2,I2,r2,q2⟩=>⟨x::xs,H2,I2,.cons r1 r2,q2⟩
noncomputable def Wh (t:TA):TE:=fun σ H Q=>t σ H fun xs H1=>xs.length≤sizeLine∧∀p,H1 p=none→Q (.ref p) (upd H1 p (.tup xs))
noncomputable def Wi (t:TA):TE:=fun σ H Q=>t σ H fun xs H1=>xs.length≤sizeLine∧∀p,H1 p=none→Q (.ref p) (upd H1 p (.lst xs))
theorem Pb {x1} (h:PA X es t):PE X (.Tuple es x1 pos) (Wh t):=by
 intro pins s σ H Q I hq
 refine wpAny_Tuple_spliced (thn (h pos pins s σ H _ I hq) fun us s1 ⟨xs,H1,I1,r,z,q⟩=>⟨by rw[←r.length];exact z,?_⟩)
 have hf:H1 s1.heap.objs.size=none:=I1.hok.fresh (AF _)
 refine⟨.ref s1.heap.objs.size,upd H1 s1.heap.objs.size (.tup xs),I1.laid (t':=s1.toks) (fun b u e=>AC _ e) (AF _) ?_,rfl,q _ hf⟩
 exact⟨z,us,r,⟨_,AN _ rfl,rfl,rfl,_,rfl⟩⟩
theorem Pc (h:PA X es t):PE X (.List es pos) (Wi t):=by
 intro pins s σ H Q I hq
 refine wpAny_List_spliced (thn (h pos pins s σ H _ I hq) fun us s1 ⟨xs,H1,I1,r,z,q⟩=>⟨by rw[←r.length];exact z,?_⟩)
 have hf:H1 s1.heap.objs.size=none:=I1.hok.fresh (AF _)
 refine⟨.ref s1.heap.objs.size,upd H1 s1.heap.objs.size (.lst xs),I1.laid (t':=s1.toks) (fun b u e=>AC _ e) (AF _) ?_,rfl,q _ hf⟩
 exact⟨z,us,0,r,AN _ rfl⟩
end
noncomputable abbrev Sp:=List V→Hp→VK→XK→Prop
noncomputable abbrev CXT:=List Env→Hp→Shared→XK→Value→Shared→Prop
structure Env0 (P:Program) (w:World) (K:PySem.W.Frag) (mg:Str→Option Value) (base:Heap) (A:Around) (outer:List Env) (s:Shared) (H:Hp):Prop where
 frames:A.frames=some outer
 mod:Mod K mg base
 bs:∀b o,base.get? b=some o→s.heap.get? b=some o∧H b=none
 bsz:base.objs.size≤s.heap.objs.size
 funs:s.heap.FunFrames base outer
 frf:∀b∈frs outer,H b=none
 hok:HOk P w H s.heap
 bare:AllBare s.gens
noncomputable def CE (outer:List Env) (P:Program) (w:World) (H:Hp) (s:Shared) (Q:VK) (u:Value) (s':Shared):Prop :=
 ∃v H',s'.os=s.os∧AllBare s'.gens∧Un (frs outer) [] H H' s.heap s'.heap∧HOk P w H' s'.heap∧RelV v u∧Q v H'
noncomputable def CR (CX:CXT) (outer:List Env) (P:Program) (w:World) (H:Hp) (s:Shared) (Q:VK) (E:XK) (r:Result) (s':Shared):Prop :=
 match r with
 | .ok (.ret u)=>CE outer P w H s Q u s'
 | .ok _=>False
 | .error e=>CX outer H s E e s'
structure FnOk (P:Program) (w:World) (K:PySem.W.Frag) (mg:Str→Option Value) (base:Heap) (CX:CXT) (k:Nat) (f:Addr) (fd:FuncData) (ps:List Str) (sp:Sp):Prop where
 len:∀vs H Q E,sp vs H Q E→vs.length=ps.length
 run:∀(A:Around) (outer:List Env) (s:Shared) (H:Hp) (args:Args) (us:List Value) (vs:List V) (Q:VK) (E:XK),Room k A→Env0 P w K mg base A outer s H→BindsTo s fd args (ps.zip us)→bq vs us→sp vs H Q E →
  codeAny (model P w) A (.call (.ref f) args) (CR CX outer P w H s Q E) s
theorem FnOk.imp {P:Program} {w:World} {K:PySem.W.Frag} {mg:Str→Option Value} {base:Heap} {CX:CXT} {k:Nat} {f:Addr} {fd:FuncData} {ps:List Str} {sp sp':Sp} (F:FnOk P w K mg base CX k f fd ps sp)
  (h:∀vs H Q E,sp' vs H Q E→sp vs H Q E):FnOk P w K mg base CX k f fd ps sp' :=
 ⟨fun vs H Q E q=>F.len vs H Q E (h _ _ _ _ q),fun A outer s H args us vs Q E hr he hb hv hs=>F.run A outer s H args us vs Q E hr he hb hv (h _ _ _ _ hs)⟩
section
variable {X : Cx} {pins : List (Addr × Obj)} {σ : St} {H : Hp} {s s' : Shared}
theorem Inv.env0 (I:Inv X pins σ H s):Env0 X.prog X.w X.K X.mg X.base X.A X.stack s H :=
 ⟨I.ok.frames,I.ok.mod,I.bs,CL I.ok.bsz I.sz,I.stack,I.stkFree,I.hok,I.bare⟩
theorem Inv.after {Q:VK} {u:Value} (I:Inv X pins σ H s) (h:CE X.stack X.prog X.w H s Q u s'):EP X pins σ Q u s':=by
 obtain⟨v,H',os,bare,un,hok,r,q⟩:=h
 obtain⟨hh,g,d,t,os'⟩:=s'
 obtain rfl:os'=s.os:=os
 exact⟨v,H',I.call (h':=hh) (g':=g) (d':=d) (t':=t) (ch:=[]) un hok bare (fun b z=>absurd z (by simp)),r,q⟩
end
noncomputable def Tp (sp:Sp) (dvs:List V) (E:XK) (t:TA):TE:=fun σ H Q=>t σ H fun vs H1=>sp (vs++dvs) H1 Q E
noncomputable def Binds (K:PySem.W.Frag) (fd:FuncData) (ps:List Str) (ds:List Value):Prop :=
 ∀(s:Shared) (us:List Value),K.In s.heap→(us++ds).length=ps.length→BindsTo s fd ⟨us,[]⟩ (ps.zip (us++ds))
theorem Binds.all {K:PySem.W.Frag} {fd:FuncData} {ps:List Str} (h:∀us:List Value,us.length=ps.length→bindArgs fd ⟨us,[]⟩=pure (ps.zip us)):Binds K fd ps []:=fun s us _ hl=>by
 rw[EU]at hl ⊢
 exact .of_eq (h us hl)
noncomputable def D6 (CX:CXT) (X:Cx) (E:XK):Prop:=∀(pins:List (Addr×Obj)) (σ:St) (H:Hp) (s:Shared) (e:Value) (s':Shared),Inv X pins σ H s→CX X.stack H s E e s'→X.xe e s'
section
variable {X : Cx} {CX : CXT} {k : Nat} {f C : Addr} {fd : FuncData} {ps : List Str} {sp : Sp} {dvs : List V} {ds : List Value} {E : XK} {x m : Str} {p pos apos : Pos} {e o : Expr} {es : List Expr} {ta : TE} {t : TA}
theorem Pd {pins:List (Addr×Obj)} {σ:St} {H:Hp} {s:Shared} {Q:VK} {us:List Value} {vs:List V} (F:FnOk X.prog X.w X.K X.mg X.base CX k f fd ps sp) (hr:Room k X.A) (hb:Binds X.K fd ps ds) (hd:bq dvs ds) (hx:D6 CX X E)
  (I:Inv X pins σ H s) (r:bq vs us) (h:sp (vs++dvs) H Q E):wpAny (model X.prog X.w) X.A (call (.ref f) us) (EP X pins σ Q) X.xe s:=by
 have r2:bq (vs++dvs) (us++ds):=r.append hd
 have hl:(us++ds).length=ps.length:=by rw[←r2.length];exact F.len _ _ _ _ h
 refine wpAny_call (codeAny_mono (F.run X.A X.stack s H ⟨us,[]⟩ (us++ds) (vs++dvs) Q E hr I.env0 (hb s us I.kIn hl) r2 h) fun r s' hq=>?_)
 cases r with
 | error e=>exact hx pins σ H s e s' I hq
 | ok fl =>
  cases fl with
  | ret u=>exact I.after hq
  | next=>exact False.elim hq
  | brk=>exact False.elim hq
  | cont=>exact False.elim hq
theorem L8 (F:FnOk X.prog X.w X.K X.mg X.base CX k f fd ps sp) (hr:Room k X.A) (hg:Gl X x) (hm:X.mg x=some (.ref f)) (hk:PySem.W.keepIn X.K (.ref f)=true) (hb:Binds X.K fd ps ds) (hd:bq dvs ds) (hx:D6 CX X E)
  (ha:PA X (e::es) t) (hdb:(x==("__debug__":Str))=false:=by decide) (he:starEach (e::es) X.env=(false,eval e X.env)::starEach es X.env:=by rfl) (hpl:(backTo pos (starEach es X.env)).any (·.1)=false:=by rfl) :
  PE X (.Call (.Name x p) (e::es) [] pos) (Tp sp dvs E t):=by
 intro pins s σ H Q I h
 refine EA (Ly I hg hm ?_ hdb)
 refine PySem.W.callWith_K (h₀:=X.base) I.ok.mod.kin hk (thn (ha pos pins s σ H _ I h) fun us s1 ⟨vs,H1,I1,r,q⟩=>⟨I1.kIn,?_⟩) he hpl
 exact Pd F hr hb hd hx I1 r q
structure Mk (K:PySem.W.Frag) (C f:Addr):Prop where
 makes:PySem.W.makesIn K C=true
 init:PySem.W.findIn K (.ref C) "__init__"=some (some (.ref f))
 fn:PySem.W.isFn K (.ref f)=true
 kp:PySem.W.keepIn K (.ref C)=true
end
structure FnScope (N P:List Str) (sc:Scope):Prop where
 kind:sc.kind=.function
 co:sc.isCoroutine=false
 gen:sc.isGenerator=false
 nd:N.Nodup
 pre:N.take P.length=P
 par:∀x∈P,sc.names.lookup x=some .local∨sc.names.lookup x=some .cell
 nofree:∀y∈sc.names,y.2≠.free
theorem wb {kindOf:Str→Option NameKind} {x:Str}:∀{binds:List (Str×Value)} {m:Str→Option Value},(∀v,(x,v)∉binds)→bindL kindOf binds m x=m x
 | [],_,_=>rfl
 | (n,v)::r,m,h=>by
  unfold bindL
  rw[wb fun w hw=>h w (AJ _ hw)]
  split
  ·have:x≠n:=by rintro rfl;exact h v AS
   simp[this]
  ·rfl
theorem wc {kindOf:Str→Option NameKind} {x:Str}:∀{binds:List (Str×Value)} {m:Str→Option Value},(∀v,(x,v)∉binds)→bindC kindOf binds m x=m x
 | [],_,_=>rfl
 | (n,v)::r,m,h=>by
  unfold bindC
  rw[wc fun w hw=>h w (AJ _ hw)]
  split
  ·rfl
  ·have:x≠n:=by rintro rfl;exact h v AS
   simp[this]
theorem wd {kindOf:Str→Option NameKind} {x:Str} {v:Value}:∀{P:List Str} {vs:List Value} {i:Nat} {m:Str→Option Value},P.Nodup→P[i]? = some x→vs[i]? = some v→kindOf x=some .local →
  bindL kindOf (P.zip vs) m x=some v
 | [],_,_,_,_,h,_,_=>by simp at h
 | _::_,[],_,_,_,_,h,_=>by simp at h
 | p::P,w::vs,0,m,nd,h1,h2,hk=>by
  simp at h1 h2;subst h1;subst h2
  show bindL kindOf ((p,w)::P.zip vs) m p=_
  unfold bindL
  rw[wb fun v hv=>(EF.mp nd).1 (FT hv).1,if_pos hk]
  simp
 | p::P,w::vs,i+1,m,nd,h1,h2,hk=>by
  show bindL kindOf ((p,w)::P.zip vs) m x=_
  unfold bindL
  exact wd (i:=i) (EF.mp nd).2 (by simpa using h1) (by simpa using h2) hk
theorem we {kindOf:Str→Option NameKind} {x:Str} {v:Value}:∀{P:List Str} {vs:List Value} {i:Nat} {m:Str→Option Value},P.Nodup→P[i]? = some x→vs[i]? = some v→kindOf x≠some .local →
  bindC kindOf (P.zip vs) m x=some v
 | [],_,_,_,_,h,_,_=>by simp at h
 | _::_,[],_,_,_,_,h,_=>by simp at h
 | p::P,w::vs,0,m,nd,h1,h2,hk=>by
  simp at h1 h2;subst h1;subst h2
  show bindC kindOf ((p,w)::P.zip vs) m p=_
  unfold bindC
  rw[wc fun v hv=>(EF.mp nd).1 (FT hv).1,if_neg hk]
  simp
 | p::P,w::vs,i+1,m,nd,h1,h2,hk=>by
  show bindC kindOf ((p,w)::P.zip vs) m x=_
  unfold bindC
  exact we (i:=i) (EF.mp nd).2 (by simpa using h1) (by simpa using h2) hk
noncomputable def start (N:List Str) (vs:List V):St:=vs.map some++List.replicate (N.length-vs.length) none
noncomputable def Jz (CX:CXT) (P:Program) (w:World) (K:PySem.W.Frag) (mg:Str→Option Value) (base:Heap) (N:List Str) (qual:Str) (scope:Scope) (f:Addr) (cd:Value) (A:Around) (outer:List Env) (s:Shared) (H:Hp) (E:XK):Cx where
 prog:=P
 w:=w
 K:=K
 mg:=mg
 base:=base
 A:=A.deeper (envOfC qual scope s.heap.objs.size f cd)
 N:=N
 s₀:=s
 H₀:=H
 env:=envOfC qual scope s.heap.objs.size f cd
 outer:=outer
 stack:=envOfC qual scope s.heap.objs.size f cd::outer
 ex:=[]
 calm:=true
 fn:=fun _=>true
 pn:=[]
 xe:=fun e s'=>wpAny (model P w) (A.deeper (envOfC qual scope s.heap.objs.size f cd)) (leaving (envOfC qual scope s.heap.objs.size f cd) e) (fun _ s''=>CX outer H s E e s'') (fun e' s''=>CX outer H s E e' s'') s'
theorem As {sc:Scope} {n:Nat} {x:Str} (h:sc.names.lookup x=some .cell):∃c,(cellsFrom n sc.names []).lookup x=some c:=by
 have q:=HI sc.names n [] (.inl h)
 exact DQ.mp q
theorem D7 {CX:CXT} {P:Program} {w:World} {K:PySem.W.Frag} {mg:Str→Option Value} {base:Heap} {N ps:List Str} {qual:Str} {scope:Scope} {f:Addr} {cd:Value} {A:Around} {outer:List Env} {s s1:Shared} {H:Hp} {E:XK} {us:List Value} {vs:List V}
  (S:FnScope N ps scope) (hd:A.handled=none) (e0:Env0 P w K mg base A outer s H) (hl:vs.length=ps.length) (r:bq vs us)
  (x:InCallC s s.heap.objs.size (bindL (envOfC qual scope s.heap.objs.size f cd).kindOf (ps.zip us) fun _=>none) (cellsFrom (s.heap.objs.size+1) scope.names []) (bindC (envOfC qual scope s.heap.objs.size f cd).kindOf (ps.zip us) fun _=>none) s1) :
  Inv (Jz CX P w K mg base N qual scope f cd A outer s H E) [] (start N vs) H s1:=by
 have hpl:ps.length≤N.length:=by have:=congrArg List.length S.pre;rw[CT]at this;lia
 obtain⟨h1,tk,rfl,hk⟩:=x.done
 have noA:∀b:Addr,b∉(Jz CX P w K mg base N qual scope f cd A outer s H E).ex:=fun b z=>absurd (show b∈([]:List Addr)from z) (by simp)
 refine⟨⟨e0.mod,S.kind,rfl,rfl,AF _,fun y z c h1 h2=>?_,fun y hy=>?_,fun y c _ h=>?_,fun _=>hd,Around.frames_deeper e0.frames,.inr ⟨rfl,rfl⟩,fun b z=>absurd z (noA b),e0.bs,e0.bsz,fun b _ _=>noA b,fun b z=>absurd z (noA b),e0.funs,e0.frf⟩,
  rfl,e0.bare,Un.kept hk,⟨_,x.toInCall.ns,fun i y v h1 h2 h3=>?_⟩,fun y c h=>⟨_,x.cell y c h⟩,e0.hok.fresh (AF _),fun y c h=>?_,fun p hp=>absurd (show p∈([]:List (Addr×Obj))from hp) (by simp),e0.hok.kept hk,?_⟩
 ·exact name_of_addr x.apart (DS h1) (DS h2)
 ·have hy:scope.names.lookup y=some .cell∨scope.names.lookup y=some .free:=hy
  rcases hy with hy | hy
  ·exact As hy
  ·exact absurd rfl (S.nofree _ (DS hy))
 ·exact EM (x.above y c (DS h))
 ·have hi:i<vs.length:=by
   unfold start at h2
   by_cases hi:i<vs.length
   ·exact hi
   ·rw[BM (by simpa using hi)]at h2
    rw[Da]at h2
    split at h2<;>cases h2
  have ha:vs[i]? = some v:=by
   unfold start at h2
   rw[AV (by simpa using hi),AX]at h2
   cases e:vs[i]? with
   | none=>rw[e]at h2;cases h2
   | some a=>rw[e]at h2;cases h2;rfl
  obtain⟨u,hu,rv⟩:=r.get ha
  have hp:ps[i]? = some y:=by
   rw[←S.pre,GQ (by lia)];exact h1
  have ndP:ps.Nodup:=by rw[←S.pre];exact S.nd.sublist (List.take_sublist _ _)
  refine⟨u,rv,?_⟩
  rcases S.par y (CB hp)with k | k
  ·exact .inl ⟨k,wd ndP hp hu k⟩
  ·obtain⟨c,e⟩:=As (n:=s.heap.objs.size+1) k
   refine .inr ⟨.inl k,c,e,?_⟩
   have q:=x.cell y c e
   rw[we ndP hp hu (by show scope.names.lookup y≠_;rw[k];decide)]at q
   exact q
 ·exact e0.hok.fresh (EM (x.above y c (DS h)))
 ·unfold start
  show _=N.length
  rw[CC,AG,HU]
  lia
theorem Tq {CX:CXT} {P:Program} {w:World} {K:PySem.W.Frag} {mg:Str→Option Value} {base:Heap} {k:Nat} {f:Addr} {name qual:Str} {params:Arguments} {body:List Stmt} {scope:Scope} {dV kV doc pm cdv ct oc:Value} {an od:Option Addr}
  {osl:Array (Option Value)} {N ps:List Str} {sp:Sp} (lk:K.lookup f=some ⟨oc,od,.func (PySem.W.fnOf name qual params body scope dV kV doc pm an cdv ct),osl⟩) (hcd:PySem.W.codeIn K cdv qual=true) (S:FnScope N ps scope)
  (len:∀vs H Q E,sp vs H Q E→vs.length=ps.length)
  (hbody:∀(A:Around) (outer:List Env) (s:Shared) (H:Hp) (vs:List V) (Q:VK) (E:XK),Room k (A.deeper (envOfC qual scope s.heap.objs.size f cdv))→sp vs H Q E →
   ∃t,PSs (Jz CX P w K mg base N qual scope f cdv A outer s H E) body t∧t {nx:=fun _ H'=>Q .non H',rt:=Q} (start N vs) H) :
  FnOk P w K mg base CX (k+1) f (PySem.W.fnOf name qual params body scope dV kV doc pm an cdv ct) ps sp:=by
 refine⟨len,fun A outer s H args us vs Q E hr e0 hb r hsp=>?_⟩
 have hl:=len _ _ _ _ hsp
 have KX:K.In s.heap:=e0.mod.kin.keeps fun b o e=>(e0.bs b o e).1
 have lim:s.heap.NoLimit:=e0.mod.nolimit.keeps fun b o e=>(e0.bs b o e).1
 have hkind:∀y∈ps.zip us,scope.names.lookup y.1=some .local∨(scope.names.lookup y.1=some .cell∧((cellsFrom (s.heap.objs.size+1) scope.names []).lookup y.1).isSome=true):=fun⟨n,v⟩ hy=>by
  rcases S.par n (FT hy).1 with q | q
  ·exact .inl q
  ·exact .inr ⟨q,HI _ _ _ (.inl q)⟩
 refine codeAny_call_function hr.depth (KX _ _ lk) rfl S.co S.gen rfl (PySem.W.codeRec_of KX hcd) (hb _ _ _ _ ?_)
 refine wpAny_newFunctionEnv_cells S.kind hkind fun env he s1 x=>?_
 subst he
 refine⟨lim.keeps x.toInCall.keep,codeAny_func ?_⟩
 obtain⟨t,ht,hq⟩:=hbody A outer s H vs Q E (hr.deeper _) hsp
 have I:Inv (Jz CX P w K mg base N qual scope f cdv A outer s H E) [] (start N vs) H s1:=D7 S hr.hd e0 hl r x
 refine DO (ht [] s1 (start N vs) H _ I hq) (fun fl s' hs=>?_) fun e s' hs=>hs
 have fin:∀{σ':St} {H':Hp} {v:V} {u:Value},Inv (Jz CX P w K mg base N qual scope f cdv A outer s H E) [] σ' H' s'→RelV v u→Q v H'→CE outer P w H s Q u s' :=
  fun {σ' H' v u} J rv q=>⟨v,H',J.os,J.bare,J.base,J.hok,rv,q⟩
 cases fl with
 | ret u =>
  obtain⟨v,σ',H',J,rv,q⟩:=hs
  exact fin J rv q
 | next =>
  obtain⟨σ',H',J,q⟩:=hs
  exact fin (v:=V.non) (u:=Value.none) J rfl q
 | brk =>
  obtain⟨_,_,_,q⟩:=hs
  exact False.elim q
 | cont =>
  obtain⟨_,_,_,q⟩:=hs
  exact False.elim q
end L2
namespace L2
open PySem PySem.Spec PyProof.Rows
section
variable {X : Cx} {x : Str} {p pos : Pos} {e : Expr} {es : List Expr} {t : TA} {id T : String} {r : List V → Hp → VK → Prop}
noncomputable def tCB (r:List V→Hp→VK→Prop) (t:TA):TE:=fun σ H Q=>t σ H fun vs H1=>r vs H1 Q
theorem g9 (hc:fk X (.builtin id) r) (hg:Gl X x) (hm:X.mg x=none) (hv:bootBuiltins x=some (.builtin id)) (ha:PA X (e::es) t) (hn:x≠"__name__":=by decide) (hdb:(x==("__debug__":Str))=false:=by decide)
  (he:starEach (e::es) X.env=(false,eval e X.env)::starEach es X.env:=by rfl) (hpl:(backTo pos (starEach es X.env)).any (·.1)=false:=by rfl):PE X (.Call (.Name x p) (e::es) [] pos) (tCB r t):=by
 intro pins s σ H Q I h
 refine EA (my I hg hm hv ?_ hn hdb)
 exact PyProof.Rows.callWith_builtin1 (thn (ha pos pins s σ H _ I h) fun us s1 ⟨vs,H1,I1,r1,q1⟩=>hc pins s1 σ H1 vs us Q I1 r1 q1) he hpl
theorem wj (hc:fk X (.type T) r) (hg:Gl X x) (hm:X.mg x=none) (hv:bootBuiltins x=some (.type T)) (ha:PA X (e::es) t) (hn:x≠"__name__":=by decide) (hdb:(x==("__debug__":Str))=false:=by decide)
  (he:starEach (e::es) X.env=(false,eval e X.env)::starEach es X.env:=by rfl) (hpl:(backTo pos (starEach es X.env)).any (·.1)=false:=by rfl):PE X (.Call (.Name x p) (e::es) [] pos) (tCB r t):=by
 intro pins s σ H Q I h
 refine EA (my I hg hm hv ?_ hn hdb)
 exact BU (thn (ha pos pins s σ H _ I h) fun us s1 ⟨vs,H1,I1,r1,q1⟩=>hc pins s1 σ H1 vs us Q I1 r1 q1) he hpl
end
end L2
namespace HT
open PySem PyProof.Rows
noncomputable def lexLt:List Int→List Int→Bool
 | [],[]=>false
 | [],_::_=>true
 | _::_,[]=>false
 | x::xs,y::ys=>if x=y then lexLt xs ys else decide (x<y)
theorem ik (x y:Int) (xs ys:List Int):lexLt (x::xs) (y::ys)=if x=y then lexLt xs ys else decide (x<y):=rfl
theorem j9:lexLt [] []=false:=rfl
theorem jl (y:Int) (ys:List Int):lexLt [] (y::ys)=true:=rfl
theorem jm (x:Int) (xs:List Int):lexLt (x::xs) []=false:=rfl
theorem ug (A:Around) (s:Shared) (a:Int) (t:Tok) (c:Int) (u:Tok):∃e,SeqAt.EqAt A s (.int a t) (.int c u) e∧(e=true↔a=c) :=
 ⟨(a==c),IC a t c u,by simp⟩
theorem Hi (A:Around) (s:Shared) (a:Int) (t:Tok) (c:Int) (u:Tok) (prog:Program) (w:World) (E:Value→Shared→Prop) (Q:Value→Shared→Prop) (h:Q (.bool (decide (a<c))) s) :
  wpAny (model prog w) A (richCompare .Lt (.int a t) (.int c u)) Q E s :=
 (PyProof.Rows.lt_int h:wpAny (model prog w) A (compareOp .Lt (.int a t) (.int c u)) Q E s)
section
open PySem.SeqAt
open PySem.AutoSeq1 (wpAny_loadPart')
open PySem.MeetsSeq PySem.MeetsSeq2 PySem.MeetsSeq3
theorem uh (l b:Addr) (items items2:Array Value) (n n2:Nat) (dd dd2:Option Addr) (sl sl2:Array (Option Value)) (ns ms:List Int) (hi:IntsAre items.toList ns) (hj:IntsAre items2.toList ms) :
  Meets (Builtin.«tuple.__lt__» ⟨[.ref l,.ref b],[]⟩)
   (fun _ R s=>s.heap.get? l=some {cls:=.type "tuple",dict:=dd,data:=.seq items n,slots:=sl}∧s.heap.get? b=some {cls:=.type "tuple",dict:=dd2,data:=.seq items2 n2,slots:=sl2} ∧
    R (.ok (.ret (.bool (lexLt ns ms)))) s) :=
 .of_wp fun prog w A R s h=>by
  obtain⟨hp,g,d,tk,os⟩:=s;obtain⟨hl,hb,h⟩:=h
  have f2:=EO
  have z1:items.size=ns.length:=by rw[←hi.length];simp
  have z2:items2.size=ms.length:=by rw[←hj.length];simp
  wp_walk using CD hl,CD hb,GY _ (fun rest b s'=>b.1=none∧s'=⟨hp,g,d,tk,os⟩∧∃(vs ws:List Value) (ns' ms':List Int),rest=vs.zip ws ∧
   IntsAre vs ns'∧IntsAre ws ms'∧ns'.length+items2.size=ms'.length+items.size∧R (.ok (.ret (.bool (lexLt ns' ms')))) ⟨hp,g,d,tk,os⟩) _
  case turn =>
   rintro⟨y,x⟩ rest b s' ⟨hb',rfl,vs,ws,ns',ms',hz,hvi,hwi,hlen,hR⟩
   cases hvi with
   | nil=>rw[GI]at hz;cases hz
   | cons a t hvi' =>
    cases hwi with
    | nil=>rw[EW]at hz;cases hz
    | cons c u hwi' =>
     rw[CU]at hz
     injection hz with hyx hrest
     injection hyx with hy hx
     subst hy hx
     rw[ik]at hR
     simp only[BH]at hlen
     obtain⟨e,he,hiff⟩:=ug A.in1 ⟨hp,g,d,tk,os⟩ a t c u
     refine AB (he prog w _ _ ?_)
     cases e with
     | true =>
      rw[if_pos (hiff.mp rfl)]at hR
      wp_walk
      exact⟨rfl,rfl,_,_,_,_,hrest,hvi',hwi',by lia,hR⟩
     | false =>
      rw[if_neg (fun q=>absurd (hiff.mpr q) AY)]at hR
      have hri:=Hi A.in1 ⟨hp,g,d,tk,os⟩ a t c u prog w
      wp_walk using hri
      exact⟨_,rfl,by simpa using hR⟩
  case fin =>
   rintro⟨b1,b2⟩ s' ⟨hb',rfl,vs,ws,ns',ms',hz,hvi,hwi,hlen,hR⟩
   simp only at hb'
   subst hb'
   have hv:lexLt ns' ms'=decide (items.size<items2.size):=by
    cases hvi with
    | nil =>
     cases hwi with
     | nil =>
      simp only[CF]at hlen
      rw[j9]
      exact(decide_eq_false (by lia)).symm
     | cons c u hw =>
      simp only[CF,BH]at hlen
      rw[jl]
      exact(decide_eq_true (by lia)).symm
    | cons a t hv =>
     cases hwi with
     | nil =>
      simp only[CF,BH]at hlen
      rw[jm]
      exact(decide_eq_false (by lia)).symm
     | cons c u hw =>
      rw[CU]at hz
      cases hz
   rw[hv]at hR
   wp_walk
   exact⟨_,rfl,by simpa[Builtin.Tuple.tupleCompareSizes]using hR⟩
  case h =>
   exact⟨rfl,rfl,items.toList,items2.toList,ns,ms,rfl,hi,hj,by lia,h⟩
end
section
variable {prog : Program} {w : World} {A : Around} {E : Value → Shared → Prop} {s : Shared}
theorem Cr {l b:Addr} {items items2:Array Value} {ns ms:List Int} {Q:Value→Shared→Prop} (hl:IsTup s.heap l items) (hb:IsTup s.heap b items2) (hi:IntsAre items.toList ns) (hj:IntsAre items2.toList ms)
  (hu:A.units<cLine) (h:Q (.bool (lexLt ns ms)) s):wpAny (model prog w) A (compareOp .Lt (.ref l) (.ref b)) Q E s:=by
 obtain⟨⟨cls,dd,data,sl⟩,ho,hc,n,hd⟩:=id hl
 obtain⟨⟨cls2,dd2,data2,sl2⟩,ho2,hc2,n2,hd2⟩:=id hb
 simp only at hc hd hc2 hd2
 subst hc hd hc2 hd2
 exact FB (op:=.Lt) ⟨_,ho,rfl⟩ ⟨_,ho2,rfl⟩ PySem.F.slot_tuple_lt PySem.F.entry_tuple_lt (PySem.F.args_tuple_lt_2 _ _) (uh l b items items2 n n2 dd dd2 sl sl2 ns ms hi hj)
  ⟨ho,ho2,show Value.bool (lexLt ns ms)≠Value.notImplemented∧Q (.bool (lexLt ns ms)) s from⟨(fun x=>nomatch x),h⟩⟩ hu
theorem L9 {t b:Addr} {vs ws:List Value} {Q:Value→Shared→Prop} (ht:IsTup s.heap t vs.toArray) (hb:IsTup s.heap b ws.toArray) (hv:vs≠[])
  (h1:ws=[]→Q (.ref t) s) (h2:ws≠[]→Q (.ref s.heap.objs.size) {s with heap:=s.heap.push {cls:=.type "tuple",data:=.seq (vs++ws).toArray}})
  (hsz:vs.length+ws.length≤sizeLine):wpAny (model prog w) A (binaryOp .Add (.ref t) (.ref b)) Q E s:=by
 obtain⟨⟨cls,dd,data,sl⟩,ho,hc,n,hd⟩:=id ht
 obtain⟨⟨cls2,dd2,data2,sl2⟩,ho2,hc2,n2,hd2⟩:=id hb
 simp only at hc hd hc2 hd2
 subst hc hd hc2 hd2
 have e:vs.toArray++ws.toArray=(vs++ws).toArray:=by simp
 by_cases hw:ws=[]
 ·exact concat_meets ⟨_,ho,rfl⟩ ⟨_,ho2,rfl⟩ GZ seq_tuple_add FC EY (ER _ _)
   (tuple_addW1 t b vs.toArray ws.toArray n n2 dd dd2 sl sl2 (by simpa using hv) (by simp[hw])) ⟨ho,ho2,h1 hw⟩
 ·refine concat_meets ⟨_,ho,rfl⟩ ⟨_,ho2,rfl⟩ GZ seq_tuple_add FC EY (ER _ _)
   (tuple_addW2 t b vs.toArray ws.toArray n n2 dd dd2 sl sl2 (by simpa using hv) (by simpa using hw) (by rw[AD,AD];exact hsz)) ⟨ho,ho2,?_⟩
  rw[e]
  exact h2 hw
noncomputable def sIx (n d:Nat):Option Int→Nat
 | none=>d
 | some v=>if v<0 then(v+(n:Int)).toNat else min v.toNat n
theorem Pe (n d:Nat) (hd:d≤n) (o:Option Int):sIx n d o≤n:=by
 cases o with
 | none=>exact hd
 | some v =>
  show(if v<0 then(v+(n:Int)).toNat else min v.toNat n)≤n
  by_cases hv:v<0
  ·rw[if_pos hv];lia
  ·rw[if_neg hv];exact Nat.min_le_right _ _
theorem D8 (v:Int) (n d:Nat):(if v<0 then max (v+(n:Int)) 0 else min v (n:Int))=((sIx n d (some v):Nat):Int):=by
 show(if v<0 then max (v+(n:Int)) 0 else min v (n:Int))=(((if v<0 then(v+(n:Int)).toNat else min v.toNat n):Nat):Int)
 by_cases hv:v<0
 ·simp only[if_pos hv];lia
 ·simp only[if_neg hv];lia
theorem Cs (lo hi:Option Int) (n:Nat):Builtin.Slice.sliceAdjust lo hi 1 (n:Int)=(((sIx n 0 lo:Nat):Int),((sIx n n hi:Nat):Int)):=by
 have h1:¬((1:Int)<0):=by lia
 unfold Builtin.Slice.sliceAdjust
 simp only[h1,if_false]
 refine Prod.ext ?_ ?_
 ·cases lo with
  | none=>rfl
  | some v=>exact D8 v n 0
 ·cases hi with
  | none=>rfl
  | some v=>exact D8 v n n
theorem Ct (i j:Nat):Builtin.Slice.slicePlaces (i:Int) (j:Int) 1=j-i:=by
 unfold Builtin.Slice.slicePlaces
 have h1:(1:Int) > 0:=by lia
 simp only[h1,if_true,Int.ediv_one]
 split<;>lia
theorem sx {v:Value} {o:Option Int} {Q:Option Int→Shared→Prop} (p:IsPart v o) (h:Q o s):wpAny (model prog w) A (Builtin.Slice.slicePartIndex v) Q E s:=by
 cases p with
 | none=>exact slicePart_none h
 | int i t=>exact slicePart_int h
theorem kq {sl:Addr} {vl vu:Value} {lo hi:Option Int} {n:Nat} {Q:Int×Int×Nat→Shared→Prop} (hs:s.heap.IsSliceOf sl vl vu .none) (pl:IsPart vl lo) (pu:IsPart vu hi)
  (h:Q (((sIx n 0 lo:Nat):Int),1,sIx n n hi-sIx n 0 lo) s):wpAny (model prog w) A (Builtin.Slice.sliceApplied (.ref sl) (pure (n:Int))) Q E s:=by
 obtain⟨os,hos,hcs,hds⟩:=id hs
 unfold Builtin.Slice.sliceApplied Builtin.Slice.sliceFields
 refine AB (AB (BQ hos hds (x:=vl) rfl (AB (BQ hos hds (x:=vu) rfl (AB (BQ hos hds (x:=.none) rfl (AL ?_)))))))
 refine AB (slicePart_none ?_)
 show wpAny _ _ (if((1:Int)==0)=true then _ else _) _ _ s
 rw[if_neg (by decide)]
 refine AB (sx pl (AB (sx pu (AB (AL ?_)))))
 show wpAny _ _ (match Builtin.Slice.sliceAdjust lo hi 1 (n:Int)with | (lo,hi)=>pure (lo,(1:Int),Builtin.Slice.slicePlaces lo hi 1)) _ _ s
 rw[Cs lo hi n]
 show wpAny _ _ (pure (((sIx n 0 lo:Nat):Int),(1:Int),Builtin.Slice.slicePlaces ((sIx n 0 lo:Nat):Int) ((sIx n n hi:Nat):Int) 1)) _ _ s
 rw[Ct]
 exact AL h
theorem Hj (xs:Array Value) (i k:Nat):((List.range k).filterMap fun(m:Nat)=>xs[((i:Int)+(m:Int)*1).toNat]?).toArray=((xs.toList.drop i).take k).toArray:=by
 have e:(fun(m:Nat)=>xs[((i:Int)+(m:Int)*1).toNat]?)=fun m=>xs[i+m]?:=by
  funext m
  have:((i:Int)+(m:Int)*1).toNat=i+m:=by lia
  rw[this]
 rw[e]
 have:=pick_run xs i k
 rw[List.filterMap_map]at this
 have e2:((fun x=>xs[x]?)∘fun x=>i+x)=fun m=>xs[i+m]?:=rfl
 rw[e2]at this
 rw[this]
theorem n9 {t sl:Addr} {items:Array Value} {vl vu:Value} {lo hi:Option Int} {Q:Value→Shared→Prop} (ht:IsTup s.heap t items) (hs:s.heap.IsSliceOf sl vl vu .none) (pl:IsPart vl lo) (pu:IsPart vu hi)
  (hw:¬(sIx items.size 0 lo=0∧sIx items.size items.size hi=items.size))
  (h:Q (.ref s.heap.objs.size) {s with heap:=s.heap.push {cls:=.type "tuple",data:=.seq ((items.toList.drop (sIx items.size 0 lo)).take (sIx items.size items.size hi-sIx items.size 0 lo)).toArray}})
  (hsz:items.size≤sizeLine):wpAny (model prog w) A (getItem (.ref t) (.ref sl)) Q E s:=by
 have htake:sizeOk (.seq ((items.toList.drop (sIx items.size 0 lo)).take (sIx items.size items.size hi-sIx items.size 0 lo)).toArray):=by
  show((items.toList.drop (sIx items.size 0 lo)).take (sIx items.size items.size hi-sIx items.size 0 lo)).toArray.size≤sizeLine
  rw[AD,CT,DH,BW]
  lia
 have hj:sIx items.size items.size hi≤items.size:=Pe _ _ (AF _) hi
 obtain⟨os,hos,hcs,hds⟩:=id hs
 have hTs:s.TypeIs (.ref sl) "slice":=⟨os,hos,hcs⟩
 unfold getItem
 try with_reducible refine DP ?_
 first | refine AB (AL ?_) | skip
 refine AB (wpAny_sequenceKey ht.typeIs (by decide) ?_)
 refine AB (BY (name:=Str.ofString "__getitem__") ht.typeIs BV
  (CM BV ht.typeIs entry_tuple_getitem ?_ (args_tuple_getitem _ _)))
 show wpAny _ _ (Builtin.Tuple.tupleItemsOf (.ref t)>>=_) _ _ s
 refine AB (tupleItemsOf_ ht ?_)
 refine AB (HJ hTs ?_)
 rw[if_pos (by decide)]
 refine AB (kq hs pl pu ?_)
 have hno:¬((((sIx items.size 0 lo:Nat):Int)==0&&(1:Int)==1&&(sIx items.size items.size hi-sIx items.size 0 lo)==items.size)=true):=by
  intro q
  rw[BA,BA]at q
  have q1:((sIx items.size 0 lo:Nat):Int)=0:=eq_of_beq q.1.1
  have q2:sIx items.size items.size hi-sIx items.size 0 lo=items.size:=eq_of_beq q.2
  exact hw ⟨by lia,by lia⟩
 show wpAny _ _ (if(((sIx items.size 0 lo:Nat):Int)==0&&(1:Int)==1&&(sIx items.size items.size hi-sIx items.size 0 lo)==items.size)=true then _ else _) _ _ s
 rw[if_neg hno,Hj]
 first
  | exact AB (m:=Builtin.Tuple.tupleExact _) (Db (AL ⟨_,rfl,AL h⟩) htake)
  | exact AB (m:=Builtin.Tuple.tupleExact _) (Db (AB (AL (AL ⟨_,rfl,AL h⟩))) htake)
  | exact AB (AB (m:=Builtin.Tuple.tupleExact _) (Db (AL (AL ⟨_,rfl,AL h⟩)) htake))
  | exact AB (AB (m:=Builtin.Tuple.tupleExact _) (Db (AL ⟨_,rfl,AL h⟩) htake))
end
end HT
namespace L2
open PySem PySem.Spec PyProof.Rows
noncomputable abbrev TO:=St→Hp→(Option Int→Hp→Prop)→Prop
noncomputable def PO (X:Cx) (e:Option Expr) (t:TO):Prop :=
 ∀(pins:List (Addr×Obj)) (s:Shared) (σ:St) (H:Hp) (Q:Option Int→Hp→Prop),Inv X pins σ H s→t σ H Q →
  wpAny (model X.prog X.w) X.A (evalPart e X.env) (fun u s'=>∃o H',Inv X pins σ H' s'∧IsPart u o∧Q o H') X.xe s
noncomputable def tNoPart:TO:=fun _ H Q=>Q none H
noncomputable def Tr (t:TE):TO:=fun σ H Q=>t σ H fun x H1=>∃i,x=.int i∧Q (some i) H1
theorem intsAre_of {ns:List Int}:∀{us:List Value},bq (ns.map V.int) us→IntsAre us ns:=by
 induction ns with
 | nil=>intro us r;rw[DC]at r;cases r;exact .nil
 | cons n ns ih =>
  intro us r
  rw[AR]at r
  cases r with
  | cons r1 r2 =>
   obtain⟨t,e⟩:=r1
   subst e
   exact .cons n t (ih r2)
section
variable {X : Cx} {e : Expr} {te : TE} {lo hi : Option Expr} {tl th : TO} {pos p2 : Pos}
theorem Ma:PO X none tNoPart:=by
 intro pins s σ H Q I h
 rw[evalPart_none]
 exact AL ⟨none,H,I,.none,h⟩
theorem Mb (h:PE X e te):PO X (some e) (Tr te):=by
 intro pins s σ H Q I hw
 rw[evalPart_some]
 refine thn (h pins s σ H _ I hw) fun u s1 ⟨x,H1,I1,r1,q1⟩=>?_
 obtain⟨i,rfl,q⟩:=q1
 obtain⟨t,rfl⟩:=r1
 exact⟨some i,H1,I1,.int i t,q⟩
noncomputable def SlR (X:Cx) (r:V→Option Int→Option Int→Hp→VK→Prop):Prop :=
 ∀(pins:List (Addr×Obj)) (s:Shared) (σ:St) (H:Hp) (x:V) (v vl vu:Value) (lo hi:Option Int) (sl:Addr) (Q:VK),Inv X pins σ H s→RelV x v→s.heap.IsSliceOf sl vl vu .none→IsPart vl lo→IsPart vu hi→r x lo hi H Q →
  ∃T id,typeLookup (.type T) "__getitem__"=pure (some (.builtin id))∧s.TypeIs v T∧wpAny (model X.prog X.w) X.A (getItem v (.ref sl)) (EP X pins σ Q) X.xe s
noncomputable def tSl (r:V→Option Int→Option Int→Hp→VK→Prop) (te:TE) (tl th:TO):TE:=fun σ H Q=>te σ H fun x H1=>tl σ H1 fun l H2=>th σ H2 fun u H3=>r x l u H3 Q
theorem Hk {r:V→Option Int→Option Int→Hp→VK→Prop} (hr:SlR X r) (he:PE X e te) (hl:PO X lo tl) (hu:PO X hi th):PE X (.Subscript e (.Slice lo hi none p2) pos) (tSl r te tl th):=by
 intro pins s σ H Q I h
 refine Subscript_ (thn (he pins s σ H _ I h) fun v s1 ⟨x,H1,I1,r1,q1⟩=>?_)
 refine wpAny_Slice (thn (hl pins s1 σ H1 _ I1 q1) fun vl s2 ⟨l,H2,I2,pl,q2⟩=>thn (hu pins s2 σ H2 _ I2 q2) fun vu s3 ⟨u,H3,I3,pu,q3⟩=>?_)
 rw[evalPart_none]
 refine AL ?_
 have I4:Inv X pins σ H3 {s3 with heap:=s3.heap.push {cls:=.type "slice",data:=.fields #[vl,vu,.none]}}:=I3.kept (t':=s3.toks) fun b ob q=>AC _ q
 obtain⟨T,id,hT,ht,hg⟩:=hr pins {s3 with heap:=s3.heap.push {cls:=.type "slice",data:=.fields #[vl,vu,.none]}} σ H3 x v vl vu l u s3.heap.objs.size Q I4 r1 (Heap.IsSliceOf.new ..) pl pu q3
 show wpAny (model X.prog X.w) X.A (subscriptTail e (.Slice lo hi none p2) v (.ref s3.heap.objs.size)) (EP X pins σ Q) X.xe {s3 with heap:=s3.heap.push {cls:=.type "slice",data:=.fields #[vl,vu,.none]}}
 exact tail_any (ops:=[.ref s3.heap.objs.size,v]) ht hT hg (by with_unfolding_all rfl)
noncomputable def J0 (xs:List V) (lo hi:Option Int):List V:=(xs.drop (HT.sIx xs.length 0 lo)).take (HT.sIx xs.length xs.length hi-HT.sIx xs.length 0 lo)
theorem qe (xs:List V) (lo hi:Option Int):(J0 xs lo hi).length≤xs.length:=by
 unfold J0
 rw[CT,DH]
 lia
noncomputable def Wj (K:PySem.W.Frag):V→Option Int→Option Int→Hp→VK→Prop:=fun x lo hi H Q=>∃a xs,x=.ref a∧SqT K H a xs ∧
 ¬(HT.sIx xs.length 0 lo=0∧HT.sIx xs.length xs.length hi=xs.length)∧∀p,H p=none→Q (.ref p) (upd H p (.tup (J0 xs lo hi)))
theorem Pf:SlR X (Wj X.K):=by
 intro pins s σ H x v vl vu lo hi sl Q I rx hs pl pu h
 obtain⟨a,xs,rfl,hx,hw,q⟩:=h
 cases rx
 obtain⟨its,r,ht,hz⟩:=I.tuple hx
 have hlen:its.toArray.size=xs.length:=by rw[AD];exact r.length.symm
 refine⟨"tuple",_,BV.lookup,ht.typeIs,?_⟩
 refine HT.n9 ht hs pl pu (by rw[hlen];exact hw) ?_ (by rw[hlen];exact hz)
 rw[hlen]
 refine⟨.ref s.heap.objs.size,_,I.laid (t':=s.toks) (o:=.tup (J0 xs lo hi)) (fun b ob q=>AC _ q) (AF _) ?_,rfl,q _ (I.hok.fresh (AF _))⟩
 exact⟨CL (qe xs lo hi) hz,_,(r.drop (HT.sIx xs.length 0 lo)).take (HT.sIx xs.length xs.length hi-HT.sIx xs.length 0 lo),ou.new _ _⟩
noncomputable def Wk (K:PySem.W.Frag):R2:=fun x y H Q=>∃a b ns ms,x=.ref a∧y=.ref b∧SqT K H a (ns.map V.int)∧SqT K H b (ms.map V.int)∧Q (.bl (HT.lexLt ns ms)) H
theorem Pg (hu:X.A.units<cLine):OpR X (compareOp .Lt) (Wk X.K):=by
 intro pins s σ H x y v u Q I rx ry h
 obtain⟨a,b,ns,ms,rfl,rfl,ha,hb,q⟩:=h
 cases rx
 cases ry
 obtain⟨its,r1,p1,_⟩:=I.tuple ha
 obtain⟨its2,r2,p2,_⟩:=I.tuple hb
 have i1:IntsAre its.toArray.toList ns:=intsAre_of r1
 have i2:IntsAre its2.toArray.toList ms:=intsAre_of r2
 exact HT.Cr p1 p2 i1 i2 hu ⟨.bl (HT.lexLt ns ms),H,I,rfl,q⟩
noncomputable def Ts (K:PySem.W.Frag):R2:=fun x y H Q=>∃a b xs ys,x=.ref a∧y=.ref b∧SqT K H a xs∧SqT K H b ys∧xs≠[]∧xs.length+ys.length≤sizeLine ∧
 (ys=[]→Q (.ref a) H)∧(ys≠[]→∀p,H p=none→Q (.ref p) (upd H p (.tup (xs++ys))))
theorem bq.nil_iff {xs:List V} {us:List Value} (r:bq xs us):us=[]↔xs=[]:=by
 cases r with
 | nil=>simp
 | cons _ _=>simp
theorem Mc:OpR X (binaryOp .Add) (Ts X.K):=by
 intro pins s σ H x y v u Q I rx ry h
 obtain⟨a,b,xs,ys,rfl,rfl,ha,hb,hx,hz,q1,q2⟩:=h
 cases rx
 cases ry
 obtain⟨its,r1,p1,_⟩:=I.tuple ha
 obtain⟨its2,r2,p2,_⟩:=I.tuple hb
 refine HT.L9 p1 p2 (fun z=>hx (r1.nil_iff.mp z)) (fun z=>⟨.ref a,H,I,rfl,q1 (r2.nil_iff.mp z)⟩) (fun z=>?_) (by rw[←r1.length,←r2.length];exact hz)
 refine⟨.ref s.heap.objs.size,_,I.laid (t':=s.toks) (o:=.tup (xs++ys)) (fun b ob q=>AC _ q) (AF _) ?_,rfl,q2 (fun w=>z (r2.nil_iff.mpr w)) _ (I.hok.fresh (AF _))⟩
 exact⟨by rw[CC];exact hz,_,r1.append r2,ou.new _ _⟩
end
end L2
namespace L2
open PySem PySem.Spec PyProof.Rows
noncomputable def ixN (n:Nat) (i:Int):Option Nat:=if 0≤i then(if i<n then some i.toNat else none)else if -(n:Int)≤i then some (i+n).toNat else none
noncomputable def atI {α:Type} (xs:List α) (i:Int):Option α:=(ixN xs.length i).bind fun j=>xs[j]?
theorem D9 {n:Nat} {i:Int} {j:Nat} (h:ixN n i=some j):seqIndex? i n=some j∧j<n ∧ -(n:Int)≤i∧i<n:=by
 unfold ixN at h
 by_cases h0:0≤i
 ·rw[if_pos h0]at h
  by_cases h1:i<n
  ·rw[if_pos h1]at h
   have e:i.toNat=j:=BL h
   exact⟨by rw[seqIndex_of h0 h1,e],by lia,by lia,h1⟩
  ·rw[if_neg h1]at h;cases h
 ·rw[if_neg h0]at h
  by_cases h1:-(n:Int)≤i
  ·rw[if_pos h1]at h
   have e:(i+n).toNat=j:=BL h
   exact⟨by rw[seqIndex_neg (by lia) h1,e],by lia,h1,by lia⟩
  ·rw[if_neg h1]at h;cases h
theorem zj {α:Type} {xs:List α} {i:Int} {v:α} (h:atI xs i=some v):∃j,seqIndex? i xs.length=some j∧xs[j]? = some v∧j<xs.length ∧ -(xs.length:Int)≤i∧i<xs.length:=by
 unfold atI at h
 cases e:ixN xs.length i with
 | none=>rw[e]at h;cases h
 | some j =>
  rw[e]at h
  obtain⟨h1,h2,h3,h4⟩:=D9 e
  exact⟨j,h1,h,h2,h3,h4⟩
noncomputable def zk (b:Expr):Prop:=∀o i,subscripted b false o i=operate [o,i] (getItem o i)
noncomputable def IxR (X:Cx) (r:R2):Prop :=
 ∀(value slice:Expr) (pins:List (Addr×Obj)) (s:Shared) (σ:St) (H:Hp) (x y:V) (v u:Value) (Q:VK),Inv X pins σ H s→RelV x v→RelV y u→r x y H Q →
  subscripted slice false v u=operate [v,u] (getItem v u)→wpAny (model X.prog X.w) X.A (subscriptTail value slice v u) (EP X pins σ Q) X.xe s
noncomputable def MtR (X:Cx) (id:String) (r:V→List V→Hp→VK→Prop):Prop :=
 ∀(pins:List (Addr×Obj)) (s:Shared) (σ:St) (H:Hp) (x:V) (xs:List V) (v:Value) (us:List Value) (Q:VK),Inv X pins σ H s→RelV x v→bq xs us→r x xs H Q →
  wpAny (model X.prog X.w) X.A (call (.builtin id) (v::us)) (EP X pins σ Q) X.xe s
section
variable {X : Cx} {a b : Expr} {ta tb : TE} {pos : Pos}
theorem IxR.or {r r':R2} (h:IxR X r) (h':IxR X r'):IxR X (fun x y H Q=>r x y H Q∨r' x y H Q):=by
 intro value slice pins s σ H x y v u Q I rx ry q hs
 rcases q with q | q
 ·exact h value slice pins s σ H x y v u Q I rx ry q hs
 ·exact h' value slice pins s σ H x y v u Q I rx ry q hs
theorem Tt {r:R2} (hr:IxR X r) (ha:PE X a ta) (hb:PE X b tb) (hs:zk b):PE X (.Subscript a b pos) (tOp r ta tb):=by
 intro pins s σ H Q I h
 exact Subscript_ (Va ha hb I h fun v u s2 x y H2 I2 rx ry q=>hr a b pins s2 σ H2 x y v u Q I2 rx ry q (hs _ _))
noncomputable def Vd (K:PySem.W.Frag):R2:=fun x y H Q=>∃p xs i v,x=.ref p∧y=.int i∧SqL K H p xs∧atI xs i=some v∧Q v H
noncomputable def Ve (K:PySem.W.Frag):R2:=fun x y H Q=>∃p xs i v,x=.ref p∧y=.int i∧SqT K H p xs∧atI xs i=some v∧Q v H
noncomputable def rIxS:R2:=fun x y H Q=>∃z i c,x=.str z∧y=.int i∧z.length≤sizeLine∧atI z.cps.toList i=some c∧Q (.str ⟨#[c]⟩) H
theorem Md:IxR X (Vd X.K):=by
 intro value slice pins s σ H x y v u Q I rx ry h hs
 obtain⟨p,xs,i,z,rfl,rfl,hq,he,q⟩:=h
 cases rx
 obtain⟨t,rfl⟩:=ry
 obtain⟨its,r,pl,hz⟩:=I.list hq
 obtain⟨j,h1,h2,h3,h4,h5⟩:=zj he
 obtain⟨w,ew,rw'⟩:=r.get h2
 have hl:=r.length
 have hn:=sv
 have fin:EP X pins σ Q w s:=⟨z,H,I,rw',q⟩
 by_cases h0:0≤i
 ·have hj:i.toNat=j:=by
   rw[seqIndex_of h0 h5]at h1
   exact BL h1
  exact item_listR pl.isList h0 (by lia) (by rw[hj];simpa using ew) fin hs
 ·have hj:(i+(its.toArray.size:Int)).toNat=j:=by
   rw[seqIndex_neg (by lia) h4]at h1
   rw[AD,←hl]
   exact BL h1
  exact subscriptTail_builtinR (x:=w) pl.isList.typeIs slot_list_getitem.lookup
   (wpAny_getItem_list_neg (Q:=fun r s'=>r=w∧EP X pins σ Q r s') pl.isList (by lia) (by rw[AD]<;>lia) (by lia) (by rw[hj];simpa using ew) ⟨rfl,fin⟩) hs
theorem Ph:IxR X (Ve X.K):=by
 intro value slice pins s σ H x y v u Q I rx ry h hs
 obtain⟨p,xs,i,z,rfl,rfl,hq,he,q⟩:=h
 cases rx
 obtain⟨t,rfl⟩:=ry
 obtain⟨its,r,pl,hz⟩:=I.tuple hq
 obtain⟨j,h1,h2,h3,h4,h5⟩:=zj he
 obtain⟨w,ew,rw'⟩:=r.get h2
 have hl:=r.length
 have hn:=sv
 have fin:EP X pins σ Q w s:=⟨z,H,I,rw',q⟩
 exact subscriptTail_builtinR (x:=w) pl.typeIs slot_tuple_getitem.lookup
  (getItem_tuple (j:=j) (Q:=fun r s'=>r=w∧EP X pins σ Q r s') pl (by lia) (by lia) (by rw[AD,←hl];exact h1) (by simpa using ew) ⟨rfl,fin⟩) hs
theorem Pj:IxR X rIxS:=by
 intro value slice pins s σ H x y v u Q I rx ry h hs
 obtain⟨z,i,c,rfl,rfl,hz,he,q⟩:=h
 obtain⟨t,rfl⟩:=rx
 obtain⟨t',rfl⟩:=ry
 obtain⟨j,h1,h2,h3,h4,h5⟩:=zj he
 have hl:z.cps.toList.length=z.length:=by simp[Str.length]
 rw[hl]at h1 h4 h5
 have hn:=sv
 exact tail_any (typeIs_str s z t) slot_str_getitem.lookup (getItem_str (c:=c) (by
  have e1:decide (i < -(2 ^ 63:Int))=false:=decide_eq_false (by lia)
  have e2:decide (i≥2 ^ 63)=false:=decide_eq_false (by lia)
  rw[e1,e2,Bool.or_false]) (by rw[h1];simpa using h2) ⟨.str ⟨#[c]⟩,H,I.tok _,⟨_,rfl⟩,q⟩) hs
noncomputable def rIx (K:PySem.W.Frag):R2:=fun x y H Q=>Vd K x y H Q∨Ve K x y H Q∨rIxS x y H Q
theorem Pk:IxR X (rIx X.K):=Md.or (Ph.or Pj)
theorem Cu (its:List Value) (n j:Nat) (u:Value):Obj.mapSeq (·.setIfInBounds j u) {cls:=.type "list",data:=.seq its.toArray n}={cls:=.type "list",data:=.seq (its.set j u).toArray n}:=by
 simp[Obj.mapSeq]
theorem Inv.lst {pins:List (Addr×Obj)} {σ:St} {H:Hp} {s:Shared} {p:Addr} {xs:List V} (I:Inv X pins σ H s) (h:H p=some (.lst xs)) :
  ∃(its:List Value) (n:Nat),bq xs its∧s.heap.get? p=some {cls:=.type "list",data:=.seq its.toArray n}∧xs.length≤sizeLine:=by
 obtain⟨z,its,n,r,e⟩:=I.hok p _ h
 exact⟨its,n,r,e,z⟩
theorem Inv.lstUpd {pins:List (Addr×Obj)} {σ:St} {H:Hp} {s:Shared} {p:Addr} {xs ys:List V} {its its':List Value} {n n':Nat} {f:Obj→Obj} (I:Inv X pins σ H s) (h:H p=some (.lst xs))
  (ho:s.heap.get? p=some {cls:=.type "list",data:=.seq its.toArray n}) (hf:f {cls:=.type "list",data:=.seq its.toArray n}={cls:=.type "list",data:=.seq its'.toArray n'}) (r:bq ys its') (hz:ys.length≤sizeLine) (t:Nat) :
  Inv X pins σ (upd H p (.lst ys)) {s with heap:=s.heap.update p f,toks:=t}:=by
 have e:(s.heap.update p f).get? p=some {cls:=.type "list",data:=.seq its'.toArray n'}:=by
  rw[FJ f ho (by rw[hf]<;>rfl),hf]
 refine I.write (x:=p) (e:=p) (by rw[h];trivial) (.inl rfl) (fun b u hb q=>(FD _ _ (Ne.symm hb)).trans q) ⟨_,e⟩ ?_
 exact⟨hz,its',n',r,e⟩
noncomputable def rSetL:V→V→V→Hp→(Hp→Prop)→Prop:=fun o i v H Q=>∃p xs k j,o=.ref p∧i=.int k∧H p=some (.lst xs)∧ixN xs.length k=some j∧Q (upd H p (.lst (xs.set j v)))
theorem set_list:Su X rSetL:=by
 intro pins s σ H o i v ov iv u Q I ro ri rv h
 obtain⟨p,xs,k,j,rfl,rfl,hp,hj,q⟩:=h
 cases ro
 obtain⟨t,rfl⟩:=ri
 obtain⟨its,n,r,ho,hz⟩:=I.lst hp
 obtain⟨h1,h2,h3,h4⟩:=D9 hj
 have hl:=r.length
 have hn:=sv
 have I':Inv X pins σ (upd H p (.lst (xs.set j v))) {s with heap:=s.heap.update p (Obj.mapSeq (·.setIfInBounds j u))} :=
  I.lstUpd hp ho (Cu its n j u) (r.set rv j) (by rw[HQ];exact hz) s.toks
 by_cases h0:0≤k
 ·have hk:k.toNat=j:=by
   rw[seqIndex_of h0 h4]at h1
   exact BL h1
  exact PySem.W.ki_setAt ho h0 (by lia) (by rw[AD,←hl];exact h4) (by rw[hk];exact⟨_,I',q⟩)
 ·have hk:(k+(its.toArray.size:Int)).toNat=j:=by
   rw[seqIndex_neg (by lia) h3]at h1
   rw[AD,←hl]
   exact BL h1
  exact PySem.W.ki_setBack ho (by lia) (by rw[AD,←hl];exact h3) (by lia) (by rw[hk];exact⟨_,I',q⟩)
theorem wm (lo hi:Option Int) (n:Nat):(sliceBounds lo hi none n).1=((HT.sIx n 0 lo:Nat):Int)∧(sliceBounds lo hi none n).2.1=((HT.sIx n n hi:Nat):Int)∧(sliceBounds lo hi none n).2.2=1:=by
 refine⟨?_,?_,rfl⟩
 ·cases lo with
  | none=>simp[sliceBounds,HT.sIx]
  | some i =>
   simp only[sliceBounds,HT.sIx,Option.getD_none,show(1:Int) > 0 by decide,if_true]
   by_cases h:i<0
   ·simp only[h,if_true]<;>lia
   ·simp only[h,if_false]<;>lia
 ·cases hi with
  | none=>simp[sliceBounds,HT.sIx]
  | some i =>
   simp only[sliceBounds,HT.sIx,Option.getD_none,show(1:Int) > 0 by decide,if_true]
   by_cases h:i<0
   ·simp only[h,if_true]<;>lia
   ·simp only[h,if_false]<;>lia
theorem ui (its:List Value) (lo hi:Option Int):slicePick its.toArray lo hi none=((its.drop (HT.sIx its.length 0 lo)).take (HT.sIx its.length its.length hi-HT.sIx its.length 0 lo)).toArray:=by
 obtain⟨h1,h2,h3⟩:=wm lo hi its.toArray.size
 unfold slicePick
 rw[h1,h2,h3]
 simp only[sliceRange_one,pick_run,AD]<;>rfl
noncomputable def Wl (K:PySem.W.Frag):V→Option Int→Option Int→Hp→VK→Prop:=fun x lo hi H Q=>∃a xs,x=.ref a∧SqL K H a xs∧∀p,H p=none→Q (.ref p) (upd H p (.lst (J0 xs lo hi)))
theorem Me:SlR X (Wl X.K):=by
 intro pins s σ H x v vl vu lo hi sl Q I rx hs pl pu h
 obtain⟨a,xs,rfl,hx,q⟩:=h
 cases rx
 obtain⟨its,r,ht,hz⟩:=I.list hx
 have hlen:=r.length
 refine⟨"list",_,slot_list_getitem.lookup,ht.isList.typeIs,?_⟩
 refine wpAny_getItem_list_slice ht.isList hs pl pu .none (by simp) ?_ (by rw[AD]<;>lia)
 rw[ui,←hlen]
 refine⟨.ref s.heap.objs.size,_,I.laid (t':=s.toks) (o:=.lst (J0 xs lo hi)) (fun b ob q=>AC _ q) (AF _) ?_,rfl,q _ (I.hok.fresh (AF _))⟩
 exact⟨CL (qe xs lo hi) hz,_,0,(r.drop (HT.sIx xs.length 0 lo)).take (HT.sIx xs.length xs.length hi-HT.sIx xs.length 0 lo),AN _ rfl⟩
noncomputable def sg:V→Bool
 | .non=>true
 | .bl _=>true
 | .int _=>true
 | .str _=>true
 | _=>false
noncomputable def eqV:V→V→Bool
 | .non,.non=>true
 | .bl a,.bl b=>a==b
 | .bl a,.int b=>(if a then 1 else 0)==b
 | .int a,.bl b=>a==(if b then 1 else 0)
 | .int a,.int b=>a==b
 | .str a,.str b=>a==b
 | _,_=>false
theorem Pl {A:Around} {s:Shared} {y x:V} {u v:Value} (ry:RelV y u) (rx:RelV x v) (fy:sg y=true) (fx:sg x=true):SeqAt.EqAt A s u v (eqV y x):=by
 cases y with
 | non =>
  cases ry
  cases x with
  | non=>cases rx;exact SeqAt.EqAt.same _
  | bl b=>cases rx;exact SeqAt.EqAt.none_bool b
  | int b=>obtain⟨t,rfl⟩:=rx;exact SeqAt.EqAt.none_int b t
  | str b=>obtain⟨t,rfl⟩:=rx;exact SeqAt.EqAt.none_str b t
  | _=>exact absurd (show false=true from fx) AY
 | bl a =>
  cases ry
  cases x with
  | non=>cases rx;exact SeqAt.EqAt.bool_none a
  | bl b=>cases rx;exact SeqAt.EqAt.bool_bool a b
  | int b=>obtain⟨t,rfl⟩:=rx;exact SeqAt.EqAt.bool_int a b t
  | str b=>obtain⟨t,rfl⟩:=rx;exact SeqAt.EqAt.bool_str a b t
  | _=>exact absurd (show false=true from fx) AY
 | int a =>
  obtain⟨t',rfl⟩:=ry
  cases x with
  | non=>cases rx;exact SeqAt.EqAt.int_none a t'
  | bl b=>cases rx;exact SeqAt.EqAt.int_bool a t' b
  | int b=>obtain⟨t,rfl⟩:=rx;exact IC a t' b t
  | str b=>obtain⟨t,rfl⟩:=rx;exact IA a t' b t
  | _=>exact absurd (show false=true from fx) AY
 | str a =>
  obtain⟨t',rfl⟩:=ry
  cases x with
  | non=>cases rx;exact SeqAt.EqAt.str_none a t'
  | bl b=>cases rx;exact SeqAt.EqAt.str_bool a t' b
  | int b=>obtain⟨t,rfl⟩:=rx;exact IB a t' b t
  | str b=>obtain⟨t,rfl⟩:=rx;exact SeqAt.EqAt.str_str a t' b t
  | _=>exact absurd (show false=true from fx) AY
 | _=>exact absurd (show false=true from fy) AY
noncomputable def eqU (x:V) (u:Value):Bool:=match u with
 | .none=>eqV .non x
 | .bool b=>eqV (.bl b) x
 | .int i _=>eqV (.int i) x
 | .str z _=>eqV (.str z) x
 | _=>false
theorem J1 {x y:V} {u:Value} (r:RelV y u) (f:sg y=true):eqU x u=eqV y x:=by
 cases y with
 | non=>cases r;rfl
 | bl b=>cases r;rfl
 | int i=>obtain⟨t,rfl⟩:=r;rfl
 | str z=>obtain⟨t,rfl⟩:=r;rfl
 | _=>exact absurd (show false=true from f) AY
theorem qf {x:V}:∀{xs:List V} {us:List Value},bq xs us→xs.all sg=true→us.any (eqU x)=xs.any fun y=>eqV y x
 | _,_,.nil,_=>rfl
 | y::xs,u::us,.cons r t,f=>by
  rw[BB,BA]at f
  rw[CK,CK,J1 r f.1,qf t f.2]
theorem mz {A:Around} {s:Shared} {x:V} {v:Value} (rx:RelV x v) (fx:sg x=true):∀{xs:List V} {us:List Value},bq xs us→xs.all sg=true→∀u∈us,SeqAt.EqAt A s u v (eqU x u)
 | _,_,.nil,_=>fun u hu=>by cases hu
 | y::xs,u::us,.cons r t,f=>fun u' hu=>by
  rw[BB,BA]at f
  rcases AO.mp hu with rfl | hu
  ·rw[J1 r f.1];exact Pl r rx f.1 fx
  ·exact mz rx fx t f.2 u' hu
noncomputable def inV (x:V) (xs:List V):Bool:=xs.any fun y=>eqV y x
noncomputable def rIn (K:PySem.W.Frag) (neg:Bool):R2:=fun x y H Q=>∃p xs,y=.ref p∧(SqL K H p xs∨SqT K H p xs)∧sg x=true∧xs.all sg=true∧Q (.bl (if neg then !inV x xs else inV x xs)) H
theorem Ea:OpR X (compareOp .In) (rIn X.K false):=by
 intro pins s σ H x y v u Q I rx ry h
 obtain⟨p,xs,rfl,hq,fx,fs,q⟩:=h
 cases ry
 rcases hq with hq | hq
 ·obtain⟨its,r,pl,hz⟩:=I.list hq
  refine SeqAt.in_listAt (eqU x) pl.isList (fun w hw=>mz rx fx r fs w (by simpa using hw)) ⟨.bl _,H,I,rfl,?_⟩
  rw[show its.toArray.any (eqU x)=its.any (eqU x)by simp,qf r fs]
  exact q
 ·obtain⟨its,r,pl,hz⟩:=I.tuple hq
  refine SeqAt.in_tupleAt (eqU x) pl (fun w hw=>mz rx fx r fs w (by simpa using hw)) ⟨.bl _,H,I,rfl,?_⟩
  rw[show its.toArray.any (eqU x)=its.any (eqU x)by simp,qf r fs]
  exact q
theorem wo:OpR X (compareOp .NotIn) (rIn X.K true):=by
 intro pins s σ H x y v u Q I rx ry h
 obtain⟨p,xs,rfl,hq,fx,fs,q⟩:=h
 cases ry
 rcases hq with hq | hq
 ·obtain⟨its,r,pl,hz⟩:=I.list hq
  refine SeqAt.notIn_listAt (eqU x) pl.isList (fun w hw=>mz rx fx r fs w (by simpa using hw)) ⟨.bl _,H,I,rfl,?_⟩
  rw[show its.toArray.any (eqU x)=its.any (eqU x)by simp,qf r fs]
  exact q
 ·obtain⟨its,r,pl,hz⟩:=I.tuple hq
  refine SeqAt.notIn_tupleAt (eqU x) pl (fun w hw=>mz rx fx r fs w (by simpa using hw)) ⟨.bl _,H,I,rfl,?_⟩
  rw[show its.toArray.any (eqU x)=its.any (eqU x)by simp,qf r fs]
  exact q
theorem wq:fk X (.builtin "len") (fun xs H Q=>∃p ys,xs=[.ref p]∧(SqL X.K H p ys∨SqT X.K H p ys)∧Q (.int ys.length) H):=by
 intro pins s σ H xs us Q I r h
 obtain⟨p,ys,rfl,hq,q⟩:=h
 obtain⟨u,rfl,rx⟩:=vals1 r
 cases rx
 have hn:=sv
 rcases hq with hq | hq
 ·obtain⟨its,r',pl,hz⟩:=I.list hq
  have hlen:=r'.length
  exact Calls.call_len_list pl.isList (by simp only[AD]<;>lia) ⟨.int ys.length,H,I.tok _,⟨s.toks+1,by rw[AD,hlen]⟩,q⟩
 ·obtain⟨its,r',pl,hz⟩:=I.tuple hq
  have hlen:=r'.length
  exact len_tuple pl (by simp only[AD]<;>lia) ⟨.int ys.length,H,I.tok _,⟨s.toks+1,by rw[AD,hlen]⟩,q⟩
theorem wt:fk X (.type "list") (fun xs H Q=>∃p ys,xs=[.ref p]∧(SqL X.K H p ys∨SqT X.K H p ys)∧∀l,H l=none→Q (.ref l) (upd H l (.lst ys))):=by
 intro pins s σ H xs us Q I r h
 obtain⟨p,ys,rfl,hq,q⟩:=h
 obtain⟨u,rfl,rx⟩:=vals1 r
 cases rx
 have fin:∀(its:List Value),bq ys its→ys.length≤sizeLine→∀(h':Heap) (c':Nat),(∀b o',s.heap.get? b=some o'→h'.get? b=some o') →
   h'.get? s.heap.objs.size=some {cls:=.type "list",dict:=none,data:=.seq its.toArray c',slots:=#[]}→EP X pins σ Q (.ref s.heap.objs.size) {s with heap:=h'}:=fun its r' hz h' c' kp e =>
  ⟨.ref s.heap.objs.size,_,I.laid (t':=s.toks) kp (AF _) (show gv X.prog X.w _ h' _ (.lst ys)from⟨hz,its,c',r',e⟩),rfl,q _ (I.hok.fresh (AF _))⟩
 rcases hq with hq | hq
 ·obtain⟨its,r',pl,hz⟩:=I.list hq
  have hlen:=r'.length
  obtain⟨o,ho,hc,n,hd⟩:=pl.isList
  exact call_list_seq p (.inl rfl) ho hc hd (fun h' c' kp e=>fin its r' hz h' c' kp e) (by simp only[AD]<;>lia)
 ·obtain⟨its,r',pl,hz⟩:=I.tuple hq
  have hlen:=r'.length
  obtain⟨o,ho,hc,n,hd⟩:=pl
  exact call_list_seq p (.inr rfl) ho hc hd (fun h' c' kp e=>fin its r' hz h' c' kp e) (by simp only[AD]<;>lia)
theorem uj:fk X (.type "tuple") (fun xs H Q=>∃p ys,xs=[.ref p]∧((SqL X.K H p ys∧∀l,H l=none→Q (.ref l) (upd H l (.tup ys)))∨(SqT X.K H p ys∧Q (.ref p) H))):=by
 intro pins s σ H xs us Q I r h
 obtain⟨p,ys,rfl,h⟩:=h
 obtain⟨u,rfl,rx⟩:=vals1 r
 cases rx
 rcases h with⟨hq,q⟩ | ⟨hq,q⟩
 ·obtain⟨its,r',pl,hz⟩:=I.list hq
  have hlen:=r'.length
  refine call_tuple_list pl.isList (fun h' kp=>?_) (by simp only[AD]<;>lia)
  have I1:Inv X pins σ H {s with heap:=h'}:=I.kept (t':=s.toks) kp
  have I2:Inv X pins σ (upd H h'.objs.size (.tup ys)) {s with heap:=h'.push {cls:=.type "tuple",data:=.seq its.toArray}} :=
   I1.laid (t':=s.toks) (fun b o e=>AC _ e) (AF _) (show gv X.prog X.w _ _ _ (.tup ys)from⟨hz,its,r',ou.new _ _⟩)
  exact⟨.ref h'.objs.size,_,I2,rfl,q _ (I1.hok.fresh (AF _))⟩
 ·obtain⟨its,r',pl,hz⟩:=I.tuple hq
  exact call_tuple_same pl ⟨.ref p,H,I,rfl,q⟩
noncomputable def tyV (K:PySem.W.Frag) (T:String) (x:V) (H:Hp):Prop:=match x with
 | .str _=>T="str"
 | .int _=>T="int"
 | .ref p=>(T="list"∧∃xs,SqL K H p xs)∨(T="tuple"∧∃o,K.lookup p=some o∧o.cls=.type "tuple"∧o.dict=none) ∨
   (T="dict"∧((∃kvs,H p=some (.dK kvs))∨∃kvs,H p=some (.dT kvs)))∨(T="set"∧∃S n,H p=some (.set S n))
 | _=>False
theorem J2 {pins:List (Addr×Obj)} {σ:St} {H:Hp} {s:Shared} {T:String} {x:V} {v:Value} (I:Inv X pins σ H s) (r:RelV x v) (ty:tyV X.K T x H) :
  s.TypeIs v T∧∀a,v=.ref a→∃ob,s.heap.get? a=some ob∧ob.dict=none:=by
 cases x with
 | str z =>
  obtain⟨t,rfl⟩:=r
  cases(show T="str" from ty)
  exact⟨typeIs_str s z t,fun _ e=>nomatch e⟩
 | int i =>
  obtain⟨t,rfl⟩:=r
  cases(show T="int" from ty)
  exact⟨typeIs_int s i t,fun _ e=>nomatch e⟩
 | ref p =>
  cases r
  rcases ty with⟨rfl,xs,hq⟩ | ⟨rfl,o,hk,hc,hd⟩ | ⟨rfl,hk⟩ | ⟨rfl,S,n,hk⟩
  ·obtain⟨its,_,pl,_⟩:=I.list hq
   refine⟨pl.isList.typeIs,fun a e=>?_⟩
   cases e
   obtain⟨o,n,e,c,hd,_⟩:=pl
   exact⟨o,e,hd⟩
  ·refine⟨⟨o,I.kIn p o hk,hc⟩,fun a e=>?_⟩
   cases e
   exact⟨o,I.kIn _ o hk,hd⟩
  ·have z:∃o,s.heap.get? p=some o∧o.ExactDict:=by
    rcases hk with⟨kvs,hk⟩ | ⟨kvs,hk⟩
    ·obtain⟨_,_,_,_,o,_,_,e,ex,_⟩:=I.hok p _ hk
     exact⟨o,e,ex⟩
    ·obtain⟨_,_,_,_,o,_,_,e,ex,_⟩:=I.hok p _ hk
     exact⟨o,e,ex⟩
   obtain⟨o,e,ex⟩:=z
   refine⟨⟨o,e,ex.1⟩,fun a e2=>?_⟩
   cases e2
   exact⟨o,e,ex.2.1⟩
  ·obtain⟨o,_,_,_,e,ex,_⟩:=I.hok p _ hk
   refine⟨⟨o,e,ex.1⟩,fun a e2=>?_⟩
   cases e2
   exact⟨o,e,ex.2.1⟩
 | _=>exact False.elim ty
noncomputable def Vf (K:PySem.W.Frag) (T:String) (r:V→List V→Hp→VK→Prop) (to:TE):TE:=fun σ H Q=>to σ H fun x H1=>tyV K T x H1∧r x [] H1 Q
noncomputable def tBM (K:PySem.W.Frag) (T:String) (r:V→List V→Hp→VK→Prop) (to:TE) (t:TA):TE:=fun σ H Q=>to σ H fun x H1=>tyV K T x H1∧t σ H1 fun xs H2=>r x xs H2 Q
variable {o e : Expr} {es : List Expr} {to : TE} {t : TA} {name : Str} {apos cpos : Pos} {T id : String} {r : V → List V → Hp → VK → Prop}
theorem Pm (pa:PlainAttrs T) (slot:Slot T name id) (hty:typeOf (.builtin id)=pure (.type "method_descriptor")) (hm:MtR X id r) (ho:PE X o to)
  (hbase:attributeBase o name X.env (eval o X.env)=eval o X.env:=by rfl) (hline:(apos.endLine==cpos.line)=true:=by rfl):PE X (.Call (.Attribute o name apos) [] [] cpos) (Vf X.K T r to):=by
 intro pins s σ H Q I h
 refine wpAny_Call_method0_late hbase hline (thn (ho pins s σ H _ I h) fun v s1 ⟨x,H1,I1,r1,ty,q1⟩=>?_)
 obtain⟨h1,h2⟩:=J2 I1 r1 ty
 exact⟨T,id,pa,slot,hty,h1,h2,EB rfl (PySem.evalArgs_none (hm pins s1 σ H1 x [] v [] Q I1 r1 .nil q1))⟩
theorem Pn (pa:PlainAttrs T) (slot:Slot T name id) (hty:typeOf (.builtin id)=pure (.type "method_descriptor")) (hm:MtR X id r) (ho:PE X o to) (ha:PA X (e::es) t)
  (hbase:attributeBase o name X.env (eval o X.env)=eval o X.env:=by rfl)
  (hfew:((backTo cpos (starEach (e::es) X.env)).all (fun x=>!x.1)&&(backToKw cpos (keywordEach [] X.env)).all (fun x=>x.1.isSome)
   && decide ((e::es).length+([]:List Keyword).length+(if([]:List Keyword).isEmpty then 0 else 1)<30))=true:=by rfl)
  (hline:(apos.endLine==cpos.line)=true:=by rfl) (hs:starEach (e::es) X.env=(false,eval e X.env)::starEach es X.env:=by rfl) (hplain:(backTo cpos (starEach es X.env)).any (·.1)=false:=by rfl) :
  PE X (.Call (.Attribute o name apos) (e::es) [] cpos) (tBM X.K T r to t):=by
 intro pins s σ H Q I h
 refine wpAny_Call_method_late hbase hfew hline rfl (thn (ho pins s σ H _ I h) fun v s1 ⟨x,H1,I1,r1,ty,q1⟩=>?_)
 obtain⟨h1,h2⟩:=J2 I1 r1 ty
 refine⟨T,id,pa,slot,hty,h1,h2,?_⟩
 have hA:=ha cpos pins s1 σ H1 _ I1 q1
 rw[hs]at hA ⊢
 refine EB (by show(false || (backTo cpos (starEach es X.env)).any (·.1))=false;rw[hplain]<;>rfl) (HZ ?_)
 exact thn hA fun us s2 ⟨vs,H2,I2,r2,q2⟩=>hm pins s2 σ H2 x vs v us Q I2 r1 r2 q2
end
end L2
namespace L2
open PySem PySem.Spec PyProof.Rows
noncomputable def MtM (X:Cx) (id:String) (r:V→List V→Hp→VK→Prop):Prop :=
 ∀(pins:List (Addr×Obj)) (s:Shared) (σ:St) (H:Hp) (x:V) (xs:List V) (v:Value) (us:List Value) (Q:VK),Inv X pins σ H s→RelV x v→bq xs us→r x xs H Q →
  wpAny (model X.prog X.w) X.A (call (.builtin id) (v::us)) (EP X pins σ Q) X.xe s
theorem bq.one:∀{x:V} {us:List Value},bq [x] us→∃u,us=[u]∧RelV x u
 | _,_,.cons r .nil=>⟨_,rfl,r⟩
theorem bq.zero:∀{us:List Value},bq [] us→us=[]
 | _,.nil=>rfl
theorem bq.dropLast {xs:List V} {us:List Value} (h:bq xs us):bq xs.dropLast us.dropLast:=by
 induction h with
 | nil=>exact .nil
 | cons r t ih =>
  cases t with
  | nil=>exact .nil
  | cons q t'=>exact .cons r ih
theorem bq.eraseIdx:∀{xs:List V} {us:List Value} (i:Nat),bq xs us→bq (xs.eraseIdx i) (us.eraseIdx i)
 | _,_,_,.nil=>.nil
 | _,_,0,.cons _ t=>t
 | _,_,i+1,.cons r t=>.cons r (bq.eraseIdx i t)
theorem bq.reverse {xs:List V} {us:List Value} (h:bq xs us):bq xs.reverse us.reverse:=by
 induction h with
 | nil=>exact .nil
 | cons r t ih=>rw[GJ,GJ];exact bq.append ih (.cons r .nil)
theorem bq.rep {xs:List V} {us:List Value} (h:bq xs us):∀k:Nat,bq (List.replicate k xs).flatten (List.replicate k us).flatten
 | 0=>.nil
 | k+1=>by
  rw[DA,DA,EL,EL]
  exact bq.append h (bq.rep h k)
theorem Cv {α:Type} (l:List α):l.eraseIdx (l.length-1)=l.dropLast:=by
 induction l with
 | nil=>rfl
 | cons a r ih =>
  cases r with
  | nil=>rfl
  | cons b r =>
   have e:(a::b::r).length-1=((b::r).length-1)+1:=by
    have h1:(a::b::r).length=r.length+2:=rfl
    have h2:(b::r).length=r.length+1:=rfl
    lia
   rw[e,HA,ih]
   all_goals rfl
theorem wu {α:Type}:∀(l:List α) (i:Nat),(l.eraseIdx i).length≤l.length
 | [],_=>AF _
 | _::_,0=>FP _
 | _::r,i+1=>Nat.succ_le_succ (wu r i)
theorem foldl_rep (its:List Value):∀(k:Nat) (acc:List Value),
  List.foldl (fun x1 x2=>x1++x2) acc.toArray (List.replicate k its.toArray)=(acc++(List.replicate k its).flatten).toArray
 | 0,acc=>by simp
 | k+1,acc=>by
  have e:acc.toArray++its.toArray=(acc++its).toArray:=by simp
  have e2:(acc++its)++(List.replicate k its).flatten=acc++(List.replicate (k+1) its).flatten:=by
   rw[DA,EL,FE]
  rw[←e2,←foldl_rep its k (acc++its),←e,DA,List.foldl_cons]
section
variable {X : Cx} {pins : List (Addr × Obj)} {σ : St} {H : Hp} {s : Shared} {l b : Addr} {xs ys zs : List V}
theorem Inv.lset {its its':List Value} {n:Nat} {f:Array Value→Array Value} {t':Nat} (I:Inv X pins σ H s) (hH:H l=some (.lst xs))
  (e:s.heap.get? l=some {cls:=.type "list",data:=.seq its.toArray n}) (hf:f its.toArray=its'.toArray) (hv:bq ys its') (hz:ys.length≤sizeLine) :
  Inv X pins σ (upd H l (.lst ys)) {s with heap:=s.heap.update l (Obj.mapSeq f),toks:=t'}:=by
 have q:=PySem.IsL.update e f
 rw[hf]at q
 refine I.write (x:=l) (e:=l) (by rw[hH];exact trivial) (.inl rfl) (fun b' u hb hu=>(FD s.heap (Obj.mapSeq f) (Ne.symm hb)).trans hu) ⟨_,q⟩ ?_
 exact⟨hz,its',_,hv,q⟩
theorem Inv.lnew {its:List Value} {t':Nat} (I:Inv X pins σ H s) (hv:bq ys its) (hz:ys.length≤sizeLine) :
  Inv X pins σ (upd H s.heap.objs.size (.lst ys)) {s with heap:=s.heap.push {cls:=.type "list",data:=.seq its.toArray},toks:=t'} :=
 I.laid (fun _ _ q=>AC _ q) (AF _) ⟨hz,its,0,hv,AN _ rfl⟩
theorem Inv.fresh (I:Inv X pins σ H s):H s.heap.objs.size=none:=I.hok.fresh (AF _)
theorem Inv.lstM (I:Inv X pins σ H s) (hH:H l=some (.lst xs)):xs.length≤sizeLine∧∃(its:List Value) (n:Nat),bq xs its∧xs.length=its.length∧s.heap.get? l=some {cls:=.type "list",data:=.seq its.toArray n}:=by
 obtain⟨z,its,n,r,e⟩:=I.hok l _ hH
 exact⟨z,its,n,r,r.length,e⟩
theorem Au {n:Nat} (h:n≤sizeLine):Builtin.List.listTooLong n=false:=by
 unfold Builtin.List.listTooLong
 exact decide_eq_false (by lia)
end
section
variable {X : Cx}
noncomputable def rAppend:V→List V→Hp→VK→Prop:=fun x vs H Q=>∃l xs y,x=.ref l∧vs=[y]∧H l=some (.lst xs)∧xs.length<sizeLine∧Q .non (upd H l (.lst (xs++[y])))
theorem Eb:MtM X "list.append" rAppend:=by
 intro pins s σ H x vs v us Q I rx rv h
 obtain⟨l,xs,y,rfl,rfl,hH,hz,q⟩:=h
 cases rx
 obtain⟨u,rfl,ru⟩:=rv.one
 obtain⟨z,its,n,r,hl,e⟩:=I.lstM hH
 refine GB F.slot_list_append ⟨_,e,rfl⟩ F.entry_list_append (F.args_list_append_2 _ _) (PySem.list_append l its.toArray n u (by rw[AD];lia)) ⟨e,?_⟩
 refine⟨.non,_,I.lset (its':=its++[u]) hH e (by simp) (r.append (.cons ru .nil)) ?_,rfl,q⟩
 rw[CC,List.length_singleton]
 lia
noncomputable def rPop:V→List V→Hp→VK→Prop:=fun x vs H Q=>∃l xs y,x=.ref l∧vs=[]∧H l=some (.lst xs)∧xs[xs.length-1]? = some y∧Q y (upd H l (.lst xs.dropLast))
theorem Po:MtM X "list.pop" rPop:=by
 intro pins s σ H x vs v us Q I rx rv h
 obtain⟨l,xs,y,rfl,rfl,hH,hy,q⟩:=h
 cases rx
 have hus:=rv.zero
 subst hus
 obtain⟨z,its,n,r,hl,e⟩:=I.lstM hH
 obtain⟨u,hu,ru⟩:=r.get hy
 have hy':its.toArray[its.toArray.size-1]? = some u:=by
  show its.toArray[its.length-1]? = some u
  rw[←EJ,←hl]
  exact hu
 refine GB HR ⟨_,e,rfl⟩ F.entry_list_pop (F.args_list_pop_1 _) (MeetsSeq.list_pop_last l its.toArray n u hy' (by rw[AD];lia)) ⟨e,?_⟩
 refine⟨y,_,I.lset (its':=its.dropLast) hH e ?_ r.dropLast ?_,ru,q⟩
 ·show its.toArray.eraseIdxIfInBounds (its.toArray.size-1)=its.dropLast.toArray
  rw[AD,FI,Cv]
 ·rw[List.length_dropLast]
  lia
noncomputable def rPopAt:V→List V→Hp→VK→Prop:=fun x vs H Q=>∃l xs i k y,x=.ref l∧vs=[.int i]∧H l=some (.lst xs) ∧ -(2 ^ 63)≤i∧i<2 ^ 63∧seqIndex? i xs.length=some k∧xs[k]? = some y∧Q y (upd H l (.lst (xs.eraseIdx k)))
theorem Hl:MtM X "list.pop" rPopAt:=by
 intro pins s σ H x vs v us Q I rx rv h
 obtain⟨l,xs,i,k,y,rfl,rfl,hH,h1,h2,hk,hy,q⟩:=h
 cases rx
 obtain⟨u,rfl,ru⟩:=rv.one
 obtain⟨t,rfl⟩:=ru
 obtain⟨z,its,n,r,hl,e⟩:=I.lstM hH
 obtain⟨w,hw,rw'⟩:=r.get hy
 refine GB HR ⟨_,e,rfl⟩ F.entry_list_pop (F.args_list_pop_2 _ _)
  (MeetsSeq.list_pop_at l its.toArray n i t k w (fitsIndex_both h1 h2) (by rw[AD,←hl];exact hk) (by rw[←EJ];exact hw) (by rw[AD];lia)) ⟨e,?_⟩
 refine⟨y,_,I.lset (its':=its.eraseIdx k) hH e ?_ (r.eraseIdx k) ?_,rw',q⟩
 ·show its.toArray.eraseIdxIfInBounds k=(its.eraseIdx k).toArray
  rw[FI]
 ·have:=wu xs k
  lia
theorem len_rep {α:Type} (xs:List α) (k:Nat):(List.replicate k xs).flatten.length=k*xs.length:=by
 induction k with
 | zero=>simp
 | succ k ih=>rw[DA,EL,CC,ih,Nat.succ_mul,Nat.add_comm]
end
end L2
namespace L2
open PySem PySem.Spec PyProof.Rows
section
variable {κ : Type} [DecidableEq κ]
noncomputable def Av (kvs:List (κ×V)) (k:κ):Option V:=(kvs.find? fun kv=>decide (kv.1=k)).map (·.2)
noncomputable def putK (kvs:List (κ×V)) (k:κ) (v:V):List (κ×V) :=
 if(kvs.any fun kv=>decide (kv.1=k))=true then kvs.map (fun kv=>if kv.1=k then(kv.1,v)else kv)else kvs++[(k,v)]
theorem pf {p:κ×V} {r:List (κ×V)} {k:κ} (e:p.1=k):Av (p::r) k=some p.2:=by simp[Av,EG,e]
theorem ph {p:κ×V} {r:List (κ×V)} {k:κ} (e:¬p.1=k):Av (p::r) k=Av r k:=by simp[Av,EG,e]
theorem Aw (k:κ):∀kvs:List (κ×V),(kvs.any fun kv=>decide (kv.1=k))=(Av kvs k).isSome
 | []=>rfl
 | p::r=>by
  rw[CK]
  by_cases e:p.1=k
  ·simp only[pf e,decide_eq_true e,Bool.true_or,Option.isSome_some]
  ·rw[ph e,decide_eq_false e,Bool.false_or];exact Aw k r
theorem md (kvs:List (κ×V)) (k:κ) (v:V):(putK kvs k v).length≤kvs.length+1:=by
 unfold putK
 split
 ·rw[AG];lia
 ·rw[CC,BH,CF];lia
theorem Jt.isSome_eq {o:Option V} {u:Option Value} (r:Jt o u):o.isSome=u.isSome:=by
 cases o with
 | none=>cases u with
  | none=>rfl
  | some _=>exact(show False from r).elim
 | some _=>cases u with
  | none=>exact(show False from r).elim
  | some _=>rfl
theorem Jt.getD {o:Option V} {u:Option Value} {d:V} {d':Value} (r:Jt o u) (rd:RelV d d'):RelV (o.getD d) (u.getD d'):=by
 cases o with
 | none=>cases u with
  | none=>exact rd
  | some _=>exact(show False from r).elim
 | some _=>cases u with
  | none=>exact(show False from r).elim
  | some _=>exact r
theorem KV.val {kvs:List (κ×V)} {vs:List (κ×Value)} (r:KV kvs vs) (k:κ):Jt (Av kvs k) (valueAt vs k):=by
 unfold KV at r
 induction r with
 | nil=>exact True.intro
 | @cons p q ps qs h t ih =>
  obtain⟨h1,h2⟩:=h
  by_cases e:p.1=k
  ·have e':q.1=k:=h1.symm.trans e
   have b:valueAt (q::qs) k=some q.2:=by simp[valueAt,EG,e']
   rw[pf e,b];exact h2
  ·have e':¬q.1=k:=fun z=>e (h1.trans z)
   have b:valueAt (q::qs) k=valueAt qs k:=by simp[valueAt,EG,e']
   rw[ph e,b];exact ih
theorem KV.any {kvs:List (κ×V)} {vs:List (κ×Value)} (r:KV kvs vs) (k:κ):(kvs.any fun kv=>decide (kv.1=k))=vs.any fun kv=>decide (kv.1=k):=by
 unfold KV at r
 induction r with
 | nil=>rfl
 | cons h t ih=>rw[CK,CK,ih,h.1]
theorem KV.repl {kvs:List (κ×V)} {vs:List (κ×Value)} (r:KV kvs vs) (k:κ) {y:V} {u:Value} (ry:RelV y u) :
  KV (kvs.map fun kv=>if kv.1=k then(kv.1,y)else kv) (vs.map fun kv=>if kv.1=k then(kv.1,u)else kv):=by
 unfold KV at r ⊢
 induction r with
 | nil=>exact .nil
 | @cons p q ps qs h t ih =>
  rw[AR,AR]
  refine .cons ?_ ih
  obtain⟨h1,h2⟩:=h
  by_cases e:p.1=k
  ·rw[if_pos e,if_pos (h1.symm.trans e)];exact⟨h1,ry⟩
  ·rw[if_neg e,if_neg (fun z=>e (h1.trans z))];exact⟨h1,h2⟩
theorem KV.put {kvs:List (κ×V)} {vs:List (κ×Value)} (r:KV kvs vs) (k:κ) {y:V} {u:Value} (ry:RelV y u):KV (putK kvs k y) (stored vs k u):=by
 unfold putK stored
 rw[r.any k]
 by_cases e:(vs.any fun kv=>decide (kv.1=k))=true
 ·rw[if_pos e,if_pos e];exact r.repl k ry
 ·rw[if_neg e,if_neg e];exact Paired.snoc r ⟨rfl,ry⟩
theorem KV.length {kvs:List (κ×V)} {vs:List (κ×Value)} (r:KV kvs vs):kvs.length=vs.length:=DE r
end
theorem Cw {P:Program} {w:World} {k:Key} {u:Value} (r:RelV (kV k) u):(bz P w).is k u=true:=by
 cases k with
 | inl i=>obtain⟨t,e⟩:=(show ∃t,u=Value.int i t from r);subst e;exact zg P w i t
 | inr x=>obtain⟨t,e⟩:=(show ∃t,u=Value.str x t from r);subst e;exact zh P w x t
theorem wx {P:Program} {w:World}:∀{ks:List Key} {us:List Value},bq (ks.map kV) us→ItemsAre (bz P w) ks us
 | [],_,r=>by rw[DC]at r;cases r;exact .nil
 | k::ks,_,r=>by
  rw[AR]at r
  cases r with
  | cons h t=>exact .cons (Cw h) (wx t)
noncomputable abbrev KT (H:Hp):List (List Key×V)→List (List Key×Addr×Value)→Prop:=Paired fun p q=>p.1=q.1∧H q.2.1=some (.tup (p.1.map kV))∧RelV p.2 q.2.2
theorem KT.val {H:Hp} {kvs:List (List Key×V)} {xs:List (List Key×Addr×Value)} (r:KT H kvs xs) (k:List Key):Jt (Av kvs k) ((atKey xs k).map (·.2)):=by
 induction r with
 | nil=>exact True.intro
 | @cons p q ps qs h t ih =>
  obtain⟨h1,_,h2⟩:=h
  by_cases e:p.1=k
  ·have e':q.1=k:=h1.symm.trans e
   have b:atKey (q::qs) k=some q.2:=by simp[atKey,EG,e']
   rw[pf e,b];exact h2
  ·have e':¬q.1=k:=fun z=>e (h1.trans z)
   have b:atKey (q::qs) k=atKey qs k:=by simp[atKey,EG,e']
   rw[ph e,b];exact ih
theorem KT.repl {H:Hp} {kvs:List (List Key×V)} {xs:List (List Key×Addr×Value)} (r:KT H kvs xs) (k:List Key) {y:V} {u:Value} (ry:RelV y u) :
  KT H (kvs.map fun kv=>if kv.1=k then(kv.1,y)else kv) (xs.map (putAt k u)):=by
 induction r with
 | nil=>exact .nil
 | @cons p q ps qs h t ih =>
  rw[AR,AR]
  refine .cons ?_ ih
  obtain⟨h1,h2,h3⟩:=h
  unfold putAt
  by_cases e:p.1=k
  ·rw[if_pos e,if_pos (h1.symm.trans e)];exact⟨h1,h2,ry⟩
  ·rw[if_neg e,if_neg (fun z=>e (h1.trans z))];exact⟨h1,h2,h3⟩
theorem KT.put {H:Hp} {kvs:List (List Key×V)} {xs:List (List Key×Addr×Value)} (r:KT H kvs xs) (k:List Key) {b:Addr} {y:V} {u:Value} (hb:H b=some (.tup (k.map kV))) (ry:RelV y u) :
  KT H (putK kvs k y) (storedH xs k b u):=by
 have e:(kvs.any fun kv=>decide (kv.1=k))=(atKey xs k).isSome:=by
  rw[Aw,(r.val k).isSome_eq,GK]
 unfold putK storedH
 rw[e]
 by_cases q:(atKey xs k).isSome=true
 ·rw[if_pos q,if_pos q];exact r.repl k ry
 ·rw[if_neg q,if_neg q];exact Paired.snoc r ⟨rfl,hb,ry⟩
theorem KT.keeps {H H':Hp} {kvs:List (List Key×V)} {xs:List (List Key×Addr×Value)} (r:KT H kvs xs) (ht:∀b ys,H b=some (.tup ys)→H' b=some (.tup ys)):KT H' kvs xs :=
 Paired.mapP r fun _ _ z=>⟨z.1,ht _ _ z.2.1,z.2.2⟩
section
variable {P : Program} {w : World} {H : Hp} {h : Heap} {a : Addr}
theorem Pp {u:HO} (ok:HOk P w H h) (e:Rd H a u):gv P w H h a u:=e.ok ok
theorem Ec {kvs:List (Key×V)} (ok:HOk P w H h) (e:Rd H a (.dK kvs)):kvs.length≤sizeLine∧(a==sysModules)=false∧∃vs,KV kvs vs∧h.DictOf (bz P w) a vs :=
 show gv P w H h a (.dK kvs)from Pp ok e
theorem Mf {kvs:List (Key×V)} (ok:HOk P w H h) (e:H a=some (.dK kvs)):kvs.length≤sizeLine∧(a==sysModules)=false∧∃vs,KV kvs vs∧h.DictOf (bz P w) a vs:=Ec ok (.inl e)
theorem wy {ks:List Key} (ok:HOk P w H h) (e:H a=some (.tup (ks.map kV))):(tupleKind (bz P w)).is h ks a:=by
 obtain⟨_,its,r,o,h1,h2,_,n,h3⟩:=(show gv P w H h a (.tup (ks.map kV))from ok a _ e)
 exact⟨o,its.toArray,n,h1,h2,h3,by simpa using wx r⟩
theorem Ed {kvs:List (List Key×V)} (ok:HOk P w H h) (e:Rd H a (.dT kvs)):kvs.length≤sizeLine∧(a==sysModules)=false ∧
  ∃xs,KT H kvs xs∧h.DictOfH (tupleKind (bz P w)) a xs:=by
 obtain⟨z,y,xs,r,o,es,ep,h1,h2,h3,h4,h5⟩:=(show gv P w H h a (.dT kvs)from Pp ok e)
 refine⟨z,y,xs,r,o,es,ep,h1,h2,h3,h4,fun x hx=>?_,h5⟩
 have all:∀{l:List (List Key×V)} {m:List (List Key×Addr×Value)},KT H l m→∀x∈m,(tupleKind (bz P w)).is h x.1 x.2.1:=by
  intro l m q
  induction q with
  | nil=>intro x hx;exact nomatch hx
  | @cons p q ps qs hq t ih =>
   intro x hx
   rcases AO.mp hx with e | hx
   ·subst e
    exact wy ok (by rw[←hq.1];exact hq.2.1)
   ·exact ih x hx
 exact all r x hx
theorem Tu {kvs:List (List Key×V)} (ok:HOk P w H h) (e:H a=some (.dT kvs)):kvs.length≤sizeLine∧(a==sysModules)=false ∧
  ∃xs,KT H kvs xs∧h.DictOfH (tupleKind (bz P w)) a xs:=Ed ok (.inl e)
end
noncomputable def Hm (H:Hp) (a:Addr) (y:V) (r:Option V):Prop :=
 (∃kvs k,Rd H a (.dK kvs)∧y=kV k∧r=Av kvs k)∨∃kvs k b,Rd H a (.dT kvs)∧y=.ref b∧H b=some (.tup (k.map kV))∧r=Av kvs k
noncomputable def Sw (H:Hp) (a:Addr) (y v:V) (H':Hp):Prop :=
 (∃kvs k,H a=some (.dK kvs)∧y=kV k∧kvs.length<sizeLine∧H'=upd H a (.dK (putK kvs k v))) ∨
 ∃kvs k b,H a=some (.dT kvs)∧y=.ref b∧H b=some (.tup (k.map kV))∧kvs.length<sizeLine∧H'=upd H a (.dT (putK kvs k v))
theorem Hm.k {H:Hp} {a:Addr} {kvs:List (Key×V)} {k:Key} (e:H a=some (.dK kvs)):Hm H a (kV k) (Av kvs k):=.inl ⟨kvs,k,.inl e,rfl,rfl⟩
theorem Sw.k {H:Hp} {a:Addr} {kvs:List (Key×V)} {k:Key} {v:V} (e:H a=some (.dK kvs)) (hl:kvs.length<sizeLine):Sw H a (kV k) v (upd H a (.dK (putK kvs k v))):=.inl ⟨kvs,k,e,rfl,hl,rfl⟩
section
variable {X : Cx} {pins : List (Addr × Obj)} {σ : St} {H : Hp} {s : Shared} {a : Addr} {y v : V} {u r : Value} {o : Option V} {A : Around} {E : Value → Shared → Prop}
theorem Inv.big (I:Inv X pins σ H s):sysModules<s.heap.objs.size:=by
 have h:mainGlobals<s.heap.objs.size:=(I.mod.glob.keeps I.bk).lt
 exact Nat.lt_trans (by decide) h
theorem Wm {Q:Value→Shared→Prop} (hu:A.units+1<cLine) (I:Inv X pins σ H s) (g:Hm H a y o) (ry:RelV y u) (h:∀s',Inv X pins σ H s'→Q (.bool o.isSome) s') :
  wpAny (model X.prog X.w) A (compareOp .In u (.ref a)) Q E s:=by
 rcases g with⟨kvs,k,e,ey,l⟩ | ⟨kvs,k,b,e,ey,eb,l⟩
 ·subst ey
  obtain⟨z,hd,vs,rel,dd⟩:=Ec I.hok e
  refine wpAny_in_of (Cw ry) hd dd.mapOf ?_
  rw[←(rel.val k).isSome_eq,←l]
  exact h _ (I.tok _)
 ·subst ey
  cases(show u=Value.ref b from ry)
  obtain⟨z,hd,xs,rel,dd⟩:=Ed I.hok e
  refine wpAny_in_heap (EX hu) (wy I.hok eb) hd dd ?_
  have q:=(rel.val k).isSome_eq
  rw[GK]at q
  rw[←q,←l]
  exact h _ (I.tok _)
theorem Mg {Q:Value→Shared→Prop} (hu:A.units+1<cLine) (I:Inv X pins σ H s) (g:Hm H a y o) (ry:RelV y u) (h:∀s',Inv X pins σ H s'→Q (.bool (!o.isSome)) s') :
  wpAny (model X.prog X.w) A (compareOp .NotIn u (.ref a)) Q E s:=by
 rcases g with⟨kvs,k,e,ey,l⟩ | ⟨kvs,k,b,e,ey,eb,l⟩
 ·subst ey
  obtain⟨z,hd,vs,rel,dd⟩:=Ec I.hok e
  refine wpAny_notIn_of (Cw ry) hd dd.mapOf ?_
  rw[←(rel.val k).isSome_eq,←l]
  exact h _ (I.tok _)
 ·subst ey
  cases(show u=Value.ref b from ry)
  obtain⟨z,hd,xs,rel,dd⟩:=Ed I.hok e
  refine wpAny_notIn_heap (EX hu) (wy I.hok eb) hd dd ?_
  have q:=(rel.val k).isSome_eq
  rw[GK]at q
  rw[←q,←l]
  exact h _ (I.tok _)
theorem zl {h':Heap} {t':Nat} {ob:HO} (I:Inv X pins σ H s) (mu:Mut (H a)) (hs:Heap.SameBut a s.heap h') (he:∃q,h'.get? a=some q) (new:gv X.prog X.w (upd H a ob) h' a ob) :
  Inv X pins σ (upd H a ob) {s with heap:=h',toks:=t'} :=
 I.write (x:=a) (e:=a) mu (.inl rfl) (fun b q hb z=>(hs.2 b hb).trans z) he new
theorem J3 {P:Program} {w:World} {H':Hp} {h':Heap} {kvs:List (Key×V)} {vs:List (Key×Value)} (z:kvs.length≤sizeLine) (hd:(a==sysModules)=false) (rel:KV kvs vs) (dd:h'.DictOf (bz P w) a vs) :
  gv P w H' h' a (.dK kvs):=⟨z,hd,vs,rel,dd⟩
theorem Ee {H':Hp} {Q:Unit→Shared→Prop} (hu:A.units+1<cLine) (I:Inv X pins σ H s) (g:Sw H a y v H') (ry:RelV y u) (rv:RelV v r) (h:∀s',Inv X pins σ H' s'→Q () s') :
  wpAny (model X.prog X.w) A (setItem (.ref a) u r) Q E s:=by
 rcases g with⟨kvs,k,e,ey,l,eH⟩ | ⟨kvs,k,b,e,ey,eb,l,eH⟩
 ·subst ey eH
  obtain⟨z,hd,vs,rel,dd⟩:=Mf I.hok e
  have hz:vs.length≤sizeLine:=by rw[←rel.length];exact z
  have hl:(putK kvs k v).length≤sizeLine:=by have:=md kvs k v;lia
  refine wpAny_setItem_pairs (hsz:=hz) (Cw ry) dd fun h' dd' hs=>h _ ?_
  have he:∃q,h'.get? a=some q:=let ⟨q,_,_,hq,_⟩:=dd';⟨q,hq⟩
  exact zl I (by rw[e];exact True.intro) hs he (J3 hl hd (rel.put k rv) dd')
 ·subst ey eH
  cases(show u=Value.ref b from ry)
  obtain⟨z,hd,xs,rel,dd⟩:=Tu I.hok e
  have hz:xs.length≤sizeLine:=by rw[←DE rel];exact z
  have hl:(putK kvs k v).length≤sizeLine:=by have:=md kvs k v;lia
  refine wpAny_setItem_heap (hsz:=hz) (EX hu) (wy I.hok eb) dd fun h' dd' hs=>h _ ?_
  obtain⟨q,es,ep,hq,h2,h3,h4,_,h5⟩:=dd'
  refine zl I (by rw[e];exact True.intro) hs ⟨q,hq⟩ ⟨hl,hd,_,(rel.put k eb rv).keeps fun c ys ec=>?_,q,es,ep,hq,h2,h3,h4,h5⟩
  rw[ay (ma ec e (fun z=>nomatch z))]
  exact ec
end
theorem Ax {P:Program} {w:World} {H:Hp} (h:Heap) (hb:sysModules<h.objs.size):gv P w H (h.push {cls:=.type "dict",data:=.dict #[]}) h.objs.size (.dK []) :=
 ⟨CV _,beq_eq_false_iff_ne.mpr (Ne.symm (AW hb)),[],.nil,Heap.DictOf.new h⟩
theorem Hn {P:Program} {w:World} {H:Hp} (h:Heap) (hb:sysModules<h.objs.size):gv P w H (h.push {cls:=.type "dict",data:=.dict #[]}) h.objs.size (.dT []) :=
 ⟨CV _,beq_eq_false_iff_ne.mpr (Ne.symm (AW hb)),[],.nil,_,#[],0,AN _ rfl,⟨rfl,rfl,rfl⟩,rfl,rfl,List.nodup_nil⟩
noncomputable def tDNewK:TE:=fun _ H Q=>∀p,H p=none→Q (.ref p) (upd H p (.dK []))
noncomputable def tDNewT:TE:=fun _ H Q=>∀p,H p=none→Q (.ref p) (upd H p (.dT []))
section
variable {X : Cx} {pos : Pos}
theorem Ho:PE X (.Dict [] [] pos) tDNewK:=fun pins s σ H Q I h =>
 wpAny_Dict_empty ⟨.ref s.heap.objs.size,_,I.laid (a:=s.heap.objs.size) (o:=.dK []) (t':=s.toks) (fun _ _ q=>AC _ q) (AF _) (Ax s.heap I.big),rfl,h _ (I.hok.fresh (AF _))⟩
theorem Hq:PE X (.Dict [] [] pos) tDNewT:=fun pins s σ H Q I h =>
 wpAny_Dict_empty ⟨.ref s.heap.objs.size,_,I.laid (a:=s.heap.objs.size) (o:=.dT []) (t':=s.toks) (fun _ _ q=>AC _ q) (AF _) (Hn s.heap I.big),rfl,h _ (I.hok.fresh (AF _))⟩
end
noncomputable def Ef:List (TE×TE)→St→Hp→(List (V×V)→Hp→Prop)→Prop
 | [],_,H,Q=>Q [] H
 | (tk,tv)::r,σ,H,Q=>tk σ H fun x H1=>tv σ H1 fun y H2=>Ef r σ H2 fun ps H3=>Q ((x,y)::ps) H3
noncomputable abbrev VV:List (V×V)→List (Value×Value)→Prop:=Paired fun p q=>RelV p.1 q.1∧RelV p.2 q.2
noncomputable def PPs (X:Cx) (pos:Pos) (keys:List (Option Expr)) (values:List Expr) (trs:List (TE×TE)):Prop :=
 ∀(pins:List (Addr×Obj)) (s:Shared) (σ:St) (H:Hp) (Q:List (V×V)→Hp→Prop),Inv X pins σ H s→Ef trs σ H Q →
  wpAny (model X.prog X.w) X.A (evalPairs (pairTrees keys values X.env pos)) (fun vs s'=>∃ps H',Inv X pins σ H' s'∧VV ps vs∧Q ps H') X.xe s
theorem Mh {X:Cx} {pos:Pos}:PPs X pos [] [] []:=fun pins s σ H Q I h=>pairTrees_nil_walk ⟨[],H,I,.nil,h⟩
theorem Ay {X:Cx} {pos:Pos} {k v:Expr} {ks:List (Option Expr)} {vs:List Expr} {tk tv:TE} {trs:List (TE×TE)} (hk:PE X k tk) (hv:PE X v tv) (hr:PPs X pos ks vs trs) :
  PPs X pos (some k::ks) (v::vs) ((tk,tv)::trs):=fun pins s σ H Q I h =>
 pairTrees_cons_walk (thn (hk pins s σ H _ I h) fun u s1 ⟨x,H1,I1,rx,q1⟩=>thn (hv pins s1 σ H1 _ I1 q1) fun w2 s2 ⟨y,H2,I2,ry,q2⟩ =>
  thn (hr pins s2 σ H2 _ I2 q2) fun ws s3 ⟨ps,H3,I3,rel,q3⟩=>⟨(x,y)::ps,H3,I3,.cons ⟨rx,ry⟩ rel,q3⟩)
noncomputable def qg (kvs more:List (Key×V)):List (Key×V):=more.foldl (fun acc kv=>putK acc kv.1 kv.2) kvs
theorem KV.merge:∀{more:List (Key×V)} {rs:List (Key×Value)} {kvs:List (Key×V)} {vs:List (Key×Value)},KV more rs→KV kvs vs→KV (qg kvs more) (merged vs rs):=by
 intro more rs kvs vs r
 unfold KV at r
 induction r generalizing kvs vs with
 | nil=>intro q;exact q
 | @cons p q ps qs h t ih =>
  intro r0
  have e:KV (putK kvs p.1 p.2) (stored vs q.1 q.2):=by
   have:=r0.put p.1 h.2
   rw[←h.1];exact this
  exact ih e
theorem nc:∀(more kvs:List (Key×V)),(qg kvs more).length≤kvs.length+more.length
 | [],kvs=>by show kvs.length≤kvs.length+0;lia
 | p::r,kvs=>by
  have h1:=nc r (putK kvs p.1 p.2)
  have h2:=md kvs p.1 p.2
  show(qg (putK kvs p.1 p.2) r).length≤_
  rw[BH];lia
theorem sy {P:Program} {w:World}:∀{kvs:List (Key×V)} {ws:List (Value×Value)},VV (kvs.map fun kv=>(kV kv.1,kv.2)) ws→∃rs,Carries (bz P w) ws rs∧KV kvs rs
 | [],_,r=>by rw[DC]at r;cases r;exact⟨[],True.intro,.nil⟩
 | p::kvs,_,r=>by
  rw[AR]at r
  cases r with
  | @cons a b as bs h t =>
   obtain⟨rs,c,q⟩:=sy (P:=P) (w:=w) t
   obtain⟨b1,b2⟩:=b
   exact⟨(p.1,b2)::rs,⟨Cw h.1,rfl,c⟩,.cons ⟨rfl,h.2⟩ q⟩
noncomputable def Tv (trs:List (TE×TE)):TE:=fun σ H Q=>∀p,H p=none→Ef trs σ (upd H p (.dK [])) fun ps H2=>H2 p=some (.dK [])∧∃kvs:List (Key×V),ps=kvs.map (fun kv=>(kV kv.1,kv.2))∧kvs.length≤15∧Q (.ref p) (upd H2 p (.dK (qg [] kvs)))
theorem Mi {X:Cx} {pos:Pos} {keys:List (Option Expr)} {values:List Expr} {trs:List (TE×TE)} (h:PPs X pos keys values trs) (hall:keys.all (·.isSome)=true) (hl:keys.length=values.length) (h0:keys≠[])
  (h15:keys.length≤15):PE X (.Dict keys values pos) (Tv trs):=by
 intro pins s σ H Q I q
 have hn:=I.hok.fresh (AF s.heap.objs.size)
 have I1:=I.laid (a:=s.heap.objs.size) (o:=.dK []) (h':=s.heap.push {cls:=.type "dict",data:=.dict #[]}) (t':=s.toks) (fun _ _ q=>AC _ q) (AF _) (Ax s.heap I.big)
 refine wpAny_Dict_walk (knd:=bz X.prog X.w) hall hl h0 h15 (thn (h pins _ σ _ _ I1 (q _ hn)) fun ws s2 ⟨ps,H2,I2,rel,e,kvs,ep,lk,q2⟩=>?_)
 subst ep
 obtain⟨rs,c,rk⟩:=sy (P:=X.prog) (w:=X.w) rel
 obtain⟨z,hd,vs0,r0,dd⟩:=Mf I2.hok e
 cases r0
 refine⟨rs,c,dd,fun h' dd' hs=>⟨.ref s.heap.objs.size,_,?_,rfl,q2⟩⟩
 have hz:(qg [] kvs).length≤sizeLine:=by
  have h1:=nc kvs []
  rw[CF]at h1
  rw[DF];lia
 have he:∃q,h'.get? s.heap.objs.size=some q:=let ⟨q,_,_,hq,_⟩:=dd';⟨q,hq⟩
 exact zl I2 (by rw[e];exact True.intro) hs he (J3 hz hd (rk.merge .nil) dd')
structure M2 (X:Cx) (o:Expr) (m:Str) (apos:Pos) (e f:Expr) (cpos:Pos):Prop where
 base:attributeBase o m X.env (eval o X.env)=eval o X.env
 few:((backTo cpos (starEach [e,f] X.env)).all (fun x=>!x.1)&&(backToKw cpos (keywordEach [] X.env)).all (fun x=>x.1.isSome)
  && decide (([e,f]:List Expr).length+([]:List Keyword).length+(if([]:List Keyword).isEmpty then 0 else 1)<30))=true
 line:(apos.endLine==cpos.line)=true
 trees:backTo cpos (starEach [e,f] X.env)=[(false,eval e X.env),(false,eval f X.env)]
noncomputable def IsD (H:Hp) (a:Addr):Prop:=(∃kvs,Rd H a (.dK kvs))∨∃kvs,Rd H a (.dT kvs)
theorem J4 {X:Cx} {pins:List (Addr×Obj)} {σ:St} {H:Hp} {s:Shared} {a:Addr} (I:Inv X pins σ H s) (d:IsD H a) :
  s.TypeIs (.ref a) "dict"∧(∀b,Value.ref a=.ref b→∃ob,s.heap.get? b=some ob∧ob.dict=none)∧(a==sysModules)=false:=by
 rcases d with⟨kvs,e⟩ | ⟨kvs,e⟩
 ·obtain⟨_,hd,vs,_,dd⟩:=Ec I.hok e
  refine⟨dd.typeIs,fun b q=>?_,hd⟩
  cases q
  obtain⟨ob,_,_,h1,h2,_⟩:=dd
  exact⟨ob,h1,h2.2.1⟩
 ·obtain⟨_,hd,xs,_,dd⟩:=Ed I.hok e
  refine⟨dd.typeIs,fun b q=>?_,hd⟩
  cases q
  obtain⟨ob,_,_,h1,h2,_⟩:=dd
  exact⟨ob,h1,h2.2.1⟩
section
variable {X : Cx} {pins : List (Addr × Obj)} {σ : St} {H : Hp} {s : Shared} {a : Addr} {y d : V} {u r : Value} {o : Option V} {A : Around} {E : Value → Shared → Prop}
theorem Pq {Q:Value→Shared→Prop} (hu:A.units+1<cLine) (I:Inv X pins σ H s) (g:Hm H a y o) (ry:RelV y u) (rd:RelV d r) (h:∀w' s',Inv X pins σ H s'→RelV (o.getD d) w'→Q w' s') :
  wpAny (model X.prog X.w) A (call (.builtin "dict.get") [.ref a,u,r]) Q E s:=by
 rcases g with⟨kvs,k,e,ey,l⟩ | ⟨kvs,k,b,e,ey,eb,l⟩
 ·subst ey
  obtain⟨z,hd,vs,rel,dd⟩:=Ec I.hok e
  refine call_meetsIn FK dd.typeIs HK (HB _ _ _) (meets_dict_get_default (bz X.prog X.w) a (Cw ry) hd r) ⟨_,dd.mapOf,h _ _ (I.tok _) ?_⟩
  rw[l]
  exact(rel.val k).getD rd
 ·subst ey
  cases(show u=Value.ref b from ry)
  obtain⟨z,hd,xs,rel,dd⟩:=Ed I.hok e
  refine call_meetsIn FK dd.typeIs HK (HB _ _ _) (meetsH_dict_get_default (tupleKind (bz X.prog X.w)) a b hd r) ⟨EX hu,k,xs,wy I.hok eb,dd,h _ _ (I.tok _) ?_⟩
  rw[l]
  exact(rel.val k).getD rd
end
noncomputable def Pr (td ty tx:TE):TE:=fun σ H Q=>td σ H fun x H1=>∃a,x=.ref a∧IsD H1 a∧ty σ H1 fun y H2=>tx σ H2 fun z H3=>∃o,Hm H3 a y o∧Q (o.getD z) H3
section
variable {X : Cx} {o e f : Expr} {apos cpos : Pos} {td ty tx : TE}
theorem Hr (hu:X.A.units+1<cLine) (ho:PE X o td) (he:PE X e ty) (hf:PE X f tx) (m:M2 X o "get" apos e f cpos):PE X (.Call (.Attribute o "get" apos) [e,f] [] cpos) (Pr td ty tx):=by
 intro pins s σ H Q I h
 refine wpAny_Call_method m.base m.few m.line HC FK PySem.F.type_dict_get (thn (ho pins s σ H _ I h) fun u s1 ⟨x,H1,I1,rx,a,ex,d,q1⟩=>?_)
 subst ex
 obtain rfl:u=Value.ref a:=rx
 obtain⟨t1,t2,_⟩:=J4 I1 d
 refine⟨t1,t2,?_⟩
 rw[m.trees]
 refine EB rfl (HZ (Ev (thn (he pins s1 σ H1 _ I1 q1) fun iv s2 ⟨y,H2,I2,ry,q2⟩ =>
  Ev (thn (hf pins s2 σ H2 _ I2 q2) fun fv s3 ⟨z,H3,I3,rz,ov,g,q3⟩=>FA ?_))))
 exact Pq hu I3 g ry rz fun w' s4 I4 rw'=>⟨_,H3,I4,rw',q3⟩
end
end L2
namespace Att
open PySem PySem.W PySem.Calls PyProof.Rows
theorem qh {P:Params} {h:Heap}:∀(ns:List Int) (vs:List Value),WellAll P h vs (ns.map WData.int)→IntsAre vs ns:=by
 intro ns
 induction ns with
 | nil =>
  intro vs w
  rw[DC]at w
  cases w
  exact .nil
 | cons n ns ih =>
  intro vs w
  rw[AR]at w
  cases w with
  | cons a b =>
   cases a
   exact .cons _ _ (ih _ b)
theorem Eg {l:OpenLaw} {n:Nat} (hn:l.most=some n) {P:Params} {h:Heap} {args:List WData} {vals:List Value}
  (hpre:l.row.toRowW.claim.pre args=true) (hwl:WellAll P h vals args) :
  ∃a vs ns,vals=[Value.ref a]∧args=[WData.list (ns.map WData.int)]∧h.get? a=some {cls:=.type "list",data:=.seq vs.toArray}∧IntsAre vs ns∧ns.length≤n:=by
 have hsh:WShape.hasAll [] args [.list .int]=true:=(pre_splitW hpre).1
 have hc:l.pre.holds [] {args:=args}=true:=(pre_splitW hpre).2
 obtain⟨d,r,rfl,h1,h2⟩:=hasAllW_cons hsh
 obtain rfl:=hasAllW_nil h2
 obtain⟨xs,rfl,h3⟩:=hasW_list h1
 obtain⟨ns,rfl⟩:=items_int h3
 have hlen:ns.length≤n:=by
  unfold OpenLaw.pre at hc
  have h4:(WTm.not (.lt (.lit (.int (n:Int))) (.len (.arg 0)))).holds [] {args:=[.list (ns.map .int)]}=true:=by
   have h4:=(holds_andW hc).1
   rw[hn]at h4
   exact h4
  have h5:=condW_of h4 (w_not (w_lt w_lit (w_len_list (w_arg rfl))))
  rw[AG]at h5
  refine Nat.le_of_not_lt fun q=>?_
  have q':(n:Int)<((ns.length:Nat):Int):=by lia
  first
   | (rw[decide_eq_true q']at h5;exact absurd h5 (by decide))
   | (simp at h5;lia)
 cases hwl with
 | cons w1 w2 =>
  cases w2
  cases w1 with
  | list ho hall=>exact⟨_,_,ns,rfl,rfl,ho,qh ns _ hall,hlen⟩
theorem Eh (l:OpenLaw) (args:List WData):l.row.toRowW.claim.post args (.bool true) args=true :=
 postW_of (r:=l.row.toRowW) (X:=(true==true))
  (show WShape.has [] (.bool true) .bool=true by first | rfl | decide | simp[WShape.has,WShape.arms,WShape.armsAll])
  (show(WTm.eq .res (.lit (.bool true))).value [] {args:=args,res:=some (.bool true),after:=args}=some (.bool (true==true))from w_eq_bool (w_res rfl) w_lit) rfl
theorem zm {l:OpenLaw} {n:Nat} {q:Program} {loose:List Str} {XP:(Str→Option Value)→Heap→Prop} {YP:World→Heap→Prop} {d:DefRec}
  (hn:l.most=some n) (hdf:d.params.defaults=[])
  (call:∀(w:World) (s₀ s₁:Shared) (mg mb:Str→Option Value) (fa:Addr) (o:Obj) (pm cd doc:Value) (a:Addr) (vs:List Value) (ns:List Int),
   Ground q loose [] XP w s₀ mg mb s₁.heap→YP w s₁.heap →
   s₁.heap.get? fa=some o→o.data=.func (docDef d.name d.params d.body d.scope pm cd doc)→s₁.heap.CodeRec cd d.name→mg d.name=some (.ref fa) →
   s₁.heap.get? a=some {cls:=.type "list",data:=.seq vs.toArray}→IntsAre vs ns→ns.length≤n→s₁.gens=#[] →
   codeAny (model l.prog w) callerA (.call (.ref fa) ⟨[.ref a],[]⟩) (fun r s'=>r=.ok (.ret (.bool true))∧OldK s₁.heap s'.heap∧s'.os=s₁.os∧AllBare s'.gens) s₁) :
  WalkO q loose XP YP l.row.toRowW d [] (fun f vs=>PySem.call f vs):=by
 intro w s₀ s₁ mg mb G Y fa o pm cd doc dV kV ho hd hcd hD hmg hg args vals as hpre hlay hrd hwl hlo
 obtain rfl:dV=.none:=Dflts.none hD hdf
 obtain rfl:kV=.none:=Dflts.noKw hD
 obtain⟨a,vs,ns,rfl,rfl,hobj,hints,hlen⟩:=Eg hn hpre hwl
 refine enter_call (codeAny_mono (call w s₀ s₁ mg mb fa o pm cd doc a vs ns G Y ho (fd_plain hd) hcd hmg hobj hints hlen hg) fun r s' hq=>?_)
 obtain⟨rfl,h2,h3,h4⟩:=hq
 exact⟨.inl ⟨.bool true,.bool true,[],rfl,fun _=>rfl,.bool true,Eh l _,fun _=>⟨List.Pairwise.nil,fun _ hm=>(nomatch hm)⟩⟩,h2,h3,h4⟩
end Att
namespace L2
open PySem PySem.Spec PyProof.Rows
noncomputable def FzL (K:PySem.W.Frag) (H:Hp) (a:Addr) (xs:List V):Prop :=
 (∃o,H a=some (.frz o (.lst xs))) ∨
  ∃(its:List Value) (n:Nat),K.lookup a=some {cls:=.type "list",data:=.seq its.toArray n}∧xs.length≤sizeLine∧bq xs its
theorem vals_ints:∀{vs:List Value} {ns:List Int},IntsAre vs ns→bq (ns.map V.int) vs
 | _,_,.nil=>.nil
 | _,_,.cons n t h=>.cons ⟨t,rfl⟩ (vals_ints h)
noncomputable def Tw (H:Hp):Prop:=∀b,H b=none∨∃o xs,H b=some (.frz o (.lst xs))
theorem Hs {P:Program} {w:World} {K:PySem.W.Frag} {mg mb:Str→Option Value} {CX:CXT} {k:Nat} {fa a:Addr} {fd:FuncData} {x:Str} {sp:Sp} {s₁:Shared} {vs:List Value} {ns:List Int}
  (KX:K.In s₁.heap) (hns:s₁.heap.Ns mainGlobals mg) (hb:s₁.heap.Ns builtinsNs mb) (hbb:∀x:Str,x≠"__name__"→mb x=bootBuiltins x) (hlim:s₁.heap.NoLimit) (hg:s₁.gens=#[])
  (ha:s₁.heap.get? a=some {cls:=.type "list",data:=.seq vs.toArray}) (hi:IntsAre vs ns) (hl:ns.length≤sizeLine) (hr:Room k callerA)
  (F:∀base:Heap,K.In base→base.Ns mainGlobals mg→FnOk P w K mg base CX k fa fd [x] sp) (hbind:∀(s:Shared) (u:Value),BindsTo s fd ⟨[u],[]⟩ [(x,u)])
  (hsp:∀H:Hp,Tw H→FzL K H a (ns.map V.int)→sp [.ref a] H (fun v _=>v=.bl true) fun _ _ _=>False)
  (hCX:∀H e s',CX [] H s₁ (fun _ _ _=>False) e s'→False) :
  codeAny (model P w) callerA (.call (.ref fa) ⟨[.ref a],[]⟩) (fun r s'=>r=.ok (.ret (.bool true))∧OldK s₁.heap s'.heap∧s'.os=s₁.os∧AllBare s'.gens) s₁:=by
 have rv:=vals_ints hi
 have lenV:=hi.length
 -- from an abstract heap in which nothing but the script may be tracked
 have core:∀H:Hp,Tw H→FzL K H a (ns.map V.int)→HOk P w H s₁.heap→(∀b,H b≠none→b=a)→(H a≠none→K.lookup a=none) →
   codeAny (model P w) callerA (.call (.ref fa) ⟨[.ref a],[]⟩) (fun r s'=>r=.ok (.ret (.bool true))∧OldK s₁.heap s'.heap∧s'.os=s₁.os∧AllBare s'.gens) s₁:=by
  intro H hO hS hok hA hK
  have base_of:∀{b:Addr} {o:Obj},s₁.heap.get? b=some o→H b=none→(Hc s₁.heap H).get? b=some o:=fun e n=>Hd e n
  have noA:∀{b:Addr} {o:Obj} {es:Array DictEntry} {ep:Nat},s₁.heap.get? b=some o→o.data=.dict es ep→H b=none:=fun {b o es ep} e d=>by
   cases q:H b with
   | none=>rfl
   | some u =>
    have e':b=a:=hA b (by rw[q];simp)
    subst e'
    rw[ha]at e;cases e
    have d':Data.seq vs.toArray _=Data.dict es ep:=d
    cases d'
  have nsK:∀{b:Addr} {m:Str→Option Value},s₁.heap.Ns b m→(Hc s₁.heap H).Ns b m:=fun {b m} ⟨o,es,ep,e,d,r⟩=>⟨o,es,ep,base_of e (noA e d),d,r⟩
  have hKb:K.In (Hc s₁.heap H):=fun b o e=>base_of (KX b o e) (by
   cases q:H b with
   | none=>rfl
   | some u =>
    have e':b=a:=hA b (by rw[q];simp)
    subst e'
    rw[hK (by rw[q];simp)]at e;cases e)
  have hM:Mod K mg (Hc s₁.heap H):=⟨hKb,nsK hns,⟨mb,nsK hb,hbb⟩,let ⟨mc,h1,h2⟩:=hlim;⟨mc,nsK h1,h2⟩⟩
  have e0:Env0 P w K mg (Hc s₁.heap H) callerA [] s₁ H:=⟨rfl,hM,fun b o e=>Lw e,Nat.le_of_eq (Dx _ _),trivial,fun b hb=>absurd (show b∈([]:List Addr)from hb) (by simp),hok,.of_eq hg⟩
  refine codeAny_mono ((F _ hKb (nsK hns)).run callerA [] s₁ H ⟨[.ref a],[]⟩ [.ref a] [.ref a] _ _ hr e0 (hbind s₁ (.ref a)) (.cons rfl .nil) (hsp H hO hS)) fun r s' h=>?_
  cases r with
  | error e=>exact(hCX H e s' h).elim
  | ok fl =>
   cases fl with
   | next=>exact False.elim h
   | brk=>exact False.elim h
   | cont=>exact False.elim h
   | ret u =>
    obtain⟨v,H',os,bare,un,hok',r',q⟩:=h
    have q':v=.bl true:=q
    subst q'
    obtain rfl:u=Value.bool true:=r'
    refine⟨rfl,OldK.of_keep fun b o e=>?_,os,bare⟩
    cases q:H b with
    | none=>exact un.keep b o e q (by intro z;exact absurd (show b∈([]:List Addr)from z) (by simp)) (by simp)
    | some u =>
     rcases hO b with z | ⟨ob,xs,z⟩
     ·rw[q]at z;cases z
     ·have z2:=un.frzs b ob _ z
      obtain⟨e1,_⟩:=hok b _ z
      obtain⟨e2,_⟩:=hok' b _ z2
      rw[e]at e1;cases e1
      exact e2
 cases hk:K.lookup a with
 | some o =>
  -- the script is one of the module's own objects
  have e:=KX a o hk
  rw[ha]at e
  cases e
  refine core (fun _=>none) (fun _=>.inl rfl) (.inr ⟨vs,_,hk,by rw[AG];exact hl,rv⟩) (fun b u z=>by have z':(none:Option HO)=some u:=z;cases z') (fun b z=>absurd rfl z) fun z=>absurd rfl z
 | none =>
  refine core (fun b=>if b=a then some (.frz {cls:=.type "list",data:=.seq vs.toArray} (.lst (ns.map V.int)))else none) (fun b=>?_) (.inl ⟨{cls:=.type "list",data:=.seq vs.toArray},if_pos rfl⟩) (fun b u z=>?_) (fun b z=>?_) fun _=>hk
  ·by_cases hb:b=a
   ·exact .inr ⟨_,_,if_pos hb⟩
   ·exact .inl (if_neg hb)
  ·by_cases hb:b=a
   ·have z':=(if_pos hb).symm.trans z
    cases z'
    subst hb
    exact⟨ha,by rw[AG];exact hl,vs,_,rv,ha⟩
   ·have z':=(if_neg hb).symm.trans z
    cases z'
  ·by_cases hb:b=a
   ·exact hb
   ·exact absurd (if_neg hb) z
end L2
namespace L2
open PySem PySem.Spec PyProof.Rows
noncomputable abbrev KOf {K:PySem.W.Frag} {h:Heap} (_:K.In h):PySem.W.Frag:=K
theorem Mj {l:PySem.W.OpenLaw} {n k:Nat} {q:Program} {loose:List Str} {XP:(Str→Option Value)→Heap→Prop} {YP:World→Heap→Prop} {d:DefRec} {K:Params→PySem.W.Frag} {CX:World→CXT} {sp:World→Sp} {x:Str}
  (hn:l.most=some n) (hn2:n≤sizeLine) (hdf:d.params.defaults=[]) (hr:Room k callerA)
  (hY:∀(w:World) (h:Heap),YP w h→(K w.params).In h)
  (F:∀(w:World) (mg:Str→Option Value) (fa:Addr) (h:Heap),(K w.params).In h→h.Ns mainGlobals mg→mg d.name=some (.ref fa) →
   ∃fd:FuncData,(∀(s:Shared) (u:Value),BindsTo s fd ⟨[u],[]⟩ [(x,u)]) ∧
    ∀base:Heap,(K w.params).In base→base.Ns mainGlobals mg→FnOk l.prog w (K w.params) mg base (CX w) k fa fd [x] (sp w))
  (hsp:∀(w:World) (H:Hp) (a:Addr) (ns:List Int),ns.length≤n→Tw H→FzL (K w.params) H a (ns.map V.int)→sp w [.ref a] H (fun v _=>v=.bl true) fun _ _ _=>False)
  (hCX:∀(w:World) (H:Hp) (s:Shared) (e:Value) (s':Shared),CX w [] H s (fun _ _ _=>False) e s'→False) :
  PySem.W.WalkO q loose XP YP l.row.toRowW d [] (fun f vs=>PySem.call f vs):=by
 refine Att.zm hn hdf fun w s₀ s₁ mg mb fa o pm cd doc a vs ns G Y ho hd hcd hmg hobj hints hlen hg=>?_
 have KX:=hY w _ Y
 obtain⟨fd,hb,hF⟩:=F w mg fa _ KX G.T.g hmg
 exact Hs KX G.T.g G.T.b G.T.builtins G.T.nolimit hg hobj hints (CL hlen hn2) hr hF hb (fun H hO hS=>hsp w H a ns hlen hO hS) fun H e s'=>hCX w H s₁ e s'
end L2
namespace L2
open PySem PySem.Spec PyProof.Rows
noncomputable def a9 (s:Stmt):Arguments:=match s with
 | .FunctionDef _ a _ _ _ _ _ _ _ _=>a
 | _=>{posonlyargs:=[],args:=[],vararg:=none,kwonlyargs:=[],kw_defaults:=[],kwarg:=none,defaults:=[]}
noncomputable def az (s:Stmt):List Stmt:=match s with
 | .FunctionDef _ _ b _ _ _ _ _ _ _=>b
 | _=>[]
noncomputable def ak (s:Stmt):Scope:=match s with
 | .FunctionDef _ _ _ _ _ _ sc _ _ _=>sc
 | _=>{kind:=.function,names:=[],isGenerator:=false,isCoroutine:=false}
noncomputable abbrev CX0:CXT:=fun _ _ _ _ _ _=>False
noncomputable abbrev E0:XK:=fun _ _ _=>False
theorem Tx {X:Cx}:D6 CX0 X E0:=fun _ _ _ _ _ _ _ h=>h.elim
structure Fun (K:PySem.W.Frag) (x qual:Str) (st:Stmt) (f:Addr) (fd:FuncData):Prop where
 ex:∃(oc:Value) (od:Option Addr) (kV doc pm:Value) (an:Option Addr) (cdv ct:Value) (osl:Array (Option Value)),
  fd=PySem.W.fnOf x qual (a9 st) (az st) (ak st) .none kV doc pm an cdv ct∧K.lookup f=some ⟨oc,od,.func fd,osl⟩∧PySem.W.codeIn K cdv qual=true
 kp:PySem.W.keepIn K (.ref f)=true
section
variable {P : Program} {w : World} {K : PySem.W.Frag} {mg : Str → Option Value} {base : Heap}
theorem Fun.ok {x qual:Str} {st:Stmt} {f:Addr} {fd:FuncData} {N ps:List Str} {k:Nat} {sp:Sp} (F:Fun K x qual st f fd) (S:FnScope N ps (ak st)) (len:∀vs H Q E,sp vs H Q E→vs.length=ps.length)
  (hbody:∀(cdv:Value) (A:Around) (outer:List Env) (s:Shared) (H:Hp) (vs:List V) (Q:VK) (E:XK),Room k (A.deeper (envOfC qual (ak st) s.heap.objs.size f cdv))→sp vs H Q E →
   ∃t,PSs (Jz CX0 P w K mg base N qual (ak st) f cdv A outer s H E).nox (az st) t∧t {nx:=fun _ H'=>Q .non H',rt:=Q} (start N vs) H):FnOk P w K mg base CX0 (k+1) f fd ps sp:=by
 obtain⟨oc,od,kV,doc,pm,an,cdv,ct,osl,rfl,lk,hcd⟩:=F.ex
 refine Tq lk hcd S len fun A outer s H vs Q E hr hsp=>?_
 obtain⟨t,h,q⟩:=hbody cdv A outer s H vs Q E hr hsp
 exact⟨t,h.nox,q⟩
theorem Pt {x qual:Str} {st:Stmt} {f:Addr} {oc:Value} {od an:Option Addr} {osl:Array (Option Value)} {kV doc pm cdv ct:Value} (l:K.lookup f=some ⟨oc,od,.func (PySem.W.fnOf x qual (a9 st) (az st) (ak st) .none kV doc pm an cdv ct),osl⟩)
  (c:PySem.W.codeIn K cdv qual=true) (k:PySem.W.keepIn K (.ref f)=true):Fun K x qual st f (PySem.W.fnOf x qual (a9 st) (az st) (ak st) .none kV doc pm an cdv ct):=⟨⟨oc,od,kV,doc,pm,an,cdv,ct,osl,rfl,l,c⟩,k⟩
end
theorem wz {n:Nat} (h:n≤1000):n<sizeLine:=Nat.lt_of_le_of_lt h (by decide)
section
variable {X : Cx}
theorem pv (i:Nat) {x:Str} {pos:Pos} (hN:X.N[i]? = some x:=by rfl) (hv:Vis X.env.scope x:=by first | exact Or.inl rfl | exact Or.inr (Or.inl rfl) | exact Or.inr (Or.inr rfl)) (hd:(x==("__debug__":Str))=false:=by decide)
  (hcd:(x==("__classdict__":Str))=false:=by decide):PE X (.Name x pos) (U8 i):=sr hN hv hd hcd
end
end L2
namespace Lp
open PySem
inductive D where
 | non | bl (b:Bool) | int (i:Int) | str (x:Str)
 | tup (ds:List D) | lst (ds:List D) | loc (n:Nat)
 deriving Inhabited
noncomputable def D.pureN:Nat→D→Bool
 | 0,d=>match d with | .tup _=>false | .lst _=>false | .loc _=>false | _=>true
 | k+1,d=>match d with | .tup ds=>ds.all (D.pureN k) | .lst ds=>ds.all (D.pureN k) | .loc _=>false | _=>true
noncomputable abbrev D.pure (d:D):Bool:=D.pureN 8 d
inductive O where
 | l (ds:List D)
 | r (ds:List D)
 | d (kvs:List (D×D))
 | dt (kvs:List (D×D))
 | dead
 deriving Inhabited
noncomputable abbrev Sto:=List O
noncomputable abbrev Sl:=List (Option D)
inductive Res (α:Type) where
 | ok (a:α) (μ:Sto)
 | exc (c:Nat) (ds:List D) (μ:Sto)
 | stuck
namespace Res
variable {α β : Type}
noncomputable def bind (x:Res α) (f:α→Sto→Res β):Res β:=match x with
 | .ok a μ=>f a μ
 | .exc c ds μ=>.exc c ds μ
 | .stuck=>.stuck
@[simp] theorem ba (a:α) (μ:Sto) (f:α→Sto→Res β):(Res.ok a μ).bind f=f a μ:=rfl
@[simp] theorem Sx (c:Nat) (ds:List D) (μ:Sto) (f:α→Sto→Res β):(Res.exc c ds μ:Res α).bind f=.exc c ds μ:=rfl
@[simp] theorem Om (f:α→Sto→Res β):(Res.stuck:Res α).bind f=.stuck:=rfl
theorem bind_assoc {γ:Type} (x:Res α) (f:α→Sto→Res β) (g:β→Sto→Res γ):(x.bind f).bind g=x.bind fun a μ=>(f a μ).bind g:=by
 cases x<;>rfl
end Res
inductive Mk where | z | l | r
 deriving DecidableEq,Inhabited
inductive Bt where
 | len | tuple | list | sum | min | min1 | max | all | any | sorted | sortedSet | int | listRev | listRange | tupleRange
 deriving DecidableEq,Inhabited
inductive Mt where
 | append | pop | extend | extendT | insert | remove | reverse | clear | count | countL | get
 deriving DecidableEq,Inhabited
inductive Cl where
 | int | bool | tuple | list | str | own (c:Nat)
 deriving DecidableEq,Inhabited
inductive Tg where
 | one (i:Nat) | many (is:List Nat)
 deriving DecidableEq,Inhabited
inductive Cp where
 | eq | ne | eqM | neM | lt | le | gt | ge | is | isnot | in_ | notin
 deriving DecidableEq,Inhabited
mutual
inductive Ex where
 | var (i:Nat)
 | frz (i:Nat)
 | cst (d:D)
 | bin (op:Operator) (m:Mk) (a b:Ex)
 | neg (a:Ex)
 | not (a:Ex)
 | and (a b:Ex)
 | or (a b:Ex)
 | ite (c a b:Ex)
 | cmp (a:Ex) (r:Cps)
 | call (keep:Bool) (f:Nat) (es:Exs)
 | blt (b:Bt) (m:Mk) (es:Exs)
 | isi (a:Ex) (c:Cl)
 | meth (mt:Mt) (o:Ex) (es:Exs)
 | ix (a b:Ex)
 | dix (a b:Ex)
 | sl (m:Mk) (a:Ex) (lo hi:ExO)
 | tup (es:Exs)
 | lst (m:Mk) (es:Exs)
 | dic (t:Bool) (es:Exs)
 | inT (neg:Bool) (es:Exs) (d:Ex)
 | comp (m:Mk) (cap:List Nat) (nl:Nat) (tg:Tg) (it:It) (cs:Exs) (elt:Ex)
inductive Exs where
 | nil
 | cons (e:Ex) (es:Exs)
inductive Cps where
 | nil
 | cons (op:Cp) (e:Ex) (r:Cps)
inductive ExO where
 | no
 | so (e:Ex)
inductive It where
 | seq (e:Ex)
 | rng (a:Ex)
 | rng2 (a b:Ex)
 | rng3 (a b c:Ex)
 | zip (a b:Ex)
 | enum (a:Ex)
 | rev (a:Ex)
 | vals (a:Ex)
end
mutual
inductive Sm where
 | set (i:Nat) (e:Ex)
 | unp (is:List Nat) (e:Ex)
 | setx (o i v:Ex)
 | augx (op:Operator) (o i v:Ex)
 | setxT (o:Ex) (i:Exs) (v:Ex)
 | ex (e:Ex)
 | ite (c:Ex) (a b:Sms)
 | loop (tg:Tg) (it:It) (b:Sms)
 | ret (e:Ex)
 | raise (c:Nat) (es:Exs)
 | pass | brk | cont
 | never
inductive Sms where
 | nil
 | cons (s:Sm) (r:Sms)
end
@[irreducible] def lim:Nat:=2 ^ 24
theorem J5:lim=2 ^ 24:=by with_unfolding_all rfl
theorem k6:1000000≤lim:=by rw[J5];decide
noncomputable def de (μ:Sto):D→Option (List D)
 | .tup ds=>some ds
 | .lst ds=>some ds
 | .loc n=>match μ[n]? with
  | some (.l ds)=>some ds
  | some (.r ds)=>some ds
  | _=>none
 | _=>none
noncomputable def listOf (μ:Sto):D→Option (List D)
 | .lst ds=>some ds
 | .loc n=>match μ[n]? with
  | some (.l ds)=>some ds
  | some (.r ds)=>some ds
  | _=>none
 | _=>none
noncomputable def l6 {α β:Type} (o:Option α) (k:α→Res β):Res β:=match o with
 | some a=>k a
 | none=>.stuck
@[simp] theorem me {α β:Type} (a:α) (k:α→Res β):l6 (some a) k=k a:=rfl
@[simp] theorem Ml {α β:Type} (k:α→Res β):l6 none k=.stuck:=rfl
noncomputable def mkL (m:Mk) (ds:List D) (μ:Sto):Res D:=match m with
 | .z=>.ok (.lst ds) μ
 | .l=>if ds.all (D.pureN 8)=true then .ok (.loc μ.length) (μ++[.l ds])else .stuck
 | .r=>.ok (.loc μ.length) (μ++[.r ds])
mutual
noncomputable def deq:D→D→Bool
 | .non,.non=>true
 | .bl a,.bl b=>a==b
 | .int a,.int b=>decide (a=b)
 | .bl a,.int b=>decide ((if a then 1 else 0:Int)=b)
 | .int a,.bl b=>decide (a=(if b then 1 else 0:Int))
 | .str a,.str b=>decide (a=b)
 | .tup a,.tup b=>Dr a b
 | .lst a,.lst b=>Dr a b
 | _,_=>false
noncomputable def Dr:List D→List D→Bool
 | [],[]=>true
 | a::r,b::q=>deq a b&&Dr r q
 | _,_=>false
end
noncomputable def rs1 (μ:Sto):Nat→D→D
 | 0,d=>d
 | _,.loc n=>match μ[n]? with
  | some (.l ds)=>.lst ds
  | some (.r ds)=>.lst ds
  | _=>.loc n
 | k+1,.tup ds=>.tup (ds.map (rs1 μ k))
 | k+1,.lst ds=>.lst (ds.map (rs1 μ k))
 | _,d=>d
noncomputable def rs (μ:Sto) (d:D):D:=rs1 μ 8 (rs1 μ 8 (rs1 μ 8 d))
noncomputable def eh:List D→Option (List Int)
 | []=>some []
 | .int i::r=>(eh r).map (i::·)
 | _=>none
noncomputable def l7:List D→Option (List Bool)
 | []=>some []
 | .bl i::r=>(l7 r).map (i::·)
 | _=>none
noncomputable def lexLt:List Int→List Int→Bool
 | _,[]=>false
 | [],_::_=>true
 | x::xs,y::ys=>if x=y then lexLt xs ys else decide (x<y)
noncomputable def rowsOf:List D→Option (List (List Int))
 | []=>some []
 | .tup ds::r=>(eh ds).bind fun x=>(rowsOf r).map (x::·)
 | _=>none
noncomputable def ixN (n:Nat) (i:Int):Option Nat:=if 0≤i then(if i<n then some i.toNat else none)else if -(n:Int)≤i then some (i+n).toNat else none
noncomputable def sIx (n d:Nat):Option Int→Nat
 | none=>d
 | some v=>if v<0 then(v+(n:Int)).toNat else min v.toNat n
noncomputable def cut (ds:List D) (lo hi:Option Int):List D:=(ds.drop (sIx ds.length 0 lo)).take (sIx ds.length ds.length hi-sIx ds.length 0 lo)
noncomputable def CMul (i j:Int):Prop:=(-(2 ^ 64)<i∧i<2 ^ 64)∨(-(2 ^ 64)<j∧j<2 ^ 64)
instance (i j:Int):Decidable (CMul i j):=by unfold CMul;infer_instance
noncomputable def opI (op:Operator) (i j:Int) (μ:Sto):Res D:=match op with
 | .Add=>.ok (.int (i+j)) μ
 | .Sub=>.ok (.int (i-j)) μ
 | .Mult=>if CMul i j then .ok (.int (i*j)) μ else .stuck
 | .FloorDiv=>if 0<j∧j<1073741824 then .ok (.int (i / j)) μ else .stuck
 | .Mod=>if 0<j then .ok (.int (i % j)) μ else .stuck
 | .Pow=>if 0≤j∧j≤1000000∧i.natAbs<2 ^ 64 then .ok (.int (i ^ j.toNat)) μ else .stuck
 | .RShift=>if 0≤j then .ok (.int (i / 2 ^ j.toNat)) μ else .stuck
 | _=>.stuck
noncomputable def opD (op:Operator) (m:Mk) (a b:D) (μ:Sto):Res D:=match a,b with
 | .int i,.int j=>opI op i j μ
 | .tup xs,.tup ys=>match op with
  | .Add=>if xs.length+ys.length≤lim then .ok (.tup (xs++ys)) μ else .stuck
  | _=>.stuck
 | x,.int j=>match op,listOf μ x with
  | .Mult,some xs=>if xs.length*j.toNat≤lim ∧ -(2 ^ 63)≤j∧j<2 ^ 63 then mkL m (List.replicate j.toNat xs).flatten μ else .stuck
  | _,_=>.stuck
 | x,y=>match op,listOf μ x,listOf μ y with
  | .Add,some xs,some ys=>if xs.length+ys.length≤lim then mkL m (xs++ys) μ else .stuck
  | _,_,_=>.stuck
noncomputable def flat:D→Bool
 | .tup _=>false
 | .lst _=>false
 | .loc _=>false
 | _=>true
noncomputable def cu (μ:Sto) (x:D):Option (List D×Option (Nat×O)):=match x with
 | .tup ds=>some (ds,none)
 | .lst ds=>some (ds,none)
 | .loc n=>match μ[n]? with
  | some (.l ds)=>some (ds,some (n,.l ds))
  | some (.r ds)=>some (ds,some (n,.r ds))
  | _=>none
 | _=>none
noncomputable def Ht:D→Bool
 | .int _=>true
 | .str _=>true
 | _=>false
noncomputable def Wn:D→Bool
 | .tup ds=>ds.all Ht
 | _=>false
noncomputable def Ei (k:D):List (D×D)→Option D
 | []=>none
 | (x,v)::r=>if deq x k then some v else Ei k r
noncomputable def dput (k v:D) (kvs:List (D×D)):List (D×D) :=
 if(kvs.any fun p=>deq p.1 k)=true then kvs.map (fun p=>if deq p.1 k=true then(p.1,v)else p)else kvs++[(k,v)]
noncomputable def dictAt (μ:Sto) (o k:D):Option (List (D×D)):=match o with
 | .loc n=>match μ[n]? with
  | some (.d kvs)=>if Ht k=true then some kvs else none
  | _=>none
 | _=>none
noncomputable def Mm (μ:Sto) (o:D) (ks:List D):Option (List (D×D)):=match o with
 | .loc n=>match μ[n]? with
  | some (.dt kvs)=>if ks.all Ht=true then some kvs else none
  | _=>none
 | _=>none
noncomputable def d5:List (Option D)→Option (List D)
 | []=>some []
 | none::_=>none
 | some d::r=>match d5 r with
  | some ds=>some (d::ds)
  | none=>none
noncomputable def bg (μ:Sto):Nat→D→Option D
 | 0,d=>if flat d=true then some d else none
 | k+1,d=>match d with
  | .tup ds=>(d5 (ds.map (bg μ k))).map .tup
  | .lst ds=>(d5 (ds.map (bg μ k))).map .lst
  | .loc n=>match μ[n]? with
   | some (.l ds)=>(d5 (ds.map (bg μ k))).map .lst
   | some (.r ds)=>(d5 (ds.map (bg μ k))).map .lst
   | _=>none
  | d=>some d
noncomputable def cpD (op:Cp) (a b:D) (μ:Sto):Res D:=match op with
 | .eq=>if a.pure=true∧b.pure=true then .ok (.bl (deq a b)) μ else .stuck
 | .ne=>if a.pure=true∧b.pure=true then .ok (.bl (!deq a b)) μ else .stuck
 | .eqM=>match bg μ 8 a,bg μ 8 b with
  | some x,some y=>.ok (.bl (deq x y)) μ
  | _,_=>.stuck
 | .neM=>match bg μ 8 a,bg μ 8 b with
  | some x,some y=>.ok (.bl (!deq x y)) μ
  | _,_=>.stuck
 | .lt=>match a,b with
  | .int i,.int j=>.ok (.bl (decide (i<j))) μ
  | .tup x,.tup y=>match eh x,eh y with
   | some xs,some ys=>.ok (.bl (lexLt xs ys)) μ
   | _,_=>.stuck
  | _,_=>.stuck
 | .le=>match a,b with
  | .int i,.int j=>.ok (.bl (decide (i≤j))) μ
  | .tup x,.tup y=>match eh x,eh y with
   | some xs,some ys=>.ok (.bl (!lexLt ys xs)) μ
   | _,_=>.stuck
  | _,_=>.stuck
 | .gt=>match a,b with
  | .int i,.int j=>.ok (.bl (decide (j<i))) μ
  | _,_=>.stuck
 | .ge=>match a,b with
  | .int i,.int j=>.ok (.bl (decide (j≤i))) μ
  | .tup x,.tup y=>match eh x,eh y with
   | some xs,some ys=>.ok (.bl (!lexLt xs ys)) μ
   | _,_=>.stuck
  | _,_=>.stuck
 | .is=>match b with
  | .non=>.ok (.bl (match a with | .non=>true | _=>false)) μ
  | .bl k=>match a with
   | .bl j=>.ok (.bl (j==k)) μ
   | .non=>.ok (.bl false) μ
   | _=>.stuck
  | _=>.stuck
 | .isnot=>match b with
  | .non=>.ok (.bl (match a with | .non=>false | _=>true)) μ
  | .bl k=>match a with
   | .bl j=>.ok (.bl (!(j==k))) μ
   | .non=>.ok (.bl true) μ
   | _=>.stuck
  | _=>.stuck
 | .in_=>match de μ b with
  | some ds=>if flat a=true∧ds.all flat=true then .ok (.bl (ds.any fun y=>deq y a)) μ else .stuck
  | none=>match dictAt μ b a with
   | some kvs=>.ok (.bl (Ei a kvs).isSome) μ
   | none=>.stuck
 | .notin=>match de μ b with
  | some ds=>if flat a=true∧ds.all flat=true then .ok (.bl (!ds.any fun y=>deq y a)) μ else .stuck
  | none=>match dictAt μ b a with
   | some kvs=>.ok (.bl (!(Ei a kvs).isSome)) μ
   | none=>.stuck
noncomputable def insI (x:Int):List Int→List Int
 | []=>[x]
 | y::r=>if x≤y then x::y::r else y::insI x r
noncomputable def sortI:List Int→List Int
 | []=>[]
 | x::r=>insI x (sortI r)
noncomputable def Mn (x:List Int):List (List Int)→List (List Int)
 | []=>[x]
 | y::r=>if lexLt y x=true then y::Mn x r else x::y::r
noncomputable def si:List (List Int)→List (List Int)
 | []=>[]
 | x::r=>Mn x (si r)
noncomputable def Ej:Int→List Int→Int
 | x,[]=>x
 | x,y::r=>Ej (if y<x then y else x) r
noncomputable def tf (f:D→Sto→Res D) (ds:List D) (μ:Sto):Res D:=match ds with
 | [x]=>f x μ
 | _=>.stuck
@[simp] theorem jg (f:D→Sto→Res D) (x:D) (μ:Sto):tf f [x] μ=f x μ:=rfl
noncomputable def seq1 (f:List D→Sto→Res D) (x:D) (μ:Sto):Res D:=match de μ x with
 | some xs=>f xs μ
 | none=>.stuck
noncomputable def Mo (f:List Int→Sto→Res D) (x:D) (μ:Sto):Res D:=match(de μ x).bind eh with
 | some ns=>f ns μ
 | none=>.stuck
noncomputable def Cy (f:List Bool→Sto→Res D) (x:D) (μ:Sto):Res D:=match(de μ x).bind l7 with
 | some ns=>f ns μ
 | none=>.stuck
noncomputable def uk (m:Mk) (x:D) (μ:Sto):Res D:=match listOf μ x with
 | some xs=>mkL m xs.reverse μ
 | none=>.stuck
noncomputable def minD (ds:List D) (μ:Sto):Res D:=match ds with
 | [.int i,.int j]=>.ok (.int (if j<i then j else i)) μ
 | _=>.stuck
noncomputable def maxD (ds:List D) (μ:Sto):Res D:=match ds with
 | [.int i,.int j]=>.ok (.int (if j > i then j else i)) μ
 | _=>.stuck
noncomputable def zo (m:Mk) (xs:List D) (μ:Sto):Res D:=match rowsOf xs with
 | some rs=>if rs.all (fun r=>!r.isEmpty)=true then mkL m ((si rs).map fun r=>.tup (r.map .int)) μ else .stuck
 | none=>.stuck
noncomputable def Wo (ns:List Int):List Int:=ns.foldl (fun σ k=>if σ.any (·==k)then σ else σ++[k]) []
noncomputable def Pu (m:Mk):D→Sto→Res D:=Mo fun ns μ=>if ns.length<64 then mkL m ((sortI (Wo ns)).map .int) μ else .stuck
noncomputable def Ek (m:Mk) (x:D) (μ:Sto):Res D:=match listOf μ x with
 | some xs=>if xs.length<64 then zo m xs μ else .stuck
 | none=>.stuck
noncomputable def Pw:D→Sto→Res D:=Mo fun ns μ=>match ns with
 | n::r=>.ok (.int (Ej n r)) μ
 | []=>.stuck
noncomputable def Px (x:D) (μ:Sto):Res D:=match x with
 | .bl b=>.ok (.int (if b then 1 else 0)) μ
 | .int i=>.ok (.int i) μ
 | _=>.stuck
noncomputable def J6 (f:List D→Sto→Res D) (x:D) (μ:Sto):Res D:=match x with
 | .int j=>if -(lim:Int)≤j∧j≤lim then f ((List.range j.toNat).map fun(i:Nat)=>D.int i) μ else .stuck
 | _=>.stuck
noncomputable def btD (b:Bt) (m:Mk) (ds:List D) (μ:Sto):Res D:=match b with
 | .len=>tf (seq1 fun xs μ=>.ok (.int xs.length) μ) ds μ
 | .tuple=>tf (seq1 fun xs μ=>.ok (.tup xs) μ) ds μ
 | .list=>tf (seq1 fun xs μ=>mkL m xs μ) ds μ
 | .listRev=>tf (uk m) ds μ
 | .sum=>tf (Mo fun ns μ=>.ok (.int ns.sum) μ) ds μ
 | .min=>minD ds μ
 | .max=>maxD ds μ
 | .all=>tf (Cy fun bs μ=>.ok (.bl (bs.all id)) μ) ds μ
 | .any=>tf (Cy fun bs μ=>.ok (.bl (bs.any id)) μ) ds μ
 | .sorted=>tf (Ek m) ds μ
 | .min1=>tf Pw ds μ
 | .sortedSet=>tf (Pu m) ds μ
 | .int=>tf Px ds μ
 | .listRange=>tf (J6 fun xs μ=>mkL m xs μ) ds μ
 | .tupleRange=>tf (J6 fun xs μ=>.ok (.tup xs) μ) ds μ
noncomputable def Py (c:Cl) (d:D) (μ:Sto):Res D:=match d,c with
 | .int _,.int=>.ok (.bl true) μ
 | .bl _,.int=>.ok (.bl true) μ
 | .bl _,.bool=>.ok (.bl true) μ
 | .tup _,.tuple=>.ok (.bl true) μ
 | .lst _,.list=>.ok (.bl true) μ
 | .str _,.str=>.ok (.bl true) μ
 | .loc n,.list=>match μ[n]? with
  | some (.l _)=>.ok (.bl true) μ
  | some (.r _)=>.ok (.bl true) μ
  | _=>.stuck
 | .loc _,_=>.stuck
 | _,.own _=>.stuck
 | _,_=>.ok (.bl false) μ
noncomputable def putL (n:Nat) (o:O) (ds:List D) (d:D) (μ:Sto):Res D:=match o with
 | .l _=>.ok d (μ.set n (.l ds))
 | .r _=>.ok d (μ.set n (.r ds))
 | _=>.stuck
noncomputable def fits (o:O) (d:D):Bool:=match o with
 | .l _=>d.pure
 | .r _=>true
 | _=>false
noncomputable def iu:O→Option (List D)
 | .l ds=>some ds
 | .r ds=>some ds
 | _=>none
noncomputable def mtL (mt:Mt) (n:Nat) (ob:O) (xs:List D) (ds:List D) (μ:Sto):Res D:=match mt with
 | .append=>tf (fun d μ=>if fits ob d=true∧xs.length<lim then putL n ob (xs++[d]) .non μ else .stuck) ds μ
 | .pop=>match ds with
  | []=>match xs.getLast? with
   | some d=>putL n ob xs.dropLast d μ
   | none=>.stuck
  | [.int i]=>if 0≤i∧i<lim then(match xs[i.toNat]? with
   | some d=>putL n ob (xs.eraseIdx i.toNat) d μ
   | none=>.stuck)else .stuck
  | _=>.stuck
 | .extend=>tf (fun y μ=>match listOf μ y with
  | some ys=>if ys.all (fits ob)=true∧xs.length+ys.length≤lim then putL n ob (xs++ys) .non μ else .stuck
  | none=>.stuck) ds μ
 | .extendT=>tf (fun y μ=>match y with
  | .tup ys=>if ys.all (fits ob)=true∧xs.length+ys.length≤lim then putL n ob (xs++ys) .non μ else .stuck
  | _=>.stuck) ds μ
 | .reverse=>match ds with
  | []=>putL n ob xs.reverse .non μ
  | _=>.stuck
 | .clear=>match ds with
  | []=>putL n ob [] .non μ
  | _=>.stuck
 | _=>.stuck
noncomputable def Vg (xs ds:List D) (μ:Sto):Res D:=tf (fun x μ=>if flat x=true∧xs.all flat=true then .ok (.int (xs.countP fun y=>deq y x)) μ else .stuck) ds μ
noncomputable def Wp (o:D) (ds:List D) (μ:Sto):Res D:=match o with
 | .tup xs=>Vg xs ds μ
 | _=>.stuck
noncomputable def Wq (o:D) (ds:List D) (μ:Sto):Res D:=match listOf μ o with
 | some xs=>Vg xs ds μ
 | none=>.stuck
noncomputable def iy (mt:Mt) (x:D) (μ:Sto):Bool:=match mt with
 | .get=>match x with
  | .loc n=>match μ[n]? with
   | some (.d _)=>true
   | _=>false
  | _=>false
 | .count=>match x with
  | .tup _=>true
  | _=>false
 | _=>(listOf μ x).isSome
noncomputable def Mp (o:D) (ds:List D) (μ:Sto):Res D:=match ds with
 | [k,x]=>match dictAt μ o k with
  | some kvs=>.ok ((Ei k kvs).getD x) μ
  | none=>.stuck
 | _=>.stuck
noncomputable def um (mt:Mt) (o:D) (ds:List D) (μ:Sto):Res D:=match o with
 | .loc n=>match μ[n]? with
  | none=>.stuck
  | some ob=>match iu ob with
   | none=>.stuck
   | some xs=>mtL mt n ob xs ds μ
 | _=>.stuck
noncomputable def mtD (mt:Mt) (o:D) (ds:List D) (μ:Sto):Res D:=match mt with
 | .count=>Wp o ds μ
 | .countL=>Wq o ds μ
 | .get=>Mp o ds μ
 | mt=>um mt o ds μ
noncomputable def Tz (a:D) (ks:List D) (v:D) (μ:Sto):Res Unit:=match a with
 | .loc n=>match μ[n]? with
  | some (.dt kvs)=>if ks.all Ht=true∧v.pure=true∧kvs.length<lim then .ok () (μ.set n (.dt (dput (.tup ks) v kvs)))else .stuck
  | _=>.stuck
 | _=>.stuck
noncomputable def Wr (neg:Bool) (ks:List D) (a:D) (μ:Sto):Res D:=match Mm μ a ks with
 | some kvs=>.ok (.bl (neg ^^ (Ei (.tup ks) kvs).isSome)) μ
 | none=>.stuck
noncomputable def ixD (a b:D) (μ:Sto):Res D:=match b with
 | .int i=>match de μ a with
  | some xs=>match ixN xs.length i with
   | some j=>match xs[j]? with
    | some d=>.ok d μ
    | none=>.stuck
   | none=>.stuck
  | none=>.stuck
 | _=>.stuck
noncomputable def ixL (a b:D) (μ:Sto):Res D:=match a with
 | .loc n=>ixD (.loc n) b μ
 | _=>.stuck
noncomputable def T1 (a b:D) (μ:Sto):Res D:=match dictAt μ a b with
 | some kvs=>match Ei b kvs with
  | some v=>.ok v μ
  | none=>.stuck
 | none=>.stuck
noncomputable def Vh (op:Operator) (a b:D) (μ:Sto):Res D:=match a,b with
 | .int i,.int j=>match op with
  | .Add=>.ok (.int (i+j)) μ
  | .Sub=>.ok (.int (i-j)) μ
  | _=>.stuck
 | _,_=>.stuck
noncomputable def slD (m:Mk) (a:D) (lo hi:Option Int) (μ:Sto):Res D:=match a with
 | .tup xs=>.ok (.tup (cut xs lo hi)) μ
 | x=>match listOf μ x with
  | some xs=>mkL m (cut xs lo hi) μ
  | none=>.stuck
noncomputable def Az (a b v:D) (μ:Sto):Res Unit:=match a with
 | .loc n=>match μ[n]? with
  | none=>.stuck
  | some (.d kvs)=>if Ht b=true∧v.pure=true∧kvs.length<lim then .ok () (μ.set n (.d (dput b v kvs)))else .stuck
  | some ob=>match iu ob,b with
   | some xs,.int i=>match ixN xs.length i with
    | some j=>if fits ob v=true then(putL n ob (xs.set j v) .non μ).bind fun _ μ=>.ok () μ else .stuck
    | none=>.stuck
   | _,_=>.stuck
 | _=>.stuck
noncomputable def d6 (tg:Tg) (d:D) (σ:Sl):Option Sl:=match tg with
 | .one i=>some (σ.set i (some d))
 | .many is=>match d with
  | .tup ds=>if ds.length=is.length then some ((is.zip ds).foldl (fun s p=>s.set p.1 (some p.2)) σ)else none
  | _=>none
noncomputable abbrev Gd:=Option (Nat×O)
noncomputable def gd (g:Gd) (μ:Sto):Prop:=match g with
 | none=>True
 | some (n,o)=>μ[n]? = some o
@[simp] theorem qi (μ:Sto):gd none μ=True:=rfl
open Classical in
noncomputable def mapR (g:Gd) (f:D→Sto→Res (List D)):List D→Sto→Res (List D)
 | [],μ=>if gd g μ then .ok [] μ else .stuck
 | d::ds,μ=>if gd g μ then(f d μ).bind fun xs μ1=>(mapR g f ds μ1).bind fun ys μ2=>.ok (xs++ys) μ2 else .stuck
inductive Fl where
 | nx (σ:Sl) | rt (d:D) | bk (σ:Sl) | ct (σ:Sl)
open Classical in
noncomputable def ng (g:Gd) (f:D→Sl→Sto→Res Fl):List D→Sl→Sto→Res Fl
 | [],σ,μ=>if gd g μ then .ok (.nx σ) μ else .stuck
 | d::ds,σ,μ=>if gd g μ then(f d σ μ).bind fun fl μ1=>match fl with
  | .nx σ1=>ng g f ds σ1 μ1
  | .ct σ1=>ng g f ds σ1 μ1
  | .bk σ1=>.ok (.nx σ1) μ1
  | .rt v=>.ok (.rt v) μ1 else .stuck
noncomputable def J7 (t:Bool) (ds:List D) (μ:Sto):Res D:=match ds with
 | []=>.ok (.loc μ.length) (μ++[if t then .dt []else .d []])
 | [.int a,x]=>if t=false∧x.pure=true then .ok (.loc μ.length) (μ++[.d [(.int a,x)]])else .stuck
 | [.int a,x,.int b,y]=>if t=false∧x.pure=true∧y.pure=true then .ok (.loc μ.length) (μ++[.d (dput (.int b) y [(.int a,x)])])else .stuck
 | _=>.stuck
noncomputable abbrev Phi:=Nat→List D→Sto→Res D
noncomputable def D.belowN (b:Nat):Nat→D→Bool
 | 0,d=>match d with | .tup _=>false | .lst _=>false | .loc n=>decide (n<b) | _=>true
 | k+1,d=>match d with | .tup ds=>ds.all (D.belowN b k) | .lst ds=>ds.all (D.belowN b k) | .loc n=>decide (n<b) | _=>true
noncomputable def iz (b:Nat):O→Bool
 | .r ds=>ds.all (D.belowN b 8)
 | _=>true
noncomputable def noR:O→Bool
 | .r _=>false
 | _=>true
noncomputable def o6 (keep:Bool) (base:Nat) (r:Res D):Res D:=match r with
 | .ok d μ'=>if keep=true then .ok d μ' else if D.belowN base 8 d=true∧(μ'.take base).all (iz base)=true then .ok d (μ'.take base)else .stuck
 | x=>x
noncomputable def Vi (d:D) (μ:Sto):Res Bool:=match d with
 | .bl b=>.ok b μ
 | _=>.stuck
section
variable (φ : Phi)
mutual
noncomputable def evE:Ex→Sl→Sto→Res D
 | .var i,σ,μ=>match σ[i]? with
  | some (some d)=>.ok d μ
  | _=>.stuck
 | .frz i,σ,μ=>match σ[i]? with
  | some (some (.loc n))=>match μ[n]? with
   | some (.l ds)=>.ok (.lst ds) (μ.set n .dead)
   | some (.r ds)=>.ok (.lst ds) (μ.set n .dead)
   | _=>.stuck
  | _=>.stuck
 | .cst d,_,μ=>.ok d μ
 | .bin op m a b,σ,μ=>(evE a σ μ).bind fun x μ=>(evE b σ μ).bind fun y μ=>opD op m x y μ
 | .neg a,σ,μ=>(evE a σ μ).bind fun x μ=>match x with
  | .int i=>.ok (.int (-i)) μ
  | _=>.stuck
 | .not a,σ,μ=>(evE a σ μ).bind fun x μ=>match x with
  | .bl b=>.ok (.bl (!b)) μ
  | _=>.stuck
 | .and a b,σ,μ=>(evE a σ μ).bind fun x μ=>match x with
  | .bl c=>if c=true then evE b σ μ else .ok (.bl false) μ
  | _=>.stuck
 | .or a b,σ,μ=>(evE a σ μ).bind fun x μ=>match x with
  | .bl c=>if c=true then .ok (.bl true) μ else evE b σ μ
  | _=>.stuck
 | .ite c a b,σ,μ=>(evE c σ μ).bind fun x μ=>match x with
  | .bl c=>if c=true then evE a σ μ else evE b σ μ
  | _=>.stuck
 | .cmp a r,σ,μ=>(evE a σ μ).bind fun x μ=>evC r x σ μ
 | .call keep f es,σ,μ=>(gw es σ μ).bind fun ds μ=>o6 keep μ.length (φ f ds μ)
 | .blt b m es,σ,μ=>(gw es σ μ).bind fun ds μ=>btD b m ds μ
 | .isi a c,σ,μ=>(evE a σ μ).bind fun x μ=>Py c x μ
 | .meth mt o es,σ,μ=>(evE o σ μ).bind fun x μ=>if iy mt x μ=true then(gw es σ μ).bind fun ds μ=>mtD mt x ds μ else .stuck
 | .ix a b,σ,μ=>(evE a σ μ).bind fun x μ=>(evE b σ μ).bind fun y μ=>ixD x y μ
 | .dix a b,σ,μ=>(evE a σ μ).bind fun x μ=>(evE b σ μ).bind fun y μ=>T1 x y μ
 | .sl m a lo hi,σ,μ=>(evE a σ μ).bind fun x μ=>(evO lo σ μ).bind fun l μ=>(evO hi σ μ).bind fun h μ=>slD m x l h μ
 | .tup es,σ,μ=>(gw es σ μ).bind fun ds μ=>.ok (.tup ds) μ
 | .lst m es,σ,μ=>(gw es σ μ).bind fun ds μ=>mkL m ds μ
 | .dic t es,σ,μ=>(gw es σ μ).bind fun ds μ=>J7 t ds μ
 | .inT neg es d,σ,μ=>(gw es σ μ).bind fun ds μ=>(evE d σ μ).bind fun x μ=>Wr neg ds x μ
 | .comp m cap nl tg it cs elt,σ,μ=>(evI it σ μ).bind fun ds μ =>
   (mapR ds.2 (fun d μ=>l6 (d6 tg d (cap.map (fun i=>(σ[i]?).getD none)++List.replicate nl none)) fun σ' =>
    (Cz cs σ' μ).bind fun b μ=>if b=true then(evE elt σ' μ).bind fun x μ=>.ok [x] μ else .ok [] μ) ds.1 μ).bind fun xs μ=>mkL m xs μ
noncomputable def gw:Exs→Sl→Sto→Res (List D)
 | .nil,_,μ=>.ok [] μ
 | .cons e es,σ,μ=>(evE e σ μ).bind fun d μ=>(gw es σ μ).bind fun ds μ=>.ok (d::ds) μ
noncomputable def evC:Cps→D→Sl→Sto→Res D
 | .nil,_,_,_=>.stuck
 | .cons op e r,x,σ,μ=>(evE e σ μ).bind fun y μ=>(cpD op x y μ).bind fun z μ=>match r with
  | .nil=>.ok z μ
  | r=>match z with
   | .bl b=>if b=true then evC r y σ μ else .ok (.bl false) μ
   | _=>.stuck
noncomputable def evO:ExO→Sl→Sto→Res (Option Int)
 | .no,_,μ=>.ok none μ
 | .so e,σ,μ=>(evE e σ μ).bind fun x μ=>match x with
  | .int i=>.ok (some i) μ
  | _=>.stuck
noncomputable def Cz:Exs→Sl→Sto→Res Bool
 | .nil,_,μ=>.ok true μ
 | .cons e es,σ,μ=>(evE e σ μ).bind fun x μ=>match x with
  | .bl b=>if b=true then Cz es σ μ else .ok false μ
  | _=>.stuck
noncomputable def evI:It→Sl→Sto→Res (List D×Gd)
 | .seq e,σ,μ=>(evE e σ μ).bind fun x μ=>match cu μ x with
  | some w=>.ok w μ
  | none=>.stuck
 | .rng a,σ,μ=>(evE a σ μ).bind fun x μ=>match x with
  | .int j=>if -(lim:Int)≤j∧j≤lim then .ok ((List.range j.toNat).map fun(i:Nat)=>D.int i,none) μ else .stuck
  | _=>.stuck
 | .rng2 a b,σ,μ=>(evE a σ μ).bind fun x μ=>(evE b σ μ).bind fun y μ=>match x,y with
  | .int i,.int j=>if -(lim:Int)≤i∧i≤lim∧j≤lim ∧ -(lim:Int)≤j∧(j-i)≤lim then .ok ((List.range (j-i).toNat).map fun(k:Nat)=>D.int (i+k),none) μ else .stuck
  | _,_=>.stuck
 | .rng3 a b c,σ,μ=>(evE a σ μ).bind fun x μ=>(evE b σ μ).bind fun y μ=>(evE c σ μ).bind fun z μ=>match x,y,z with
  | .int i,.int j,.int k=>if 0≤i∧i≤lim∧j≤lim∧0≤j∧1≤k∧k≤1000 then .ok ((List.range (if i<j then((j-i-1) / k+1).toNat else 0)).map fun(n:Nat)=>D.int (i+n*k),none) μ else .stuck
  | _,_,_=>.stuck
 | .zip a b,σ,μ=>(evE a σ μ).bind fun x μ=>(evE b σ μ).bind fun y μ=>match cu μ x,de [] y with
  | some w,some ys=>.ok ((w.1.zip ys).map fun p=>.tup [p.1,p.2],w.2) μ
  | _,_=>.stuck
 | .enum a,σ,μ=>(evE a σ μ).bind fun x μ=>match cu μ x with
  | some w=>.ok ((List.range w.1.length |>.zip w.1).map fun(p:Nat×D)=>.tup [.int p.1,p.2],w.2) μ
  | none=>.stuck
 | .rev _,_,_=>.stuck
 | .vals a,σ,μ=>(evE a σ μ).bind fun x μ=>match x with
  | .loc n=>match μ[n]? with
   | some (.d kvs)=>.ok (kvs.map (·.2),none) (μ.set n .dead)
   | _=>.stuck
  | _=>.stuck
end
mutual
noncomputable def evS:Sm→Sl→Sto→Res Fl
 | .set i e,σ,μ=>(evE φ e σ μ).bind fun d μ=>.ok (.nx (σ.set i (some d))) μ
 | .unp is e,σ,μ=>(evE φ e σ μ).bind fun d μ=>match d6 (.many is) d σ with
  | some σ'=>.ok (.nx σ') μ
  | none=>.stuck
 | .setx o i v,σ,μ=>(evE φ v σ μ).bind fun d μ=>(evE φ o σ μ).bind fun x μ=>(evE φ i σ μ).bind fun y μ=>(Az x y d μ).bind fun _ μ=>.ok (.nx σ) μ
 | .augx op o i v,σ,μ=>(evE φ o σ μ).bind fun x μ=>(evE φ i σ μ).bind fun y μ=>(ixL x y μ).bind fun old μ=>(evE φ v σ μ).bind fun d μ=>(Vh op old d μ).bind fun z μ=>(Az x y z μ).bind fun _ μ=>.ok (.nx σ) μ
 | .setxT o i v,σ,μ=>(evE φ v σ μ).bind fun d μ=>(evE φ o σ μ).bind fun x μ=>(gw φ i σ μ).bind fun y μ=>(Tz x y d μ).bind fun _ μ=>.ok (.nx σ) μ
 | .ex e,σ,μ=>(evE φ e σ μ).bind fun _ μ=>.ok (.nx σ) μ
 | .ite c a b,σ,μ=>(evE φ c σ μ).bind fun x μ=>match x with
  | .bl k=>if k=true then n4 a σ μ else n4 b σ μ
  | _=>.stuck
 | .loop tg it b,σ,μ=>(evI φ it σ μ).bind fun ds μ=>ng ds.2 (fun d σ μ=>l6 (d6 tg d σ) fun σ'=>n4 b σ' μ) ds.1 σ μ
 | .ret e,σ,μ=>(evE φ e σ μ).bind fun d μ=>.ok (.rt d) μ
 | .raise c es,σ,μ=>(gw φ es σ μ).bind fun ds μ=>.exc c ds μ
 | .pass,σ,μ=>.ok (.nx σ) μ
 | .brk,σ,μ=>.ok (.bk σ) μ
 | .cont,σ,μ=>.ok (.ct σ) μ
 | .never,_,_=>.stuck
noncomputable def n4:Sms→Sl→Sto→Res Fl
 | .nil,σ,μ=>.ok (.nx σ) μ
 | .cons s r,σ,μ=>(evS s σ μ).bind fun fl μ=>match fl with
  | .nx σ'=>n4 r σ' μ
  | fl=>.ok fl μ
end
end
structure Df where
 np:Nat
 nn:Nat
 body:Sms
noncomputable def Oo (φ:Phi) (f:Df) (ds:List D) (μ:Sto):Res D :=
 if ds.length=f.np then(n4 φ f.body (ds.map some++List.replicate (f.nn-f.np) none) μ).bind fun fl μ=>match fl with
  | .nx _=>.ok .non μ
  | .rt d=>.ok d μ
  | _=>.stuck
 else .stuck
noncomputable def ar (T:List Df):Nat→Phi
 | 0=>fun _ _ _=>.stuck
 | n+1=>fun f ds μ=>match T[f]? with
  | some d=>Oo (ar T n) d ds μ
  | none=>.stuck
end Lp
set_option maxHeartbeats 4000000
namespace Lp
open PySem PySem.Spec PyProof.Rows L2
noncomputable abbrev St:=L2.St
theorem _root_.L2.FzL.sq {K:PySem.W.Frag} {H:Hp} {a:Addr} {xs:List V} (h:FzL K H a xs):SqL K H a xs:=by
 rcases h with⟨o,h⟩ | ⟨its,n,h,hz,hv⟩
 ·exact .inl (.inr ⟨o,h⟩)
 ·exact .inr ⟨_,its.toArray,n,h,rfl,rfl,rfl,by rw[AD,←hv.length];exact hz,by simpa using hv⟩
noncomputable def LsL (K:PySem.W.Frag) (H:Hp) (a:Addr) (xs:List V):Prop:=H a=some (.lst xs)∨FzL K H a xs
theorem LsL.sq {K:PySem.W.Frag} {H:Hp} {a:Addr} {xs:List V} (h:LsL K H a xs):SqL K H a xs:=by
 rcases h with h | h
 ·exact .of h
 ·exact h.sq
theorem _root_.L2.Inv.ls {X:Cx} {pins:List (Addr×Obj)} {σ:St} {H:Hp} {s:Shared} {a:Addr} {xs:List V} (I:Inv X pins σ H s) (h:LsL X.K H a xs) :
  xs.length≤sizeLine∧∃(its:List Value) (n:Nat),bq xs its∧xs.length=its.length∧s.heap.get? a=some {cls:=.type "list",data:=.seq its.toArray n}:=by
 rcases h with h | ⟨o,h⟩ | ⟨its,n,h,hz,hv⟩
 ·obtain⟨z,its,n,hv,e⟩:=I.hok a _ h
  exact⟨z,its,n,hv,hv.length,e⟩
 ·obtain⟨_,z,its,n,hv,e⟩:=I.hok a _ h
  exact⟨z,its,n,hv,hv.length,e⟩
 ·exact⟨hz,its,n,hv,hv.length,I.kIn a _ h⟩
structure Ext (H H':Hp):Prop where
 tups:∀b xs,H b=some (.tup xs)→H' b=some (.tup xs)
 frzs:∀b o u,H b=some (.frz o u)→H' b=some (.frz o u)
theorem Ext.refl (H:Hp):Ext H H:=⟨fun _ _ h=>h,fun _ _ _ h=>h⟩
theorem Ext.trans {H H1 H2:Hp} (a:Ext H H1) (b:Ext H1 H2):Ext H H2:=⟨fun c xs h=>b.tups c xs (a.tups c xs h),fun c o u h=>b.frzs c o u (a.frzs c o u h)⟩
theorem Ext.new {H:Hp} {p:Addr} {o:HO} (h:H p=none):Ext H (upd H p o) :=
 ⟨fun b xs e=>by rw[ay (bu e h)];exact e,fun b o u e=>by rw[ay (bu e h)];exact e⟩
theorem Ext.lst {H:Hp} {p:Addr} {xs:List V} {o:HO} (h:H p=some (.lst xs)):Ext H (upd H p o) :=
 ⟨fun b ys e=>by rw[ay (ma e h (by intro z;cases z))];exact e,fun b o u e=>by rw[ay (ma e h (by intro z;cases z))];exact e⟩
theorem Ext.dK {H:Hp} {p:Addr} {xs:List (Key×V)} {o:HO} (h:H p=some (.dK xs)):Ext H (upd H p o) :=
 ⟨fun b ys e=>by rw[ay (ma e h (by intro z;cases z))];exact e,fun b o u e=>by rw[ay (ma e h (by intro z;cases z))];exact e⟩
theorem _root_.L2.SqT.ext {K:PySem.W.Frag} {H H':Hp} {a:Addr} {xs:List V} (h:SqT K H a xs) (e:Ext H H'):SqT K H' a xs:=by
 rcases h with(h | ⟨o,h⟩) | h
 ·exact .inl (.inl (e.tups _ _ h))
 ·exact .inl (.inr ⟨o,e.frzs _ _ _ h⟩)
 ·exact .inr h
theorem _root_.L2.FzL.ext {K:PySem.W.Frag} {H H':Hp} {a:Addr} {xs:List V} (h:FzL K H a xs) (e:Ext H H'):FzL K H' a xs:=by
 rcases h with⟨o,h⟩ | h
 ·exact .inl ⟨o,e.frzs _ _ _ h⟩
 ·exact .inr h
section
variable (K : PySem.W.Frag) (ι : List Addr) (H : Hp)
mutual
noncomputable def IsD:D→V→Prop
 | .non,v=>v=.non
 | .bl b,v=>v=.bl b
 | .int i,v=>v=.int i
 | .str x,v=>v=.str x
 | .tup ds,v=>∃a xs,v=.ref a∧SqT K H a xs∧aj ds xs
 | .lst ds,v=>∃a xs,v=.ref a∧FzL K H a xs∧aj ds xs
 | .loc n,v=>∃a,v=.ref a∧ι[n]? = some a
noncomputable def aj:List D→List V→Prop
 | [],xs=>xs=[]
 | d::ds,xs=>∃v r,xs=v::r∧IsD d v∧aj ds r
end
end
section
variable {K : PySem.W.Frag} {ι ι' : List Addr} {H H' : Hp}
mutual
theorem IsD.mono (hp:ι <+: ι') (he:Ext H H'):∀(d:D) (v:V),IsD K ι H d v→IsD K ι' H' d v
 | .non,_,h=>by simpa[IsD]using h
 | .bl b,_,h=>by simpa[IsD]using h
 | .int i,_,h=>by simpa[IsD]using h
 | .str x,_,h=>by simpa[IsD]using h
 | .tup ds,v,h=>by
  simp only[IsD]at h ⊢
  obtain⟨a,xs,e,q,r⟩:=h
  exact⟨a,xs,e,q.ext he,aj.mono hp he ds xs r⟩
 | .lst ds,v,h=>by
  simp only[IsD]at h ⊢
  obtain⟨a,xs,e,q,r⟩:=h
  exact⟨a,xs,e,q.ext he,aj.mono hp he ds xs r⟩
 | .loc n,v,h=>by
  simp only[IsD]at h ⊢
  obtain⟨a,e,q⟩:=h
  obtain⟨t,rfl⟩:=hp
  exact⟨a,e,by rw[AV (AE.mp q).1];exact q⟩
theorem aj.mono (hp:ι <+: ι') (he:Ext H H'):∀(ds:List D) (xs:List V),aj K ι H ds xs→aj K ι' H' ds xs
 | [],xs,h=>by simpa[aj]using h
 | d::ds,xs,h=>by
  simp only[aj]at h ⊢
  obtain⟨v,r,e,q,t⟩:=h
  exact⟨v,r,e,IsD.mono hp he d v q,aj.mono hp he ds r t⟩
end
theorem aj.length:∀{ds:List D} {xs:List V},aj K ι H ds xs→xs.length=ds.length
 | [],xs,h=>by simp only[aj]at h;subst h;rfl
 | d::ds,xs,h=>by
  simp only[aj]at h
  obtain⟨v,r,rfl,_,t⟩:=h
  simp[aj.length t]
theorem aj.get:∀{ds:List D} {xs:List V} {i:Nat} {d:D},aj K ι H ds xs→ds[i]? = some d→∃v,xs[i]? = some v∧IsD K ι H d v
 | [],_,_,_,_,e=>by simp at e
 | d::ds,xs,0,_,h,e=>by
  simp only[aj]at h
  obtain⟨v,r,rfl,q,_⟩:=h
  simp at e;subst e
  exact⟨v,rfl,q⟩
 | d::ds,xs,i+1,x,h,e=>by
  simp only[aj]at h
  obtain⟨v,r,rfl,_,t⟩:=h
  obtain⟨w,h1,h2⟩:=aj.get (i:=i) (d:=x) t (by simpa using e)
  exact⟨w,by simpa using h1,h2⟩
theorem aj.append:∀{ds es:List D} {xs ys:List V},aj K ι H ds xs→aj K ι H es ys→aj K ι H (ds++es) (xs++ys)
 | [],_,_,_,h,g=>by simp only[aj]at h;subst h;exact g
 | d::ds,es,xs,ys,h,g=>by
  simp only[aj]at h
  obtain⟨v,r,rfl,q,t⟩:=h
  simp only[DV,aj]
  exact⟨v,r++ys,rfl,q,aj.append t g⟩
theorem aj.one {d:D} {v:V} (h:IsD K ι H d v):aj K ι H [d] [v]:=by
 simp only[aj];exact⟨v,[],rfl,h,rfl⟩
theorem aj.take:∀{ds:List D} {xs:List V} (n:Nat),aj K ι H ds xs→aj K ι H (ds.take n) (xs.take n)
 | _,_,0,_=>by simp[aj]
 | [],_,n+1,h=>by simp only[aj]at h;subst h;simp[aj]
 | d::ds,xs,n+1,h=>by
  simp only[aj]at h
  obtain⟨v,r,rfl,q,t⟩:=h
  simp only[List.take_succ_cons,aj]
  exact⟨v,_,rfl,q,aj.take n t⟩
theorem aj.drop:∀{ds:List D} {xs:List V} (n:Nat),aj K ι H ds xs→aj K ι H (ds.drop n) (xs.drop n)
 | _,_,0,h=>by simpa using h
 | [],_,n+1,h=>by simp only[aj]at h;subst h;simp[aj]
 | d::ds,xs,n+1,h=>by
  simp only[aj]at h
  obtain⟨v,r,rfl,q,t⟩:=h
  simpa using aj.drop n t
theorem aj.set {d:D} {v:V} (hd:IsD K ι H d v):∀{ds:List D} {xs:List V} (n:Nat),aj K ι H ds xs→aj K ι H (ds.set n d) (xs.set n v)
 | [],_,n,h=>by simp only[aj]at h;subst h;simp[aj]
 | e::ds,xs,0,h=>by
  simp only[aj]at h
  obtain⟨w,r,rfl,q,t⟩:=h
  simp only[EC,aj]
  exact⟨v,r,rfl,hd,t⟩
 | e::ds,xs,n+1,h=>by
  simp only[aj]at h
  obtain⟨w,r,rfl,q,t⟩:=h
  simp only[ED,aj]
  exact⟨w,_,rfl,q,aj.set hd n t⟩
theorem aj.eraseIdx:∀{ds:List D} {xs:List V} (n:Nat),aj K ι H ds xs→aj K ι H (ds.eraseIdx n) (xs.eraseIdx n)
 | [],_,n,h=>by simp only[aj]at h;subst h;simp[aj]
 | e::ds,xs,0,h=>by
  simp only[aj]at h
  obtain⟨w,r,rfl,q,t⟩:=h
  simpa using t
 | e::ds,xs,n+1,h=>by
  simp only[aj]at h
  obtain⟨w,r,rfl,q,t⟩:=h
  simp only[HA,aj]
  exact⟨w,_,rfl,q,aj.eraseIdx n t⟩
theorem aj.reverse:∀{ds:List D} {xs:List V},aj K ι H ds xs→aj K ι H ds.reverse xs.reverse
 | [],_,h=>by simp only[aj]at h;subst h;simp[aj]
 | e::ds,xs,h=>by
  simp only[aj]at h
  obtain⟨w,r,rfl,q,t⟩:=h
  simp only[GJ]
  exact(aj.reverse t).append (.one q)
theorem aj.dropLast {ds:List D} {xs:List V} (h:aj K ι H ds xs):aj K ι H ds.dropLast xs.dropLast:=by
 rw[HV,HV,h.length]
 exact h.take _
theorem aj.rep {ds:List D} {xs:List V} (h:aj K ι H ds xs):∀k:Nat,aj K ι H (List.replicate k ds).flatten (List.replicate k xs).flatten
 | 0=>by simp[aj]
 | k+1=>by
  simp only[DA,EL]
  exact h.append (aj.rep h k)
theorem aj.ints:∀(ns:List Int),aj K ι H (ns.map D.int) (ns.map V.int)
 | []=>by simp[aj]
 | n::r=>by
  simp only[AR,aj]
  exact⟨_,_,rfl,by simp[IsD],aj.ints r⟩
theorem IsD.puren:∀(k:Nat) (d:D) (v:V),D.pureN k d=true→IsD K ι H d v→IsD K ι' H d v:=by
 have list:∀(k:Nat),(∀(d:D) (v:V),D.pureN k d=true→IsD K ι H d v→IsD K ι' H d v) →
   ∀(ds:List D) (xs:List V),ds.all (D.pureN k)=true→aj K ι H ds xs→aj K ι' H ds xs:=by
  intro k ih ds
  induction ds with
  | nil=>intro xs _ h;simpa[aj]using h
  | cons d ds ihd =>
   intro xs hp h
   simp only[aj]at h ⊢
   simp only[BB,BA]at hp
   obtain⟨v,r,e,q,t⟩:=h
   exact⟨v,r,e,ih d v hp.1 q,ihd r hp.2 t⟩
 intro k
 induction k with
 | zero =>
  intro d v hp h
  cases d<;>simp_all[D.pureN,IsD]
 | succ k ih =>
  intro d v hp h
  cases d with
  | tup ds =>
   simp only[D.pureN]at hp
   simp only[IsD]at h ⊢
   obtain⟨a,xs,e,q,r⟩:=h
   exact⟨a,xs,e,q,list k ih ds xs hp r⟩
  | lst ds =>
   simp only[D.pureN]at hp
   simp only[IsD]at h ⊢
   obtain⟨a,xs,e,q,r⟩:=h
   exact⟨a,xs,e,q,list k ih ds xs hp r⟩
  | loc n=>simp[D.pureN]at hp
  | _=>simpa[IsD]using h
theorem IsD.pur {d:D} {v:V} (hp:d.pure=true) (h:IsD K ι H d v):IsD K ι' H d v:=IsD.puren 8 d v hp h
theorem aj.pur {ds:List D} {xs:List V} (hp:ds.all (D.pureN 8)=true) (h:aj K ι H ds xs):aj K ι' H ds xs:=by
 induction ds generalizing xs with
 | nil=>simpa[aj]using h
 | cons d ds ih =>
  simp only[aj]at h ⊢
  simp only[BB,BA]at hp
  obtain⟨v,r,e,q,t⟩:=h
  exact⟨v,r,e,IsD.pur hp.1 q,ih hp.2 t⟩
end
section
variable (K : PySem.W.Frag) (ι : List Addr) (H : Hp)
noncomputable def Hu (kvs:List (D×D)) (xs:List (Key×V)):Prop :=
 Paired (fun(p:D×D) (q:Key×V)=>IsD K [] H p.1 (kV q.1)∧IsD K [] H p.2 q.2) kvs xs
noncomputable def Ws (kvs:List (D×D)) (xs:List (List Key×V)):Prop :=
 Paired (fun(p:D×D) (q:List Key×V)=>(∃ds,p.1=.tup ds∧aj K [] H ds (q.1.map kV))∧IsD K [] H p.2 q.2) kvs xs
noncomputable def OIs (a:Addr):O→Prop
 | .l ds=>∃xs,H a=some (.lst xs)∧aj K [] H ds xs
 | .r ds=>∃xs,H a=some (.lst xs)∧aj K ι H ds xs
 | .d kvs=>∃xs,H a=some (.dK xs)∧Hu K H kvs xs
 | .dt kvs=>∃xs,H a=some (.dT xs)∧Ws K H kvs xs
 | .dead=>∃u,H a=some u
structure Sim (μ:Sto):Prop where
 len:ι.length=μ.length
 nd:ι.Nodup
 obj:∀(n:Nat) a o,ι[n]? = some a→μ[n]? = some o→OIs K ι H a o
noncomputable def n8 (σ:Sl) (σv:St):Prop:=∀(i:Nat) d,σ[i]? = some (some d)→∃v,σv[i]? = some (some v)∧IsD K ι H d v
end
section
variable {K : PySem.W.Frag} {ι ι' : List Addr} {H H' : Hp} {μ : Sto} {σ : Sl} {σv : St}
theorem n8.mono (h:n8 K ι H σ σv) (hp:ι <+: ι') (he:Ext H H'):n8 K ι' H' σ σv:=fun i d e=>by
 obtain⟨v,q,r⟩:=h i d e
 exact⟨v,q,IsD.mono hp he d v r⟩
theorem n8.set (h:n8 K ι H σ σv) (hl:σ.length=σv.length) {i:Nat} {d:D} {v:V} (hd:IsD K ι H d v):n8 K ι H (σ.set i (some d)) (σv.set i (some v)):=fun j e q=>by
 by_cases hj:i=j
 ·subst hj
  by_cases hi:i<σ.length
  ·rw[CQ hi]at q
   cases q
   exact⟨v,by rw[CQ (by lia)],hd⟩
  ·rw[AQ (by simp;lia)]at q;cases q
 ·rw[CA hj]at q
  obtain⟨w,q1,q2⟩:=h j e q
  exact⟨w,by rw[CA hj];exact q1,q2⟩
theorem OIs.ne (h:OIs K ι H a o):∃u,H a=some u:=by
 cases o with
 | l ds=>obtain⟨xs,e,_⟩:=h;exact⟨_,e⟩
 | r ds=>obtain⟨xs,e,_⟩:=h;exact⟨_,e⟩
 | d kvs=>obtain⟨xs,e,_⟩:=h;exact⟨_,e⟩
 | dt kvs=>obtain⟨xs,e,_⟩:=h;exact⟨_,e⟩
 | dead=>exact h
theorem OIs.mono {a:Addr} {o:O} (h:OIs K ι H a o) (hp:ι <+: ι') (he:Ext H H') (ha:H' a=H a):OIs K ι' H' a o:=by
 cases o with
 | l ds=>obtain⟨xs,e,q⟩:=h;exact⟨xs,ha.trans e,aj.mono (AH _) he ds xs q⟩
 | r ds=>obtain⟨xs,e,q⟩:=h;exact⟨xs,ha.trans e,aj.mono hp he ds xs q⟩
 | d kvs =>
  obtain⟨xs,e,q⟩:=h
  exact⟨xs,ha.trans e,Paired.mapP q fun p r z=>⟨IsD.mono (AH _) he _ _ z.1,IsD.mono (AH _) he _ _ z.2⟩⟩
 | dt kvs =>
  obtain⟨xs,e,q⟩:=h
  exact⟨xs,ha.trans e,Paired.mapP q fun p r z=>⟨let ⟨ds,e,t⟩:=z.1;⟨ds,e,aj.mono (AH _) he _ _ t⟩,IsD.mono (AH _) he _ _ z.2⟩⟩
 | dead=>obtain⟨u,e⟩:=h;exact⟨u,ha.trans e⟩
theorem Sim.at (h:Sim K ι H μ) {n:Nat} {o:O} (e:μ[n]? = some o):∃a,ι[n]? = some a∧OIs K ι H a o:=by
 have hn:n<ι.length:=by rw[h.len];exact(AE.mp e).1
 exact⟨ι[n],AA hn,h.obj n _ o (AA hn) e⟩
theorem Sim.used (h:Sim K ι H μ) {n:Nat} {a:Addr} (e:ι[n]? = some a):∃u,H a=some u:=by
 have hn:n<μ.length:=by rw[←h.len];exact(AE.mp e).1
 exact(h.obj n a _ e (AA hn)).ne
theorem Sim.new (h:Sim K ι H μ) {p:Addr} {o:HO} (hp:H p=none):Sim K ι (upd H p o) μ :=
 ⟨h.len,h.nd,fun n a ob e1 e2=>by
  obtain⟨u,hu⟩:=h.used e1
  exact(h.obj n a ob e1 e2).mono (AH _) (.new hp) (ay (bu hu hp))⟩
theorem Sim.push (h:Sim K ι H μ) {p:Addr} {u:HO} {o:O} (hp:H p=none) (ho:OIs K (ι++[p]) (upd H p u) p o):Sim K (ι++[p]) (upd H p u) (μ++[o]):=by
 have hne:∀a∈ι,a≠p:=fun a ha z=>by
  obtain⟨n,hn,e⟩:=CJ.mp ha
  obtain⟨u,hu⟩:=h.used (n:=n) (by rw[AA hn,e])
  rw[z,hp]at hu;cases hu
 refine⟨by simp[h.len],?_,fun n a ob e1 e2=>?_⟩
 ·refine List.nodup_append.mpr ⟨h.nd,by simp,?_⟩
  intro a ha b hb
  have:b=p:=by simpa using hb
  subst this
  exact hne a ha
 ·by_cases hn:n<ι.length
  ·rw[AV hn]at e1
   rw[AV (by rw[←h.len];exact hn)]at e2
   exact(h.obj n a ob e1 e2).mono ⟨[p],rfl⟩ (.new hp) (ay (hne a (CB e1)))
  ·have hm:n=ι.length:=by
    have:=(AE.mp e1).1
    simp at this;lia
   subst hm
   simp at e1
   rw[h.len]at e2
   simp at e2
   subst e1;subst e2
   exact ho
theorem Sim.put (h:Sim K ι H μ) {n:Nat} {p:Addr} {u:HO} {o:O} (hn:ι[n]? = some p) (he:Ext H (upd H p u)) (ho:OIs K ι (upd H p u) p o):Sim K ι (upd H p u) (μ.set n o):=by
 refine⟨by simp[h.len],h.nd,fun k a ob e1 e2=>?_⟩
 by_cases hk:n=k
 ·subst hk
  rw[hn]at e1;cases e1
  have:n<μ.length:=by rw[←h.len];exact(AE.mp hn).1
  rw[CQ this]at e2;cases e2
  exact ho
 ·rw[CA hk]at e2
  refine(h.obj k a ob e1 e2).mono (AH _) he (ay fun z=>hk ?_)
  subst z
  obtain⟨h1,e1'⟩:=AE.mp e1
  obtain⟨h2,e2'⟩:=AE.mp hn
  exact(List.getElem_inj h.nd).mp (e2'.trans e1'.symm)
end
end Lp
namespace Lp
open PySem PySem.Spec PyProof.Rows L2
noncomputable def gq {α β:Type} (K:PySem.W.Frag) (R:List Addr→Hp→α→β→Prop) (ι:List Addr) (H:Hp) (r:Res α) (Q:β→Hp→Prop):Prop:=match r with
 | .ok d μ'=>∀ι' v H',ι <+: ι'→Ext H H'→Sim K ι' H' μ'→R ι' H' d v→Q v H'
 | .exc _ _ _=>False
 | .stuck=>False
noncomputable abbrev RD (K:PySem.W.Frag):List Addr→Hp→D→V→Prop:=fun ι H d v=>IsD K ι H d v
noncomputable abbrev RDs (K:PySem.W.Frag):List Addr→Hp→List D→List V→Prop:=fun ι H d v=>aj K ι H d v
noncomputable abbrev RB:List Addr→Hp→Bool→Bool→Prop:=fun _ _ d v=>d=v
noncomputable abbrev RO:List Addr→Hp→Option Int→Option Int→Prop:=fun _ _ d v=>d=v
section
variable {α β γ δ : Type} {K : PySem.W.Frag} {R : List Addr → Hp → α → β → Prop} {S : List Addr → Hp → γ → δ → Prop} {ι ι' : List Addr} {H H' : Hp}
theorem gq.mono {r:Res α} {Q:β→Hp→Prop} (h:gq K R ι H r Q) (hp:ι <+: ι') (he:Ext H H'):gq K R ι' H' r Q:=by
 cases r with
 | ok d μ=>exact fun ι2 v H2 p e s q=>h ι2 v H2 (hp.trans p) (he.trans e) s q
 | exc _ _ _=>exact h
 | stuck=>exact h
theorem gq.imp {r:Res α} {Q Q':β→Hp→Prop} (h:gq K R ι H r Q) (hq:∀v H',Q v H'→Q' v H'):gq K R ι H r Q':=by
 cases r with
 | ok d μ=>exact fun ι2 v H2 p e s q=>hq _ _ (h ι2 v H2 p e s q)
 | exc _ _ _=>exact h
 | stuck=>exact h
theorem gq.ok {d:α} {μ:Sto} {v:β} {Q:β→Hp→Prop} (h:gq K R ι H (.ok d μ) Q) (hs:Sim K ι H μ) (hr:R ι H d v):Q v H:=h ι v H (AH _) (.refl _) hs hr
theorem gq.bind {x:Res α} {f:α→Sto→Res γ} {Q:δ→Hp→Prop} (h:gq K S ι H (x.bind f) Q) :
  ∃d μ1,x=.ok d μ1∧gq K S ι H (f d μ1) Q:=by
 cases x with
 | ok d μ=>exact⟨d,μ,rfl,h⟩
 | exc _ _ _=>exact h.elim
 | stuck=>exact h.elim
end
noncomputable def tE (K:PySem.W.Frag) (φ:Phi) (x:Ex):TE:=fun σv H Q=>∃ι σ μ,Sim K ι H μ∧n8 K ι H σ σv∧gq K (RD K) ι H (evE φ x σ μ) Q
noncomputable def tEs (K:PySem.W.Frag) (φ:Phi) (x:Exs):TA:=fun σv H Q=>∃ι σ μ,Sim K ι H μ∧n8 K ι H σ σv∧gq K (RDs K) ι H (gw φ x σ μ) Q
noncomputable def tEo (K:PySem.W.Frag) (φ:Phi) (x:ExO):TO:=fun σv H Q=>∃ι σ μ,Sim K ι H μ∧n8 K ι H σ σv∧gq K RO ι H (evO φ x σ μ) Q
noncomputable def tT (K:PySem.W.Frag) (φ:Phi) (x:Ex):TT:=fun σv H Q=>∃ι σ μ,Sim K ι H μ∧n8 K ι H σ σv∧gq K RB ι H ((evE φ x σ μ).bind fun d μ=>Vi d μ) Q
theorem PE.imp {X:Cx} {e:Expr} {t t':TE} (h:PE X e t) (i:∀σ H Q,t' σ H Q→t σ H Q):PE X e t':=fun pins s σ H Q I q=>h pins s σ H Q I (i σ H Q q)
theorem PA.imp {X:Cx} {e:List Expr} {t t':TA} (h:PA X e t) (i:∀σ H Q,t' σ H Q→t σ H Q):PA X e t':=fun pos pins s σ H Q I q=>h pos pins s σ H Q I (i σ H Q q)
theorem PT.imp {X:Cx} {e:Expr} {t t':TT} (h:PT X e t) (i:∀σ H Q,t' σ H Q→t σ H Q):PT X e t':=fun pins s σ H Q I q=>h pins s σ H Q I (i σ H Q q)
theorem PW.imp {X:Cx} {e:Expr} {t t':TT} (h:PW X e t) (i:∀σ H Q,t' σ H Q→t σ H Q):PW X e t':=fun wh pins s σ H Q I q=>h wh pins s σ H Q I (i σ H Q q)
section
variable {X : Cx} {φ : Phi} {a b c : Expr} {xa xb xc : Ex} {pos : Pos}
theorem T2 {i:Nat} {x:Str} (hN:X.N[i]? = some x) (hv:Vis X.env.scope x) (hd:(x==("__debug__":Str))=false) (hcd:(x==("__classdict__":Str))=false):PE X (.Name x pos) (tE X.K φ (.var i)) :=
 PE.imp (sr hN hv hd hcd) fun σv H Q ⟨ι,σ,μ,hS,hL,h⟩=>by
  simp only[evE]at h
  split at h
  ·rename_i d e
   obtain⟨v,e1,e2⟩:=hL i d e
   exact⟨v,e1,h.ok hS e2⟩
  ·exact h.elim
theorem T3 {i:Int} {j:Nat}:PE X (.Constant (.int i) j pos) (tE X.K φ (.cst (.int i))) :=
 PE.imp Ju fun σv H Q ⟨ι,σ,μ,hS,hL,h⟩=>by simp only[evE]at h;exact h.ok hS (by simp[IsD])
theorem Wt {i:Bool} {j:Nat}:PE X (.Constant (.bool i) j pos) (tE X.K φ (.cst (.bl i))) :=
 PE.imp S3 fun σv H Q ⟨ι,σ,μ,hS,hL,h⟩=>by simp only[evE]at h;exact h.ok hS (by simp[IsD])
theorem T4 {j:Nat}:PE X (.Constant .none j pos) (tE X.K φ (.cst .non)) :=
 PE.imp Ow fun σv H Q ⟨ι,σ,μ,hS,hL,h⟩=>by simp only[evE]at h;exact h.ok hS (by simp[IsD])
theorem T5 {i:Str} {j:Nat}:PE X (.Constant (.str i) j pos) (tE X.K φ (.cst (.str i))) :=
 PE.imp Ox fun σv H Q ⟨ι,σ,μ,hS,hL,h⟩=>by simp only[evE]at h;exact h.ok hS (by simp[IsD])
theorem two {σv:St} {H:Hp} {ι:List Addr} {σ:Sl} {μ:Sto} {f:D→D→Sto→Res D} {Q:VK} {R:V→V→Hp→Prop} (hS:Sim X.K ι H μ) (hL:n8 X.K ι H σ σv)
  (h:gq X.K (RD X.K) ι H ((evE φ xa σ μ).bind fun x μ=>(evE φ xb σ μ).bind fun y μ=>f x y μ) Q)
  (k:∀ι' H' d e x y μ',Sim X.K ι' H' μ'→IsD X.K ι' H' d x→IsD X.K ι' H' e y→gq X.K (RD X.K) ι' H' (f d e μ') Q→R x y H') :
  tE X.K φ xa σv H fun x H1=>tE X.K φ xb σv H1 fun y H2=>R x y H2:=by
 obtain⟨d,μ1,e1,h⟩:=h.bind
 refine⟨ι,σ,μ,hS,hL,?_⟩
 rw[e1]
 intro ι1 x H1 p1 x1 s1 d1
 obtain⟨e,μ2,e2,h⟩:=h.bind
 refine⟨ι1,σ,μ1,s1,hL.mono p1 x1,?_⟩
 rw[e2]
 intro ι2 y H2 p2 x2 s2 d2
 exact k ι2 H2 d e x y μ2 s2 (IsD.mono p2 x2 d x d1) d2 (h.mono (p1.trans p2) (x1.trans x2))
noncomputable def rOp (K:PySem.W.Frag) (f:D→D→Sto→Res D):R2:=fun x y H Q=>∃ι d e μ,Sim K ι H μ∧IsD K ι H d x∧IsD K ι H e y∧gq K (RD K) ι H (f d e μ) Q
theorem T6 {op:Operator} {m:Mk} (ho:OpR X (binaryOp op) (rOp X.K (opD op m))) (ha:PE X a (tE X.K φ xa)) (hb:PE X b (tE X.K φ xb)):PE X (.BinOp a op b pos) (tE X.K φ (.bin op m xa xb)) :=
 PE.imp (Td ho ha hb) fun σv H Q ⟨ι,σ,μ,hS,hL,h⟩=>by
  simp only[evE]at h
  exact two hS hL h fun ι' H' d e x y μ' s d1 d2 p=>⟨ι',d,e,μ',s,d1,d2,p⟩
theorem Wu (ho:IxR X (rOp X.K ixD)) (ha:PE X a (tE X.K φ xa)) (hb:PE X b (tE X.K φ xb)) (hs:zk b):PE X (.Subscript a b pos) (tE X.K φ (.ix xa xb)) :=
 PE.imp (Tt ho ha hb hs) fun σv H Q ⟨ι,σ,μ,hS,hL,h⟩=>by
  simp only[evE]at h
  exact two hS hL h fun ι' H' d e x y μ' s d1 d2 p=>⟨ι',d,e,μ',s,d1,d2,p⟩
theorem El:PA X [] (tEs X.K φ .nil) :=
 PA.imp Jy fun σv H Q ⟨ι,σ,μ,hS,hL,h⟩=>by simp only[gw]at h;exact h.ok hS (by simp[aj])
theorem qj {es:List Expr} {xs:Exs} (ha:PE X a (tE X.K φ xa)) (hb:PA X es (tEs X.K φ xs)) (hs:starEach (a::es) X.env=(false,eval a X.env)::starEach es X.env):PA X (a::es) (tEs X.K φ (.cons xa xs)) :=
 PA.imp (zi ha hb hs) fun σv H Q ⟨ι,σ,μ,hS,hL,h⟩=>by
  simp only[gw]at h
  obtain⟨d,μ1,e1,h⟩:=h.bind
  refine⟨ι,σ,μ,hS,hL,?_⟩
  rw[e1]
  intro ι1 x H1 p1 x1 s1 d1
  obtain⟨e,μ2,e2,h⟩:=h.bind
  refine⟨ι1,σ,μ1,s1,hL.mono p1 x1,?_⟩
  rw[e2]
  intro ι2 y H2 p2 x2 s2 d2
  refine h ι2 (x::y) H2 (p1.trans p2) (x1.trans x2) s2 ?_
  show aj _ _ _ _ _
  simp only[aj]
  exact⟨x,y,rfl,IsD.mono p2 x2 d x d1,d2⟩
theorem T7 {es:List Expr} {xs:Exs} {k:Nat} (h:PA X es (tEs X.K φ xs)) (hl:∀σ μ ds μ',gw φ xs σ μ=.ok ds μ'→ds.length≤sizeLine):PE X (.Tuple es k pos) (tE X.K φ (.tup xs)) :=
 PE.imp (Pb h) fun σv H Q ⟨ι,σ,μ,hS,hL,h⟩=>by
  simp only[evE]at h
  obtain⟨ds,μ1,e1,h⟩:=h.bind
  refine⟨ι,σ,μ,hS,hL,?_⟩
  rw[e1]
  intro ι1 vs H1 p1 x1 s1 d1
  have hd:aj X.K ι1 H1 ds vs:=d1
  refine⟨by rw[hd.length];exact hl σ μ ds μ1 e1,fun p hp=>?_⟩
  refine h ι1 (.ref p) (upd H1 p (.tup vs)) p1 (x1.trans (.new hp)) (s1.new hp) ?_
  show IsD _ _ _ _ _
  simp only[IsD]
  exact⟨p,vs,rfl,.of a8,aj.mono (AH _) (.new hp) ds vs d1⟩
theorem T8 {x:Ex} {σv:St} {H:Hp} {Q:Bool→Hp→Prop} (h:tT X.K φ x σv H Q):tE X.K φ x σv H fun v H'=>∃k,v=.bl k∧Q k H':=by
 obtain⟨ι,σ,μ,hS,hL,h⟩:=h
 obtain⟨d,μ1,e1,h⟩:=h.bind
 refine⟨ι,σ,μ,hS,hL,?_⟩
 rw[e1]
 intro ι1 x H1 p1 x1 s1 d1
 cases d with
 | bl k=>exact⟨k,by simpa[IsD]using d1,h ι1 k H1 p1 x1 s1 rfl⟩
 | _=>exact h.elim
theorem Mq {x:Ex} (ha:PE X a (tE X.K φ x)) (he:∀whole,isTrue a X.env whole=(do let v ←whole;standAt a.pos;holding [v] (truthy v))):PT X a (tT X.K φ x) :=
 PT.imp (Hh ha he) fun σv H Q h=>by
  have q:=T8 h
  obtain⟨ι,σ,μ,hS,hL,q⟩:=q
  exact⟨ι,σ,μ,hS,hL,q.imp fun v H' ⟨k,e,z⟩=>⟨k,by subst e;exact rfl,z⟩⟩
theorem Pz (ha:PT X a (tT X.K φ xa)):PT X (.UnaryOp .Not a pos) (tT X.K φ (.not xa)) :=
 PT.imp (O0 ha) fun σv H Q ⟨ι,σ,μ,hS,hL,h⟩=>by
  simp only[evE]at h
  rw[Res.bind_assoc]at h
  obtain⟨d,μ1,e1,h⟩:=h.bind
  refine⟨ι,σ,μ,hS,hL,?_⟩
  rw[e1]
  cases d with
  | bl k=>exact fun ι1 x H1 p1 x1 s1 d1=>h ι1 (!x) H1 p1 x1 s1 (by cases d1;rfl)
  | _=>exact h.elim
theorem P0 (ha:PE X a (tE X.K φ xa)):PE X (.UnaryOp .Not a pos) (tE X.K φ (.not xa)) :=
 PE.imp (O2 ha) fun σv H Q ⟨ι,σ,μ,hS,hL,h⟩=>by
  simp only[evE]at h
  obtain⟨d,μ1,e1,h⟩:=h.bind
  refine⟨ι,σ,μ,hS,hL,?_⟩
  rw[e1]
  intro ι1 x H1 p1 x1 s1 d1
  cases d with
  | bl k=>exact⟨k,by simpa[IsD]using d1,h ι1 (.bl !k) H1 p1 x1 s1 (by simp[IsD])⟩
  | _=>exact h.elim
theorem P1 {rest:List Expr} (ha:PE X a (tE X.K φ xa)) (hb:PE X (.BoolOp .And (b::rest) pos) (tE X.K φ xb)):PE X (.BoolOp .And (a::b::rest) pos) (tE X.K φ (.and xa xb)) :=
 PE.imp (O1 ha hb) fun σv H Q ⟨ι,σ,μ,hS,hL,h⟩=>by
  simp only[evE]at h
  obtain⟨d,μ1,e1,h⟩:=h.bind
  refine⟨ι,σ,μ,hS,hL,?_⟩
  rw[e1]
  intro ι1 x H1 p1 x1 s1 d1
  cases d with
  | bl k =>
   refine⟨k,by simpa[IsD]using d1,?_⟩
   cases k with
   | true=>exact⟨ι1,σ,μ1,s1,hL.mono p1 x1,(show gq _ _ _ _ (evE φ xb σ μ1) _ from h).mono p1 x1⟩
   | false=>exact h ι1 (.bl false) H1 p1 x1 s1 (by simp[IsD])
  | _=>exact h.elim
theorem T9 {rest:List Expr} (ha:PE X a (tE X.K φ xa)) (hb:PE X (.BoolOp .Or (b::rest) pos) (tE X.K φ xb)):PE X (.BoolOp .Or (a::b::rest) pos) (tE X.K φ (.or xa xb)) :=
 PE.imp (S7 ha hb) fun σv H Q ⟨ι,σ,μ,hS,hL,h⟩=>by
  simp only[evE]at h
  obtain⟨d,μ1,e1,h⟩:=h.bind
  refine⟨ι,σ,μ,hS,hL,?_⟩
  rw[e1]
  intro ι1 x H1 p1 x1 s1 d1
  cases d with
  | bl k =>
   refine⟨k,by simpa[IsD]using d1,?_⟩
   cases k with
   | true=>exact h ι1 (.bl true) H1 p1 x1 s1 (by simp[IsD])
   | false=>exact⟨ι1,σ,μ1,s1,hL.mono p1 x1,(show gq _ _ _ _ (evE φ xb σ μ1) _ from h).mono p1 x1⟩
  | _=>exact h.elim
theorem P2 {rest:List Expr} (ha:PT X a (tT X.K φ xa)) (hb:PW X (.BoolOp .And (b::rest) pos) (tT X.K φ xb)):PW X (.BoolOp .And (a::b::rest) pos) (tT X.K φ (.and xa xb)) :=
 PW.imp (Oz ha hb) fun σv H Q ⟨ι,σ,μ,hS,hL,h⟩=>by
  simp only[evE]at h
  rw[Res.bind_assoc]at h
  obtain⟨d,μ1,e1,h⟩:=h.bind
  refine⟨ι,σ,μ,hS,hL,?_⟩
  rw[e1]
  cases d with
  | bl k =>
   intro ι1 x H1 p1 x1 s1 d1
   cases d1
   cases k with
   | true=>exact⟨ι1,σ,μ1,s1,hL.mono p1 x1,(show gq _ _ _ _ ((evE φ xb σ μ1).bind _) _ from h).mono p1 x1⟩
   | false=>exact h ι1 false H1 p1 x1 s1 rfl
  | _=>exact h.elim
theorem Ua {rest:List Expr} (ha:PT X a (tT X.K φ xa)) (hb:PW X (.BoolOp .Or (b::rest) pos) (tT X.K φ xb)):PW X (.BoolOp .Or (a::b::rest) pos) (tT X.K φ (.or xa xb)) :=
 PW.imp (S4 ha hb) fun σv H Q ⟨ι,σ,μ,hS,hL,h⟩=>by
  simp only[evE]at h
  rw[Res.bind_assoc]at h
  obtain⟨d,μ1,e1,h⟩:=h.bind
  refine⟨ι,σ,μ,hS,hL,?_⟩
  rw[e1]
  cases d with
  | bl k =>
   intro ι1 x H1 p1 x1 s1 d1
   cases d1
   cases k with
   | true=>exact h ι1 true H1 p1 x1 s1 rfl
   | false=>exact⟨ι1,σ,μ1,s1,hL.mono p1 x1,(show gq _ _ _ _ ((evE φ xb σ μ1).bind _) _ from h).mono p1 x1⟩
  | _=>exact h.elim
end
end Lp
namespace Lp
open PySem PySem.Spec PyProof.Rows L2
noncomputable def ku (K:PySem.W.Frag) (ι:List Addr) (H:Hp) (r:Res Fl) (E:Ends):Prop:=match r with
 | .ok (.nx σ') μ'=>∀ι' σv H',ι <+: ι'→Ext H H'→Sim K ι' H' μ'→n8 K ι' H' σ' σv→σ'.length=σv.length→E.nx σv H'
 | .ok (.bk σ') μ'=>∀ι' σv H',ι <+: ι'→Ext H H'→Sim K ι' H' μ'→n8 K ι' H' σ' σv→σ'.length=σv.length→E.bk σv H'
 | .ok (.ct σ') μ'=>∀ι' σv H',ι <+: ι'→Ext H H'→Sim K ι' H' μ'→n8 K ι' H' σ' σv→σ'.length=σv.length→E.ct σv H'
 | .ok (.rt d) μ'=>∀ι' v H',ι <+: ι'→Ext H H'→Sim K ι' H' μ'→IsD K ι' H' d v→E.rt v H'
 | .exc _ _ _=>False
 | .stuck=>False
theorem ku.mono {K:PySem.W.Frag} {ι ι':List Addr} {H H':Hp} {r:Res Fl} {E:Ends} (h:ku K ι H r E) (hp:ι <+: ι') (he:Ext H H'):ku K ι' H' r E:=by
 cases r with
 | ok f μ=>cases f<;>exact fun ι2 v H2 p e=>h ι2 v H2 (hp.trans p) (he.trans e)
 | exc _ _ _=>exact h
 | stuck=>exact h
theorem ku.bind {α:Type} {K:PySem.W.Frag} {ι:List Addr} {H:Hp} {E:Ends} {x:Res α} {f:α→Sto→Res Fl} (h:ku K ι H (x.bind f) E):∃d μ1,x=.ok d μ1∧ku K ι H (f d μ1) E:=by
 cases x with
 | ok d μ=>exact⟨d,μ,rfl,h⟩
 | exc _ _ _=>exact h.elim
 | stuck=>exact h.elim
noncomputable def tS (K:PySem.W.Frag) (φ:Phi) (x:Sm):TS:=fun E σv H=>∃ι σ μ,Sim K ι H μ∧n8 K ι H σ σv∧σ.length=σv.length∧ku K ι H (evS φ x σ μ) E
noncomputable def tSs (K:PySem.W.Frag) (φ:Phi) (x:Sms):TS:=fun E σv H=>∃ι σ μ,Sim K ι H μ∧n8 K ι H σ σv∧σ.length=σv.length∧ku K ι H (n4 φ x σ μ) E
theorem PS.imp {X:Cx} {e:Stmt} {t t':TS} (h:PS X e t) (i:∀E σ H,t' E σ H→t E σ H):PS X e t':=fun pins s σ H E I q=>h pins s σ H E I (i E σ H q)
theorem PSs.imp {X:Cx} {e:List Stmt} {t t':TS} (h:PSs X e t) (i:∀E σ H,t' E σ H→t E σ H):PSs X e t':=fun pins s σ H E I q=>h pins s σ H E I (i E σ H q)
section
variable {X : Cx} {φ : Phi} {e : Expr} {x : Ex} {pos : Pos} {s : Stmt} {ss : List Stmt} {xs : Sm} {xss : Sms}
theorem Ub:PSs X [] (tSs X.K φ .nil) :=
 PSs.imp L1 fun E σv H ⟨ι,σ,μ,hS,hL,hl,h⟩=>by
  simp only[n4]at h
  exact h ι σv H (AH _) (.refl _) hS hL hl
theorem P4 (h1:PS X s (tS X.K φ xs)) (h2:PSs X ss (tSs X.K φ xss)):PSs X (s::ss) (tSs X.K φ (.cons xs xss)) :=
 PSs.imp (He h1 h2) fun E σv H ⟨ι,σ,μ,hS,hL,hl,h⟩=>by
  simp only[n4]at h
  refine⟨ι,σ,μ,hS,hL,hl,?_⟩
  obtain⟨f,μ1,e1,h⟩:=h.bind
  rw[e1]
  cases f with
  | nx σ'=>exact fun ι1 σ1 H1 p1 x1 s1 l1 z1=>⟨ι1,σ',μ1,s1,l1,z1,(show ku _ _ _ (n4 φ xss σ' μ1) _ from h).mono p1 x1⟩
  | rt d=>exact h
  | bk σ'=>exact h
  | ct σ'=>exact h
theorem P5 (he:PE X e (tE X.K φ x)) (hs:swapsWith e none pos.line X.env=pure false):PS X (.Expr e pos) (tS X.K φ (.ex x)) :=
 PS.imp (L3 he hs) fun E σv H ⟨ι,σ,μ,hS,hL,hl,h⟩=>by
  simp only[evS]at h
  obtain⟨d,μ1,e1,h⟩:=h.bind
  refine⟨ι,σ,μ,hS,hL,?_⟩
  rw[e1]
  exact fun ι1 v H1 p1 x1 s1 d1=>h ι1 σv H1 p1 x1 s1 (hL.mono p1 x1) hl
theorem Uc (he:PE X e (tE X.K φ x)):PS X (.Return (some e) pos) (tS X.K φ (.ret x)) :=
 PS.imp (O3 he) fun E σv H ⟨ι,σ,μ,hS,hL,hl,h⟩=>by
  simp only[evS]at h
  obtain⟨d,μ1,e1,h⟩:=h.bind
  refine⟨ι,σ,μ,hS,hL,?_⟩
  rw[e1]
  exact h
theorem Wv {c:Expr} {xc:Ex} {a b:List Stmt} {xa xb:Sms} (hc:PT X c (tT X.K φ xc)) (ha:PSs X a (tSs X.K φ xa)) (hb:PSs X b (tSs X.K φ xb)):PS X (.If c a b pos) (tS X.K φ (.ite xc xa xb)) :=
 PS.imp (S9 hc ha hb) fun E σv H ⟨ι,σ,μ,hS,hL,hl,h⟩=>by
  simp only[evS]at h
  obtain⟨d,μ1,e1,h⟩:=h.bind
  refine⟨ι,σ,μ,hS,hL,?_⟩
  rw[e1]
  cases d with
  | bl k =>
   intro ι1 x H1 p1 x1 s1 d1
   cases d1
   cases k with
   | true=>exact⟨ι1,σ,μ1,s1,hL.mono p1 x1,hl,(show ku _ _ _ (n4 φ xa σ μ1) _ from h).mono p1 x1⟩
   | false=>exact⟨ι1,σ,μ1,s1,hL.mono p1 x1,hl,(show ku _ _ _ (n4 φ xb σ μ1) _ from h).mono p1 x1⟩
  | _=>exact h.elim
noncomputable def slots:Tg→List Nat
 | .one i=>[i]
 | .many is=>is
noncomputable def tG (K:PySem.W.Frag) (tg:Tg):TG:=fun v σv H Q=>∃ι σ d σ',n8 K ι H σ σv∧σ.length=σv.length∧IsD K ι H d v∧d6 tg d σ=some σ' ∧
 ∀σv',n8 K ι H σ' σv'→σ'.length=σv'.length→σv'.length=σv.length→(∀j,j∉slots tg→σv'[j]? = σv[j]?)→Q σv' H
theorem PG.imp {e:Expr} {t t':TG} (h:PG X e t) (i:∀v σ H Q,t' v σ H Q→t v σ H Q):PG X e t':=by
 intro pins s σ H x u Q I r q
 exact h pins s σ H x u Q I r (i _ _ _ _ q)
theorem P6 {i:Nat} {y:Str} (hN:X.N.Nodup) (hi:X.N[i]? = some y) (hx:Loc X.env.scope y) (hf:X.fn y=true∨X.env.scope.names.lookup y=some .local):PG X (.Name y pos) (tG X.K (.one i)) :=
 PG.imp (Dy hN hi hx hf) fun v σv H Q ⟨ι,σ,d,σ',hL,hl,hd,hb,q⟩=>by
  simp only[d6,BN]at hb
  subst hb
  exact q _ (hL.set hl hd) (by simp[hl]) (by simp) fun j hj=>CA (fun z=>hj (by simp[slots,z]))
noncomputable def tGs (K:PySem.W.Frag) (is:List Nat):TGs:=fun vs σv H Q=>∃ι σ ds,n8 K ι H σ σv∧σ.length=σv.length∧aj K ι H ds vs∧ds.length=is.length ∧
 ∀σv',n8 K ι H ((is.zip ds).foldl (fun s p=>s.set p.1 (some p.2)) σ) σv'→((is.zip ds).foldl (fun s p=>s.set p.1 (some p.2)) σ).length=σv'.length→σv'.length=σv.length→(∀j,j∉is→σv'[j]? = σv[j]?)→Q σv' H
theorem PGs.imp {es:List Expr} {t t':TGs} (h:PGs X es t) (i:∀v σ H Q,t' v σ H Q→t v σ H Q):PGs X es t':=by
 intro pins s σ H vs us Q I r q
 exact h pins s σ H vs us Q I r (i _ _ _ _ q)
theorem P7:PGs X [] (tGs X.K []) :=
 PGs.imp L5 fun vs σv H Q ⟨ι,σ,ds,hL,hl,hd,hn,q⟩=>by
  have e:ds=[]:=List.length_eq_zero_iff.mp hn
  subst e
  exact⟨by simpa[aj]using hd,q σv (by simpa using hL) (by simpa using hl) rfl fun _ _=>rfl⟩
theorem Mr {i:Nat} {is:List Nat} {es:List Expr} (h1:PG X e (L4 i)) (h2:PGs X es (tGs X.K is)) (hs:(assignEach (e::es) X.env).map (·.2)=assign e X.env::(assignEach es X.env).map (·.2)):PGs X (e::es) (tGs X.K (i::is)) :=
 PGs.imp (Hf h1 h2 hs) fun vs σv H Q ⟨ι,σ,ds,hL,hl,hd,hn,q⟩=>by
  cases ds with
  | nil=>simp at hn
  | cons d ds =>
   simp only[aj]at hd
   obtain⟨v,r,e,hd1,hd2⟩:=hd
   refine⟨v,r,e,ι,σ.set i (some d),ds,hL.set hl hd1,by simp[hl],hd2,by simpa using hn,fun σv' l z z2 ks=>q σv' (by simpa using l) (by simpa using z) (by simpa using z2) fun j hj=>?_⟩
   have hj':j≠i∧j∉is:=by simpa using hj
   rw[ks j hj'.2,CA (Ne.symm hj'.1)]
theorem Ud {is:List Nat} {es:List Expr} {k:Nat} (hc:X.calm=true) (h:PGs X es (tGs X.K is)) (hn:(assignEach es X.env).length=is.length) (hst:(assignEach es X.env).findIdx? (·.1)=none) :
  PG X (.Tuple es k pos) (tG X.K (.many is)) :=
 PG.imp (O4 hc h hn hst) fun v σv H Q ⟨ι,σ,d,σ',hL,hl,hd,hb,q⟩=>by
  cases d with
  | tup ds =>
   simp only[d6]at hb
   split at hb
   ·rename_i hlen
    cases hb
    simp only[IsD]at hd
    obtain⟨a,xs,e,hq,hds⟩:=hd
    exact⟨a,xs,e,hq,hds.length.trans hlen,ι,σ,ds,hL,hl,hds,hlen,q⟩
   ·cases hb
  | _=>simp[d6]at hb
theorem Ue {i:Nat} {y:Str} {pos':Pos} (hN:X.N.Nodup) (hi:X.N[i]? = some y) (hx:Loc X.env.scope y) (hf:X.fn y=true∨X.env.scope.names.lookup y=some .local) (he:PE X e (tE X.K φ x)) (hs:swapsWith e (some (.Name y pos')) pos.line X.env=pure false) :
  PS X (.Assign [.Name y pos'] e pos) (tS X.K φ (.set i x)) :=
 PS.imp (O6 hN hi hx he hs hf) fun E σv H ⟨ι,σ,μ,hS,hL,hl,h⟩=>by
  simp only[evS]at h
  obtain⟨d,μ1,e1,h⟩:=h.bind
  refine⟨ι,σ,μ,hS,hL,?_⟩
  rw[e1]
  exact fun ι1 v H1 p1 x1 s1 d1=>h ι1 _ H1 p1 x1 s1 ((hL.mono p1 x1).set hl d1) (by simp[hl])
theorem Ug {is:List Nat} {tg:Expr} (hg:PG X tg (tG X.K (.many is))) (he:PE X e (tE X.K φ x)) (hs:swapsWithSole [tg] e pos.line X.env=pure false) (hw:swappedStores [tg] e X.env=pure none)
  (h1:(assignEach [tg] X.env).map (·.2)=[assign tg X.env]):PS X (.Assign [tg] e pos) (tS X.K φ (.unp is x)) :=
 PS.imp (Jw he hg hs hw h1) fun E σv H ⟨ι,σ,μ,hS,hL,hl,h⟩=>by
  simp only[evS]at h
  obtain⟨d,μ1,e1,h⟩:=h.bind
  refine⟨ι,σ,μ,hS,hL,?_⟩
  rw[e1]
  intro ι1 v H1 p1 x1 s1 d1
  split at h
  ·rename_i σ' eb
   exact⟨ι1,σ,d,σ',hL.mono p1 x1,hl,d1,eb,fun σv' l z _ _=>h ι1 σv' H1 p1 x1 s1 l z⟩
  ·exact h.elim
noncomputable def Vj (K:PySem.W.Frag):TSet:=fun o i v H Q=>∃ι a b d μ,Sim K ι H μ∧IsD K ι H a o∧IsD K ι H b i∧IsD K ι H d v∧gq K (fun _ _ _ (_:Unit)=>True) ι H (Az a b d μ) fun _ H'=>Q H'
theorem P8 {o i:Expr} {xo xi:Ex} {tp:Pos} (hset:Su X (Vj X.K)) (ho:PE X o (tE X.K φ xo)) (hi:PE X i (tE X.K φ xi)) (he:PE X e (tE X.K φ x))
  (ha:∀v,assign (.Subscript o i tp) X.env v=(do
   let ov ←holding [v] (eval o X.env)
   let iv ←holding [v,ov] (eval i X.env)
   standAt tp
   holding [v,ov,iv] (setItem ov iv v)
   release [v,ov,iv] [])) (hs:swapsWithSole [.Subscript o i tp] e pos.line X.env=pure false) (hw:swappedStores [.Subscript o i tp] e X.env=pure none)
  (h1:(assignEach [.Subscript o i tp] X.env).map (·.2)=[assign (.Subscript o i tp) X.env]):PS X (.Assign [.Subscript o i tp] e pos) (tS X.K φ (.setx xo xi x)) :=
 PS.imp (Jw he (O5 ho hi hset ha) hs hw h1) fun E σv H ⟨ι,σ,μ,hS,hL,hl,h⟩=>by
  simp only[evS]at h
  obtain⟨d,μ1,e1,h⟩:=h.bind
  refine⟨ι,σ,μ,hS,hL,?_⟩
  rw[e1]
  intro ι1 v H1 p1 x1 s1 d1
  obtain⟨a,μ2,e2,h⟩:=h.bind
  refine⟨ι1,σ,μ1,s1,hL.mono p1 x1,?_⟩
  rw[e2]
  intro ι2 va H2 p2 x2 s2 d2
  obtain⟨b,μ3,e3,h⟩:=h.bind
  refine⟨ι2,σ,μ2,s2,(hL.mono p1 x1).mono p2 x2,?_⟩
  rw[e3]
  intro ι3 vb H3 p3 x3 s3 d3
  obtain⟨_,μ4,e4,h⟩:=h.bind
  refine⟨ι3,a,b,d,μ3,s3,IsD.mono p3 x3 _ _ d2,d3,IsD.mono p3 x3 _ _ (IsD.mono p2 x2 _ _ d1),?_⟩
  rw[e4]
  exact fun ι4 _ H4 p4 x4 s4 _=>h ι4 σv H4 (((p1.trans p2).trans p3).trans p4) (((x1.trans x2).trans x3).trans x4) s4 ((((hL.mono p1 x1).mono p2 x2).mono p3 x3).mono p4 x4) hl
structure Walk (K:PySem.W.Frag) (ι0:List Addr) (H0:Hp) (J:L2.It) (ds:List D) (g:Gd):Prop where
 len:ds.length≤sizeLine
 go:∀(i:Nat) ι H μ,ι0 <+: ι→Ext H0 H→Sim K ι H μ→gd g μ→i<ds.length→J.go i H
 yld:∀(i:Nat) ι H μ x H',ι0 <+: ι→Ext H0 H→Sim K ι H μ→gd g μ→i<ds.length→J.yld i H x H'→Ext H H'∧Sim K ι H' μ∧∃d,ds[i]? = some d∧IsD K ι H' d x
 stop:∀ι H μ,ι0 <+: ι→Ext H0 H→Sim K ι H μ→gd g μ→J.stop ds.length H
noncomputable def tI (K:PySem.W.Frag) (φ:Phi) (it:It):TI:=fun σv H R=>∃ι σ μ,Sim K ι H μ∧n8 K ι H σ σv ∧
 match evI φ it σ μ with
 | .ok (ds,g) μ'=>∀ι' H' J,ι <+: ι'→Ext H H'→Sim K ι' H' μ'→Walk K ι' H' J ds g→R J H'
 | _=>False
theorem PI.imp {tg it:Expr} {t t':TI} (h:PI X tg it t) (i:∀σ H R,t' σ H R→t σ H R):PI X tg it t':=fun pins s σ H R I q=>h pins s σ H R I (i _ _ _ q)
theorem Uh {tg it:Expr} {body:List Stmt} {xt:Tg} {xi:It} {xb:Sms} (hp:PassesOwn (model X.prog X.w) X.A X.env X.xe) (hc:X.calm=true) (hi:PI X tg it (tI X.K φ xi)) (hg:PG X tg (tG X.K xt)) (hb:PSs X body (tSs X.K φ xb))
  (hs:∀x,foldedSetIterable it X.env x=pure x):PS X (.For tg it body [] pos) (tS X.K φ (.loop xt xi xb)) :=
 PS.imp (O7 hp hc hi hg hb hs) fun E σv H ⟨ι,σ,μ,hS,hL,hl,h⟩=>by
  simp only[evS]at h
  obtain⟨⟨ds,g⟩,μ1,e1,h⟩:=h.bind
  refine⟨ι,σ,μ,hS,hL,?_⟩
  rw[e1]
  intro ι1 H1 J p1 x1 s1 wk
  refine⟨fun i m σv' H'=>m=ds.length-i∧i≤ds.length∧∃ι' σ' μ',ι1 <+: ι'∧Ext H1 H'∧Sim X.K ι' H' μ'∧n8 X.K ι' H' σ' σv'∧σ'.length=σv'.length ∧
   ku X.K ι' H' (ng g (fun d σ μ=>l6 (d6 xt d σ) fun σ'=>n4 φ xb σ' μ) (ds.drop i) σ' μ') E,⟨ds.length,by simp,CV _,ι1,σ,μ1,AH _,.refl _,s1,hL.mono p1 x1,hl,?_⟩,?_⟩
  ·simpa using(show ku _ _ _ (ng g _ ds σ μ1) _ from h).mono p1 x1
  ·rintro i m σv' H' ⟨rfl,hi,ι',σ',μ',p',x',s',l',z',h'⟩
   by_cases hlt:i<ds.length
   ·obtain⟨d,ed⟩:∃d,ds[i]? = some d:=⟨ds[i],AA hlt⟩
    have edrop:ds.drop i=d::ds.drop (i+1):=by
     rw[GH hlt]
     rw[AA hlt]at ed
     cases ed;rfl
    rw[edrop]at h'
    simp only[ng]at h'
    split at h'
    ·rename_i hgd
     right
     refine⟨wk.go i ι' H' μ' p' x' s' hgd hlt,?_⟩
     obtain⟨fl,μ2,e2,h2⟩:=h'.bind
     refine⟨fun σ2 H2=>ds.length-(i+1)<ds.length-i∧∃ι2 σs,ι1 <+: ι2∧Ext H1 H2∧Sim X.K ι2 H2 μ2∧n8 X.K ι2 H2 σs σ2∧σs.length=σ2.length ∧
      ku X.K ι2 H2 (ng g (fun d σ μ=>l6 (d6 xt d σ) fun σ'=>n4 φ xb σ' μ) (ds.drop (i+1)) σs μ2) E,?_,?_⟩
     ·rintro σ2 H2 ⟨_,ι2,σs,q1,q2,q3,q4,q5,q6⟩
      exact⟨ds.length-(i+1),by lia,rfl,hlt,ι2,σs,μ2,q1,q2,q3,q4,q5,q6⟩
     ·intro v H2 hy
      obtain⟨x2,s2,d',ed',hd'⟩:=wk.yld i ι' H' μ' v H2 p' x' s' hgd hlt hy
      rw[ed]at ed';cases ed'
      cases eb:d6 xt d σ' with
      | none=>rw[eb]at e2;cases e2
      | some σb =>
       rw[eb]at e2
       refine⟨ι',σ',d,σb,l'.mono (AH _) x2,z',hd',eb,fun σv2 l2 z2 _ _=>⟨ι',σb,μ',s2,l2,z2,?_⟩⟩
       have e2':n4 φ xb σb μ'=.ok fl μ2:=e2
       rw[e2']
       cases fl with
       | nx σ3=>exact fun ι3 σv3 H3 p3 x3 s3 l3 z3=>⟨by lia,ι3,σ3,p'.trans p3,(x'.trans x2).trans x3,s3,l3,z3,(show ku _ _ _ (ng g _ (ds.drop (i+1)) σ3 μ2) _ from h2).mono p3 (x2.trans x3)⟩
       | ct σ3=>exact fun ι3 σv3 H3 p3 x3 s3 l3 z3=>⟨by lia,ι3,σ3,p'.trans p3,(x'.trans x2).trans x3,s3,l3,z3,(show ku _ _ _ (ng g _ (ds.drop (i+1)) σ3 μ2) _ from h2).mono p3 (x2.trans x3)⟩
       | bk σ3=>exact(show ku _ _ _ (.ok (.nx σ3) μ2) _ from h2).mono (AH _) x2
       | rt w=>exact(show ku _ _ _ (.ok (.rt w) μ2) _ from h2).mono (AH _) x2
    ·exact h'.elim
   ·have ei:i=ds.length:=by lia
    subst ei
    simp only[List.drop_length,ng]at h'
    split at h'
    ·rename_i hgd
     exact .inl ⟨wk.stop ι' H' μ' p' x' s' hgd,h' ι' σv' H' (AH _) (.refl _) s' l' z'⟩
    ·exact h'.elim
end
end Lp
namespace Lp
open PySem PySem.Spec PyProof.Rows L2
theorem h9:lim=sizeLine:=by rw[J5];rfl
section
variable {X : Cx} {pins : List (Addr × Obj)} {σ : St} {H : Hp} {s : Shared} {φ : Phi}
theorem _root_.L2.Inv.freeze {p:Addr} {xs:List V} (I:Inv X pins σ H s) (h:H p=some (.lst xs)):∃o,Inv X pins σ (upd H p (.frz o (.lst xs))) s:=by
 have hp:=I.hok p _ h
 obtain⟨hz,its,n,hv,hget⟩:=id hp
 refine⟨{cls:=.type "list",data:=.seq its.toArray n},I.ok,I.os,I.bare,⟨I.base.keep,I.base.slot,fun b o e hn hx=>?_,I.base.there,fun b ys e=>?_,fun b o u e=>?_,fun b ps e=>?_⟩,I.loc,I.cell,?_,fun x c e=>?_,fun q hq=>?_,fun b u e=>?_,I.len⟩
 ·have q:=I.base.free b o e hn hx
  rw[ay (fun z=>by subst z;rw[h]at q;cases q)]
  exact q
 ·have q:=I.base.tups b ys e
  rw[ay (ma q h (by intro z;cases z))];exact q
 ·have q:=I.base.frzs b o u e
  rw[ay (ma q h (by intro z;cases z))];exact q
 ·obtain⟨more,q⟩:=I.base.tbls b ps e
  exact⟨more,by rw[ay (ma q h (by intro z;cases z))];exact q⟩
 ·rw[ay (fun z=>by rw[←z,I.free]at h;cases h)];exact I.free
 ·rw[ay (fun z=>by rw[←z,I.freeC x c e]at h;cases h)];exact I.freeC x c e
 ·obtain⟨e1,e2,e3⟩:=I.pin q hq
  refine⟨e1,?_,e3⟩
  rw[ay (fun z=>by rw[←z,e2]at h;cases h)];exact e2
 ·by_cases hb:b=p
  ·subst hb
   rw[a8]at e;cases e
   exact⟨hget,hz,its,n,hv,hget⟩
  ·rw[ay hb]at e
   refine(I.hok b u e).stay (fun c v _ q=>q) (fun c q=>?_) (fun c ys q=>?_)
   ·rw[ay (ma q h (by intro z;cases z))];exact q
   ·rw[ay (ma q h (by intro z;cases z))];exact q
noncomputable def FQ (Q:VK):VK:=fun v H=>Q v H∨∃p xs,v=.ref p∧H p=some (.lst xs)∧∀o,Q v (upd H p (.frz o (.lst xs)))
theorem Em {Q:VK} {u:Value} (h:EP X pins σ (FQ Q) u s):EP X pins σ Q u s:=by
 obtain⟨v,H',I,r,q⟩:=h
 rcases q with q | ⟨p,xs,rfl,e,q⟩
 ·exact⟨v,H',I,r,q⟩
 ·obtain⟨o,I'⟩:=L2.Inv.freeze I e
  exact⟨_,_,I',r,q o⟩
theorem En {A:Around} {E:Value→Shared→Prop} {M:Model} {t:Sem Value} {Q:VK} (h:wpAny M A t (EP X pins σ (FQ Q)) E s):wpAny M A t (EP X pins σ Q) E s:=thn h fun _ _ z=>Em z
theorem PE.fq {e:Expr} {t:TE} (h:PE X e t):PE X e (fun σ H Q=>t σ H (FQ Q)):=fun pins s σ H Q I q=>thn (h pins s σ H _ I q) fun _ _ z=>Em z
theorem fk.fq {f:Value} {r:List V→Hp→VK→Prop} (h:fk X f r):fk X f (fun xs H Q=>r xs H (FQ Q)):=by
 intro pins s σ H xs us Q I rx q
 exact thn (h pins s σ H xs us _ I rx q) fun _ _ z=>Em z
theorem SlR.fq {r:V→Option Int→Option Int→Hp→VK→Prop} (h:SlR X r):SlR X (fun x l u H Q=>r x l u H (FQ Q)):=by
 intro pins s σ H x v vl vu lo hi sl Q I rx h1 h2 h3 q
 obtain⟨T,id,e1,e2,e3⟩:=h pins s σ H x v vl vu lo hi sl _ I rx h1 h2 h3 q
 exact⟨T,id,e1,e2,thn e3 fun _ _ z=>Em z⟩
theorem k7 {K:PySem.W.Frag} {ι:List Addr} {μ:Sto} {ds:List D} {xs:List V} {m:Mk} {Q:VK} {p:Addr} (hS:Sim K ι H μ) (hd:aj K ι H ds xs) (h:gq K (RD K) ι H (mkL m ds μ) Q) (hp:H p=none) :
  FQ Q (.ref p) (upd H p (.lst xs)):=by
 cases m with
 | z =>
  refine .inr ⟨p,xs,rfl,a8,fun o=>?_⟩
  rw[Dw]
  refine h ι (.ref p) _ (AH _) (.new hp) (hS.new hp) ?_
  show IsD _ _ _ _ _
  simp only[IsD]
  exact⟨p,xs,rfl,.inl ⟨o,a8⟩,aj.mono (AH _) (.new hp) ds xs hd⟩
 | l =>
  simp only[mkL]at h
  split at h
  ·rename_i hpure
   refine .inl (h (ι++[p]) (.ref p) _ ⟨[p],rfl⟩ (.new hp) (hS.push hp ⟨xs,a8,aj.pur hpure (aj.mono (AH _) (.new hp) ds xs hd)⟩) ?_)
   show IsD _ _ _ _ _
   simp only[IsD]
   exact⟨p,rfl,by rw[←hS.len];simp⟩
  ·exact h.elim
 | r =>
  simp only[mkL]at h
  refine .inl (h (ι++[p]) (.ref p) _ ⟨[p],rfl⟩ (.new hp) (hS.push hp ⟨xs,a8,aj.mono ⟨[p],rfl⟩ (.new hp) ds xs hd⟩) ?_)
  show IsD _ _ _ _ _
  simp only[IsD]
  exact⟨p,rfl,by rw[←hS.len];simp⟩
theorem Ui {es:List Expr} {xs:Exs} {m:Mk} {pos:Pos} (h:PA X es (tEs X.K φ xs)) (hl:∀σ μ ds μ',gw φ xs σ μ=.ok ds μ'→ds.length≤sizeLine):PE X (.List es pos) (tE X.K φ (.lst m xs)) :=
 PE.imp (PE.fq (Pc h)) fun σv H Q ⟨ι,σ,μ,hS,hL,h⟩=>by
  simp only[evE]at h
  obtain⟨ds,μ1,e1,h⟩:=h.bind
  refine⟨ι,σ,μ,hS,hL,?_⟩
  rw[e1]
  intro ι1 vs H1 p1 x1 s1 d1
  have hd:aj X.K ι1 H1 ds vs:=d1
  exact⟨by rw[hd.length];exact hl σ μ ds μ1 e1,fun p hp=>k7 s1 hd (h.mono p1 x1) hp⟩
theorem tj {K:PySem.W.Frag} {ι:List Addr} {μ:Sto} {d:D} {v:V} {ds:List D} (hS:Sim K ι H μ) (hd:IsD K ι H d v) (h:de μ d=some ds) :
  ∃a xs,v=.ref a∧(LsL K H a xs∨SqT K H a xs)∧aj K ι H ds xs:=by
 cases d with
 | tup es =>
  cases h
  simp only[IsD]at hd
  obtain⟨a,xs,e,q,r⟩:=hd
  exact⟨a,xs,e,.inr q,r⟩
 | lst es =>
  cases h
  simp only[IsD]at hd
  obtain⟨a,xs,e,q,r⟩:=hd
  exact⟨a,xs,e,.inl (.inr q),r⟩
 | loc n =>
  simp only[IsD]at hd
  obtain⟨a,e,q⟩:=hd
  simp only[de]at h
  split at h
  ·rename_i es em
   cases h
   obtain⟨a',q',ho⟩:=hS.at em
   rw[q]at q';cases q'
   obtain⟨xs,e1,e2⟩:=ho
   exact⟨a,xs,e,.inl (.inl e1),aj.mono (CG) (.refl _) _ _ e2⟩
  ·rename_i es em
   cases h
   obtain⟨a',q',ho⟩:=hS.at em
   rw[q]at q';cases q'
   obtain⟨xs,e1,e2⟩:=ho
   exact⟨a,xs,e,.inl (.inl e1),e2⟩
  ·cases h
 | _=>simp[de]at h
theorem ka {K:PySem.W.Frag} {ι:List Addr} {μ:Sto} {d:D} {v:V} {ds:List D} (hS:Sim K ι H μ) (hd:IsD K ι H d v) (h:listOf μ d=some ds) :
  ∃a xs,v=.ref a∧LsL K H a xs∧aj K ι H ds xs:=by
 cases d with
 | lst es =>
  cases h
  simp only[IsD]at hd
  obtain⟨a,xs,e,q,r⟩:=hd
  exact⟨a,xs,e,.inr q,r⟩
 | loc n =>
  simp only[IsD]at hd
  obtain⟨a,e,q⟩:=hd
  simp only[listOf]at h
  split at h
  ·rename_i es em
   cases h
   obtain⟨a',q',ho⟩:=hS.at em
   rw[q]at q';cases q'
   obtain⟨xs,e1,e2⟩:=ho
   exact⟨a,xs,e,.inl e1,aj.mono (CG) (.refl _) _ _ e2⟩
  ·rename_i es em
   cases h
   obtain⟨a',q',ho⟩:=hS.at em
   rw[q]at q';cases q'
   obtain⟨xs,e1,e2⟩:=ho
   exact⟨a,xs,e,.inl e1,e2⟩
  ·cases h
 | _=>simp[listOf]at h
theorem Uj {i:Nat} {x:Str} {pos:Pos} (hN:X.N[i]? = some x) (hv:Vis X.env.scope x) (hd:(x==("__debug__":Str))=false) (hcd:(x==("__classdict__":Str))=false):PE X (.Name x pos) (tE X.K φ (.frz i)) :=
 PE.imp (PE.fq (sr hN hv hd hcd)) fun σv H Q ⟨ι,σ,μ,hS,hL,h⟩=>by
  simp only[evE]at h
  split at h
  ·rename_i n e
   obtain⟨v,e1,e2⟩:=hL i _ e
   refine⟨v,e1,?_⟩
   simp only[IsD]at e2
   obtain⟨a,rfl,ha⟩:=e2
   split at h
   ·rename_i ds em
    obtain⟨a',q',ho⟩:=hS.at em
    rw[ha]at q';cases q'
    obtain⟨xs,f1,f2⟩:=ho
    refine .inr ⟨a,xs,rfl,f1,fun o=>?_⟩
    refine h ι (.ref a) _ (AH _) (.lst f1) (hS.put ha (.lst f1) ⟨_,a8⟩) ?_
    show IsD _ _ _ _ _
    simp only[IsD]
    exact⟨a,xs,rfl,.inl ⟨o,a8⟩,aj.mono (CG) (.lst f1) ds xs f2⟩
   ·rename_i ds em
    obtain⟨a',q',ho⟩:=hS.at em
    rw[ha]at q';cases q'
    obtain⟨xs,f1,f2⟩:=ho
    refine .inr ⟨a,xs,rfl,f1,fun o=>?_⟩
    refine h ι (.ref a) _ (AH _) (.lst f1) (hS.put ha (.lst f1) ⟨_,a8⟩) ?_
    show IsD _ _ _ _ _
    simp only[IsD]
    exact⟨a,xs,rfl,.inl ⟨o,a8⟩,aj.mono (AH _) (.lst f1) ds xs f2⟩
   ·exact h.elim
  ·exact h.elim
theorem OpR.imp {f:Value→Value→Sem Value} {r r':R2} (h:OpR X f r) (i:∀x y H Q,r' x y H Q→r x y H Q):OpR X f r':=fun pins s σ H x y v u Q I rx ry q=>h pins s σ H x y v u Q I rx ry (i _ _ _ _ q)
theorem IxR.imp {r r':R2} (h:IxR X r) (i:∀x y H Q,r' x y H Q→r x y H Q):IxR X r':=fun e1 e2 pins s σ H x y v u Q I rx ry q=>h e1 e2 pins s σ H x y v u Q I rx ry (i _ _ _ _ q)
theorem fk.imp {f:Value} {r r':List V→Hp→VK→Prop} (h:fk X f r) (i:∀xs H Q,r' xs H Q→r xs H Q):fk X f r':=fun pins s σ H xs us Q I rx q=>h pins s σ H xs us Q I rx (i _ _ _ q)
theorem MtR.imp {id:String} {r r':V→List V→Hp→VK→Prop} (h:MtR X id r) (i:∀x xs H Q,r' x xs H Q→r x xs H Q):MtR X id r':=fun pins s σ H x xs v us Q I rx rr q=>h pins s σ H x xs v us Q I rx rr (i _ _ _ _ q)
theorem P9 {K:PySem.W.Frag} {ι:List Addr} {ds:List D} {xs:List V} {i:Int} {j:Nat} {d:D} (h:aj K ι H ds xs) (hi:Lp.ixN ds.length i=some j) (hj:ds[j]? = some d):∃v,atI xs i=some v∧IsD K ι H d v:=by
 obtain⟨v,e,q⟩:=h.get hj
 refine⟨v,?_,q⟩
 unfold atI
 rw[h.length,show L2.ixN ds.length i=some j from hi]
 exact e
theorem Uk:IxR X (rOp X.K ixD):=IxR.imp Pk fun x y H Q ⟨ι,d,e,μ,hS,hd,he,h⟩=>by
 unfold ixD at h
 split at h
 ·rename_i i
  have hy:y=.int i:=by simpa[IsD]using he
  subst hy
  split at h
  ·rename_i ds es
   obtain⟨a,xs,rfl,hq,hds⟩:=tj hS hd es
   split at h
   ·rename_i j ej
    split at h
    ·rename_i d' ed
     obtain⟨v,ev,hv⟩:=P9 hds ej ed
     have qv:=h.ok hS hv
     rcases hq with hq | hq
     ·exact .inl ⟨a,xs,i,v,rfl,rfl,hq.sq,ev,qv⟩
     ·exact .inr (.inl ⟨a,xs,i,v,rfl,rfl,hq,ev,qv⟩)
    ·exact h.elim
   ·exact h.elim
  ·exact h.elim
 ·exact h.elim
theorem J8 {K:PySem.W.Frag} {ι:List Addr} {ds:List D} {xs:List V} (h:aj K ι H ds xs) (lo hi:Option Int):aj K ι H (cut ds lo hi) (J0 xs lo hi):=by
 have e1:∀n d o,Lp.sIx n d o=HT.sIx n d o:=fun n d o=>by cases o<;>rfl
 unfold cut J0
 rw[h.length,e1,e1]
 exact(h.drop _).take _
end
end Lp
namespace Lp
open PySem PySem.Spec PyProof.Rows L2
noncomputable def Ds (env:Env):List (Str×NameKind)→List (Str×Addr)→List (Str×Addr)
 | [],acc=>acc
 | (n,k)::r,acc=>Ds env r (if k==.free then(n,(env.cells.lookup n).getD 0)::acc else acc)
noncomputable def ox (env:Env) (x:Str×NameKind) (cs:List (Str×Addr)):Sem (ForInStep (List (Str×Addr))):=match x with
 | (name,kind)=>if kind==.free then(do let a ←cellOf env name;pure (ForInStep.yield ((name,a)::cs)))else pure (ForInStep.yield cs)
theorem oa {env:Env}:∀(names:List (Str×NameKind)) (acc:List (Str×Addr)),(∀n,(n,NameKind.free)∈names→∃c,env.cells.lookup n=some c) →
  forIn names acc (ox env)=pure (Ds env names acc)
 | [],acc,_=>rfl
 | (n,k)::r,acc,h=>by
  rw[EV]
  by_cases hk:k=.free
  ·subst hk
   obtain⟨c,hc⟩:=h n AS
   have e:ox env (n,.free) acc=pure (ForInStep.yield ((n,c)::acc)):=by
    simp only[ox,cellOf,hc,beq_self_eq_true,if_true]
    rfl
   rw[e]
   refine Eq.trans (b:=forIn r ((n,c)::acc) (ox env)) rfl ?_
   rw[oa r ((n,c)::acc) fun m hm=>h m (AJ _ hm)]
   simp[Ds,hc]
  ·have hb:(k==NameKind.free)=false:=by simpa using hk
   have e:ox env (n,k) acc=pure (ForInStep.yield acc):=by
    unfold ox
    simp only[hb,BD,if_false]
   rw[e]
   refine Eq.trans (b:=forIn r acc (ox env)) rfl ?_
   rw[oa r acc fun m hm=>h m (AJ _ hm)]
   simp[Ds,hb]
theorem tm {env:Env} {scope:Scope} (h:∀n,(n,NameKind.free)∈scope.names→∃c,env.cells.lookup n=some c):closureFor scope env=pure (Ds env scope.names []):=by
 have e:=oa (env:=env) scope.names [] h
 have e2:closureFor scope env=(forIn scope.names [] (ox env)>>=fun cs=>pure cs):=rfl
 rw[e2,e]
 rfl
theorem pj {env:Env}:∀(names:List (Str×NameKind)) (acc:List (Str×Addr)) (x:Str) (c:Addr),(∀n,(n,NameKind.free)∈names→∃c,env.cells.lookup n=some c)→(Ds env names acc).lookup x=some c→acc.lookup x=some c∨env.cells.lookup x=some c
 | [],acc,x,c,_,h=>.inl h
 | (n,k)::r,acc,x,c,hh,h=>by
  rcases pj r _ x c (fun m hm=>hh m (AJ _ hm)) h with q | q
  ·by_cases hk:k=.free
   ·subst hk
    obtain⟨c',hc⟩:=hh n AS
    simp only[beq_self_eq_true,if_true,DW]at q
    by_cases hx:x=n
    ·subst hx
     simp only[beq_self_eq_true,hc,DX,BN]at q
     subst q
     exact .inr hc
    ·have hb:(x==n)=false:=beq_eq_false_iff_ne.mpr hx
     rw[hb]at q
     exact .inl q
   ·have hb:(k==NameKind.free)=false:=by simpa using hk
    simp only[hb,BD,if_false]at q
    exact .inl q
  ·exact .inr q
theorem w4 {env:Env}:∀(names:List (Str×NameKind)) (acc:List (Str×Addr)) (x:Str),(∃c,acc.lookup x=some c)→∃c,(Ds env names acc).lookup x=some c
 | [],acc,x,h=>h
 | (n,k)::r,acc,x,h=>by
  refine w4 r _ x ?_
  by_cases hk:(k==NameKind.free)=true
  ·rw[if_pos hk,DW]
   cases hx:x==n with
   | true=>exact⟨_,rfl⟩
   | false=>exact h
  ·rw[if_neg hk];exact h
theorem uo {env:Env}:∀(names:List (Str×NameKind)) (acc:List (Str×Addr)) (x:Str),(x,NameKind.free)∈names→∃c,(Ds env names acc).lookup x=some c
 | [],acc,x,h=>by cases h
 | (n,k)::r,acc,x,h=>by
  rcases AO.mp h with e | e
  ·cases e
   refine w4 r _ n ?_
   exact⟨(env.cells.lookup n).getD 0,by simp⟩
  ·exact uo r _ x e
noncomputable def mf (X:Cx) (scope:Scope) (Nb:List Str) (C:Addr) (s:Shared) (H:Hp) (fp:List Addr):Cx :=
 {X with N:=Nb,s₀:=s,H₀:=H,env:=compEnvC scope (Ds X.env scope.names []) C X.env,outer:=X.stack,stack:=X.stack,ex:=fp,fn:=fun _=>false,pn:=[],xe:=fun _ _=>False}
structure CompScope (sc scope:Scope) (N Nb:List Str) (cap:List Nat) (nl:Nat):Prop where
 kind:scope.kind=.function
 nocell:∀y∈scope.names,y.2≠.cell
 uniq:∀y∈scope.names,scope.names.lookup y.1=some y.2
 free:∀n,(n,NameKind.free)∈scope.names→sc.names.lookup n=some .cell∨sc.names.lookup n=some .free
 fnames:∀n,(relabel scope {scope:=sc,locals:=0,globals:=0,cells:=[]}).names.lookup n=some .cell∨(relabel scope {scope:=sc,locals:=0,globals:=0,cells:=[]}).names.lookup n=some .free→(n,NameKind.free)∈scope.names
 nd:Nb.Nodup
 len:Nb.length=cap.length+nl
 capt:∀(j:Nat) i,cap[j]? = some i→∃x,Nb[j]? = some x∧N[i]? = some x∧(x,NameKind.free)∈scope.names
theorem C0 (scope:Scope) (env env':Env) (h:env.scope=env'.scope):relabel scope env=relabel scope env':=by
 unfold relabel Env.kindOf
 rw[h]
section
variable {X : Cx} {pins : List (Addr × Obj)} {σ : St} {H : Hp} {s : Shared} {scope : Scope} {Nb : List Str} {cap : List Nat} {nl : Nat}
noncomputable def j0 (cap:List Nat) (nl:Nat) (σ:St):St:=cap.map (fun i=>(σ[i]?).getD none)++List.replicate nl none
theorem Eo {fp:List Addr} {h':Heap} {tk:Nat} {C:Addr} {m:Str→Option Value} {D:Addr} {n0:Nat} (I:Inv X pins σ H s) (S:CompScope X.env.scope scope X.N Nb cap nl)
  (hf:∀b∈fp,Cj X pins H b) (hfp:∀b∈fp,∃o,s.heap.get? b=some o) (hk:∀b o,s.heap.get? b=some o→h'.get? b=some o) (hC:s.heap.objs.size≤C) (hD:s.heap.objs.size≤D) (hDC:D≠C)
  (hns:h'.Ns C m) (hm:∀x,m x=none) (hDo:h'.get? D=some {cls:=.type "list",data:=.seq #[] n0}) :
  Inv (mf X scope Nb C s H fp) [(D,{cls:=.type "list",data:=.seq #[] n0})] (j0 cap nl σ) H {s with heap:=h',toks:=tk}:=by
 have hcells:∀n,(n,NameKind.free)∈scope.names→∃c,X.env.cells.lookup n=some c:=fun n hn=>by
  rcases S.free n hn with e | e
  ·exact I.ok.has n (.inl e)
  ·exact I.ok.has n (.inr e)
 have sub:∀x c,(Ds X.env scope.names []).lookup x=some c→X.env.cells.lookup x=some c:=fun x c e=>by
  rcases pj scope.names [] x c hcells e with q | q
  ·cases q
  ·exact q
 have hlt:∀b∈fp,b<s.heap.objs.size:=fun b hb=>let ⟨o,e⟩:=hfp b hb;AI e
 have hrel:relabel scope X.env=relabel scope {scope:=X.env.scope,locals:=0,globals:=0,cells:=[]}:=C0 _ _ _ rfl
 have hcm:∀x c,X.env.cells.lookup x=some c→c<s.heap.objs.size:=fun x c e=>let ⟨v,q⟩:=I.cell x c e;q.lt
 refine⟨⟨I.ok.mod,by show(relabel scope X.env).kind=_;unfold relabel;exact S.kind,I.ok.glob,I.ok.blt,hC,fun x y c e1 e2=>I.ok.inj x y c (sub x c e1) (sub y c e2),fun x hx=>?_,fun x c hfn=>?_,I.ok.hd,I.ok.frames,.inl rfl,
  fun b hb=>⟨AW (AU (hlt b hb) hC),fun x c e=>(hf b hb).2.2.2.2.1 x c (sub x c e)⟩,I.bs,CL I.ok.bsz I.sz,fun b o e hb=>?_,fun b hb hb2=>?_,I.stack,I.stkFree⟩,
  rfl,I.bare,Un.kept hk,⟨m,hns,fun i x v e1 e2 e3=>?_⟩,fun x c e=>?_,I.hok.fresh hC,fun x c e=>I.freeC x c (sub x c e),fun p hp=>?_,I.hok.kept hk,?_⟩
 ·have hx':(relabel scope {scope:=X.env.scope,locals:=0,globals:=0,cells:=[]}).names.lookup x=some .cell∨(relabel scope {scope:=X.env.scope,locals:=0,globals:=0,cells:=[]}).names.lookup x=some .free:=by
   rw[←hrel];exact hx
  exact uo scope.names [] x (S.fnames x hx')
 ·cases hfn
 ·rcases(hf b hb).2.2.2.1 with z | z
  ·exact I.ok.noex b o e z
  ·have:=AI e
   exact absurd (AU this (CL I.ok.bsz z)) (CP _)
 ·rcases AO.mp (I.stkSub b hb2)with z | z
  ·exact(hf b hb).2.1 z
  ·exact(hf b hb).2.2.1 z
 ·-- a captured name
  have hi:i<cap.length:=by
   by_cases hi:i<cap.length
   ·exact hi
   ·unfold j0 at e2
    rw[BM (by simpa using hi),Da]at e2
    split at e2<;>cases e2
  unfold j0 at e2
  rw[AV (by simpa using hi),AX,AA hi]at e2
  simp only[HS,BN]at e2
  obtain⟨y,q1,q2,q3⟩:=S.capt i _ (AA hi)
  have ey:y=x:=BL (q1.symm.trans e1)
  subst ey
  have e4:σ[cap[i]]? = some (some v):=by
   cases e5:σ[cap[i]]? with
   | none=>rw[e5]at e2;cases e2
   | some w=>rw[e5]at e2;simp at e2;rw[e2]
  obtain⟨m0,hn0,hl0⟩:=I.loc
  have hkind:X.env.kindOf y=some .cell∨X.env.kindOf y=some .free:=S.free y q3
  obtain⟨u,r,l⟩:=hl0 _ y v q2 e4 (by rcases hkind with z | z;exact .inr (.inl z);exact .inr (.inr z))
  refine⟨u,r,.inr ?_⟩
  rcases l with⟨z,_⟩ | ⟨_,c,ec,hc⟩
  ·rcases hkind with w | w<;>(rw[w]at z;cases z)
  ·obtain⟨c',ec'⟩:=uo (env:=X.env) scope.names [] y q3
   have:c'=c:=by have:=sub y c' ec';rw[ec]at this;cases this;rfl
   subst this
   obtain⟨o,ho,hd⟩:=hc
   refine⟨?_,c',ec',o,hk _ _ ho,hd⟩
   -- a free name is seen as a cell or as free
   have hv:(mf X scope Nb C s H fp).env.kindOf y=some .local∨(mf X scope Nb C s H fp).env.kindOf y=some .cell∨(mf X scope Nb C s H fp).env.kindOf y=some .free:=e3
   rcases hv with z | z | z
   ·exfalso
    have hl:(relabel scope X.env).names.lookup y=some .local:=z
    have mem:∀(l:List (Str×NameKind)) (y:Str),(l.map fun(n,k)=>if(k==NameKind.free&&X.env.scope.kind==.function&&X.env.kindOf n==some .cell)then(n,NameKind.cell)else(n,k)).lookup y=some .local→l.lookup y=some .local:=by
     intro l
     induction l with
     | nil=>intro y h;simp at h
     | cons a r ih =>
      obtain⟨n,k⟩:=a
      intro y h
      simp only[AR]at h
      rw[DW]
      by_cases hc:(k==NameKind.free&&X.env.scope.kind==.function&&X.env.kindOf n==some .cell)=true
      ·rw[if_pos hc,DW]at h
       cases hy:y==n with
       | true=>rw[hy]at h;cases h
       | false=>rw[hy]at h;exact ih y h
      ·rw[if_neg hc,DW]at h
       cases hy:y==n with
       | true=>rw[hy]at h;exact h
       | false=>rw[hy]at h;exact ih y h
    have hloc:=mem scope.names y hl
    rw[S.uniq (y,NameKind.free) q3]at hloc
    cases hloc
   ·exact .inl z
   ·exact .inr z
 ·obtain⟨v,o,ho,hd⟩:=I.cell x c (sub x c e)
  exact⟨v,o,hk _ _ ho,hd⟩
 ·have e:p=(D,{cls:=.type "list",data:=.seq #[] n0}):=by
   have:p∈([]:List (Addr×Obj))++[(D,{cls:=.type "list",data:=.seq #[] n0})]:=hp
   simpa using this
  subst e
  refine⟨hDo,I.hok.fresh hD,hDC,fun z=>?_,fun v z=>by cases z⟩
  have z':D∈frs X.stack:=z
  rcases AO.mp (I.stkSub D z')with w | w
  ·exact absurd (AU I.lt hD) (by rw[w];exact CP _)
  ·exact I.nofs hD w
 ·show(j0 cap nl σ).length=Nb.length
  rw[S.len];simp[j0]
end
noncomputable abbrev zp (ifs:List Expr) (env:Env) (b:Bool):Sem Bool:=forIn ifs b fun c r=>if r=true then do let ok ←isTrue c env (eval c env);pure (ForInStep.yield ok)else pure (ForInStep.yield r)
noncomputable def PTs (X:Cx) (ifs:List Expr) (t:TT):Prop :=
 ∀(pins:List (Addr×Obj)) (s:Shared) (σ:St) (H:Hp) (Q:Bool→Hp→Prop),Inv X pins σ H s→t σ H Q→wpAny (model X.prog X.w) X.A (zp ifs X.env true) (TP X pins σ Q) X.xe s
theorem qk {M:Model} {A:Around} {E:Value→Shared→Prop} {env:Env} {Q:Bool→Shared→Prop}:∀(ifs:List Expr) {s:Shared},Q false s→wpAny M A (zp ifs env false) Q E s
 | [],s,h=>AL h
 | c::r,s,h=>by
  show wpAny M A (forIn (c::r) false _) Q E s
  rw[EV]
  exact AB (AL (qk r h))
noncomputable def tTsNil:TT:=fun _ H Q=>Q true H
noncomputable def Ms (t u:TT):TT:=fun σ H Q=>t σ H fun b H1=>if b=true then u σ H1 Q else Q false H1
theorem Mu {X:Cx}:PTs X [] tTsNil:=fun pins s σ H Q I h=>AL ⟨H,I,h⟩
theorem Hv {X:Cx} {c:Expr} {r:List Expr} {t u:TT} (h1:PT X c t) (h2:PTs X r u):PTs X (c::r) (Ms t u):=fun pins s σ H Q I h=>by
 show wpAny _ _ (forIn (c::r) true _) _ _ s
 rw[EV]
 refine AB (AB (thn (h1 pins s σ H _ I h) fun b s1 ⟨H1,I1,q1⟩=>AL ?_))
 cases b with
 | true=>exact h2 pins s1 σ H1 Q I1 q1
 | false=>exact qk r ⟨H1,I1,q1⟩
noncomputable def Kept (σ σ':St):Prop:=σ.length=σ'.length∧∀(i:Nat) v,σ[i]? = some (some v)→σ'[i]? = some (some v)
noncomputable def Mv (wi:TI) (g:TG) (ts:TT) (te:TE) (σb:St→St):TE:=fun σ H Q=>wi σ H fun J H1=>∃W:Nat→Nat→Hp→List V→Prop,(∃m,W 0 m H1 [])∧∀i m H acc,W i m H acc →
 (J.stop i H∧acc.length≤sizeLine∧∀p,H p=none→Q (.ref p) (upd H p (.lst acc))) ∨
 (J.go i H∧acc.length<sizeLine∧∀x H',J.yld i H x H'→g x (σb σ) H' fun σ2 H2=>Kept (σb σ) σ2∧ts σ2 H2 fun b H3=>if b=true then te σ2 H3 fun v H4=>∃m',m'<m∧W (i+1) m' H4 (acc++[v])else ∃m',m'<m∧W (i+1) m' H3 acc)
section
variable {X : Cx} {scope : Scope} {Nb : List Str} {cap : List Nat} {nl : Nat}
theorem _root_.L2.HOk.track {P:Program} {w:World} {H:Hp} {h:Heap} {p:Addr} {o:HO} (x:HOk P w H h) (hp:H p=none) (new:gv P w (upd H p o) h p o):HOk P w (upd H p o) h:=fun b u e=>by
 by_cases hb:b=p
 ·subst hb;rw[a8]at e;cases e;exact new
 ·rw[ay hb]at e
  exact(x b u e).stay (fun c v _ q=>q) (fun c q=>by rw[ay (bu q hp)];exact q) fun c xs q=>by rw[ay (bu q hp)];exact q
theorem Ep {prog:Program} {w:World} {A:Around} {R:Result→Shared→Prop} {s:Shared} {elt target iter:Expr} {ifs:List Expr} {pos:Pos} {it acc:Value} {env:Env} (I:Nat→Shared→Prop)
  (turn:∀n s,I n s→wpAny (model prog w) A (pyNext it) (fun r s₁=>match r with
   | none=>R (.ok .next) s₁
   | some v=>wpAny (model prog w) A (letOwnedTupleGo target it v) (fun _ s₀=>wpAny (model prog w) A (assign target env v) (fun _ s₂ =>
     wpAny (model prog w) A (zp ifs env true) (fun ok s₃ =>
      if ok=true then wpAny (model prog w) A (eval elt env) (fun x s₄ =>
       wpAny (model prog w) A (call (.builtin "list.append") [acc,x]) (fun _ s₅=>∃m,m<n∧I m s₅) (fun _ _=>False) s₄) (fun _ _=>False) s₃
      else ∃m,m<n∧I m s₃) (fun _ _=>False) s₂) (fun _ _=>False) s₀) (fun _ _=>False) s₁) (fun _ _=>False) s)
  (n:Nat) (h:I n s) :
  codeAny (model prog w) A (.compLoop (.ListComp elt [⟨target,iter,ifs,0⟩] scope pos) 0 it acc env) R s:=by
 refine codeAny_loop rfl I (fun n s hI=>?_) n h
 show wpAny _ A ((compTurn (.ListComp elt [⟨target,iter,ifs,0⟩] scope pos) 0 it acc env).onRaise (fun x=>do noteFrame x env;theTreesLotGoes x)) _ _ s
 refine wpAny_noted ?_
 rw[compTurn_list]
 have no:∀{α:Type} {t:Sem α} {Q:α→Shared→Prop} {E:Value→Shared→Prop} {s:Shared},wpAny (model prog w) A t Q (fun _ _=>False) s→wpAny (model prog w) A t Q E s:=fun h=>DO h (fun _ _ q=>q) fun _ _ q=>q.elim
 refine AB (wpAny_standAt (AB (DO (turn n s hI) (fun r s₁ h₁=>?_) fun _ _ h'=>h'.elim)))
 cases r with
 | none=>exact AL h₁
 | some v =>
  refine AB (DO h₁ (fun _ s₀ h₀=>?_) fun _ _ h'=>h'.elim)
  refine AB (DO h₀ (fun _ s₂ h₂=>AB (DO h₂ (fun ok s₃ h₃=>?_) fun _ _ h'=>h'.elim)) fun _ _ h'=>h'.elim)
  cases ok with
  | false=>exact AL ⟨rfl,h₃⟩
  | true =>
   exact AB (AB (DO h₃ (fun x s₄ h₄=>AB (DO h₄ (fun _ s₅ h₅=>AL (AL ⟨rfl,h₅⟩)) fun _ _ h'=>h'.elim)) fun _ _ h'=>h'.elim))
noncomputable def zq (X:Cx) (scope:Scope) (Nb:List Str) (target:Expr) (ifs:List Expr) (elt:Expr) (g:TG) (ts:TT) (te:TE):Prop :=
 ∀C s H fp,PG (mf X scope Nb C s H fp) target g∧PTs (mf X scope Nb C s H fp) ifs ts∧PE (mf X scope Nb C s H fp) elt te
theorem tq {elt target iter:Expr} {ifs:List Expr} {pos:Pos} {g:TG} {ts:TT} {te:TE} {pins:List (Addr×Obj)} {σ:St} {H:Hp} {s:Shared} {it:Addr} {fp:List Addr} {tn:Nat→Heap→Prop} {J:L2.It} {Q:VK} {E:Value→Shared→Prop} {use:Option (Value→Sem Unit)} {QQ:Value→Shared→Prop}
  (S:CompScope X.env.scope scope X.N Nb cap nl) (hc:X.calm=true) (B:zq X scope Nb target ifs elt g ts te) (I:Inv X pins σ H s) (T:Turn X.prog X.w X.K target J fp it tn) (t0:tn 0 s.heap) (hf:∀b∈fp,Cj X pins H b)
  (h:∃W:Nat→Nat→Hp→List V→Prop,(∃m,W 0 m H [])∧∀i m H acc,W i m H acc →
   (J.stop i H∧acc.length≤sizeLine∧∀p,H p=none→Q (.ref p) (upd H p (.lst acc))) ∨
   (J.go i H∧acc.length<sizeLine∧∀x H',J.yld i H x H'→g x (j0 cap nl σ) H' fun σ2 H2=>Kept (j0 cap nl σ) σ2∧ts σ2 H2 fun b H3=>if b=true then te σ2 H3 fun v H4=>∃m',m'<m∧W (i+1) m' H4 (acc++[v])else ∃m',m'<m∧W (i+1) m' H3 acc))
  (hQ:∀(D C:Addr) (s':Shared) m,s.heap.objs.size≤C→(∀h',Heap.SameBut C s'.heap h'→EP X pins σ (fun v H=>H C=none∧Q v H) (.ref D) {s' with heap:=h'})→s'.heap.Ns C m→compPost (model X.prog X.w) X.A E use QQ (.ref D) C (.ok .next) s') :
  wpAny (model X.prog X.w) X.A (newList []) (fun acc s₃=>wpAny (model X.prog X.w) X.A (newFunctionEnv scope X.env.globals (Ds X.env scope.names []) [] X.env.qual none .none (some X.env)) (fun cenv s₄ =>
   codeAny (model X.prog X.w) X.A (.compStart (.ListComp elt [⟨target,iter,ifs,0⟩] scope pos) 0 (.ref it) acc {cenv with scope:=relabel scope X.env}) (compPost (model X.prog X.w) X.A E use QQ acc cenv.locals) s₄) E s₃) E s:=by
 refine Db (wpAny_newFunctionEnv S.nocell (by intro y hy;simp at hy) (fun h₁ hns₁ hsb₁=>?_) S.kind)
 dsimp only at hns₁ hsb₁ ⊢
 generalize hH2:s.heap.push {cls:=.type "list",dict:=none,data:=.seq ([]:List Value).toArray}=H2 at hns₁ hsb₁ ⊢
 have hC:H2.objs.size=s.heap.objs.size+1:=by rw[←hH2,CW]
 have hDC:s.heap.objs.size≠H2.objs.size:=by rw[hC];exact AW (HD _)
 have hCle:s.heap.objs.size≤H2.objs.size:=by rw[hC];exact FP _
 have old:∀b o,s.heap.get? b=some o→h₁.get? b=some o:=fun b o e=>hsb₁.extBut b o (by rw[hC];exact AW (FF (AI e))) (AC _ (hH2 ▸ AC _ e))
 have hDo:h₁.get? s.heap.objs.size=some {cls:=.type "list",data:=.seq #[]}:=hsb₁.extBut _ _ hDC (AC _ (hH2 ▸ AN _ rfl))
 have hfp:∀b∈fp,∃o,s.heap.get? b=some o:=fun b hb=>let ⟨o,e,_⟩:=T.obj 0 _ t0 b hb;⟨o,e⟩
 have hlt:∀b∈fp,b<s.heap.objs.size:=fun b hb=>let ⟨o,e⟩:=hfp b hb;AI e
 obtain⟨W,⟨m0,w0⟩,turn⟩:=h
 obtain⟨BG,BT,BE⟩:=B H2.objs.size s H fp
 have I4:=Eo (tk:=s.toks+([]:List (Str×Value)).length) I S hf hfp old hCle (AF _) hDC hns₁ (fun x=>by simp) hDo
 have hcells:∀n,(n,NameKind.free)∈scope.names→∃c,X.env.cells.lookup n=some c:=fun n hn=>by
  rcases S.free n hn with e | e
  ·exact I.ok.has n (.inl e)
  ·exact I.ok.has n (.inr e)
 -- what the iterator's objects are to the block
 have stat:∀{H':Hp},(∀b∈fp,H' b=none)→∀b∈fp,Cj (mf X scope Nb H2.objs.size s H fp) [] H' b:=fun hn b hb=>by
  refine⟨hn b hb,AW (AU (hlt b hb) hCle),fun z=>?_,.inl hb,fun x c e=>?_,fun p hp=>absurd (show p∈([]:List (Addr×Obj))++[]from hp) (by simp)⟩
  ·rcases AO.mp (I.stkSub b z)with z | z
   ·exact(hf b hb).2.1 z
   ·exact(hf b hb).2.2.1 z
  ·rcases pj scope.names [] x c hcells e with q | q
   ·cases q
   ·exact(hf b hb).2.2.2.2.1 x c q
 have loop:∀s₃:Shared,s₃={s with heap:=h₁,toks:=s.toks+([]:List (Str×Value)).length} →
   codeAny (model X.prog X.w) X.A (.compLoop (.ListComp elt [⟨target,iter,ifs,0⟩] scope pos) 0 (.ref it) (.ref s.heap.objs.size) (compEnvC scope (Ds X.env scope.names []) H2.objs.size X.env))
    (compPost (model X.prog X.w) X.A E use QQ (.ref s.heap.objs.size) H2.objs.size) s₃:=by
  rintro s₃ rfl
  refine Ep (fun n s'=>∃i H' acc its n',Inv (mf X scope Nb H2.objs.size s H fp) [] (j0 cap nl σ) H' s'∧tn i s'.heap∧(∀b∈fp,H' b=none)∧H' s.heap.objs.size=none ∧
   s'.heap.get? s.heap.objs.size=some {cls:=.type "list",data:=.seq (its:List Value).toArray n'}∧bq acc its∧W i n H' acc) ?_ m0
   ⟨0,H,[],[],_,I4.pins_of (fun p hp=>absurd hp (by simp)),T.keep _ _ _ t0 fun b hb o e=>old b o e,fun b hb=>(hf b hb).1,I.hok.fresh (AF _),hDo,.nil,w0⟩
  rintro n s5 ⟨i,H5,acc,its,n5,I5,t5,f5,hD5,hget5,hv5,w5⟩
  rcases turn i n H5 acc w5 with⟨stop,hz,q⟩ | ⟨go,hz,q⟩
  ·refine thn (T.done (mf X scope Nb H2.objs.size s H fp) rfl rfl rfl hc i [(s.heap.objs.size,{cls:=.type "list",data:=.seq its.toArray n5})] s5 _ H5 _ (I5.pins_of ?_) ?_ t5 stop) fun r s6 ⟨hr,I6⟩=>?_
   ·intro p hp
    have e:p=(s.heap.objs.size,{cls:=.type "list",data:=.seq its.toArray n5}):=by simpa using hp
    subst e
    refine⟨hget5,hD5,hDC,fun z=>?_,fun v z=>by cases z⟩
    rcases AO.mp (I.stkSub _ (show s.heap.objs.size∈frs X.stack from z))with w | w
    ·exact absurd I.lt (by rw[←w];exact CP _)
    ·exact I.nofs (AF _) w
   ·intro b hb
    obtain⟨a1,a2,a3,a4,a5,a6⟩:=stat f5 b hb
    refine⟨a1,a2,a3,a4,a5,fun p hp=>?_⟩
    have e:p=(s.heap.objs.size,{cls:=.type "list",data:=.seq its.toArray n5}):=by
     have:p∈([]:List (Addr×Obj))++[(s.heap.objs.size,{cls:=.type "list",data:=.seq its.toArray n5})]:=hp
     simpa using this
    subst e
    exact fun z=>absurd (hlt b hb) (by rw[←z];exact CP _)
   ·subst hr
    have hget6:=(I6.pin (s.heap.objs.size,{cls:=.type "list",data:=.seq its.toArray n5}) (by show _∈([]:List (Addr×Obj))++_;simp)).1
    obtain⟨m6,hn6,_⟩:=I6.loc
    refine hQ _ _ s6 m6 hCle (fun h' hs'=>?_) hn6
    have hk6:∀b o,b≠H2.objs.size→s6.heap.get? b=some o→h'.get? b=some o:=fun b o hb e=>hs'.extBut b o hb e
    have hgetD:=hk6 _ _ hDC hget6
    have Cn:H5 H2.objs.size=none:=I6.free
    have hok':HOk X.prog X.w H5 h':=fun b u e=>by
     refine(I6.hok b u e).stay (fun c v hcc q=>hk6 c v ?_ q) (fun _ q=>q) fun _ _ q=>q
     rcases hcc with z | z
     ·rintro rfl;rw[←z]at e;rw[Cn]at e;cases e
     ·rintro rfl;rw[Cn]at z;cases z
    refine⟨.ref s.heap.objs.size,upd H5 s.heap.objs.size (.lst acc),?_,rfl,by rw[ay (Ne.symm hDC)];exact Cn,q _ hD5⟩
    have hU:Un (frs X.stack) fp H H5 s.heap s6.heap:=I6.base
    have nC:∀b o,s.heap.get? b=some o→b≠H2.objs.size:=fun b o e=>AW (AU (AI e) hCle)
    have nD:∀b o,s.heap.get? b=some o→b≠s.heap.objs.size:=fun b o e=>AW (AI e)
    refine I.call' (s':={s6 with heap:=h'}) (ch:=fp) (by show s6.os=s.os;exact I6.os) ⟨fun b o e nn hb hx=>hk6 b o (nC b o e) (hU.keep b o e nn hb hx),fun b o e nn hb hx=>?_,fun b o e nn hx=>?_,fun b o e hx=>?_,fun b xs e=>?_,fun b o u e=>?_,fun b ps e=>?_⟩ ?_ I6.bare ?_
    ·obtain⟨sl,e2⟩:=hU.slot b o e nn hb hx
     exact⟨sl,hk6 b _ (nC b o e) e2⟩
    ·rw[ay (nD b o e)];exact hU.free b o e nn hx
    ·obtain⟨o',e2⟩:=hU.there b o e hx
     exact⟨o',hk6 b _ (nC b o e) e2⟩
    ·have e2:=hU.tups b xs e
     rw[ay (bu e2 hD5)];exact e2
    ·have e2:=hU.frzs b o u e
     rw[ay (bu e2 hD5)];exact e2
    ·obtain⟨more,e2⟩:=hU.tbls b ps e
     exact⟨more,by rw[ay (bu e2 hD5)];exact e2⟩
    ·exact L2.HOk.track hok' hD5 ⟨hz,its,n5,hv5,hgetD⟩
    ·intro b hb
     obtain⟨a1,a2,a3,a4,a5,a6⟩:=hf b hb
     exact⟨a4,a2,a5,a6⟩
  ·-- one more turn
   have notfs:s.heap.objs.size∉frs X.stack:=fun z=>by
    rcases AO.mp (I.stkSub _ z)with w | w
    ·exact absurd I.lt (by rw[←w];exact CP _)
    ·exact I.nofs (AF _) w
   have I5':Inv (mf X scope Nb H2.objs.size s H fp) [(s.heap.objs.size,{cls:=.type "list",data:=.seq its.toArray n5})] (j0 cap nl σ) H5 s5:=I5.pins_of fun p hp=>by
    have e:p=(s.heap.objs.size,{cls:=.type "list",data:=.seq its.toArray n5}):=by simpa using hp
    subst e
    exact⟨hget5,hD5,hDC,notfs,fun v z=>by cases z⟩
   have stat':∀{H':Hp},(∀b∈fp,H' b=none)→∀b∈fp,Cj (mf X scope Nb H2.objs.size s H fp) [(s.heap.objs.size,{cls:=.type "list",data:=.seq its.toArray n5})] H' b:=fun hn b hb=>by
    obtain⟨a1,a2,a3,a4,a5,a6⟩:=stat hn b hb
    refine⟨a1,a2,a3,a4,a5,fun p hp=>?_⟩
    have e:p=(s.heap.objs.size,{cls:=.type "list",data:=.seq its.toArray n5}):=by
     have:p∈([]:List (Addr×Obj))++[(s.heap.objs.size,{cls:=.type "list",data:=.seq its.toArray n5})]:=hp
     simpa using this
    subst e
    exact fun z=>absurd (hlt b hb) (by rw[←z];exact CP _)
   refine thn (T.item (mf X scope Nb H2.objs.size s H fp) rfl rfl rfl hc i _ s5 _ H5 (fun _ _=>False) I5' (stat' f5) t5 go) fun r s6 ⟨u,hr,h6⟩=>?_
   subst hr
   refine thn h6 fun _ s7 ⟨x,H7,I7,r7,y7,t7,f7⟩=>?_
   have I7':=I7.pinned (stat' f7) (T.obj _ _ t7)
   have back:∀{σ':St} {H':Hp} {s':Shared},Inv (mf X scope Nb H2.objs.size s H fp) ([(s.heap.objs.size,{cls:=.type "list",data:=.seq its.toArray n5})]++wa fp s7.heap) σ' H' s' →
     tn (i+1) s'.heap∧(∀b∈fp,H' b=none)∧H' s.heap.objs.size=none∧s'.heap.get? s.heap.objs.size=some {cls:=.type "list",data:=.seq its.toArray n5}:=fun {σ' H' s'} J'=>by
    have pD:=J'.pin (s.heap.objs.size,{cls:=.type "list",data:=.seq its.toArray n5}) (by show _∈([]:List (Addr×Obj))++_;simp)
    refine⟨T.keep _ _ _ t7 fun b hb o e=>(J'.pin (b,o) (BP _ (BP _ (lq hb e)))).1,fun b hb=>?_,pD.2.1,pD.1⟩
    obtain⟨o,e,d⟩:=T.obj _ _ t7 b hb
    exact(J'.pin (b,o) (BP _ (BP _ (lq hb e)))).2.1
   refine thn (BG _ s7 _ H7 x u _ I7' r7 (q x H7 y7)) fun _ s8 ⟨σ8,H8,I8,ks,q8⟩=>?_
   refine thn (BT _ s8 σ8 H8 _ I8 q8) fun ok s9 ⟨H9,I9,q9⟩=>?_
   cases ok with
   | false =>
    obtain⟨m',hm',w9⟩:∃m',m'<n∧W (i+1) m' H9 acc:=q9
    obtain⟨b1,b2,b3,b4⟩:=back I9
    exact⟨m',hm',i+1,H9,acc,its,n5,(I9.weak ks.1 ks.2).pins_of (fun p hp=>absurd hp (by simp)),b1,b2,b3,b4,hv5,w9⟩
   | true =>
    refine thn (BE _ s9 σ8 H9 _ I9 q9) fun xv s10 ⟨v,H10,I10,r10,m',hm',w10⟩=>?_
    obtain⟨b1,b2,b3,b4⟩:=back I10
    have hl5:=hv5.length
    refine wpAny_list_append_plain (items:=its.toArray) ⟨n5,b4⟩ (fun h' hpl hs'=>?_) (by rw[AD,←hl5];exact EM hz)
    obtain⟨n6,hg6⟩:=hpl
    have I11:Inv (mf X scope Nb H2.objs.size s H fp) [] (j0 cap nl σ) H10 {s10 with heap:=h'}:=by
     have I10':=(I10.weak ks.1 ks.2).pins_of (pins':=[]) (fun p hp=>absurd hp (by simp))
     refine I10'.turned (t':=s10.toks) (it:=s.heap.objs.size) (fun b o hb e=>hs'.extBut b o hb e) b3 hDC (.inr (AF _)) (fun x c e=>?_) (fun p hp=>absurd (show p∈([]:List (Addr×Obj))++[]from hp) (by simp))
     rcases pj scope.names [] x c hcells e with q | q
     ·cases q
     ·obtain⟨v,hcc⟩:=I.cell x c q
      exact AW hcc.lt
    refine⟨m',hm',i+1,H10,acc++[v],its++[xv],n6,I11,?_,b2,b3,by rw[hg6];simp,hv5.append (.cons r10 .nil),w10⟩
    exact T.keep _ _ _ b1 fun b hb o e=>hs'.extBut b o (AW (hlt b hb)) e
 exact codeAny_compStart_list (loop _ rfl) (T.self X.A 0 _ _ _ (T.keep _ _ _ t0 fun b hb o e=>old b o e) (loop _ rfl))
theorem Mw {elt target iter:Expr} {ifs:List Expr} {pos:Pos} {wi:TI} {g:TG} {ts:TT} {te:TE} (S:CompScope X.env.scope scope X.N Nb cap nl) (hc:X.calm=true) (hi:PI X target iter wi) (B:zq X scope Nb target ifs elt g ts te)
  (hs:∀x,foldedSetIterable iter X.env x=pure x):PE X (.ListComp elt [⟨target,iter,ifs,0⟩] scope pos) (Mv wi g ts te (j0 cap nl)):=by
 intro pins s σ H Q I h
 rw[eval_ListComp]
 have hcells:∀n,(n,NameKind.free)∈scope.names→∃c,X.env.cells.lookup n=some c:=fun n hn=>by
  rcases S.free n hn with e | e
  ·exact I.ok.has n (.inl e)
  ·exact I.ok.has n (.inr e)
 refine wpAny_comprehension_free (use:=none) rfl hs (tm hcells) S.kind (fun y hy hl=>by rw[S.uniq y hy,hl]) ?_
 refine thn (hi pins s σ H _ I h) fun v s1 h1=>thn h1 fun itv s2 ⟨it,fp,tn,J,H2,e,I2,T,t2,f2,hW⟩=>?_
 subst e
 exact tq (Q:=Q) (QQ:=EP X pins σ Q) S hc B I2 T t2 f2 hW fun D C s' m _ hq hn=>⟨m,hn,fun h' hs'=>let ⟨v,H',I',r,q⟩:=hq h' hs';⟨v,H',I',r,q.2⟩⟩
theorem C1 {elt target iter:Expr} {ifs:List Expr} {pos spos py:Pos} {y:Str} {i:Nat} {wi:TI} {g:TG} {ts:TT} {te:TE} (S:CompScope X.env.scope scope X.N Nb cap nl) (hc:X.calm=true) (hi:PI X target iter wi) (B:zq X scope Nb target ifs elt g ts te)
  (hs:∀x,foldedSetIterable iter X.env x=pure x) (hsw:swapsWith (.ListComp elt [⟨target,iter,ifs,0⟩] scope pos) (some (.Name y py)) spos.line X.env=pure true)
  (hN:X.N.Nodup) (hiN:X.N[i]? = some y) (hy:X.env.scope.names.lookup y=some .local) :
  PS X (.Assign [.Name y py] (.ListComp elt [⟨target,iter,ifs,0⟩] scope pos) spos) (fun E σ H=>Mv wi g ts te (j0 cap nl) σ H (FQ fun v H1=>E.nx (σ.set i (some v)) H1)):=by
 intro pins s σ H E I h
 rw[exec_Assign_Name_used _ _ _ _ hsw]
 have hcells:∀n,(n,NameKind.free)∈scope.names→∃c,X.env.cells.lookup n=some c:=fun n hn=>by
  rcases S.free n hn with e | e
  ·exact I.ok.has n (.inl e)
  ·exact I.ok.has n (.inr e)
 refine AB (wpAny_standAt (AB ?_))
 show wpAny _ _ (comprehension _ scope X.env _ (newList []) false (eval iter X.env) (some (assign (.Name y py) X.env))>>=fun _=>pure ()) _ _ _
 refine AB (wpAny_comprehension_free (use:=some (assign (.Name y py) X.env)) rfl hs (tm hcells) S.kind (fun z hz hl=>by rw[S.uniq z hz,hl]) ?_)
 refine thn (hi pins s σ H _ I h) fun v s1 h1=>thn h1 fun itv s2 ⟨it,fp,tn,J,H2,e,I2,T,t2,f2,hW⟩=>?_
 subst e
 refine tq (Q:=FQ fun v H1=>E.nx (σ.set i (some v)) H1) S hc B I2 T t2 f2 hW fun D C s' m hC hq hn=>?_
 obtain⟨v,H',I',r,hCn,q⟩:=hq s'.heap (.refl ..)
 have hep:∃H',Inv X pins σ H' s'∧H' C=none∧E.nx (σ.set i (some v)) H':=by
  rcases q with q | ⟨p,xs,rfl,e,q⟩
  ·exact⟨H',I',hCn,q⟩
  ·obtain⟨o,I''⟩:=L2.Inv.freeze I' e
   exact⟨_,I'',by rw[ay (fun z=>by rw[z,e]at hCn;cases hCn)];exact hCn,q o⟩
 obtain⟨H',I',hCn,q⟩:=hep
 have hCL:C≠X.env.locals:=DB (AU I2.lt hC)
 show wpAny _ _ (assign (.Name y py) X.env (.ref D)) _ _ s'
 refine wpAny_assign_Name (vz I' hN hiN (.inl hy) r (fun s'' I'' ⟨a,hsb,ha⟩=>?_) (.inr hy))
 have haC:C≠a:=by
  rcases ha with z | z
  ·rw[z];exact hCL
  ·obtain⟨w,hc⟩:=I2.cell y a z
   exact DB (AU hc.lt hC)
 refine⟨m,hn.sameBut hsb haC,fun h' hs'=>?_⟩
 refine AL (AL ⟨_,H',?_,q⟩)
 refine I''.turned (t':=s''.toks) (it:=C) (fun b o hb e=>hs'.extBut b o hb e) hCn hCL (.inr (CL I2.sz hC)) (fun x c e=>?_) (fun p hp=>?_)
 ·obtain⟨w,hc⟩:=I2.cell x c e
  exact AW (AU hc.lt hC)
 ·exact AW (AU (AI (I2.pin p hp).1) hC)
end
end Lp
namespace Lp
open PySem PySem.Spec PyProof.Rows L2
noncomputable def tTs (K:PySem.W.Frag) (φ:Phi) (x:Exs):TT:=fun σv H Q=>∃ι σ μ,Sim K ι H μ∧n8 K ι H σ σv∧gq K RB ι H (Cz φ x σ μ) Q
section
variable {X : Cx} {φ : Phi} {scope : Scope} {Nb : List Str} {cap : List Nat} {nl : Nat}
theorem PTs.imp {ifs:List Expr} {t t':TT} (h:PTs X ifs t) (i:∀σ H Q,t' σ H Q→t σ H Q):PTs X ifs t':=fun pins s σ H Q I q=>h pins s σ H Q I (i σ H Q q)
theorem Qa:PTs X [] (tTs X.K φ .nil):=PTs.imp Mu fun σv H Q ⟨ι,σ,μ,hS,hL,h⟩=>by
 simp only[Cz]at h
 exact h.ok hS rfl
theorem Mx {c:Expr} {r:List Expr} {xc:Ex} {xr:Exs} (h1:PT X c (tT X.K φ xc)) (h2:PTs X r (tTs X.K φ xr)):PTs X (c::r) (tTs X.K φ (.cons xc xr)):=PTs.imp (Hv h1 h2) fun σv H Q ⟨ι,σ,μ,hS,hL,h⟩=>by
 simp only[Cz]at h
 obtain⟨d,μ1,e1,h⟩:=h.bind
 refine⟨ι,σ,μ,hS,hL,?_⟩
 rw[e1]
 cases d with
 | bl k =>
  intro ι1 x H1 p1 x1 s1 d1
  cases d1
  cases k with
  | true=>exact⟨ι1,σ,μ1,s1,hL.mono p1 x1,(show gq _ _ _ _ (Cz φ xr σ μ1) _ from h).mono p1 x1⟩
  | false=>exact h ι1 false H1 p1 x1 s1 rfl
 | _=>exact h.elim
theorem Hw {K:PySem.W.Frag} {ι:List Addr} {H:Hp} {σ:Sl} {σv:St} (hL:n8 K ι H σ σv):n8 K ι H (cap.map (fun i=>(σ[i]?).getD none)++List.replicate nl none) (j0 cap nl σv):=fun j d e=>by
 by_cases hj:j<cap.length
 ·rw[AV (by simpa using hj),AX,AA hj]at e
  simp only[HS,BN]at e
  have e4:σ[cap[j]]? = some (some d):=by
   cases e5:σ[cap[j]]? with
   | none=>rw[e5]at e;cases e
   | some w=>rw[e5]at e;simp at e;rw[e]
  obtain⟨v,q1,q2⟩:=hL _ _ e4
  refine⟨v,?_,q2⟩
  unfold j0
  rw[AV (by simpa using hj),AX,AA hj]
  simp[q1]
 ·rw[BM (by simpa using hj),Da]at e
  split at e<;>cases e
theorem Hx {σv σv':St} {tg:Tg} (hs:∀j∈slots tg,cap.length≤j) (hl:σv'.length=(j0 cap nl σv).length) (h:∀j,j∉slots tg→σv'[j]? = (j0 cap nl σv)[j]?):Kept (j0 cap nl σv) σv':=by
 refine⟨hl.symm,fun i v e=>?_⟩
 have hi:i<cap.length:=by
  by_cases hi:i<cap.length
  ·exact hi
  ·unfold j0 at e
   rw[BM (by simpa using hi),Da]at e
   split at e<;>cases e
 rw[h i fun z=>absurd (hs i z) (by lia)]
 exact e
theorem w6 {m:Mk} {tg:Tg} {it:It} {cs:Exs} {elt:Ex} {σv:St} {H:Hp} {Q:VK} (hs:∀j∈slots tg,cap.length≤j) (h:tE X.K φ (.comp m cap nl tg it cs elt) σv H Q) :
  Mv (tI X.K φ it) (tG X.K tg) (tTs X.K φ cs) (tE X.K φ elt) (j0 cap nl) σv H (FQ Q):=by
 obtain⟨ι,σ,μ,hS,hL,h⟩:=h
 simp only[evE]at h
 obtain⟨⟨ds,g⟩,μ1,e1,h⟩:=h.bind
 refine⟨ι,σ,μ,hS,hL,?_⟩
 rw[e1]
 intro ι1 H1 J p1 x1 s1 wk
 refine⟨fun i k H' acc=>k=ds.length-i∧i≤ds.length∧acc.length≤i∧∃ι' μ' ys,ι1 <+: ι'∧Ext H1 H'∧Sim X.K ι' H' μ'∧aj X.K ι' H' ys acc ∧
  gq X.K (RD X.K) ι' H' ((mapR g (fun d μ=>l6 (d6 tg d (cap.map (fun i=>(σ[i]?).getD none)++List.replicate nl none)) fun σ' =>
    (Cz φ cs σ' μ).bind fun b μ=>if b=true then(evE φ elt σ' μ).bind fun x μ=>.ok [x] μ else .ok [] μ) (ds.drop i) μ').bind fun xs μ=>mkL m (ys++xs) μ) Q,
  ⟨ds.length,by simp,CV _,AF _,ι1,μ1,[],AH _,.refl _,s1,by simp[aj],?_⟩,?_⟩
 ·simpa using h.mono p1 x1
 ·rintro i k H' acc ⟨rfl,hi,hacc,ι',μ',ys,p',x',s',hys,h'⟩
  have wl:=wk.len
  by_cases hlt:i<ds.length
  ·obtain⟨d,ed⟩:∃d,ds[i]? = some d:=⟨ds[i],AA hlt⟩
   have edrop:ds.drop i=d::ds.drop (i+1):=by
    rw[GH hlt]
    rw[AA hlt]at ed
    cases ed;rfl
   rw[edrop]at h'
   simp only[mapR]at h'
   split at h'
   ·rename_i hgd
    right
    refine⟨wk.go i ι' H' μ' p' x' s' hgd hlt,by lia,fun v H2 hy=>?_⟩
    obtain⟨x2,s2,d',ed',hd'⟩:=wk.yld i ι' H' μ' v H2 p' x' s' hgd hlt hy
    rw[ed]at ed';cases ed'
    rw[Res.bind_assoc]at h'
    cases eb:d6 tg d (cap.map (fun i=>(σ[i]?).getD none)++List.replicate nl none)with
    | none=>rw[eb]at h';exact h'.elim
    | some σb =>
     rw[eb]at h'
     simp only[me]at h'
     have hLb:=Hw (cap:=cap) (nl:=nl) ((hL.mono (p1.trans p') (x1.trans x')).mono (AH _) x2)
     refine⟨ι',_,d,σb,hLb,?_,hd',eb,fun σv2 l2 z2 z3 k2=>⟨Hx hs z3 k2,ι',σb,μ',s2,l2,?_⟩⟩
     ·simp[j0]
     ·rw[Res.bind_assoc]at h'
      obtain⟨b,μ2,e2,h2⟩:=h'.bind
      rw[e2]
      intro ι3 b' H3 p3 x3 s3 d3
      cases d3
      cases b with
      | false =>
       refine⟨ds.length-(i+1),by lia,rfl,hlt,by lia,ι3,μ2,ys,p'.trans p3,(x'.trans x2).trans x3,s3,aj.mono p3 (x2.trans x3) _ _ hys,?_⟩
       have h3:=h2.mono p3 (x2.trans x3)
       simpa[Res.bind_assoc]using h3
      | true =>
       simp only[if_true]at h2 ⊢
       rw[Res.bind_assoc]at h2
       obtain⟨y,μ3,e3,h3⟩:=h2.bind
       refine⟨ι3,σb,μ2,s3,l2.mono p3 x3,?_⟩
       rw[e3]
       intro ι4 w H4 p4 x4 s4 d4
       refine⟨ds.length-(i+1),by lia,rfl,hlt,by simp;lia,ι4,μ3,ys++[y],(p'.trans p3).trans p4,((x'.trans x2).trans x3).trans x4,s4,(aj.mono (p3.trans p4) ((x2.trans x3).trans x4) _ _ hys).append (.one d4),?_⟩
       have h4:=h3.mono (p3.trans p4) ((x2.trans x3).trans x4)
       simpa[Res.bind_assoc]using h4
   ·exact h'.elim
  ·have ei:i=ds.length:=by lia
   subst ei
   simp only[List.drop_length,mapR]at h'
   split at h'
   ·rename_i hgd
    refine .inl ⟨wk.stop ι' H' μ' p' x' s' hgd,by lia,fun p hp=>k7 s' hys (by simpa using h') hp⟩
   ·exact h'.elim
theorem Qb {e target iter:Expr} {ifs:List Expr} {pos:Pos} {m:Mk} {tg:Tg} {it:It} {cs:Exs} {elt:Ex} (S:CompScope X.env.scope scope X.N Nb cap nl) (hc:X.calm=true) (hi:PI X target iter (tI X.K φ it))
  (B:zq X scope Nb target ifs e (tG X.K tg) (tTs X.K φ cs) (tE X.K φ elt)) (hf:∀x,foldedSetIterable iter X.env x=pure x) (hs:∀j∈slots tg,cap.length≤j) :
  PE X (.ListComp e [⟨target,iter,ifs,0⟩] scope pos) (tE X.K φ (.comp m cap nl tg it cs elt)) :=
 PE.imp (PE.fq (Mw S hc hi B hf)) fun σv H Q h=>w6 hs h
theorem Er {e target iter:Expr} {ifs:List Expr} {pos spos py:Pos} {y:Str} {i:Nat} {m:Mk} {tg:Tg} {it:It} {cs:Exs} {elt:Ex} (S:CompScope X.env.scope scope X.N Nb cap nl) (hc:X.calm=true) (hi:PI X target iter (tI X.K φ it))
  (B:zq X scope Nb target ifs e (tG X.K tg) (tTs X.K φ cs) (tE X.K φ elt)) (hf:∀x,foldedSetIterable iter X.env x=pure x) (hs:∀j∈slots tg,cap.length≤j)
  (hsw:swapsWith (.ListComp e [⟨target,iter,ifs,0⟩] scope pos) (some (.Name y py)) spos.line X.env=pure true) (hN:X.N.Nodup) (hiN:X.N[i]? = some y) (hy:X.env.scope.names.lookup y=some .local) :
  PS X (.Assign [.Name y py] (.ListComp e [⟨target,iter,ifs,0⟩] scope pos) spos) (tS X.K φ (.set i (.comp m cap nl tg it cs elt))) :=
 PS.imp (C1 S hc hi B hf hsw hN hiN hy) fun E σv H ⟨ι,σ,μ,hS,hL,hl,h⟩=>by
  refine w6 (m:=m) (Q:=fun v H1=>E.nx (σv.set i (some v)) H1) hs ?_
  simp only[evS]at h
  obtain⟨d,μ1,e1,h⟩:=h.bind
  refine⟨ι,σ,μ,hS,hL,?_⟩
  rw[e1]
  exact fun ι1 v H1 p1 x1 s1 d1=>h ι1 _ H1 p1 x1 s1 ((hL.mono p1 x1).set hl d1) (by simp[hl])
end
end Lp
namespace Lp
open PySem PySem.Spec PyProof.Rows L2
section
variable {X : Cx} {φ : Phi}
theorem g7 {K:PySem.W.Frag} {ι:List Addr} {H:Hp} {ds:List D} {v:V} (h:IsD K ι H (.tup ds) v):∃a xs,v=.ref a∧SqT K H a xs∧aj K ι H ds xs:=by
 simpa[IsD]using h
theorem tup_is {K:PySem.W.Frag} {ι:List Addr} {H:Hp} {ds:List D} {a:Addr} {xs:List V} (h:SqT K H a xs) (h2:aj K ι H ds xs):IsD K ι H (.tup ds) (.ref a):=by
 simp only[IsD]
 exact⟨a,xs,rfl,h,h2⟩
theorem dg {K:PySem.W.Frag} {ι:List Addr} {H:Hp} {i:Int} {v:V} (h:IsD K ι H (.int i) v):v=.int i:=by simpa[IsD]using h
theorem xg {K:PySem.W.Frag} {ι:List Addr} {H:Hp} {i:Bool} {v:V} (h:IsD K ι H (.bl i) v):v=.bl i:=by simpa[IsD]using h
theorem uq {K:PySem.W.Frag} {ι:List Addr} {H:Hp} {μ:Sto} {ds:List D} {xs:List V} {Q:VK} {p:Addr} (hS:Sim K ι H μ) (hd:aj K ι H ds xs) (h:gq K (RD K) ι H (.ok (.tup ds) μ) Q) (hp:H p=none):Q (.ref p) (upd H p (.tup xs)) :=
 h ι (.ref p) _ (AH _) (.new hp) (hS.new hp) (tup_is (.of a8) (aj.mono (AH _) (.new hp) ds xs hd))
theorem Es {pins:List (Addr×Obj)} {s:Shared} {σ:St} {H:Hp} {l b:Addr} {xs zs:List V} {Q:VK} (I:Inv X pins σ H s) (hl:LsL X.K H l xs) (hb:LsL X.K H b zs) (hz:xs.length+zs.length≤sizeLine)
  (q:∀p,H p=none→Q (.ref p) (upd H p (.lst (xs++zs)))):wpAny (model X.prog X.w) X.A (binaryOp .Add (.ref l) (.ref b)) (EP X pins σ Q) X.xe s:=by
 obtain⟨z,its,n,r,hl,e⟩:=I.ls hl
 obtain⟨z2,its2,n2,r2,hl2,e2⟩:=I.ls hb
 refine PySem.P.add_list e e2 ?_ (by rw[AD,AD];lia)
 have ea:its.toArray++its2.toArray=(its++its2).toArray:=by simp
 rw[ea]
 exact⟨.ref _,_,I.lnew (t':=s.toks) (r.append r2) (by rw[CC];lia),rfl,q _ I.fresh⟩
theorem Hy {pins:List (Addr×Obj)} {s:Shared} {σ:St} {H:Hp} {l:Addr} {k:Int} {t:Tok} {xs:List V} {Q:VK} (I:Inv X pins σ H s) (hH:LsL X.K H l xs) (h1:-(2 ^ 63)≤k) (h2:k<2 ^ 63) (hz:xs.length*k.toNat≤sizeLine)
  (q:∀p,H p=none→Q (.ref p) (upd H p (.lst (List.replicate k.toNat xs).flatten))):wpAny (model X.prog X.w) X.A (binaryOp .Mult (.ref l) (.int k t)) (EP X pins σ Q) X.xe s:=by
 obtain⟨z,its,n,r,hl,e⟩:=I.ls hH
 have hlen:its.toArray.size*k.toNat≤sizeLine:=by rw[AD,←hl];exact hz
 have hcap:¬its.toArray.size*k.toNat > (2 ^ 63-1) / 8:=by
  have:(sizeLine:Nat)≤(2 ^ 63-1) / 8:=by decide
  lia
 have hfit:¬(!Builtin.List.listFitsIndex k)=true:=by
  rw[fitsIndex_both h1 h2]
  exact AY
 have hlong:¬Builtin.List.listTooLong (its.toArray.size*k.toNat)=true:=by
  rw[Au hlen]
  exact AY
 have hnew:List.foldl (fun x1 x2=>x1++x2) #[] (List.replicate (if its.toArray.isEmpty=true then 0 else k.toNat) its.toArray)=(List.replicate k.toNat its).flatten.toArray:=by
  have f0:∀m:Nat,List.foldl (fun x1 x2=>x1++x2) #[] (List.replicate m its.toArray)=(List.replicate m its).flatten.toArray:=fun m=>by
   have:=foldl_rep its m []
   rw[FU]at this
   exact this
  rw[f0]
  cases its with
  | nil=>simp
  | cons a r'=>rw[if_neg (by simp)]
 refine wpAny_binaryOp_repeat_ref (T:="list") (U:="int") (by decide) ⟨_,e,rfl⟩ (fun s'=>typeIs_int s' k t) noFill_list_mul F.fills_int_mul F.slot_int_rmul repeat_list F.slot_int_index.lookup
  (GB F.slot_int_rmul (typeIs_int s k t) F.entry_int_rmul (F.args_int_rmul_2 _ _) (int___rmul___int_list k t l its.toArray n)
   ⟨e,rfl,⟨_,e,rfl⟩,GB F.slot_list_mul ⟨_,e,rfl⟩ F.entry_list_mul (F.args_list_mul_2 _ _) (AutoListH.list___mul___list_int_3 l its.toArray n k t hfit hcap hlong) ⟨e,?_⟩⟩)
 rw[hnew]
 exact⟨.ref _,_,I.lnew (t':=s.toks) (r.rep k.toNat) (by rw[len_rep,Nat.mul_comm];exact hz),rfl,q _ I.fresh⟩
theorem My {pins:List (Addr×Obj)} {s:Shared} {σ:St} {H:Hp} {a b:Addr} {ys:List V} {Q:VK} (I:Inv X pins σ H s) (ha:SqT X.K H a []) (hb:SqT X.K H b ys) (q:Q (.ref b) H) :
  wpAny (model X.prog X.w) X.A (binaryOp .Add (.ref a) (.ref b)) (EP X pins σ Q) X.xe s:=by
 obtain⟨its,r1,p1,_⟩:=I.tuple ha
 obtain⟨its2,r2,p2,_⟩:=I.tuple hb
 have e1:its=[]:=by cases r1;rfl
 subst e1
 obtain⟨⟨cls,dd,data,sl⟩,ho,hc,n,hd⟩:=id p1
 obtain⟨⟨cls2,dd2,data2,sl2⟩,ho2,hc2,n2,hd2⟩:=id p2
 simp only at hc hd hc2 hd2
 subst hc hd hc2 hd2
 exact concat_meets ⟨_,ho,rfl⟩ ⟨_,ho2,rfl⟩ GZ seq_tuple_add FC EY (ER _ _)
   (tuple_addW0 a b ([]:List Value).toArray its2.toArray n n2 dd dd2 sl sl2 (by simp)) ⟨ho,ho2,⟨.ref b,H,I,rfl,q⟩⟩
theorem Qc {op:Operator} {m:Mk}:OpR X (binaryOp op) (rOp X.K (opD op m)):=by
 intro pins s σ H x y v u Q I rx ry ⟨ι,d,e,μ,hS,hd,he,h⟩
 unfold opD at h
 split at h
 ·rename_i i j
  cases dg hd
  cases dg he
  unfold opI at h
  split at h
  ·exact op_add pins s σ H _ _ v u Q I rx ry ⟨i,j,rfl,rfl,h.ok hS (by simp[IsD])⟩
  ·exact op_sub pins s σ H _ _ v u Q I rx ry ⟨i,j,rfl,rfl,h.ok hS (by simp[IsD])⟩
  ·split at h
   ·rename_i hc
    exact op_mul pins s σ H _ _ v u Q I rx ry ⟨i,j,rfl,rfl,hc,h.ok hS (by simp[IsD])⟩
   ·exact h.elim
  ·split at h
   ·rename_i hc
    exact L6 pins s σ H _ _ v u Q I rx ry ⟨i,j,rfl,rfl,hc,h.ok hS (by simp[IsD])⟩
   ·exact h.elim
  ·split at h
   ·rename_i hc
    exact op_mod pins s σ H _ _ v u Q I rx ry ⟨i,j,rfl,rfl,hc,h.ok hS (by simp[IsD])⟩
   ·exact h.elim
  ·split at h
   ·rename_i hc
    exact op_pow pins s σ H _ _ v u Q I rx ry ⟨i,j,rfl,rfl,hc,h.ok hS (by simp[IsD])⟩
   ·exact h.elim
  ·split at h
   ·rename_i hc
    exact op_shr pins s σ H _ _ v u Q I rx ry ⟨i,j,rfl,rfl,hc,h.ok hS (by simp[IsD])⟩
   ·exact h.elim
  ·exact h.elim
 ·rename_i xs ys
  split at h
  ·split at h
   ·rename_i hz
    obtain⟨a,vs,rfl,ha,hvs⟩:=g7 hd
    obtain⟨b,ws,rfl,hb,hws⟩:=g7 he
    cases rx
    cases ry
    rw[h9]at hz
    by_cases hx:vs=[]
    ·subst hx
     have e1:xs=[]:=by have:=hvs.length;simpa using this.symm
     subst e1
     exact My I ha hb (h.ok hS he)
    ·refine Mc pins s σ H (.ref a) (.ref b) _ _ Q I rfl rfl ⟨a,b,vs,ws,rfl,rfl,ha,hb,hx,by rw[hvs.length,hws.length];exact hz,fun z=>?_,fun z p hp=>uq hS (hvs.append hws) h hp⟩
     subst z
     have e1:ys=[]:=by have:=hws.length;simpa using this.symm
     subst e1
     exact h.ok hS (by simpa using hd)
   ·exact h.elim
  ·exact h.elim
 ·rename_i j _
  cases dg he
  split at h
  ·rename_i es
   split at h
   ·rename_i hz
    obtain⟨a,xs,rfl,ha,hxs⟩:=ka hS hd es
    cases rx
    obtain⟨t,rfl⟩:=ry
    rw[h9]at hz
    exact En (Hy I ha hz.2.1 hz.2.2 (by rw[hxs.length];exact hz.1) fun p hp=>k7 hS (hxs.rep _) h hp)
   ·exact h.elim
  ·exact h.elim
 ·split at h
  ·rename_i es1 es2
   split at h
   ·rename_i hz
    obtain⟨a,xs,rfl,ha,hxs⟩:=ka hS hd es1
    obtain⟨b,ys,rfl,hb,hys⟩:=ka hS he es2
    cases rx
    cases ry
    rw[h9]at hz
    exact En (Es I ha hb (by rw[hxs.length,hys.length];exact hz) fun p hp=>k7 hS (hxs.append hys) h hp)
   ·exact h.elim
  ·exact h.elim
end
end Lp
namespace Lp
open PySem PySem.Spec PyProof.Rows L2
section
variable (K : PySem.W.Frag) (H : Hp)
mutual
noncomputable def IsW:D→V→Prop
 | .non,v=>v=.non
 | .bl b,v=>v=.bl b
 | .int i,v=>v=.int i
 | .str x,v=>v=.str x
 | .tup ds,v=>∃a xs,v=.ref a∧SqT K H a xs∧ip ds xs
 | .lst ds,v=>∃a xs,v=.ref a∧LsL K H a xs∧ip ds xs
 | .loc _,_=>False
noncomputable def ip:List D→List V→Prop
 | [],xs=>xs=[]
 | d::ds,xs=>∃v r,xs=v::r∧IsW d v∧ip ds r
end
end
section
variable {K : PySem.W.Frag} {H : Hp}
theorem ip.length:∀{ds:List D} {xs:List V},ip K H ds xs→xs.length=ds.length
 | [],xs,h=>by simp only[ip]at h;subst h;rfl
 | d::ds,xs,h=>by
  simp only[ip]at h
  obtain⟨v,r,rfl,_,t⟩:=h
  simp[ip.length t]
theorem ip.get:∀{ds:List D} {xs:List V} {i:Nat} {d:D},ip K H ds xs→ds[i]? = some d→∃v,xs[i]? = some v∧IsW K H d v
 | [],_,_,_,_,e=>by simp at e
 | d::ds,xs,0,_,h,e=>by
  simp only[ip]at h
  obtain⟨v,r,rfl,q,_⟩:=h
  simp at e;subst e
  exact⟨v,rfl,q⟩
 | d::ds,xs,i+1,x,h,e=>by
  simp only[ip]at h
  obtain⟨v,r,rfl,_,t⟩:=h
  obtain⟨w,h1,h2⟩:=ip.get (i:=i) (d:=x) t (by simpa using e)
  exact⟨w,by simpa using h1,h2⟩
theorem gx {ds:List D} {v:V} (h:IsW K H (.tup ds) v):∃a xs,v=.ref a∧SqT K H a xs∧ip K H ds xs:=by simpa[IsW]using h
theorem Et {ι:List Addr} {μ:Sto} (S:Sim K ι H μ) (f:D→Option D) (hf:∀d e v,f d=some e→IsD K ι H d v→IsW K H e v):∀{ds es:List D} {xs:List V},d5 (ds.map f)=some es→aj K ι H ds xs→ip K H es xs
 | [],es,xs,h,hd=>by
  simp only[DC,d5,BN]at h
  subst h
  simpa[aj,ip]using hd
 | d::ds,es,xs,h,hd=>by
  simp only[AR]at h
  cases e1:f d with
  | none=>rw[e1]at h;simp[d5]at h
  | some e =>
   rw[e1]at h
   simp only[d5]at h
   cases e2:d5 (ds.map f)with
   | none=>rw[e2]at h;cases h
   | some r =>
    rw[e2]at h
    cases h
    simp only[aj]at hd
    obtain⟨v,t,rfl,q,hd⟩:=hd
    simp only[ip]
    exact⟨v,t,rfl,hf d e v e1 q,Et S f hf e2 hd⟩
theorem xj {ι:List Addr} {μ:Sto} (S:Sim K ι H μ):∀(k:Nat) (d e:D) (v:V),bg μ k d=some e→IsD K ι H d v→IsW K H e v
 | 0,d,e,v,h,hd=>by
  cases d<;>simp_all[bg,flat,IsD,IsW]<;>(subst h;simp[IsW])
 | k+1,d,e,v,h,hd=>by
  have ih:=xj S k
  have sub:∀{ι':List Addr} {ds es:List D} {xs:List V},ι' <+: ι→d5 (ds.map (bg μ k))=some es→aj K ι' H ds xs→ip K H es xs:=fun p h hd=>Et S _ ih h (aj.mono p (.refl _) _ _ hd)
  cases d with
  | tup ds =>
   simp only[bg]at h
   cases e1:d5 (ds.map (bg μ k))with
   | none=>rw[e1]at h;cases h
   | some es =>
    rw[e1]at h;cases h
    obtain⟨a,xs,rfl,hq,hds⟩:=g7 hd
    simp only[IsW]
    exact⟨a,xs,rfl,hq,sub (AH _) e1 hds⟩
  | lst ds =>
   simp only[bg]at h
   cases e1:d5 (ds.map (bg μ k))with
   | none=>rw[e1]at h;cases h
   | some es =>
    rw[e1]at h;cases h
    obtain⟨a,xs,rfl,hq,hds⟩:∃a xs,v=.ref a∧FzL K H a xs∧aj K ι H ds xs:=by simpa[IsD]using hd
    simp only[IsW]
    exact⟨a,xs,rfl,.inr hq,sub (AH _) e1 hds⟩
  | loc n =>
   obtain⟨a,rfl,hn⟩:∃a,v=.ref a∧ι[n]? = some a:=by simpa[IsD]using hd
   simp only[bg]at h
   cases em:μ[n]? with
   | none=>rw[em]at h;cases h
   | some o =>
    obtain⟨a',q',ho⟩:=S.at em
    rw[hn]at q';cases q'
    rw[em]at h
    cases o with
    | l ds =>
     simp only at h
     obtain⟨xs,f1,f2⟩:=ho
     cases e1:d5 (ds.map (bg μ k))with
     | none=>rw[e1]at h;cases h
     | some es =>
      rw[e1]at h;cases h
      simp only[IsW]
      exact⟨a,xs,rfl,(.inl f1),sub CG e1 f2⟩
    | r ds =>
     simp only at h
     obtain⟨xs,f1,f2⟩:=ho
     cases e1:d5 (ds.map (bg μ k))with
     | none=>rw[e1]at h;cases h
     | some es =>
      rw[e1]at h;cases h
      simp only[IsW]
      exact⟨a,xs,rfl,(.inl f1),sub (AH _) e1 f2⟩
    | _=>cases h
  | _=>simp only[bg]at h;cases h;simpa[IsD,IsW]using hd
mutual
theorem IsW.ofD:∀{d:D} {v:V},IsD K [] H d v→IsW K H d v
 | .non,v,h=>by simpa[IsD,IsW]using h
 | .bl _,v,h=>by simpa[IsD,IsW]using h
 | .int _,v,h=>by simpa[IsD,IsW]using h
 | .str _,v,h=>by simpa[IsD,IsW]using h
 | .tup ds,v,h=>by
  obtain⟨a,xs,rfl,hq,hds⟩:=g7 h
  simp only[IsW]
  exact⟨a,xs,rfl,hq,ip.ofD hds⟩
 | .lst ds,v,h=>by
  obtain⟨a,xs,rfl,hq,hds⟩:∃a xs,v=.ref a∧FzL K H a xs∧aj K [] H ds xs:=by simpa[IsD]using h
  simp only[IsW]
  exact⟨a,xs,rfl,.inr hq,ip.ofD hds⟩
 | .loc n,v,h=>by simp[IsD]at h
theorem ip.ofD:∀{ds:List D} {xs:List V},aj K [] H ds xs→ip K H ds xs
 | [],xs,h=>by simpa[aj,ip]using h
 | d::ds,xs,h=>by
  simp only[aj]at h
  obtain⟨v,r,rfl,q,t⟩:=h
  simp only[ip]
  exact⟨v,r,rfl,IsW.ofD q,ip.ofD t⟩
end
theorem qm {μ:Sto} {k:Nat} (ih:∀d e,bg μ k d=some e→D.pureN k e=true):∀{ds es:List D},d5 (ds.map (bg μ k))=some es→es.all (D.pureN k)=true
 | [],es,h=>by simp only[DC,d5,BN]at h;subst h;rfl
 | d::ds,es,h=>by
  simp only[AR]at h
  cases e1:bg μ k d with
  | none=>rw[e1]at h;simp[d5]at h
  | some e =>
   rw[e1]at h
   simp only[d5]at h
   cases e2:d5 (ds.map (bg μ k))with
   | none=>rw[e2]at h;cases h
   | some r =>
    rw[e2]at h;cases h
    simp only[BB,ih d e e1,qm ih e2,GR]
theorem j3 {μ:Sto}:∀(k:Nat) (d e:D),bg μ k d=some e→D.pureN k e=true
 | 0,d,e,h=>by
  cases d<;>simp_all[bg,flat]<;>(subst h;rfl)
 | k+1,d,e,h=>by
  have ih:=j3 (μ:=μ) k
  have mp:∀{ds:List D} {c:List D→D},(∀es,es.all (D.pureN k)=true→D.pureN (k+1) (c es)=true)→(d5 (ds.map (bg μ k))).map c=some e→D.pureN (k+1) e=true:=fun {ds c} hc h=>by
   cases e1:d5 (ds.map (bg μ k))with
   | none=>rw[e1]at h;cases h
   | some es=>rw[e1]at h;cases h;exact hc es (qm ih e1)
  cases d with
  | tup ds=>simp only[bg]at h;exact mp (c:=.tup) (fun es h=>h) h
  | lst ds=>simp only[bg]at h;exact mp (c:=.lst) (fun es h=>h) h
  | loc n =>
   simp only[bg]at h
   cases em:μ[n]? with
   | none=>rw[em]at h;cases h
   | some o =>
    rw[em]at h
    cases o with
    | l ds=>exact mp (c:=.lst) (fun es h=>h) h
    | r ds=>exact mp (c:=.lst) (fun es h=>h) h
    | _=>cases h
  | _=>simp only[bg]at h;cases h;rfl
end
end Lp
namespace Lp
open PySem PySem.Spec PyProof.Rows L2
open PySem.SeqAt (EqAt RcAt)
section
variable {X : Cx} {φ : Phi} {pins : List (Addr × Obj)} {σ : St} {H : Hp} {s : Shared}
theorem in1_units (A:Around):A.in1.units=A.units+1:=by
 first | rfl | simp[Around.in1]
theorem gm:∀(as bs:List D),as.length=bs.length→Dr as bs=(List.range as.length).all fun j=>deq (as.getD j .non) (bs.getD j .non)
 | [],[],_=>rfl
 | a::as,b::bs,h=>by
  rw[Dr,gm as bs (by simpa using h),BH,FG,BB,EE]
  rfl
 | [],_::_,h=>by simp at h
 | _::_,[],h=>by simp at h
theorem kc:∀(as bs:List D),as.length≠bs.length→Dr as bs=false
 | [],[],h=>absurd rfl h
 | a::as,b::bs,h=>by rw[Dr,kc as bs (by simpa using h),If]
 | [],_::_,_=>rfl
 | _::_,[],_=>rfl
theorem qo:∀(k:Nat) (a b:D) (v:V),D.pureN k a=true→D.pureN k b=true→IsW X.K H a v→IsW X.K H b v→Inv X pins σ H s→deq a b=true:=by
 intro k
 have list:∀k,(∀(a b:D) (v:V),D.pureN k a=true→D.pureN k b=true→IsW X.K H a v→IsW X.K H b v→Inv X pins σ H s→deq a b=true) →
   ∀(as bs:List D) (xs:List V),as.all (D.pureN k)=true→bs.all (D.pureN k)=true→ip X.K H as xs→ip X.K H bs xs→Inv X pins σ H s→Dr as bs=true:=by
  intro k ih as
  induction as with
  | nil =>
   intro bs xs _ _ ha hb _
   have e:xs=[]:=by simpa[ip]using ha
   subst e
   have:=hb.length
   have e2:bs=[]:=by simpa using this.symm
   subst e2
   rfl
  | cons a as iha =>
   intro bs xs pa pb ha hb I
   cases bs with
   | nil =>
    have e:xs=[]:=by simpa[ip]using hb
    subst e
    have:=ha.length
    simp at this
   | cons b bs =>
    simp only[ip]at ha hb
    obtain⟨v,r,e,q,t⟩:=ha
    obtain⟨v',r',e',q',t'⟩:=hb
    rw[e]at e'
    cases e'
    simp only[BB,BA]at pa pb
    rw[Dr,ih a b v pa.1 pb.1 q q' I,iha bs r pa.2 pb.2 t t' I]
    rfl
 have flat:∀(a b:D) (v:V),(∀ds,a≠.tup ds)→(∀ds,a≠.lst ds)→(∀n,a≠.loc n)→(∀n,b≠.loc n)→IsW X.K H a v→IsW X.K H b v→deq a b=true:=by
  intro a b v h1 h2 h3 h4 ha hb
  cases a with
  | tup ds=>exact absurd rfl (h1 ds)
  | lst ds=>exact absurd rfl (h2 ds)
  | loc n=>exact absurd rfl (h3 n)
  | _=>cases b<;>simp_all[IsW,deq]
 induction k with
 | zero =>
  intro a b v pa pb ha hb I
  refine flat a b v ?_ ?_ ?_ ?_ ha hb
  ·intro z e;subst e;simp[D.pureN]at pa
  ·intro z e;subst e;simp[D.pureN]at pa
  ·intro z e;subst e;simp[D.pureN]at pa
  ·intro z e;subst e;simp[D.pureN]at pb
 | succ k ih =>
  intro a b v pa pb ha hb I
  cases a with
  | loc n=>simp[D.pureN]at pa
  | tup as =>
   simp only[IsW]at ha
   obtain⟨p,xs,rfl,hq,hds⟩:=ha
   cases b with
   | tup bs =>
    simp only[IsW]at hb
    obtain⟨p',xs',e,hq',hds'⟩:=hb
    cases e
    have:=I.tuple_inj hq hq'
    subst this
    rw[deq]
    exact list k ih as bs xs (by simpa[D.pureN]using pa) (by simpa[D.pureN]using pb) hds hds' I
   | lst bs =>
    simp only[IsW]at hb
    obtain⟨p',xs',e,hq',hds'⟩:=hb
    cases e
    exfalso
    obtain⟨its,_,⟨o,e1,c1,_⟩,_⟩:=I.tuple hq
    obtain⟨its',_,⟨o',n',e2,c2,_⟩,_⟩:=I.list hq'.sq
    rw[e1]at e2;cases e2
    rw[c1]at c2
    injection c2 with c3
    exact absurd c3 (by decide)
   | loc n=>simp[D.pureN]at pb
   | _=>simp[IsW]at hb
  | lst as =>
   simp only[IsW]at ha
   obtain⟨p,xs,rfl,hq,hds⟩:=ha
   cases b with
   | lst bs =>
    simp only[IsW]at hb
    obtain⟨p',xs',e,hq',hds'⟩:=hb
    cases e
    have:=I.list_inj hq.sq hq'.sq
    subst this
    rw[deq]
    exact list k ih as bs xs (by simpa[D.pureN]using pa) (by simpa[D.pureN]using pb) hds hds' I
   | tup bs =>
    simp only[IsW]at hb
    obtain⟨p',xs',e,hq',hds'⟩:=hb
    cases e
    exfalso
    obtain⟨its,_,⟨o,e1,c1,_⟩,_⟩:=I.tuple hq'
    obtain⟨its',_,⟨o',n',e2,c2,_⟩,_⟩:=I.list hq.sq
    rw[e1]at e2;cases e2
    rw[c1]at c2
    injection c2 with c3
    exact absurd c3 (by decide)
   | loc n=>simp[D.pureN]at pb
   | _=>simp[IsW]at hb
  | _ =>
   refine flat _ b v (by intro _ z;cases z) (by intro _ z;cases z) (by intro _ z;cases z) ?_ ha hb
   intro z e;subst e;simp[D.pureN]at pb
theorem xk (A:Around) (a b:D) (x y:V) (u v:Value) (pa:D.pureN 0 a=true) (pb:D.pureN 0 b=true) (ha:IsW X.K H a x) (hb:IsW X.K H b y) (ru:RelV x u) (rv:RelV y v):EqAt A s u v (deq a b):=by
 have b2:∀(a b:Int),decide (a=b)=(a==b):=fun a b=>(CI a b).symm
 cases a with
 | tup _=>simp[D.pureN]at pa
 | lst _=>simp[D.pureN]at pa
 | loc _=>simp[D.pureN]at pa
 | non =>
  have ex:x=.non:=by simpa[IsW]using ha
  subst ex
  cases(show u=Value.none from ru)
  cases b with
  | tup _=>simp[D.pureN]at pb
  | lst _=>simp[D.pureN]at pb
  | loc _=>simp[D.pureN]at pb
  | non=>cases(show y=.non by simpa[IsW]using hb);cases(show v=Value.none from rv);exact EqAt.same _
  | bl c=>cases(show y=.bl c by simpa[IsW]using hb);cases(show v=Value.bool c from rv);exact EqAt.none_bool _
  | int c=>cases(show y=.int c by simpa[IsW]using hb);obtain⟨t,rfl⟩:=rv;exact EqAt.none_int _ _
  | str c=>cases(show y=.str c by simpa[IsW]using hb);obtain⟨t,rfl⟩:=rv;exact EqAt.none_str _ _
 | bl d =>
  have ex:x=.bl d:=by simpa[IsW]using ha
  subst ex
  cases(show u=Value.bool d from ru)
  cases b with
  | tup _=>simp[D.pureN]at pb
  | lst _=>simp[D.pureN]at pb
  | loc _=>simp[D.pureN]at pb
  | non=>cases(show y=.non by simpa[IsW]using hb);cases(show v=Value.none from rv);exact EqAt.bool_none _
  | bl c=>cases(show y=.bl c by simpa[IsW]using hb);cases(show v=Value.bool c from rv);exact EqAt.bool_bool _ _
  | int c=>cases(show y=.int c by simpa[IsW]using hb);obtain⟨t,rfl⟩:=rv;rw[deq,b2];exact EqAt.bool_int _ _ _
  | str c=>cases(show y=.str c by simpa[IsW]using hb);obtain⟨t,rfl⟩:=rv;exact EqAt.bool_str _ _ _
 | int d =>
  have ex:x=.int d:=by simpa[IsW]using ha
  subst ex
  obtain⟨t',rfl⟩:=ru
  cases b with
  | tup _=>simp[D.pureN]at pb
  | lst _=>simp[D.pureN]at pb
  | loc _=>simp[D.pureN]at pb
  | non=>cases(show y=.non by simpa[IsW]using hb);cases(show v=Value.none from rv);exact EqAt.int_none _ _
  | bl c=>cases(show y=.bl c by simpa[IsW]using hb);cases(show v=Value.bool c from rv);rw[deq,b2];exact EqAt.int_bool _ _ _
  | int c=>cases(show y=.int c by simpa[IsW]using hb);obtain⟨t,rfl⟩:=rv;rw[deq,b2];exact EqAt.int_int _ _ _ _
  | str c=>cases(show y=.str c by simpa[IsW]using hb);obtain⟨t,rfl⟩:=rv;exact EqAt.int_str _ _ _ _
 | str d =>
  have ex:x=.str d:=by simpa[IsW]using ha
  subst ex
  obtain⟨t',rfl⟩:=ru
  cases b with
  | tup _=>simp[D.pureN]at pb
  | lst _=>simp[D.pureN]at pb
  | loc _=>simp[D.pureN]at pb
  | non=>cases(show y=.non by simpa[IsW]using hb);cases(show v=Value.none from rv);exact EqAt.str_none _ _
  | bl c=>cases(show y=.bl c by simpa[IsW]using hb);cases(show v=Value.bool c from rv);exact EqAt.str_bool _ _ _
  | int c=>cases(show y=.int c by simpa[IsW]using hb);obtain⟨t,rfl⟩:=rv;exact EqAt.str_int _ _ _ _
  | str c =>
   cases(show y=.str c by simpa[IsW]using hb);obtain⟨t,rfl⟩:=rv
   have e:deq (.str d) (.str c)=(d==c):=by rw[deq];exact(CI d c).symm
   rw[e];exact EqAt.str_str _ _ _ _
theorem J9 (I:Inv X pins σ H s):∀(k:Nat) (A:Around) (a b:D) (x y:V) (u v:Value),A.units+k<cLine→D.pureN k a=true→D.pureN k b=true→IsW X.K H a x→IsW X.K H b y→RelV x u→RelV y v→EqAt A s u v (deq a b):=by
 intro k
 induction k with
 | zero=>exact fun A a b x y u v _ pa pb ha hb ru rv=>xk A a b x y u v pa pb ha hb ru rv
 | succ k ih =>
  intro A a b x y u v hu pa pb ha hb ru rv
  have hu0:A.units<cLine:=by lia
  have each:∀(as bs:List D) (xs ys:List V) (is js:List Value),as.all (D.pureN k)=true→bs.all (D.pureN k)=true→ip X.K H as xs→ip X.K H bs ys→bq xs is→bq ys js →
    ∀j (h1:j<is.toArray.size) (h2:j<js.toArray.size),EqAt A.in1 s is.toArray[j] js.toArray[j] (deq (as.getD j .non) (bs.getD j .non)):=by
   intro as bs xs ys is js pas pbs has hbs hvx hvy j h1 h2
   have l1:as.length=is.length:=by rw[←has.length,hvx.length]
   have l2:bs.length=js.length:=by rw[←hbs.length,hvy.length]
   have j1:j<as.length:=by rw[l1];simpa using h1
   have j2:j<bs.length:=by rw[l2];simpa using h2
   obtain⟨p,e1,q1⟩:=has.get (AA j1)
   obtain⟨p',e1',q1'⟩:=hbs.get (AA j2)
   obtain⟨w,e2,q2⟩:=hvx.get e1
   obtain⟨w',e2',q2'⟩:=hvy.get e1'
   have g1:is.toArray[j]=w:=by
    have:is[j]? = some is.toArray[j]:=by simp[AA (show j<is.length by lia)]
    rw[this]at e2;exact BL e2
   have g2:js.toArray[j]=w':=by
    have:js[j]? = some js.toArray[j]:=by simp[AA (show j<js.length by lia)]
    rw[this]at e2';exact BL e2'
   rw[g1,g2,AT,AT,AA j1,AA j2]
   exact ih A.in1 _ _ p p' w w' (by rw[in1_units];lia) (AM.mp pas _ (CH j1)) (AM.mp pbs _ (CH j2)) q1 q1' q2 q2'
  have flat0:∀d:D,D.pureN (k+1) d=true→(∀ds,d≠.tup ds)→(∀ds,d≠.lst ds)→D.pureN 0 d=true:=fun d h h1 h2=>by
   cases d with
   | tup ds=>exact absurd rfl (h1 ds)
   | lst ds=>exact absurd rfl (h2 ds)
   | loc n=>simp[D.pureN]at h
   | _=>rfl
  cases a with
  | loc n=>simp[D.pureN]at pa
  | tup as =>
   have pas:as.all (D.pureN k)=true:=by simpa[D.pureN]using pa
   obtain⟨p,xs,rfl,hq,hds⟩:=gx ha
   cases(show u=Value.ref p from ru)
   obtain⟨its,hv,ht,hz⟩:=I.tuple hq
   have ht':s.heap.IsTuple p its.toArray:=ht
   cases b with
   | loc n=>simp[D.pureN]at pb
   | tup bs =>
    have pbs:bs.all (D.pureN k)=true:=by simpa[D.pureN]using pb
    obtain⟨p',xs',rfl,hq',hds'⟩:=gx hb
    cases(show v=Value.ref p' from rv)
    obtain⟨its',hv',ht2,hz'⟩:=I.tuple hq'
    by_cases hp:p=p'
    ·subst hp
     rw[qo (k+1) _ _ _ pa pb ha hb I]
     exact EqAt.same _
    ·refine EqAt.of_refs hp ?_
     have q:=RcAt.tuples (A:=A) ht' (show s.heap.IsTuple p' its'.toArray from ht2) hu0 (each as bs xs xs' its its' pas pbs hds hds' hv hv')
     have l1:as.length=its.length:=by rw[←hds.length,hv.length]
     have l2:bs.length=its'.length:=by rw[←hds'.length,hv'.length]
     have e:((List.range (min its.toArray.size its'.toArray.size)).all (fun j=>deq (as.getD j .non) (bs.getD j .non))&&its.toArray.size==its'.toArray.size)=deq (.tup as) (.tup bs):=by
      rw[deq]
      simp only[AD,←l1,←l2]
      by_cases hl:as.length=bs.length
      ·rw[gm as bs hl,←hl];simp
      ·rw[kc as bs hl];simp[hl]
     rw[e]at q
     exact q
   | lst bs =>
    obtain⟨p',xs',rfl,hq',hds'⟩:∃a xs,y=.ref a∧LsL X.K H a xs∧ip X.K H bs xs:=by simpa[IsW]using hb
    cases(show v=Value.ref p' from rv)
    obtain⟨z,its',n',hv',_,hg⟩:=I.ls hq'
    exact EqAt.tuple_list ht' ⟨_,hg,rfl,n',rfl⟩ hu0
   | non=>cases(show y=.non by simpa[IsW]using hb);cases(show v=Value.none from rv);exact EqAt.tuple_none ht' hu0
   | bl c=>cases(show y=.bl c by simpa[IsW]using hb);cases(show v=Value.bool c from rv);exact EqAt.tuple_bool _ ht' hu0
   | int c=>cases(show y=.int c by simpa[IsW]using hb);obtain⟨t,rfl⟩:=rv;exact EqAt.tuple_int _ _ ht' hu0
   | str c=>cases(show y=.str c by simpa[IsW]using hb);obtain⟨t,rfl⟩:=rv;exact EqAt.tuple_str _ _ ht' hu0
  | lst as =>
   have pas:as.all (D.pureN k)=true:=by simpa[D.pureN]using pa
   obtain⟨p,xs,rfl,hq,hds⟩:∃a xs,x=.ref a∧LsL X.K H a xs∧ip X.K H as xs:=by simpa[IsW]using ha
   cases(show u=Value.ref p from ru)
   obtain⟨z,its,n,hv,_,hg⟩:=I.ls hq
   have hl':s.heap.IsList p its.toArray:=⟨_,hg,rfl,n,rfl⟩
   cases b with
   | loc n=>simp[D.pureN]at pb
   | lst bs =>
    have pbs:bs.all (D.pureN k)=true:=by simpa[D.pureN]using pb
    obtain⟨p',xs',rfl,hq',hds'⟩:∃a xs,y=.ref a∧LsL X.K H a xs∧ip X.K H bs xs:=by simpa[IsW]using hb
    cases(show v=Value.ref p' from rv)
    obtain⟨z',its',n',hv',_,hg'⟩:=I.ls hq'
    have hl2:s.heap.IsList p' its'.toArray:=⟨_,hg',rfl,n',rfl⟩
    by_cases hp:p=p'
    ·subst hp
     rw[qo (k+1) _ _ _ pa pb ha hb I]
     exact EqAt.same _
    ·refine EqAt.of_refs hp ?_
     have l1:as.length=its.length:=by rw[←hds.length,hv.length]
     have l2:bs.length=its'.length:=by rw[←hds'.length,hv'.length]
     by_cases hl:as.length=bs.length
     ·have q:=RcAt.lists (A:=A) hl' hl2 (by simp only[AD];lia) hu0 (each as bs xs xs' its its' pas pbs hds hds' hv hv')
      have e:(List.range its.toArray.size).all (fun j=>deq (as.getD j .non) (bs.getD j .non))=deq (.lst as) (.lst bs):=by
       rw[deq,gm as bs hl]
       simp only[AD,←l1]
      rw[e]at q
      exact q
     ·rw[deq,kc as bs hl]
      exact RcAt.lists_lengths hl' hl2 (by simp only[AD];simp;lia) hu0
   | tup bs =>
    obtain⟨p',xs',rfl,hq',hds'⟩:=gx hb
    cases(show v=Value.ref p' from rv)
    obtain⟨its',hv',ht2,hz'⟩:=I.tuple hq'
    exact EqAt.list_tuple hl' (show s.heap.IsTuple p' its'.toArray from ht2) hu0
   | non=>cases(show y=.non by simpa[IsW]using hb);cases(show v=Value.none from rv);exact EqAt.list_none hl' hu0
   | bl c=>cases(show y=.bl c by simpa[IsW]using hb);cases(show v=Value.bool c from rv);exact EqAt.list_bool _ hl' hu0
   | int c=>cases(show y=.int c by simpa[IsW]using hb);obtain⟨t,rfl⟩:=rv;exact EqAt.list_int _ _ hl' hu0
   | str c=>cases(show y=.str c by simpa[IsW]using hb);obtain⟨t,rfl⟩:=rv;exact EqAt.list_str _ _ hl' hu0
  | _ =>
   cases b with
   | loc n=>simp[D.pureN]at pb
   | tup bs =>
    obtain⟨p',xs',rfl,hq',hds'⟩:=gx hb
    cases(show v=Value.ref p' from rv)
    obtain⟨its',hv',ht2,hz'⟩:=I.tuple hq'
    have ht':s.heap.IsTuple p' its'.toArray:=ht2
    first
    | (cases(show x=.non by simpa[IsW]using ha);cases(show u=Value.none from ru);exact EqAt.none_tuple ht' hu0)
    | (cases(show x=.bl _ by simpa[IsW]using ha);cases(show u=Value.bool _ from ru);exact EqAt.bool_tuple _ ht' hu0)
    | (cases(show x=.int _ by simpa[IsW]using ha);obtain⟨t,rfl⟩:=ru;exact EqAt.int_tuple _ _ ht' hu0)
    | (cases(show x=.str _ by simpa[IsW]using ha);obtain⟨t,rfl⟩:=ru;exact EqAt.str_tuple _ _ ht' hu0)
   | lst bs =>
    obtain⟨p',xs',rfl,hq',hds'⟩:∃a xs,y=.ref a∧LsL X.K H a xs∧ip X.K H bs xs:=by simpa[IsW]using hb
    cases(show v=Value.ref p' from rv)
    obtain⟨z',its',n',hv',_,hg'⟩:=I.ls hq'
    have hl':s.heap.IsList p' its'.toArray:=⟨_,hg',rfl,n',rfl⟩
    first
    | (cases(show x=.non by simpa[IsW]using ha);cases(show u=Value.none from ru);exact EqAt.none_list hl' hu0)
    | (cases(show x=.bl _ by simpa[IsW]using ha);cases(show u=Value.bool _ from ru);exact EqAt.bool_list _ hl' hu0)
    | (cases(show x=.int _ by simpa[IsW]using ha);obtain⟨t,rfl⟩:=ru;exact EqAt.int_list _ _ hl' hu0)
    | (cases(show x=.str _ by simpa[IsW]using ha);obtain⟨t,rfl⟩:=ru;exact EqAt.str_list _ _ hl' hu0)
   | _=>exact xk A _ _ x y u v rfl rfl ha hb ru rv
end
end Lp
namespace Lp
open PySem PySem.Spec PyProof.Rows L2
open PySem.SeqAt (EqAt RcAt)
section
variable {X : Cx} {φ : Phi} {pins : List (Addr × Obj)} {σ : St} {H : Hp} {s : Shared}
theorem xm (A:Around) (a b:D) (x y:V) (u v:Value) (pa:D.pureN 0 a=true) (pb:D.pureN 0 b=true) (ha:IsW X.K H a x) (hb:IsW X.K H b y) (ru:RelV x u) (rv:RelV y v):RcAt A s u v (deq a b):=by
 have b2:∀(a b:Int),decide (a=b)=(a==b):=fun a b=>(CI a b).symm
 cases a with
 | tup _=>simp[D.pureN]at pa
 | lst _=>simp[D.pureN]at pa
 | loc _=>simp[D.pureN]at pa
 | non =>
  have ex:x=.non:=by simpa[IsW]using ha
  subst ex
  cases(show u=Value.none from ru)
  cases b with
  | tup _=>simp[D.pureN]at pb
  | lst _=>simp[D.pureN]at pb
  | loc _=>simp[D.pureN]at pb
  | non=>cases(show y=.non by simpa[IsW]using hb);cases(show v=Value.none from rv);exact RcAt.none_none
  | bl c=>cases(show y=.bl c by simpa[IsW]using hb);cases(show v=Value.bool c from rv);exact RcAt.none_bool _
  | int c=>cases(show y=.int c by simpa[IsW]using hb);obtain⟨t,rfl⟩:=rv;exact RcAt.none_int _ _
  | str c=>cases(show y=.str c by simpa[IsW]using hb);obtain⟨t,rfl⟩:=rv;exact RcAt.none_str _ _
 | bl d =>
  have ex:x=.bl d:=by simpa[IsW]using ha
  subst ex
  cases(show u=Value.bool d from ru)
  cases b with
  | tup _=>simp[D.pureN]at pb
  | lst _=>simp[D.pureN]at pb
  | loc _=>simp[D.pureN]at pb
  | non=>cases(show y=.non by simpa[IsW]using hb);cases(show v=Value.none from rv);exact RcAt.bool_none _
  | bl c=>cases(show y=.bl c by simpa[IsW]using hb);cases(show v=Value.bool c from rv);exact RcAt.bool_bool _ _
  | int c=>cases(show y=.int c by simpa[IsW]using hb);obtain⟨t,rfl⟩:=rv;rw[deq,b2];exact RcAt.bool_int _ _ _
  | str c=>cases(show y=.str c by simpa[IsW]using hb);obtain⟨t,rfl⟩:=rv;exact RcAt.bool_str _ _ _
 | int d =>
  have ex:x=.int d:=by simpa[IsW]using ha
  subst ex
  obtain⟨t',rfl⟩:=ru
  cases b with
  | tup _=>simp[D.pureN]at pb
  | lst _=>simp[D.pureN]at pb
  | loc _=>simp[D.pureN]at pb
  | non=>cases(show y=.non by simpa[IsW]using hb);cases(show v=Value.none from rv);exact RcAt.int_none _ _
  | bl c=>cases(show y=.bl c by simpa[IsW]using hb);cases(show v=Value.bool c from rv);rw[deq,b2];exact RcAt.int_bool _ _ _
  | int c=>cases(show y=.int c by simpa[IsW]using hb);obtain⟨t,rfl⟩:=rv;rw[deq,b2];exact RcAt.int_int _ _ _ _
  | str c=>cases(show y=.str c by simpa[IsW]using hb);obtain⟨t,rfl⟩:=rv;exact RcAt.int_str _ _ _ _
 | str d =>
  have ex:x=.str d:=by simpa[IsW]using ha
  subst ex
  obtain⟨t',rfl⟩:=ru
  cases b with
  | tup _=>simp[D.pureN]at pb
  | lst _=>simp[D.pureN]at pb
  | loc _=>simp[D.pureN]at pb
  | non=>cases(show y=.non by simpa[IsW]using hb);cases(show v=Value.none from rv);exact RcAt.str_none _ _
  | bl c=>cases(show y=.bl c by simpa[IsW]using hb);cases(show v=Value.bool c from rv);exact RcAt.str_bool _ _ _
  | int c=>cases(show y=.int c by simpa[IsW]using hb);obtain⟨t,rfl⟩:=rv;exact RcAt.str_int _ _ _ _
  | str c =>
   cases(show y=.str c by simpa[IsW]using hb);obtain⟨t,rfl⟩:=rv
   have e:deq (.str d) (.str c)=(d==c):=by rw[deq];exact(CI d c).symm
   rw[e];exact RcAt.str_str _ _ _ _
theorem Ka (I:Inv X pins σ H s):∀(k:Nat) (A:Around) (a b:D) (x y:V) (u v:Value),A.units+k<cLine→D.pureN k a=true→D.pureN k b=true→IsW X.K H a x→IsW X.K H b y→RelV x u→RelV y v→RcAt A s u v (deq a b):=by
 intro k
 cases k with
 | zero=>exact fun A a b x y u v _ pa pb ha hb ru rv=>xm A a b x y u v pa pb ha hb ru rv
 | succ k =>
  have ih:=J9 I k
  intro A a b x y u v hu pa pb ha hb ru rv
  have hu0:A.units<cLine:=by lia
  have each:∀(as bs:List D) (xs ys:List V) (is js:List Value),as.all (D.pureN k)=true→bs.all (D.pureN k)=true→ip X.K H as xs→ip X.K H bs ys→bq xs is→bq ys js →
    ∀j (h1:j<is.toArray.size) (h2:j<js.toArray.size),EqAt A.in1 s is.toArray[j] js.toArray[j] (deq (as.getD j .non) (bs.getD j .non)):=by
   intro as bs xs ys is js pas pbs has hbs hvx hvy j h1 h2
   have l1:as.length=is.length:=by rw[←has.length,hvx.length]
   have l2:bs.length=js.length:=by rw[←hbs.length,hvy.length]
   have j1:j<as.length:=by rw[l1];simpa using h1
   have j2:j<bs.length:=by rw[l2];simpa using h2
   obtain⟨p,e1,q1⟩:=has.get (AA j1)
   obtain⟨p',e1',q1'⟩:=hbs.get (AA j2)
   obtain⟨w,e2,q2⟩:=hvx.get e1
   obtain⟨w',e2',q2'⟩:=hvy.get e1'
   have g1:is.toArray[j]=w:=by
    have:is[j]? = some is.toArray[j]:=by simp[AA (show j<is.length by lia)]
    rw[this]at e2;exact BL e2
   have g2:js.toArray[j]=w':=by
    have:js[j]? = some js.toArray[j]:=by simp[AA (show j<js.length by lia)]
    rw[this]at e2';exact BL e2'
   rw[g1,g2,AT,AT,AA j1,AA j2]
   exact ih A.in1 _ _ p p' w w' (by rw[in1_units];lia) (AM.mp pas _ (CH j1)) (AM.mp pbs _ (CH j2)) q1 q1' q2 q2'
  have flat0:∀d:D,D.pureN (k+1) d=true→(∀ds,d≠.tup ds)→(∀ds,d≠.lst ds)→D.pureN 0 d=true:=fun d h h1 h2=>by
   cases d with
   | tup ds=>exact absurd rfl (h1 ds)
   | lst ds=>exact absurd rfl (h2 ds)
   | loc n=>simp[D.pureN]at h
   | _=>rfl
  cases a with
  | loc n=>simp[D.pureN]at pa
  | tup as =>
   have pas:as.all (D.pureN k)=true:=by simpa[D.pureN]using pa
   obtain⟨p,xs,rfl,hq,hds⟩:=gx ha
   cases(show u=Value.ref p from ru)
   obtain⟨its,hv,ht,hz⟩:=I.tuple hq
   have ht':s.heap.IsTuple p its.toArray:=ht
   cases b with
   | loc n=>simp[D.pureN]at pb
   | tup bs =>
    have pbs:bs.all (D.pureN k)=true:=by simpa[D.pureN]using pb
    obtain⟨p',xs',rfl,hq',hds'⟩:=gx hb
    cases(show v=Value.ref p' from rv)
    obtain⟨its',hv',ht2,hz'⟩:=I.tuple hq'
    ·skip
     have q:=RcAt.tuples (A:=A) ht' (show s.heap.IsTuple p' its'.toArray from ht2) hu0 (each as bs xs xs' its its' pas pbs hds hds' hv hv')
     have l1:as.length=its.length:=by rw[←hds.length,hv.length]
     have l2:bs.length=its'.length:=by rw[←hds'.length,hv'.length]
     have e:((List.range (min its.toArray.size its'.toArray.size)).all (fun j=>deq (as.getD j .non) (bs.getD j .non))&&its.toArray.size==its'.toArray.size)=deq (.tup as) (.tup bs):=by
      rw[deq]
      simp only[AD,←l1,←l2]
      by_cases hl:as.length=bs.length
      ·rw[gm as bs hl,←hl];simp
      ·rw[kc as bs hl];simp[hl]
     rw[e]at q
     exact q
   | lst bs =>
    obtain⟨p',xs',rfl,hq',hds'⟩:∃a xs,y=.ref a∧LsL X.K H a xs∧ip X.K H bs xs:=by simpa[IsW]using hb
    cases(show v=Value.ref p' from rv)
    obtain⟨z,its',n',hv',_,hg⟩:=I.ls hq'
    exact RcAt.tuple_list ht' ⟨_,hg,rfl,n',rfl⟩ hu0
   | non=>cases(show y=.non by simpa[IsW]using hb);cases(show v=Value.none from rv);exact RcAt.tuple_none ht' hu0
   | bl c=>cases(show y=.bl c by simpa[IsW]using hb);cases(show v=Value.bool c from rv);exact RcAt.tuple_bool _ ht' hu0
   | int c=>cases(show y=.int c by simpa[IsW]using hb);obtain⟨t,rfl⟩:=rv;exact RcAt.tuple_int _ _ ht' hu0
   | str c=>cases(show y=.str c by simpa[IsW]using hb);obtain⟨t,rfl⟩:=rv;exact RcAt.tuple_str _ _ ht' hu0
  | lst as =>
   have pas:as.all (D.pureN k)=true:=by simpa[D.pureN]using pa
   obtain⟨p,xs,rfl,hq,hds⟩:∃a xs,x=.ref a∧LsL X.K H a xs∧ip X.K H as xs:=by simpa[IsW]using ha
   cases(show u=Value.ref p from ru)
   obtain⟨z,its,n,hv,_,hg⟩:=I.ls hq
   have hl':s.heap.IsList p its.toArray:=⟨_,hg,rfl,n,rfl⟩
   cases b with
   | loc n=>simp[D.pureN]at pb
   | lst bs =>
    have pbs:bs.all (D.pureN k)=true:=by simpa[D.pureN]using pb
    obtain⟨p',xs',rfl,hq',hds'⟩:∃a xs,y=.ref a∧LsL X.K H a xs∧ip X.K H bs xs:=by simpa[IsW]using hb
    cases(show v=Value.ref p' from rv)
    obtain⟨z',its',n',hv',_,hg'⟩:=I.ls hq'
    have hl2:s.heap.IsList p' its'.toArray:=⟨_,hg',rfl,n',rfl⟩
    ·skip
     have l1:as.length=its.length:=by rw[←hds.length,hv.length]
     have l2:bs.length=its'.length:=by rw[←hds'.length,hv'.length]
     by_cases hl:as.length=bs.length
     ·have q:=RcAt.lists (A:=A) hl' hl2 (by simp only[AD];lia) hu0 (each as bs xs xs' its its' pas pbs hds hds' hv hv')
      have e:(List.range its.toArray.size).all (fun j=>deq (as.getD j .non) (bs.getD j .non))=deq (.lst as) (.lst bs):=by
       rw[deq,gm as bs hl]
       simp only[AD,←l1]
      rw[e]at q
      exact q
     ·rw[deq,kc as bs hl]
      exact RcAt.lists_lengths hl' hl2 (by simp only[AD];simp;lia) hu0
   | tup bs =>
    obtain⟨p',xs',rfl,hq',hds'⟩:=gx hb
    cases(show v=Value.ref p' from rv)
    obtain⟨its',hv',ht2,hz'⟩:=I.tuple hq'
    exact RcAt.list_tuple hl' (show s.heap.IsTuple p' its'.toArray from ht2) hu0
   | non=>cases(show y=.non by simpa[IsW]using hb);cases(show v=Value.none from rv);exact RcAt.list_none hl' hu0
   | bl c=>cases(show y=.bl c by simpa[IsW]using hb);cases(show v=Value.bool c from rv);exact RcAt.list_bool _ hl' hu0
   | int c=>cases(show y=.int c by simpa[IsW]using hb);obtain⟨t,rfl⟩:=rv;exact RcAt.list_int _ _ hl' hu0
   | str c=>cases(show y=.str c by simpa[IsW]using hb);obtain⟨t,rfl⟩:=rv;exact RcAt.list_str _ _ hl' hu0
  | _ =>
   cases b with
   | loc n=>simp[D.pureN]at pb
   | tup bs =>
    obtain⟨p',xs',rfl,hq',hds'⟩:=gx hb
    cases(show v=Value.ref p' from rv)
    obtain⟨its',hv',ht2,hz'⟩:=I.tuple hq'
    have ht':s.heap.IsTuple p' its'.toArray:=ht2
    first
    | (cases(show x=.non by simpa[IsW]using ha);cases(show u=Value.none from ru);exact RcAt.none_tuple ht' hu0)
    | (cases(show x=.bl _ by simpa[IsW]using ha);cases(show u=Value.bool _ from ru);exact RcAt.bool_tuple _ ht' hu0)
    | (cases(show x=.int _ by simpa[IsW]using ha);obtain⟨t,rfl⟩:=ru;exact RcAt.int_tuple _ _ ht' hu0)
    | (cases(show x=.str _ by simpa[IsW]using ha);obtain⟨t,rfl⟩:=ru;exact RcAt.str_tuple _ _ ht' hu0)
   | lst bs =>
    obtain⟨p',xs',rfl,hq',hds'⟩:∃a xs,y=.ref a∧LsL X.K H a xs∧ip X.K H bs xs:=by simpa[IsW]using hb
    cases(show v=Value.ref p' from rv)
    obtain⟨z',its',n',hv',_,hg'⟩:=I.ls hq'
    have hl':s.heap.IsList p' its'.toArray:=⟨_,hg',rfl,n',rfl⟩
    first
    | (cases(show x=.non by simpa[IsW]using ha);cases(show u=Value.none from ru);exact RcAt.none_list hl' hu0)
    | (cases(show x=.bl _ by simpa[IsW]using ha);cases(show u=Value.bool _ from ru);exact RcAt.bool_list _ hl' hu0)
    | (cases(show x=.int _ by simpa[IsW]using ha);obtain⟨t,rfl⟩:=ru;exact RcAt.int_list _ _ hl' hu0)
    | (cases(show x=.str _ by simpa[IsW]using ha);obtain⟨t,rfl⟩:=ru;exact RcAt.str_list _ _ hl' hu0)
   | _=>exact xm A _ _ x y u v rfl rfl ha hb ru rv
theorem Qd (hu:X.A.units+8<cLine):OpR X (compareOp .Eq) (rOp X.K (cpD .eq)):=by
 intro pins s σ H x y v u Q I rx ry ⟨ι,a,b,μ,hS,ha,hb,h⟩
 unfold cpD at h
 simp only at h
 split at h
 ·rename_i hp
  exact Ka I 8 X.A a b x y v u hu hp.1 hp.2 (IsW.ofD (IsD.pur hp.1 ha)) (IsW.ofD (IsD.pur hp.2 hb)) rx ry _ _ _ _ ⟨.bl (deq a b),H,I,rfl,h.ok hS (by simp[IsD])⟩
 ·exact h.elim
end
end Lp
namespace Lp
open PySem PySem.Spec PyProof.Rows L2
open PySem.SeqAt (EqAt RcNeAt)
section
variable {X : Cx} {φ : Phi} {pins : List (Addr × Obj)} {σ : St} {H : Hp} {s : Shared}
theorem qp (A:Around) (a b:D) (x y:V) (u v:Value) (pa:D.pureN 0 a=true) (pb:D.pureN 0 b=true) (ha:IsW X.K H a x) (hb:IsW X.K H b y) (ru:RelV x u) (rv:RelV y v):RcNeAt A s u v (!deq a b):=by
 have b2:∀(a b:Int),decide (a=b)=(a==b):=fun a b=>(CI a b).symm
 cases a with
 | tup _=>simp[D.pureN]at pa
 | lst _=>simp[D.pureN]at pa
 | loc _=>simp[D.pureN]at pa
 | non =>
  have ex:x=.non:=by simpa[IsW]using ha
  subst ex
  cases(show u=Value.none from ru)
  cases b with
  | tup _=>simp[D.pureN]at pb
  | lst _=>simp[D.pureN]at pb
  | loc _=>simp[D.pureN]at pb
  | non=>cases(show y=.non by simpa[IsW]using hb);cases(show v=Value.none from rv);exact RcNeAt.none_none
  | bl c=>cases(show y=.bl c by simpa[IsW]using hb);cases(show v=Value.bool c from rv);exact RcNeAt.none_bool _
  | int c=>cases(show y=.int c by simpa[IsW]using hb);obtain⟨t,rfl⟩:=rv;exact RcNeAt.none_int _ _
  | str c=>cases(show y=.str c by simpa[IsW]using hb);obtain⟨t,rfl⟩:=rv;exact RcNeAt.none_str _ _
 | bl d =>
  have ex:x=.bl d:=by simpa[IsW]using ha
  subst ex
  cases(show u=Value.bool d from ru)
  cases b with
  | tup _=>simp[D.pureN]at pb
  | lst _=>simp[D.pureN]at pb
  | loc _=>simp[D.pureN]at pb
  | non=>cases(show y=.non by simpa[IsW]using hb);cases(show v=Value.none from rv);exact RcNeAt.bool_none _
  | bl c=>cases(show y=.bl c by simpa[IsW]using hb);cases(show v=Value.bool c from rv);exact RcNeAt.bool_bool _ _
  | int c=>cases(show y=.int c by simpa[IsW]using hb);obtain⟨t,rfl⟩:=rv;rw[deq,b2];exact RcNeAt.bool_int _ _ _
  | str c=>cases(show y=.str c by simpa[IsW]using hb);obtain⟨t,rfl⟩:=rv;exact RcNeAt.bool_str _ _ _
 | int d =>
  have ex:x=.int d:=by simpa[IsW]using ha
  subst ex
  obtain⟨t',rfl⟩:=ru
  cases b with
  | tup _=>simp[D.pureN]at pb
  | lst _=>simp[D.pureN]at pb
  | loc _=>simp[D.pureN]at pb
  | non=>cases(show y=.non by simpa[IsW]using hb);cases(show v=Value.none from rv);exact RcNeAt.int_none _ _
  | bl c=>cases(show y=.bl c by simpa[IsW]using hb);cases(show v=Value.bool c from rv);rw[deq,b2];exact RcNeAt.int_bool _ _ _
  | int c=>cases(show y=.int c by simpa[IsW]using hb);obtain⟨t,rfl⟩:=rv;rw[deq,b2];exact RcNeAt.int_int _ _ _ _
  | str c=>cases(show y=.str c by simpa[IsW]using hb);obtain⟨t,rfl⟩:=rv;exact RcNeAt.int_str _ _ _ _
 | str d =>
  have ex:x=.str d:=by simpa[IsW]using ha
  subst ex
  obtain⟨t',rfl⟩:=ru
  cases b with
  | tup _=>simp[D.pureN]at pb
  | lst _=>simp[D.pureN]at pb
  | loc _=>simp[D.pureN]at pb
  | non=>cases(show y=.non by simpa[IsW]using hb);cases(show v=Value.none from rv);exact RcNeAt.str_none _ _
  | bl c=>cases(show y=.bl c by simpa[IsW]using hb);cases(show v=Value.bool c from rv);exact RcNeAt.str_bool _ _ _
  | int c=>cases(show y=.int c by simpa[IsW]using hb);obtain⟨t,rfl⟩:=rv;exact RcNeAt.str_int _ _ _ _
  | str c =>
   cases(show y=.str c by simpa[IsW]using hb);obtain⟨t,rfl⟩:=rv
   have e:deq (.str d) (.str c)=(d==c):=by rw[deq];exact(CI d c).symm
   rw[e];exact RcNeAt.str_str _ _ _ _
theorem A0 (I:Inv X pins σ H s):∀(k:Nat) (A:Around) (a b:D) (x y:V) (u v:Value),A.units+k<cLine→D.pureN k a=true→D.pureN k b=true→IsW X.K H a x→IsW X.K H b y→RelV x u→RelV y v→RcNeAt A s u v (!deq a b):=by
 intro k
 cases k with
 | zero=>exact fun A a b x y u v _ pa pb ha hb ru rv=>qp A a b x y u v pa pb ha hb ru rv
 | succ k =>
  have ih:=J9 I k
  intro A a b x y u v hu pa pb ha hb ru rv
  have hu0:A.units<cLine:=by lia
  have each:∀(as bs:List D) (xs ys:List V) (is js:List Value),as.all (D.pureN k)=true→bs.all (D.pureN k)=true→ip X.K H as xs→ip X.K H bs ys→bq xs is→bq ys js →
    ∀j (h1:j<is.toArray.size) (h2:j<js.toArray.size),EqAt A.in1 s is.toArray[j] js.toArray[j] (deq (as.getD j .non) (bs.getD j .non)):=by
   intro as bs xs ys is js pas pbs has hbs hvx hvy j h1 h2
   have l1:as.length=is.length:=by rw[←has.length,hvx.length]
   have l2:bs.length=js.length:=by rw[←hbs.length,hvy.length]
   have j1:j<as.length:=by rw[l1];simpa using h1
   have j2:j<bs.length:=by rw[l2];simpa using h2
   obtain⟨p,e1,q1⟩:=has.get (AA j1)
   obtain⟨p',e1',q1'⟩:=hbs.get (AA j2)
   obtain⟨w,e2,q2⟩:=hvx.get e1
   obtain⟨w',e2',q2'⟩:=hvy.get e1'
   have g1:is.toArray[j]=w:=by
    have:is[j]? = some is.toArray[j]:=by simp[AA (show j<is.length by lia)]
    rw[this]at e2;exact BL e2
   have g2:js.toArray[j]=w':=by
    have:js[j]? = some js.toArray[j]:=by simp[AA (show j<js.length by lia)]
    rw[this]at e2';exact BL e2'
   rw[g1,g2,AT,AT,AA j1,AA j2]
   exact ih A.in1 _ _ p p' w w' (by rw[in1_units];lia) (AM.mp pas _ (CH j1)) (AM.mp pbs _ (CH j2)) q1 q1' q2 q2'
  have flat0:∀d:D,D.pureN (k+1) d=true→(∀ds,d≠.tup ds)→(∀ds,d≠.lst ds)→D.pureN 0 d=true:=fun d h h1 h2=>by
   cases d with
   | tup ds=>exact absurd rfl (h1 ds)
   | lst ds=>exact absurd rfl (h2 ds)
   | loc n=>simp[D.pureN]at h
   | _=>rfl
  cases a with
  | loc n=>simp[D.pureN]at pa
  | tup as =>
   have pas:as.all (D.pureN k)=true:=by simpa[D.pureN]using pa
   obtain⟨p,xs,rfl,hq,hds⟩:=gx ha
   cases(show u=Value.ref p from ru)
   obtain⟨its,hv,ht,hz⟩:=I.tuple hq
   have ht':s.heap.IsTuple p its.toArray:=ht
   cases b with
   | loc n=>simp[D.pureN]at pb
   | tup bs =>
    have pbs:bs.all (D.pureN k)=true:=by simpa[D.pureN]using pb
    obtain⟨p',xs',rfl,hq',hds'⟩:=gx hb
    cases(show v=Value.ref p' from rv)
    obtain⟨its',hv',ht2,hz'⟩:=I.tuple hq'
    ·skip
     have q:=RcNeAt.tuples (A:=A) ht' (show s.heap.IsTuple p' its'.toArray from ht2) hu0 (each as bs xs xs' its its' pas pbs hds hds' hv hv')
     have l1:as.length=its.length:=by rw[←hds.length,hv.length]
     have l2:bs.length=its'.length:=by rw[←hds'.length,hv'.length]
     have e:((List.range (min its.toArray.size its'.toArray.size)).all (fun j=>deq (as.getD j .non) (bs.getD j .non))&&its.toArray.size==its'.toArray.size)=deq (.tup as) (.tup bs):=by
      rw[deq]
      simp only[AD,←l1,←l2]
      by_cases hl:as.length=bs.length
      ·rw[gm as bs hl,←hl];simp
      ·rw[kc as bs hl];simp[hl]
     rw[e]at q
     exact q
   | lst bs =>
    obtain⟨p',xs',rfl,hq',hds'⟩:∃a xs,y=.ref a∧LsL X.K H a xs∧ip X.K H bs xs:=by simpa[IsW]using hb
    cases(show v=Value.ref p' from rv)
    obtain⟨z,its',n',hv',_,hg⟩:=I.ls hq'
    exact RcNeAt.tuple_list ht' ⟨_,hg,rfl,n',rfl⟩ hu0
   | non=>cases(show y=.non by simpa[IsW]using hb);cases(show v=Value.none from rv);exact RcNeAt.tuple_none ht' hu0
   | bl c=>cases(show y=.bl c by simpa[IsW]using hb);cases(show v=Value.bool c from rv);exact RcNeAt.tuple_bool _ ht' hu0
   | int c=>cases(show y=.int c by simpa[IsW]using hb);obtain⟨t,rfl⟩:=rv;exact RcNeAt.tuple_int _ _ ht' hu0
   | str c=>cases(show y=.str c by simpa[IsW]using hb);obtain⟨t,rfl⟩:=rv;exact RcNeAt.tuple_str _ _ ht' hu0
  | lst as =>
   have pas:as.all (D.pureN k)=true:=by simpa[D.pureN]using pa
   obtain⟨p,xs,rfl,hq,hds⟩:∃a xs,x=.ref a∧LsL X.K H a xs∧ip X.K H as xs:=by simpa[IsW]using ha
   cases(show u=Value.ref p from ru)
   obtain⟨z,its,n,hv,_,hg⟩:=I.ls hq
   have hl':s.heap.IsList p its.toArray:=⟨_,hg,rfl,n,rfl⟩
   cases b with
   | loc n=>simp[D.pureN]at pb
   | lst bs =>
    have pbs:bs.all (D.pureN k)=true:=by simpa[D.pureN]using pb
    obtain⟨p',xs',rfl,hq',hds'⟩:∃a xs,y=.ref a∧LsL X.K H a xs∧ip X.K H bs xs:=by simpa[IsW]using hb
    cases(show v=Value.ref p' from rv)
    obtain⟨z',its',n',hv',_,hg'⟩:=I.ls hq'
    have hl2:s.heap.IsList p' its'.toArray:=⟨_,hg',rfl,n',rfl⟩
    ·skip
     have l1:as.length=its.length:=by rw[←hds.length,hv.length]
     have l2:bs.length=its'.length:=by rw[←hds'.length,hv'.length]
     by_cases hl:as.length=bs.length
     ·have q:=RcNeAt.lists (A:=A) hl' hl2 (by simp only[AD];lia) hu0 (each as bs xs xs' its its' pas pbs hds hds' hv hv')
      have e:(List.range its.toArray.size).all (fun j=>deq (as.getD j .non) (bs.getD j .non))=deq (.lst as) (.lst bs):=by
       rw[deq,gm as bs hl]
       simp only[AD,←l1]
      rw[e]at q
      exact q
     ·rw[deq,kc as bs hl]
      exact RcNeAt.lists_lengths hl' hl2 (by simp only[AD];simp;lia) hu0
   | tup bs =>
    obtain⟨p',xs',rfl,hq',hds'⟩:=gx hb
    cases(show v=Value.ref p' from rv)
    obtain⟨its',hv',ht2,hz'⟩:=I.tuple hq'
    exact RcNeAt.list_tuple hl' (show s.heap.IsTuple p' its'.toArray from ht2) hu0
   | non=>cases(show y=.non by simpa[IsW]using hb);cases(show v=Value.none from rv);exact RcNeAt.list_none hl' hu0
   | bl c=>cases(show y=.bl c by simpa[IsW]using hb);cases(show v=Value.bool c from rv);exact RcNeAt.list_bool _ hl' hu0
   | int c=>cases(show y=.int c by simpa[IsW]using hb);obtain⟨t,rfl⟩:=rv;exact RcNeAt.list_int _ _ hl' hu0
   | str c=>cases(show y=.str c by simpa[IsW]using hb);obtain⟨t,rfl⟩:=rv;exact RcNeAt.list_str _ _ hl' hu0
  | _ =>
   cases b with
   | loc n=>simp[D.pureN]at pb
   | tup bs =>
    obtain⟨p',xs',rfl,hq',hds'⟩:=gx hb
    cases(show v=Value.ref p' from rv)
    obtain⟨its',hv',ht2,hz'⟩:=I.tuple hq'
    have ht':s.heap.IsTuple p' its'.toArray:=ht2
    first
    | (cases(show x=.non by simpa[IsW]using ha);cases(show u=Value.none from ru);exact RcNeAt.none_tuple ht' hu0)
    | (cases(show x=.bl _ by simpa[IsW]using ha);cases(show u=Value.bool _ from ru);exact RcNeAt.bool_tuple _ ht' hu0)
    | (cases(show x=.int _ by simpa[IsW]using ha);obtain⟨t,rfl⟩:=ru;exact RcNeAt.int_tuple _ _ ht' hu0)
    | (cases(show x=.str _ by simpa[IsW]using ha);obtain⟨t,rfl⟩:=ru;exact RcNeAt.str_tuple _ _ ht' hu0)
   | lst bs =>
    obtain⟨p',xs',rfl,hq',hds'⟩:∃a xs,y=.ref a∧LsL X.K H a xs∧ip X.K H bs xs:=by simpa[IsW]using hb
    cases(show v=Value.ref p' from rv)
    obtain⟨z',its',n',hv',_,hg'⟩:=I.ls hq'
    have hl':s.heap.IsList p' its'.toArray:=⟨_,hg',rfl,n',rfl⟩
    first
    | (cases(show x=.non by simpa[IsW]using ha);cases(show u=Value.none from ru);exact RcNeAt.none_list hl' hu0)
    | (cases(show x=.bl _ by simpa[IsW]using ha);cases(show u=Value.bool _ from ru);exact RcNeAt.bool_list _ hl' hu0)
    | (cases(show x=.int _ by simpa[IsW]using ha);obtain⟨t,rfl⟩:=ru;exact RcNeAt.int_list _ _ hl' hu0)
    | (cases(show x=.str _ by simpa[IsW]using ha);obtain⟨t,rfl⟩:=ru;exact RcNeAt.str_list _ _ hl' hu0)
   | _=>exact qp A _ _ x y u v rfl rfl ha hb ru rv
theorem Qe (hu:X.A.units+8<cLine):OpR X (compareOp .NotEq) (rOp X.K (cpD .ne)):=by
 intro pins s σ H x y v u Q I rx ry ⟨ι,a,b,μ,hS,ha,hb,h⟩
 unfold cpD at h
 simp only at h
 split at h
 ·rename_i hp
  exact A0 I 8 X.A a b x y v u hu hp.1 hp.2 (IsW.ofD (IsD.pur hp.1 ha)) (IsW.ofD (IsD.pur hp.2 hb)) rx ry _ _ _ _ ⟨.bl (!deq a b),H,I,rfl,h.ok hS (by simp[IsD])⟩
 ·exact h.elim
end
end Lp
namespace LT
open PySem PySem.Spec PyProof.Rows HT
open PySem.SeqAt
open PySem.AutoSeq1 (wpAny_loadPart')
open PySem.MeetsSeq PySem.MeetsSeq2 PySem.MeetsSeq3
theorem Ww (A:Around) (s:Shared) (a:Int) (t:Tok) (c:Int) (u:Tok) (prog:Program) (w:World) (E:Value→Shared→Prop) (Q:Value→Shared→Prop) (h:Q (.bool (decide (a≤c))) s) :
  wpAny (model prog w) A (richCompare .LtE (.int a t) (.int c u)) Q E s :=
 (PyProof.Rows.le_int h:wpAny (model prog w) A (compareOp .LtE (.int a t) (.int c u)) Q E s)
theorem Hz (l b:Addr) (items items2:Array Value) (n n2:Nat) (dd dd2:Option Addr) (sl sl2:Array (Option Value)) (ns ms:List Int) (ii:IntsAre items.toList ns) (jj:IntsAre items2.toList ms) :
  Meets (Builtin.«tuple.__le__» ⟨[.ref l,.ref b],[]⟩) (fun _ R s=>s.heap.get? l=some {cls:=.type "tuple",dict:=dd,data:=.seq items n,slots:=sl}∧s.heap.get? b=some {cls:=.type "tuple",dict:=dd2,data:=.seq items2 n2,slots:=sl2}∧R (.ok (.ret (.bool (!lexLt ms ns)))) s) :=
 .of_wp fun prog w A R s h=>by
  obtain⟨hh0,g,d,tk0,os0⟩:=s;obtain⟨ql,hb,h⟩:=h
  have sub0:=EO
  have n1:ns.length=items.size:=by rw[←ii.length,BW]
  have n2e:ms.length=items2.size:=by rw[←jj.length,BW]
  wp_walk using CD ql,CD hb,GY _ (fun rest b s'=>b.1=none∧s'=⟨hh0,g,d,tk0,os0⟩∧∃(us1 us2:List Value) (ms1 ms2:List Int),rest=us1.zip us2 ∧
   IntsAre us1 ms1∧IntsAre us2 ms2∧ms1.length+items2.size=ms2.length+items.size∧R (.ok (.ret (.bool (!lexLt ms2 ms1)))) ⟨hh0,g,d,tk0,os0⟩) _
  case turn =>
   rintro⟨y,x⟩ rest b s' ⟨p0,rfl,us1,us2,ms1,ms2,pz,pv,pw,pl,fin0⟩
   cases pv with
   | nil=>rw[GI]at pz;cases pz
   | cons a t pv1 =>
    cases pw with
    | nil=>rw[EW]at pz;cases pz
    | cons c u pw1 =>
     rw[CU]at pz
     injection pz with pyx pr
     injection pyx with py px
     subst py px
     rw[ik]at fin0
     simp only[BH]at pl
     obtain⟨same,eq0,eqi⟩:=ug A.in1 ⟨hh0,g,d,tk0,os0⟩ a t c u
     refine AB (eq0 prog w _ _ ?_)
     cases same with
     | true =>
      rw[if_pos (eqi.mp rfl).symm]at fin0
      wp_walk
      exact⟨rfl,rfl,_,_,_,_,pr,pv1,pw1,by lia,fin0⟩
     | false =>
      have hne:¬c=a:=fun q=>absurd (eqi.mpr q.symm) AY
      rw[if_neg hne]at fin0
      have ed:(!decide (c<a))=decide (a≤c):=by
       by_cases hc:c<a
       ·rw[decide_eq_true hc,decide_eq_false (by lia)];rfl
       ·rw[decide_eq_false hc,decide_eq_true (by lia)];rfl
      rw[ed]at fin0
      have low:=Ww A.in1 ⟨hh0,g,d,tk0,os0⟩ a t c u prog w
      wp_walk using low
      exact⟨_,rfl,by simpa using fin0⟩
  case fin =>
   rintro⟨c1,c2⟩ s' ⟨p0,rfl,us1,us2,ms1,ms2,pz,pv,pw,pl,fin0⟩
   simp only at p0
   subst p0
   have hv:(!lexLt ms2 ms1)=decide (items.size≤items2.size):=by
    cases pv with
    | nil =>
     cases pw with
     | nil =>
      simp only[CF]at pl
      rw[j9,decide_eq_true (by lia)];rfl
     | cons c u hw =>
      simp only[CF,BH]at pl
      rw[jm,decide_eq_true (by lia)];rfl
    | cons a t hv =>
     cases pw with
     | nil =>
      simp only[CF,BH]at pl
      rw[jl,decide_eq_false (by lia)];rfl
     | cons c u hw =>
      rw[CU]at pz
      cases pz
   rw[hv]at fin0
   wp_walk
   exact⟨_,rfl,by simpa[Builtin.Tuple.tupleCompareSizes]using fin0⟩
  case h =>
   exact⟨rfl,rfl,items.toList,items2.toList,ns,ms,rfl,ii,jj,by lia,h⟩
theorem Qf {prog:Program} {w:World} {A:Around} {E:Value→Shared→Prop} {s:Shared} {l b:Addr} {items items2:Array Value} {ns ms:List Int} {Q:Value→Shared→Prop} (hl:IsTup s.heap l items) (hb:IsTup s.heap b items2) (hi:IntsAre items.toList ns) (hj:IntsAre items2.toList ms)
  (hu:A.units<cLine) (h:Q (.bool (!lexLt ms ns)) s):wpAny (model prog w) A (compareOp .LtE (.ref l) (.ref b)) Q E s:=by
 obtain⟨⟨_,dd,_,sl⟩,ho,rfl,n,rfl⟩:=id hl
 obtain⟨⟨_,dd2,_,sl2⟩,ho2,rfl,n2,rfl⟩:=id hb
 exact FB (op:=.LtE) ⟨_,ho,rfl⟩ ⟨_,ho2,rfl⟩ PySem.F.slot_tuple_le PySem.F.entry_tuple_le (PySem.F.args_tuple_le_2 _ _) (Hz l b items items2 n n2 dd dd2 sl sl2 ns ms hi hj)
  ⟨ho,ho2,show Value.bool (!lexLt ms ns)≠Value.notImplemented∧Q (.bool (!lexLt ms ns)) s from⟨(fun x=>nomatch x),h⟩⟩ hu
theorem Wx (A:Around) (s:Shared) (a:Int) (t:Tok) (c:Int) (u:Tok) (prog:Program) (w:World) (E:Value→Shared→Prop) (Q:Value→Shared→Prop) (h:Q (.bool (decide (c≤a))) s) :
  wpAny (model prog w) A (richCompare .GtE (.int a t) (.int c u)) Q E s :=
 (PyProof.Rows.ge_int h:wpAny (model prog w) A (compareOp .GtE (.int a t) (.int c u)) Q E s)
theorem Ia (l b:Addr) (items items2:Array Value) (n n2:Nat) (dd dd2:Option Addr) (sl sl2:Array (Option Value)) (ns ms:List Int) (ii:IntsAre items.toList ns) (jj:IntsAre items2.toList ms) :
  Meets (Builtin.«tuple.__ge__» ⟨[.ref l,.ref b],[]⟩) (fun _ R s=>s.heap.get? l=some {cls:=.type "tuple",dict:=dd,data:=.seq items n,slots:=sl}∧s.heap.get? b=some {cls:=.type "tuple",dict:=dd2,data:=.seq items2 n2,slots:=sl2}∧R (.ok (.ret (.bool (!lexLt ns ms)))) s) :=
 .of_wp fun prog w A R s h=>by
  obtain⟨hh0,g,d,tk0,os0⟩:=s;obtain⟨ql,hb,h⟩:=h
  have sub0:=EO
  have n1:ns.length=items.size:=by rw[←ii.length,BW]
  have n2e:ms.length=items2.size:=by rw[←jj.length,BW]
  wp_walk using CD ql,CD hb,GY _ (fun rest b s'=>b.1=none∧s'=⟨hh0,g,d,tk0,os0⟩∧∃(us1 us2:List Value) (ms1 ms2:List Int),rest=us1.zip us2 ∧
   IntsAre us1 ms1∧IntsAre us2 ms2∧ms1.length+items2.size=ms2.length+items.size∧R (.ok (.ret (.bool (!lexLt ms1 ms2)))) ⟨hh0,g,d,tk0,os0⟩) _
  case turn =>
   rintro⟨y,x⟩ rest b s' ⟨p0,rfl,us1,us2,ms1,ms2,pz,pv,pw,pl,fin0⟩
   cases pv with
   | nil=>rw[GI]at pz;cases pz
   | cons a t pv1 =>
    cases pw with
    | nil=>rw[EW]at pz;cases pz
    | cons c u pw1 =>
     rw[CU]at pz
     injection pz with pyx pr
     injection pyx with py px
     subst py px
     rw[ik]at fin0
     simp only[BH]at pl
     obtain⟨same,eq0,eqi⟩:=ug A.in1 ⟨hh0,g,d,tk0,os0⟩ a t c u
     refine AB (eq0 prog w _ _ ?_)
     cases same with
     | true =>
      rw[if_pos (eqi.mp rfl)]at fin0
      wp_walk
      exact⟨rfl,rfl,_,_,_,_,pr,pv1,pw1,by lia,fin0⟩
     | false =>
      have hne:¬a=c:=fun q=>absurd (eqi.mpr q) AY
      rw[if_neg hne]at fin0
      have ed:(!decide (a<c))=decide (c≤a):=by
       by_cases hc:a<c
       ·rw[decide_eq_true hc,decide_eq_false (by lia)];rfl
       ·rw[decide_eq_false hc,decide_eq_true (by lia)];rfl
      rw[ed]at fin0
      have low:=Wx A.in1 ⟨hh0,g,d,tk0,os0⟩ a t c u prog w
      wp_walk using low
      exact⟨_,rfl,by simpa using fin0⟩
  case fin =>
   rintro⟨c1,c2⟩ s' ⟨p0,rfl,us1,us2,ms1,ms2,pz,pv,pw,pl,fin0⟩
   simp only at p0
   subst p0
   have hv:(!lexLt ms1 ms2)=decide (items2.size≤items.size):=by
    cases pv with
    | nil =>
     cases pw with
     | nil =>
      simp only[CF]at pl
      rw[j9,decide_eq_true (by lia)];rfl
     | cons c u hw =>
      simp only[CF,BH]at pl
      rw[jl,decide_eq_false (by lia)];rfl
    | cons a t hv =>
     cases pw with
     | nil =>
      simp only[CF,BH]at pl
      rw[jm,decide_eq_true (by lia)];rfl
     | cons c u hw =>
      rw[CU]at pz
      cases pz
   rw[hv]at fin0
   wp_walk
   exact⟨_,rfl,by simpa[Builtin.Tuple.tupleCompareSizes]using fin0⟩
  case h =>
   exact⟨rfl,rfl,items.toList,items2.toList,ns,ms,rfl,ii,jj,by lia,h⟩
theorem Qg {prog:Program} {w:World} {A:Around} {E:Value→Shared→Prop} {s:Shared} {l b:Addr} {items items2:Array Value} {ns ms:List Int} {Q:Value→Shared→Prop} (hl:IsTup s.heap l items) (hb:IsTup s.heap b items2) (hi:IntsAre items.toList ns) (hj:IntsAre items2.toList ms)
  (hu:A.units<cLine) (h:Q (.bool (!lexLt ns ms)) s):wpAny (model prog w) A (compareOp .GtE (.ref l) (.ref b)) Q E s:=by
 obtain⟨⟨_,dd,_,sl⟩,ho,rfl,n,rfl⟩:=id hl
 obtain⟨⟨_,dd2,_,sl2⟩,ho2,rfl,n2,rfl⟩:=id hb
 exact FB (op:=.GtE) ⟨_,ho,rfl⟩ ⟨_,ho2,rfl⟩ PySem.F.slot_tuple_ge PySem.F.entry_tuple_ge (PySem.F.args_tuple_ge_2 _ _) (Ia l b items items2 n n2 dd dd2 sl sl2 ns ms hi hj)
  ⟨ho,ho2,show Value.bool (!lexLt ns ms)≠Value.notImplemented∧Q (.bool (!lexLt ns ms)) s from⟨(fun x=>nomatch x),h⟩⟩ hu
end LT
namespace L2
open PySem PySem.Spec PyProof.Rows
variable {X : Cx}
theorem Qh (hu:X.A.units<cLine) {pins s σ H x y v u Q} (I:Inv X pins σ H s) (rx:RelV x v) (ry:RelV y u) (h:∃a b ns ms,x=.ref a∧y=.ref b∧SqT X.K H a (ns.map V.int)∧SqT X.K H b (ms.map V.int)∧Q (.bl (!HT.lexLt ms ns)) H) :
  wpAny (model X.prog X.w) X.A (compareOp .LtE v u) (EP X pins σ Q) X.xe s:=by
 obtain⟨c,d,ns,ms,rfl,rfl,hc,hd,q⟩:=h
 cases rx
 cases ry
 obtain⟨us,r1,p1,_⟩:=I.tuple hc
 obtain⟨us2,r2,p2,_⟩:=I.tuple hd
 exact LT.Qf p1 p2 (intsAre_of r1) (intsAre_of r2) hu ⟨.bl (!HT.lexLt ms ns),H,I,rfl,q⟩
theorem Qi (hu:X.A.units<cLine) {pins s σ H x y v u Q} (I:Inv X pins σ H s) (rx:RelV x v) (ry:RelV y u) (h:∃a b ns ms,x=.ref a∧y=.ref b∧SqT X.K H a (ns.map V.int)∧SqT X.K H b (ms.map V.int)∧Q (.bl (!HT.lexLt ns ms)) H) :
  wpAny (model X.prog X.w) X.A (compareOp .GtE v u) (EP X pins σ Q) X.xe s:=by
 obtain⟨c,d,ns,ms,rfl,rfl,hc,hd,q⟩:=h
 cases rx
 cases ry
 obtain⟨us,r1,p1,_⟩:=I.tuple hc
 obtain⟨us2,r2,p2,_⟩:=I.tuple hd
 exact LT.Qg p1 p2 (intsAre_of r1) (intsAre_of r2) hu ⟨.bl (!HT.lexLt ns ms),H,I,rfl,q⟩
end L2
namespace Lp
open PySem PySem.Spec PyProof.Rows L2
open PySem.SeqAt (EqAt RcAt)
noncomputable def opOf:Cp→CmpOp
 | .eq=>.Eq
 | .ne=>.NotEq
 | .eqM=>.Eq
 | .neM=>.NotEq
 | .lt=>.Lt
 | .le=>.LtE
 | .gt=>.Gt
 | .ge=>.GtE
 | .is=>.Is
 | .isnot=>.IsNot
 | .in_=>.In
 | .notin=>.NotIn
section
variable {X : Cx} {φ : Phi} {pins : List (Addr × Obj)} {σ : St} {H : Hp} {s : Shared}
theorem ints_of {K:PySem.W.Frag} {ι:List Addr}:∀{ds:List D} {xs:List V} {ns:List Int},aj K ι H ds xs→eh ds=some ns→xs=ns.map V.int
 | [],xs,ns,h,e=>by
  simp only[eh,BN]at e
  subst e
  simpa[aj]using h
 | d::ds,xs,ns,h,e=>by
  simp only[aj]at h
  obtain⟨v,r,rfl,q,t⟩:=h
  cases d with
  | int i =>
   simp only[eh,HL]at e
   obtain⟨ms,e1,rfl⟩:=e
   cases dg q
   rw[ints_of t e1]
   rfl
  | _=>simp[eh]at e
theorem A1 {K:PySem.W.Frag} {ι:List Addr}:∀{ds:List D} {xs:List V} {ns:List Bool},aj K ι H ds xs→l7 ds=some ns→xs=ns.map V.bl
 | [],xs,ns,h,e=>by
  simp only[l7,BN]at e
  subst e
  simpa[aj]using h
 | d::ds,xs,ns,h,e=>by
  simp only[aj]at h
  obtain⟨v,r,rfl,q,t⟩:=h
  cases d with
  | bl i =>
   simp only[l7,HL]at e
   obtain⟨ms,e1,rfl⟩:=e
   cases xg q
   rw[A1 t e1]
   rfl
  | _=>simp[l7]at e
theorem zr {K:PySem.W.Frag} {ι:List Addr} {d:D} {v:V} (h:IsD K ι H d v) (hf:flat d=true):sg v=true:=by
 cases d with
 | tup _=>simp[flat]at hf
 | lst _=>simp[flat]at hf
 | loc _=>simp[flat]at hf
 | _=>have e:=h;simp only[IsD]at e;subst e;rfl
theorem ur {K:PySem.W.Frag} {ι:List Addr}:∀{ds:List D} {xs:List V},aj K ι H ds xs→ds.all flat=true→xs.all sg=true
 | [],xs,h,_=>by
  have e:xs=[]:=by simpa[aj]using h
  subst e
  rfl
 | d::ds,xs,h,hf=>by
  simp only[aj]at h
  obtain⟨v,r,rfl,q,t⟩:=h
  simp only[BB,BA]at hf ⊢
  exact⟨zr q hf.1,ur t hf.2⟩
theorem Qj {K:PySem.W.Frag} {ι:List Addr} {d e:D} {v w:V} (hd:IsD K ι H d v) (he:IsD K ι H e w) (fd:flat d=true) (fe:flat e=true):eqV v w=deq d e:=by
 have b2:∀(a b:Int),decide (a=b)=(a==b):=fun a b=>(CI a b).symm
 have b3:∀(a b:Str),decide (a=b)=(a==b):=fun a b=>(CI a b).symm
 cases d with
 | tup _=>simp[flat]at fd
 | lst _=>simp[flat]at fd
 | loc _=>simp[flat]at fd
 | _ =>
  cases e with
  | tup _=>simp[flat]at fe
  | lst _=>simp[flat]at fe
  | loc _=>simp[flat]at fe
  | _ =>
   simp only[IsD]at hd he
   subst hd he
   simp only[eqV,deq,b2,b3]
theorem Eu {K:PySem.W.Frag} {ι:List Addr} {e:D} {w:V} (he:IsD K ι H e w) (fe:flat e=true):∀{ds:List D} {xs:List V},aj K ι H ds xs→ds.all flat=true→inV w xs=ds.any fun y=>deq y e
 | [],xs,h,_=>by
  have e:xs=[]:=by simpa[aj]using h
  subst e
  rfl
 | d::ds,xs,h,hf=>by
  simp only[aj]at h
  obtain⟨v,r,rfl,q,t⟩:=h
  simp only[BB,BA]at hf
  have ih:=Eu he fe t hf.2
  unfold inV at ih ⊢
  rw[CK,CK,Qj q he hf.1 fe,ih]
theorem is_bool {u:Bool} {v:Bool} {Q:VK} (I:Inv X pins σ H s) (q:Q (.bl (u==v)) H):wpAny (model X.prog X.w) X.A (compareOp .Is (.bool u) (.bool v)) (EP X pins σ Q) X.xe s:=by
 cases u<;>cases v<;>exact AL ⟨.bl _,H,I,rfl,q⟩
theorem isnot_bool {u:Bool} {v:Bool} {Q:VK} (I:Inv X pins σ H s) (q:Q (.bl (!(u==v))) H):wpAny (model X.prog X.w) X.A (compareOp .IsNot (.bool u) (.bool v)) (EP X pins σ Q) X.xe s:=by
 cases u<;>cases v<;>exact AL ⟨.bl _,H,I,rfl,q⟩
theorem xn {v:Bool} {Q:VK} (I:Inv X pins σ H s) (q:Q (.bl false) H):wpAny (model X.prog X.w) X.A (compareOp .Is .none (.bool v)) (EP X pins σ Q) X.xe s:=by
 cases v<;>exact AL ⟨.bl _,H,I,rfl,q⟩
theorem qq {v:Bool} {Q:VK} (I:Inv X pins σ H s) (q:Q (.bl true) H):wpAny (model X.prog X.w) X.A (compareOp .IsNot .none (.bool v)) (EP X pins σ Q) X.xe s:=by
 cases v<;>exact AL ⟨.bl _,H,I,rfl,q⟩
noncomputable def kD:Key→D
 | .inl i=>.int i
 | .inr x=>.str x
theorem Ew {K:PySem.W.Frag} {ι:List Addr} {d:D} {x:V} (hk:Ht d=true) (h:IsD K ι H d x):∃k,d=kD k∧x=kV k:=by
 cases d with
 | int i=>exact⟨.inl i,rfl,by simpa[IsD,kV]using h⟩
 | str i=>exact⟨.inr i,rfl,by simpa[IsD,kV]using h⟩
 | _=>simp[Ht]at hk
theorem zt {K:PySem.W.Frag} {ι:List Addr} {d:D} {k:Key} (h:IsD K ι H d (kV k)):d=kD k:=by
 cases k with
 | inl i=>cases d<;>simp_all[IsD,kV,kD]
 | inr i=>cases d<;>simp_all[IsD,kV,kD]
theorem xp (a b:Key):deq (kD a) (kD b)=decide (a=b):=by
 cases a<;>cases b<;>simp[kD,deq]
noncomputable def OR (K:PySem.W.Frag) (H:Hp):Option D→Option V→Prop
 | some d,some v=>IsD K [] H d v
 | none,none=>True
 | _,_=>False
theorem OR.isSome {K:PySem.W.Frag} {o:Option D} {p:Option V} (h:OR K H o p):p.isSome=o.isSome:=by
 cases o<;>cases p<;>first | rfl | exact h.elim
theorem OR.getD {K:PySem.W.Frag} {ι:List Addr} {o:Option D} {p:Option V} {d:D} {v:V} (h:OR K H o p) (hd:IsD K ι H d v):IsD K ι H (o.getD d) (p.getD v):=by
 cases o with
 | none=>cases p with
  | none=>exact hd
  | some _=>exact h.elim
 | some _=>cases p with
  | none=>exact h.elim
  | some _=>exact IsD.mono (CG) (.refl _) _ _ h
theorem pq {K:PySem.W.Frag} {k:Key}:∀{kvs:List (D×D)} {xs:List (Key×V)},Hu K H kvs xs→OR K H (Ei (kD k) kvs) (Av xs k)
 | _,_,.nil=>True.intro
 | p::kvs,q::xs,.cons h t=>by
  obtain⟨d,e⟩:=p
  have hk:=zt h.1
  dsimp only at hk
  subst hk
  have ih:=pq (k:=k) (kvs:=kvs) (xs:=xs) t
  by_cases z:q.1=k
  ·rw[pf z,Ei,xp,if_pos (by simpa using z)]
   exact h.2
  ·rw[ph z,Ei,xp,if_neg (by simpa using z)]
   exact ih
theorem Ey {K:PySem.W.Frag} {k:Key}:∀{kvs:List (D×D)} {xs:List (Key×V)},Hu K H kvs xs→(kvs.any fun p=>deq p.1 (kD k))=xs.any fun kv=>decide (kv.1=k)
 | _,_,.nil=>rfl
 | p::kvs,q::xs,.cons h t=>by
  obtain⟨d,e⟩:=p
  have hk:=zt h.1
  dsimp only at hk
  subst hk
  rw[CK,CK,Ey t,xp]
theorem A2 {K:PySem.W.Frag} {k:Key} {d:D} {v:V} (hv:IsD K [] H d v):∀{kvs:List (D×D)} {xs:List (Key×V)},Hu K H kvs xs →
  Hu K H (kvs.map fun p=>if deq p.1 (kD k)=true then(p.1,d)else p) (xs.map fun kv=>if kv.1=k then(kv.1,v)else kv)
 | _,_,.nil=>.nil
 | p::kvs,q::xs,.cons h t=>by
  obtain⟨e,w⟩:=p
  have hk:=zt h.1
  dsimp only at hk
  subst hk
  rw[AR,AR]
  refine .cons ?_ (A2 hv t)
  by_cases z:q.1=k
  ·rw[if_pos z,xp,if_pos (by simpa using z)]
   exact⟨h.1,hv⟩
  ·rw[if_neg z,xp,if_neg (by simpa using z)]
   exact h
theorem qr {α β:Type} {F:α→β→Prop}:∀{xs:List α} {ys:List β} {x:α} {y:β},Paired F xs ys→F x y→Paired F (xs++[x]) (ys++[y])
 | _,_,_,_,.nil,h=>.cons h .nil
 | _,_,_,_,.cons a t,h=>.cons a (qr t h)
theorem A3 {K:PySem.W.Frag} {k:Key} {d:D} {v:V} (hv:IsD K [] H d v) {kvs:List (D×D)} {xs:List (Key×V)} (h:Hu K H kvs xs):Hu K H (dput (kD k) d kvs) (putK xs k v):=by
 unfold dput putK
 rw[Ey h]
 split
 ·exact A2 hv h
 ·refine qr h ⟨?_,hv⟩
  cases k<;>simp[kD,kV,IsD]
theorem zu {K:PySem.W.Frag} {ι:List Addr} {μ:Sto} {o k:D} {x y:V} {kvs:List (D×D)} (hS:Sim K ι H μ) (ho:IsD K ι H o x) (hk:IsD K ι H k y) (h:dictAt μ o k=some kvs) :
  ∃p q xs,x=.ref p∧y=kV q∧k=kD q∧H p=some (.dK xs)∧Hu K H kvs xs:=by
 cases o with
 | loc n =>
  simp only[dictAt]at h
  split at h
  ·rename_i kvs' em
   split at h
   ·rename_i hkey
    cases h
    obtain⟨p,rfl,hp⟩:∃p,x=.ref p∧ι[n]? = some p:=by simpa[IsD]using ho
    obtain⟨a',q',ob⟩:=hS.at em
    rw[hp]at q';cases q'
    obtain⟨xs,e1,e2⟩:=ob
    obtain⟨q,rfl,rfl⟩:=Ew hkey hk
    exact⟨p,q,xs,rfl,rfl,rfl,e1,e2⟩
   ·cases h
  ·cases h
 | _=>simp[dictAt]at h
theorem Ez (cp:Cp) (hu:X.A.units+8<cLine):OpR X (compareOp (opOf cp)) (rOp X.K (cpD cp)):=by
 have hu0:X.A.units<cLine:=by lia
 cases cp with
 | eq=>exact Qd hu
 | ne=>exact Qe hu
 | eqM =>
  intro pins s σ H x y v u Q I rx ry ⟨ι,a,b,μ,hS,ha,hb,h⟩
  simp only[cpD]at h
  cases e1:bg μ 8 a with
  | none=>simp only[e1]at h;exact h.elim
  | some a1 =>
   cases e2:bg μ 8 b with
   | none=>simp only[e1,e2]at h;exact h.elim
   | some b1 =>
    simp only[e1,e2]at h
    exact Ka I 8 X.A a1 b1 x y v u hu (j3 8 _ _ e1) (j3 8 _ _ e2) (xj hS 8 _ _ _ e1 ha) (xj hS 8 _ _ _ e2 hb) rx ry _ _ _ _ ⟨.bl (deq a1 b1),H,I,rfl,h.ok hS (by simp[IsD])⟩
 | neM =>
  intro pins s σ H x y v u Q I rx ry ⟨ι,a,b,μ,hS,ha,hb,h⟩
  simp only[cpD]at h
  cases e1:bg μ 8 a with
  | none=>simp only[e1]at h;exact h.elim
  | some a1 =>
   cases e2:bg μ 8 b with
   | none=>simp only[e1,e2]at h;exact h.elim
   | some b1 =>
    simp only[e1,e2]at h
    exact A0 I 8 X.A a1 b1 x y v u hu (j3 8 _ _ e1) (j3 8 _ _ e2) (xj hS 8 _ _ _ e1 ha) (xj hS 8 _ _ _ e2 hb) rx ry _ _ _ _ ⟨.bl (!deq a1 b1),H,I,rfl,h.ok hS (by simp[IsD])⟩
 | lt =>
  intro pins s σ H x y v u Q I rx ry ⟨ι,a,b,μ,hS,ha,hb,h⟩
  simp only[cpD]at h
  split at h
  ·cases dg ha;cases dg hb
   exact Tf pins s σ H _ _ v u Q I rx ry ⟨_,_,rfl,rfl,h.ok hS (by simp[IsD])⟩
  ·obtain⟨p,xs,rfl,hq,hds⟩:=g7 ha
   obtain⟨p',xs',rfl,hq',hds'⟩:=g7 hb
   split at h
   ·rename_i ns ms e1 e2
    have:=ints_of hds e1
    subst this
    have:=ints_of hds' e2
    subst this
    refine Pg hu0 pins s σ H _ _ v u Q I rx ry ⟨p,p',ns,ms,rfl,rfl,hq,hq',?_⟩
    have el:∀(a b:List Int),HT.lexLt a b=Lp.lexLt a b:=by
     intro a
     induction a with
     | nil=>intro b;cases b<;>rfl
     | cons x r ih=>intro b;cases b with
      | nil=>rfl
      | cons y q=>rw[HT.ik,Lp.lexLt,ih]
    rw[el]
    exact h.ok hS (by simp[IsD])
   ·exact h.elim
  ·exact h.elim
 | le =>
  intro pins s σ H x y v u Q I rx ry ⟨ι,a,b,μ,hS,ha,hb,h⟩
  simp only[cpD]at h
  split at h
  ·cases dg ha;cases dg hb
   exact Th pins s σ H _ _ v u Q I rx ry ⟨_,_,rfl,rfl,h.ok hS (by simp[IsD])⟩
  ·obtain⟨p,xs,rfl,hq,hds⟩:=g7 ha
   obtain⟨p',xs',rfl,hq',hds'⟩:=g7 hb
   split at h
   ·rename_i ns ms e1 e2
    have:=ints_of hds e1
    subst this
    have:=ints_of hds' e2
    subst this
    refine Qh hu0 I rx ry ⟨p,p',ns,ms,rfl,rfl,hq,hq',?_⟩
    have el:∀(a b:List Int),HT.lexLt a b=Lp.lexLt a b:=by
     intro a
     induction a with
     | nil=>intro b;cases b<;>rfl
     | cons x r ih=>intro b;cases b with
      | nil=>rfl
      | cons y q=>rw[HT.ik,Lp.lexLt,ih]
    rw[el]
    exact h.ok hS (by simp[IsD])
   ·exact h.elim
  ·exact h.elim
 | gt =>
  refine OpR.imp Ti fun x y H Q ⟨ι,a,b,μ,hS,ha,hb,h⟩=>?_
  simp only[cpD]at h
  split at h
  ·cases dg ha;cases dg hb
   exact⟨_,_,rfl,rfl,h.ok hS (by simp[IsD])⟩
  ·exact h.elim
 | ge =>
  intro pins s σ H x y v u Q I rx ry ⟨ι,a,b,μ,hS,ha,hb,h⟩
  simp only[cpD]at h
  split at h
  ·cases dg ha;cases dg hb
   exact Tj pins s σ H _ _ v u Q I rx ry ⟨_,_,rfl,rfl,h.ok hS (by simp[IsD])⟩
  ·obtain⟨p,xs,rfl,hq,hds⟩:=g7 ha
   obtain⟨p',xs',rfl,hq',hds'⟩:=g7 hb
   split at h
   ·rename_i ns ms e1 e2
    have:=ints_of hds e1
    subst this
    have:=ints_of hds' e2
    subst this
    refine Qi hu0 I rx ry ⟨p,p',ns,ms,rfl,rfl,hq,hq',?_⟩
    have el:∀(a b:List Int),HT.lexLt a b=Lp.lexLt a b:=by
     intro a
     induction a with
     | nil=>intro b;cases b<;>rfl
     | cons x r ih=>intro b;cases b with
      | nil=>rfl
      | cons y q=>rw[HT.ik,Lp.lexLt,ih]
    rw[el]
    exact h.ok hS (by simp[IsD])
   ·exact h.elim
  ·exact h.elim
 | is =>
  intro pins s σ H x y v u Q I rx ry ⟨ι,a,b,μ,hS,ha,hb,h⟩
  simp only[cpD]at h
  split at h
  ·refine O9 pins s σ H x y v u Q I rx ry ⟨by simpa[IsD]using hb,?_⟩
   cases a with
   | tup ds=>obtain⟨p,xs,rfl,_⟩:=g7 ha;exact h.ok hS (by simp[IsD])
   | lst ds =>
         obtain⟨p,xs,rfl,_⟩:∃p xs,x=V.ref p∧FzL X.K H p xs∧aj X.K ι H ds xs:=by simpa[IsD]using ha
         exact h.ok hS (by simp[IsD])
   | loc n =>
        obtain⟨p,rfl,_⟩:∃p,x=V.ref p∧ι[n]? = some p:=by simpa[IsD]using ha
        exact h.ok hS (by simp[IsD])
   | _=>have e:=ha;simp only[IsD]at e;subst e;exact h.ok hS (by simp[IsD])
  ·cases xg hb
   cases(show u=Value.bool _ from ry)
   split at h
   ·cases xg ha
    cases(show v=Value.bool _ from rx)
    exact is_bool I (h.ok hS (by simp[IsD]))
   ·cases(show x=.non by simpa[IsD]using ha)
    cases(show v=Value.none from rx)
    exact xn I (h.ok hS (by simp[IsD]))
   ·exact h.elim
  ·exact h.elim
 | isnot =>
  intro pins s σ H x y v u Q I rx ry ⟨ι,a,b,μ,hS,ha,hb,h⟩
  simp only[cpD]at h
  split at h
  ·refine L7 pins s σ H x y v u Q I rx ry ⟨by simpa[IsD]using hb,?_⟩
   cases a with
   | tup ds=>obtain⟨p,xs,rfl,_⟩:=g7 ha;exact h.ok hS (by simp[IsD])
   | lst ds =>
         obtain⟨p,xs,rfl,_⟩:∃p xs,x=V.ref p∧FzL X.K H p xs∧aj X.K ι H ds xs:=by simpa[IsD]using ha
         exact h.ok hS (by simp[IsD])
   | loc n =>
        obtain⟨p,rfl,_⟩:∃p,x=V.ref p∧ι[n]? = some p:=by simpa[IsD]using ha
        exact h.ok hS (by simp[IsD])
   | _=>have e:=ha;simp only[IsD]at e;subst e;exact h.ok hS (by simp[IsD])
  ·cases xg hb
   cases(show u=Value.bool _ from ry)
   split at h
   ·cases xg ha
    cases(show v=Value.bool _ from rx)
    exact isnot_bool I (h.ok hS (by simp[IsD]))
   ·cases(show x=.non by simpa[IsD]using ha)
    cases(show v=Value.none from rx)
    exact qq I (h.ok hS (by simp[IsD]))
   ·exact h.elim
  ·exact h.elim
 | in_ =>
  intro pins s σ H x y v u Q I rx ry ⟨ι,a,b,μ,hS,ha,hb,h⟩
  simp only[cpD]at h
  split at h
  ·rename_i ds e
   obtain⟨p,xs,rfl,hq,hds⟩:=tj hS hb e
   split at h
   ·rename_i hf
    refine Ea pins s σ H _ _ v u Q I rx ry ⟨p,xs,rfl,hq.imp (·.sq) id,zr ha hf.1,ur hds hf.2,?_⟩
    simp only[BD,if_false]
    rw[Eu ha hf.1 hds hf.2]
    exact h.ok hS (by simp[IsD])
   ·exact h.elim
  ·split at h
   ·rename_i kvs e
    obtain⟨p,q,xs,rfl,rfl,rfl,hp,hk⟩:=zu hS hb ha e
    cases(show u=Value.ref p from ry)
    refine Wm (by lia) I (Hm.k hp) rx fun s' I'=>⟨.bl (Av xs q).isSome,H,I',rfl,?_⟩
    rw[(pq hk).isSome]
    exact h.ok hS (by simp[IsD])
   ·exact h.elim
 | notin =>
  intro pins s σ H x y v u Q I rx ry ⟨ι,a,b,μ,hS,ha,hb,h⟩
  simp only[cpD]at h
  split at h
  ·rename_i ds e
   obtain⟨p,xs,rfl,hq,hds⟩:=tj hS hb e
   split at h
   ·rename_i hf
    refine wo pins s σ H _ _ v u Q I rx ry ⟨p,xs,rfl,hq.imp (·.sq) id,zr ha hf.1,ur hds hf.2,?_⟩
    simp only[if_true]
    rw[Eu ha hf.1 hds hf.2]
    exact h.ok hS (by simp[IsD])
   ·exact h.elim
  ·split at h
   ·rename_i kvs e
    obtain⟨p,q,xs,rfl,rfl,rfl,hp,hk⟩:=zu hS hb ha e
    cases(show u=Value.ref p from ry)
    refine Mg (by lia) I (Hm.k hp) rx fun s' I'=>⟨.bl (!(Av xs q).isSome),H,I',rfl,?_⟩
    rw[(pq hk).isSome]
    exact h.ok hS (by simp[IsD])
   ·exact h.elim
end
end Lp
namespace Lp
open PySem PySem.Spec PyProof.Rows L2
open PySem.SeqAt (EqAt RcAt)
section
variable {X : Cx} {φ : Phi} {pins : List (Addr × Obj)} {σ : St} {H : Hp} {s : Shared}
noncomputable def PCh (X:Cx) (ops:List CmpOp) (es:List Expr) (t:V→TE):Prop :=
 ∀(pos:Pos) (pins:List (Addr×Obj)) (s:Shared) (σ:St) (H:Hp) (Q:VK) (x:V) (v:Value),Inv X pins σ H s→RelV x v→t x σ H Q →
  wpAny (model X.prog X.w) X.A (compareChain pos v ops (evalEach es X.env)) (EP X pins σ Q) X.xe s
noncomputable def PTh (X:Cx) (ops:List CmpOp) (es:List Expr) (t:V→TT):Prop :=
 ∀(pos:Pos) (pins:List (Addr×Obj)) (s:Shared) (σ:St) (H:Hp) (Q:Bool→Hp→Prop) (x:V) (v:Value),Inv X pins σ H s→RelV x v→t x σ H Q →
  wpAny (model X.prog X.w) X.A (testChain pos v ops (evalEach es X.env)) (TP X pins σ Q) X.xe s
noncomputable def tCh (K:PySem.W.Frag) (φ:Phi) (r:Cps):V→TE:=fun x σv H Q=>∃ι σ μ d,Sim K ι H μ∧n8 K ι H σ σv∧IsD K ι H d x∧gq K (RD K) ι H (evC φ r d σ μ) Q
noncomputable def tTh (K:PySem.W.Frag) (φ:Phi) (r:Cps):V→TT:=fun x σv H Q=>∃ι σ μ d,Sim K ι H μ∧n8 K ι H σ σv∧IsD K ι H d x∧gq K RB ι H ((evC φ r d σ μ).bind fun z μ=>Vi z μ) Q
theorem E1 {op:Cp} {xe:Ex} {d:D} {σ:Sl} {μ:Sto}:evC φ (.cons op xe .nil) d σ μ=(evE φ xe σ μ).bind fun y μ=>cpD op d y μ:=by
 simp only[evC]
 cases evE φ xe σ μ with
 | ok y μ1 =>
  simp only[Res.ba]
  cases cpD op d y μ1<;>rfl
 | exc _ _ _=>rfl
 | stuck=>rfl
theorem Ib {op op':Cp} {xe xe':Ex} {r:Cps} {d:D} {σ:Sl} {μ:Sto}:evC φ (.cons op xe (.cons op' xe' r)) d σ μ=(evE φ xe σ μ).bind fun y μ=>(cpD op d y μ).bind fun z μ=>match z with
  | .bl b=>if b=true then evC φ (.cons op' xe' r) y σ μ else .ok (.bl false) μ
  | _=>.stuck:=by
 rw[evC]
 all_goals rfl
theorem Mz {op:Cp} {e:Expr} {xe:Ex} (ho:OpR X (compareOp (opOf op)) (rOp X.K (cpD op))) (he:PE X e (tE X.K φ xe)):PCh X [opOf op] [e] (tCh X.K φ (.cons op xe .nil)):=by
 intro pos pins s σv H Q x v I rx ⟨ι,σ,μ,d,hS,hL,hd,h⟩
 rw[E1]at h
 obtain⟨y,μ1,e1,h⟩:=h.bind
 refine chain_last (thn (he pins s σv H (fun w H1=>rOp X.K (cpD op) x w H1 Q) I ⟨ι,σ,μ,hS,hL,?_⟩) fun u s1 ⟨w,H1,I1,r1,q1⟩=>ho pins s1 σv H1 x w v u Q I1 rx r1 q1)
 rw[e1]
 exact fun ι1 w H1 p1 x1 s1 d1=>⟨ι1,d,y,μ1,s1,IsD.mono p1 x1 _ _ hd,d1,h.mono p1 x1⟩
theorem M1 {op:Cp} {e:Expr} {xe:Ex} (ho:OpR X (compareOp (opOf op)) (rOp X.K (cpD op))) (he:PE X e (tE X.K φ xe)):PTh X [opOf op] [e] (tTh X.K φ (.cons op xe .nil)):=by
 intro pos pins s σv H Q x v I rx ⟨ι,σ,μ,d,hS,hL,hd,h⟩
 rw[E1,Res.bind_assoc]at h
 obtain⟨y,μ1,e1,h⟩:=h.bind
 refine test_last (thn (he pins s σv H (fun w H1=>rOp X.K (cpD op) x w H1 (fun z H2=>∃k,z=.bl k∧Q k H2)) I ⟨ι,σ,μ,hS,hL,?_⟩) fun u s1 ⟨w,H1,I1,r1,q1⟩=>thn (ho pins s1 σv H1 x w v u _ I1 rx r1 q1) fun c s2 ⟨z,H2,I2,r2,k,ek,q2⟩=>?_)
 ·rw[e1]
  intro ι1 w H1 p1 x1 s1 d1
  obtain⟨z,μ2,e2,h⟩:=h.bind
  refine⟨ι1,d,y,μ1,s1,IsD.mono p1 x1 _ _ hd,d1,?_⟩
  rw[e2]
  intro ι2 z' H2 p2 x2 s2 d2
  cases z with
  | bl k=>exact⟨k,xg d2,h ι2 k H2 (p1.trans p2) (x1.trans x2) s2 rfl⟩
  | _=>exact h.elim
 ·subst ek
  cases r2
  exact CZ ⟨H2,I2,q2⟩
theorem M3 {op op':Cp} {e e':Expr} {es:List Expr} {ops:List CmpOp} {xe xe':Ex} {r:Cps} (ho:OpR X (compareOp (opOf op)) (rOp X.K (cpD op))) (he:PE X e (tE X.K φ xe)) (hr:PTh X (opOf op'::ops) (e'::es) (tTh X.K φ (.cons op' xe' r))) :
  PTh X (opOf op::opOf op'::ops) (e::e'::es) (tTh X.K φ (.cons op xe (.cons op' xe' r))):=by
 intro pos pins s σv H Q x v I rx ⟨ι,σ,μ,d,hS,hL,hd,h⟩
 rw[Ib,Res.bind_assoc]at h
 obtain⟨y,μ1,e1,h⟩:=h.bind
 refine test_link (thn (he pins s σv H (fun w H1=>rOp X.K (cpD op) x w H1 (fun z H2=>∃k,z=.bl k∧if k=true then tTh X.K φ (.cons op' xe' r) w σv H2 Q else Q false H2)) I ⟨ι,σ,μ,hS,hL,?_⟩) fun u s1 ⟨w,H1,I1,r1,q1⟩ =>
  thn (ho pins s1 σv H1 x w v u _ I1 rx r1 q1) fun c s2 ⟨z,H2,I2,r2,k,ek,q2⟩=>?_)
 ·rw[e1]
  intro ι1 w H1 p1 x1 s1 d1
  rw[Res.bind_assoc]at h
  obtain⟨z,μ2,e2,h⟩:=h.bind
  refine⟨ι1,d,y,μ1,s1,IsD.mono p1 x1 _ _ hd,d1,?_⟩
  rw[e2]
  intro ι2 z' H2 p2 x2 s2 d2
  cases z with
  | bl k =>
   refine⟨k,xg d2,?_⟩
   cases k with
   | true=>exact⟨ι2,σ,μ2,y,s2,(hL.mono p1 x1).mono p2 x2,IsD.mono p2 x2 _ _ d1,(show gq _ _ _ _ ((evC φ (.cons op' xe' r) y σ μ2).bind _) _ from h).mono (p1.trans p2) (x1.trans x2)⟩
   | false=>exact h ι2 false H2 (p1.trans p2) (x1.trans x2) s2 rfl
  | _=>exact h.elim
 ·subst ek
  cases r2
  refine CZ ?_
  cases k with
  | false=>exact ite_ff ⟨H2,I2,q2⟩
  | true=>exact ite_tt (hr pos pins s2 σv H2 Q w u I2 r1 q2)
theorem Ul {a:Expr} {xa:Ex} {ops:List CmpOp} {es:List Expr} {r:Cps} {pos:Pos} (ha:PE X a (tE X.K φ xa)) (hr:PCh X ops es (tCh X.K φ r)) (hm:lastMarks ops es=false):PE X (.Compare a ops es pos) (tE X.K φ (.cmp xa r)):=by
 intro pins s σv H Q I ⟨ι,σ,μ,hS,hL,h⟩
 simp only[evE]at h
 obtain⟨d,μ1,e1,h⟩:=h.bind
 show wpAny _ _ (do compareChain pos (←eval a X.env) ops (markedEach ops es (evalEach es X.env))) _ _ _
 rw[markedEach_of_false _ _ _ hm]
 refine AB (thn (ha pins s σv H (fun x H1=>tCh X.K φ r x σv H1 Q) I ⟨ι,σ,μ,hS,hL,?_⟩) fun v s1 ⟨x,H1,I1,r1,q1⟩=>hr pos pins s1 σv H1 Q x v I1 r1 q1)
 rw[e1]
 exact fun ι1 x H1 p1 x1 s1 d1=>⟨ι1,σ,μ1,d,s1,hL.mono p1 x1,d1,h.mono p1 x1⟩
theorem Qk {a:Expr} {xa:Ex} {ops:List CmpOp} {es:List Expr} {r:Cps} {pos:Pos} (ha:PE X a (tE X.K φ xa)) (hr:PTh X ops es (tTh X.K φ r)) (hm:lastMarks ops es=false):PT X (.Compare a ops es pos) (tT X.K φ (.cmp xa r)):=by
 intro pins s σv H Q I ⟨ι,σ,μ,hS,hL,h⟩
 simp only[evE]at h
 rw[Res.bind_assoc]at h
 obtain⟨d,μ1,e1,h⟩:=h.bind
 show wpAny _ _ (do testChain pos (←eval a X.env) ops (markedEach ops es (evalEach es X.env))) _ _ _
 rw[markedEach_of_false _ _ _ hm]
 refine AB (thn (ha pins s σv H (fun x H1=>tTh X.K φ r x σv H1 Q) I ⟨ι,σ,μ,hS,hL,?_⟩) fun v s1 ⟨x,H1,I1,r1,q1⟩=>hr pos pins s1 σv H1 Q x v I1 r1 q1)
 rw[e1]
 exact fun ι1 x H1 p1 x1 s1 d1=>⟨ι1,σ,μ1,d,s1,hL.mono p1 x1,d1,h.mono p1 x1⟩
theorem Ql {l:Expr} {xl:Ex} {tg:Expr} (hl:PE X l (tE X.K φ xl)):PI X tg l (tI X.K φ (.seq xl)):=by
 intro pins s σv H R I ⟨ι,σ,μ,hS,hL,h⟩
 simp only[evI]at h
 cases e1:evE φ xl σ μ with
 | exc _ _ _=>rw[e1]at h;exact h.elim
 | stuck=>rw[e1]at h;exact h.elim
 | ok d μ1 =>
 rw[e1]at h
 simp only[Res.ba]at h
 have hq:tE X.K φ xl σv H (fun v H1=>∃ι1,ι <+: ι1∧Ext H H1∧Sim X.K ι1 H1 μ1∧IsD X.K ι1 H1 d v):=⟨ι,σ,μ,hS,hL,by rw[e1];exact fun ι1 v H1 p1 x1 s1 d1=>⟨ι1,p1,x1,s1,d1⟩⟩
 refine thn (hl pins s σv H _ I hq) fun u s1 ⟨v,H1,I1,r1,ι1,p1,x1,S1,d1⟩=>?_
 -- a list,at a,whatever its items
 have lst:∀(a:Addr) (xs:List V) (ds:List D) (g:Gd),v=.ref a→LsL X.K H1 a xs→aj X.K ι1 H1 ds xs→(∀ι2 H2 μ2,ι1 <+: ι2→Ext H1 H2→Sim X.K ι2 H2 μ2→gd g μ2→∃ys,LsL X.K H2 a ys∧aj X.K ι2 H2 ds ys) →
   (∀ι' H' J,ι <+: ι'→Ext H H'→Sim X.K ι' H' μ1→Walk X.K ι' H' J ds g→R J H')→wpAny (model X.prog X.w) X.A (pyIter u) (PIE X pins σv tg R) X.xe s1:=by
  intro a xs ds g ev hls hds stay hR
  subst ev
  cases(show u=Value.ref a from r1)
  obtain⟨its,rv,p,hz⟩:=I1.list hls.sq
  refine GM p.isList ?_
  refine⟨s1.heap.objs.size,[s1.heap.objs.size],_,_,H1,rfl,I1.kept (t':=s1.toks) fun b o e=>AC _ e,Dz a _,⟨_,AN _ rfl,rfl,rfl⟩,fun b hb=>?_,hR ι1 H1 _ p1 x1 S1 ?_⟩
  ·have e:b=s1.heap.objs.size:=by simpa using hb
   subst e
   exact I1.fpOk (AF _) (I1.hok.fresh (AF _))
  ·refine⟨by rw[←hds.length];exact hz,fun i ι2 H2 μ2 q1 q2 q3 q4 hi=>?_,fun i ι2 H2 μ2 w H3 q1 q2 q3 q4 hi hy=>?_,fun ι2 H2 μ2 q1 q2 q3 q4=>?_⟩
   ·obtain⟨ys,y1,y2⟩:=stay ι2 H2 μ2 q1 q2 q3 q4
    obtain⟨w,e,_⟩:=y2.get (AA hi)
    exact⟨ys,w,y1.sq,e⟩
   ·obtain⟨ys,y1,y2⟩:=stay ι2 H2 μ2 q1 q2 q3 q4
    obtain⟨e,hy⟩:=hy
    subst e
    obtain⟨w',e',q'⟩:=y2.get (AA hi)
    have:=hy ys y1.sq
    rw[e']at this;cases this
    exact⟨.refl _,q3,_,AA hi,q'⟩
   ·obtain⟨ys,y1,y2⟩:=stay ι2 H2 μ2 q1 q2 q3 q4
    exact⟨ys,y1.sq,by rw[y2.length];exact AF _⟩
 cases d with
 | tup ds =>
  simp only[cu]at h
  obtain⟨a,xs,rfl,hq,hds⟩:=g7 d1
  cases(show u=Value.ref a from r1)
  obtain⟨its,rv,p,hz⟩:=I1.tuple hq
  refine DJ (show s1.heap.IsTuple a its.toArray from p) ?_
  refine⟨s1.heap.objs.size,[s1.heap.objs.size],_,_,H1,rfl,I1.kept (t':=s1.toks) fun b o e=>AC _ e,Ck a _,⟨_,AN _ rfl,rfl,rfl⟩,fun b hb=>?_,h ι1 H1 _ p1 x1 S1 ?_⟩
  ·have e:b=s1.heap.objs.size:=by simpa using hb
   subst e
   exact I1.fpOk (AF _) (I1.hok.fresh (AF _))
  ·refine⟨by rw[←hds.length];exact hz,fun i ι2 H2 μ2 q1 q2 q3 q4 hi=>?_,fun i ι2 H2 μ2 w H3 q1 q2 q3 q4 hi hy=>?_,fun ι2 H2 μ2 q1 q2 q3 q4=>?_⟩
   ·obtain⟨w,e,_⟩:=hds.get (AA hi)
    exact⟨xs,w,hq.ext q2,e⟩
   ·obtain⟨e,hy⟩:=hy
    subst e
    obtain⟨w',e',q'⟩:=hds.get (AA hi)
    have:=hy xs (hq.ext q2)
    rw[e']at this;cases this
    exact⟨.refl _,q3,_,AA hi,IsD.mono q1 q2 _ _ q'⟩
   ·exact⟨xs,hq.ext q2,by rw[hds.length];exact AF _⟩
 | lst ds =>
  simp only[cu]at h
  obtain⟨a,xs,rfl,hq,hds⟩:∃a xs,v=.ref a∧FzL X.K H1 a xs∧aj X.K ι1 H1 ds xs:=by simpa[IsD]using d1
  exact lst a xs ds none rfl (.inr hq) hds (fun ι2 H2 μ2 q1 q2 q3 q4=>⟨xs,.inr (hq.ext q2),aj.mono q1 q2 _ _ hds⟩) h
 | loc n =>
  obtain⟨a,rfl,hn⟩:∃a,v=.ref a∧ι1[n]? = some a:=by simpa[IsD]using d1
  have pre:∀{ι2:List Addr},ι1 <+: ι2→ι2[n]? = some a:=fun hp=>by
   obtain⟨t,rfl⟩:=hp
   rw[AV (AE.mp hn).1];exact hn
  cases em:μ1[n]? with
  | none=>simp only[cu,em]at h
  | some o =>
   simp only[cu,em]at h
   cases o with
   | l ds =>
    simp only at h
    obtain⟨a',q',ho⟩:=S1.at em
    rw[hn]at q';cases q'
    obtain⟨xs,f1,f2⟩:=ho
    refine lst a xs ds (some (n,.l ds)) rfl (.inl f1) (aj.mono (CG) (.refl _) _ _ f2) (fun ι2 H2 μ2 q1 q2 q3 q4=>?_) h
    obtain⟨a2,e2,o2⟩:=q3.at (show μ2[n]? = some (.l ds)from q4)
    rw[pre q1]at e2;cases e2
    obtain⟨ys,g1,g2⟩:=o2
    exact⟨ys,.inl g1,aj.mono (CG) (.refl _) _ _ g2⟩
   | r ds =>
    simp only at h
    obtain⟨a',q',ho⟩:=S1.at em
    rw[hn]at q';cases q'
    obtain⟨xs,f1,f2⟩:=ho
    refine lst a xs ds (some (n,.r ds)) rfl (.inl f1) f2 (fun ι2 H2 μ2 q1 q2 q3 q4=>?_) h
    obtain⟨a2,e2,o2⟩:=q3.at (show μ2[n]? = some (.r ds)from q4)
    rw[pre q1]at e2;cases e2
    obtain⟨ys,g1,g2⟩:=o2
    exact⟨ys,.inl g1,g2⟩
   | d kvs=>simp only at h
   | dt kvs=>simp only at h
   | dead=>simp only at h
 | _=>simp only[cu]at h
theorem tu {K:PySem.W.Frag} {ι:List Addr} {H:Hp} (lo:Int) (n:Nat) (hn:n≤sizeLine):Walk K ι H (Itr lo n) ((List.range n).map fun(k:Nat)=>D.int (lo+k)) none:=by
 refine⟨by simpa using hn,fun i ι2 H2 μ2 q1 q2 q3 q4 hi=>by simpa[Itr]using hi,fun i ι2 H2 μ2 w H3 q1 q2 q3 q4 hi hy=>?_,fun ι2 H2 μ2 q1 q2 q3 q4=>by simp[Itr]⟩
 obtain⟨e,hy⟩:=hy
 subst e
 have hi':i<n:=by simpa using hi
 exact⟨.refl _,q3,.int (lo+i),by simp[hi'],by simp[IsD,hy]⟩
theorem Qm {a:Expr} {xa:Ex} {tg:Expr} {p pos:Pos} (hg:Gl X "range") (hm:X.mg "range"=none) (ha:PE X a (tE X.K φ xa)) (hs:starEach [a] X.env=[(false,eval a X.env)]):PI X tg (.Call (.Name "range" p) [a] [] pos) (tI X.K φ (.rng xa)) :=
 PI.imp (D0 hg hm (qj ha El hs) hs) fun σv H R ⟨ι,σ,μ,hS,hL,h⟩=>by
  simp only[evI]at h
  refine⟨ι,σ,μ,hS,hL,?_⟩
  simp only[gw]
  cases e1:evE φ xa σ μ with
  | exc _ _ _=>rw[e1]at h;exact h.elim
  | stuck=>rw[e1]at h;exact h.elim
  | ok d μ1 =>
   rw[e1]at h
   simp only[Res.ba]at h ⊢
   cases d with
   | int j =>
    simp only at h
    by_cases hj:-(lim:Int)≤j∧j≤lim
    ·rw[if_pos hj]at h
     rw[h9]at hj
     have h24:sizeLine=16777216:=DF
     rw[h24]at hj
     intro ι1 vs H1 p1 x1 s1 d1
     have e:vs=[.int j]:=by
      have q:aj X.K ι1 H1 [.int j] vs:=d1
      simp only[aj]at q
      obtain⟨v,r,rfl,q1,rfl⟩:=q
      cases dg q1
      rfl
     refine⟨j,e,by lia,by lia,h ι1 H1 _ p1 x1 s1 ?_⟩
     have w:=tu (K:=X.K) (ι:=ι1) (H:=H1) 0 j.toNat (by lia)
     simpa using w
    ·rw[if_neg hj]at h
     exact h.elim
   | _=>exact h.elim
theorem M4 {a b:Expr} {xa xb:Ex} {tg:Expr} {p pos:Pos} (hg:Gl X "range") (hm:X.mg "range"=none) (ha:PE X a (tE X.K φ xa)) (hb:PE X b (tE X.K φ xb)) (hs:starEach [a,b] X.env=[(false,eval a X.env),(false,eval b X.env)])
  (hs2:starEach [b] X.env=[(false,eval b X.env)]):PI X tg (.Call (.Name "range" p) [a,b] [] pos) (tI X.K φ (.rng2 xa xb)) :=
 PI.imp (D2 hg hm (qj ha (qj hb El hs2) (by rw[hs,hs2])) hs hs2) fun σv H R ⟨ι,σ,μ,hS,hL,h⟩=>by
  simp only[evI]at h
  refine⟨ι,σ,μ,hS,hL,?_⟩
  simp only[gw]
  cases e1:evE φ xa σ μ with
  | exc _ _ _=>rw[e1]at h;exact h.elim
  | stuck=>rw[e1]at h;exact h.elim
  | ok d μ1 =>
   rw[e1]at h
   simp only[Res.ba]at h ⊢
   cases e2:evE φ xb σ μ1 with
   | exc _ _ _=>rw[e2]at h;exact h.elim
   | stuck=>rw[e2]at h;exact h.elim
   | ok d2 μ2 =>
    rw[e2]at h
    simp only[Res.ba]at h ⊢
    cases d with
    | int i =>
     cases d2 with
     | int j =>
      simp only at h
      by_cases hj:-(lim:Int)≤i∧i≤lim∧j≤lim ∧ -(lim:Int)≤j∧(j-i)≤lim
      ·rw[if_pos hj]at h
       rw[h9]at hj
       have h24:sizeLine=16777216:=DF
       rw[h24]at hj
       intro ι1 vs H1 p1 x1 s1 d1
       have e:vs=[.int i,.int j]:=by
        have q:aj X.K ι1 H1 [.int i,.int j] vs:=d1
        simp only[aj]at q
        obtain⟨v,r,rfl,q1,w,r2,rfl,q2,rfl⟩:=q
        cases dg q1
        cases dg q2
        rfl
       refine⟨i,j,e,⟨by lia,by lia,by lia,by lia⟩,h ι1 H1 _ p1 x1 s1 ?_⟩
       exact tu (K:=X.K) (ι:=ι1) (H:=H1) i (j-i).toNat (by lia)
      ·rw[if_neg hj]at h
       exact h.elim
     | _=>exact h.elim
    | _=>exact h.elim
end
end Lp
namespace Lp
open PySem PySem.Spec PyProof.Rows L2
section
variable {X : Cx} {φ : Phi} {pins : List (Addr × Obj)} {σ : St} {H : Hp} {s : Shared}
noncomputable def qt (K:PySem.W.Frag) (f:List D→Sto→Res D):List V→Hp→VK→Prop:=fun xs H Q=>∃ι ds μ,Sim K ι H μ∧aj K ι H ds xs∧gq K (RD K) ι H (f ds μ) Q
theorem Kb {K:PySem.W.Frag} {ι:List Addr} {d:D} {xs:List V} (h:aj K ι H [d] xs):∃v,xs=[v]∧IsD K ι H d v:=by
 simp only[aj]at h
 obtain⟨v,r,rfl,q,rfl⟩:=h
 exact⟨v,rfl,q⟩
theorem Kc {K:PySem.W.Frag} {ι:List Addr} {d e:D} {xs:List V} (h:aj K ι H [d,e] xs):∃v w,xs=[v,w]∧IsD K ι H d v∧IsD K ι H e w:=by
 simp only[aj]at h
 obtain⟨v,r,rfl,q,w,r2,rfl,q2,rfl⟩:=h
 exact⟨v,w,rfl,q,q2⟩
theorem jn {K:PySem.W.Frag} {ι:List Addr} {ds:List D} {xs:List V} {μ:Sto} {f:D→Sto→Res D} {Q:VK} (hds:aj K ι H ds xs) (h:gq K (RD K) ι H (tf f ds μ) Q) :
  ∃d v,xs=[v]∧IsD K ι H d v∧gq K (RD K) ι H (f d μ) Q:=by
 unfold tf at h
 split at h
 ·rename_i d
  obtain⟨v,rfl,hv⟩:=Kb hds
  exact⟨d,v,rfl,hv,h⟩
 ·exact h.elim
theorem zw {K:PySem.W.Frag} {ι:List Addr} {d:D} {v:V} {μ:Sto} {f:List D→Sto→Res D} {Q:VK} (hS:Sim K ι H μ) (hd:IsD K ι H d v) (h:gq K (RD K) ι H (seq1 f d μ) Q) :
  ∃a xs ds,v=.ref a∧(LsL K H a xs∨SqT K H a xs)∧aj K ι H ds xs∧gq K (RD K) ι H (f ds μ) Q:=by
 unfold seq1 at h
 split at h
 ·rename_i ds e
  obtain⟨a,xs,rfl,hq,hxs⟩:=tj hS hd e
  exact⟨a,xs,ds,rfl,hq,hxs,h⟩
 ·exact h.elim
theorem E2 {K:PySem.W.Frag} {ι:List Addr} {d:D} {v:V} {μ:Sto} {f:List Int→Sto→Res D} {Q:VK} (hS:Sim K ι H μ) (hd:IsD K ι H d v) (h:gq K (RD K) ι H (Mo f d μ) Q) :
  ∃a ns,v=.ref a∧(LsL K H a (ns.map V.int)∨SqT K H a (ns.map V.int))∧gq K (RD K) ι H (f ns μ) Q:=by
 unfold Mo at h
 cases e:de μ d with
 | none=>rw[e]at h;exact h.elim
 | some ds =>
  rw[e]at h
  simp only[HE]at h
  split at h
  ·rename_i ns e2
   obtain⟨a,xs,rfl,hq,hxs⟩:=tj hS hd e
   rw[ints_of hxs e2]at hq
   exact⟨a,ns,rfl,hq,h⟩
  ·exact h.elim
theorem A4 {K:PySem.W.Frag} {ι:List Addr} {d:D} {v:V} {μ:Sto} {f:List Bool→Sto→Res D} {Q:VK} (hS:Sim K ι H μ) (hd:IsD K ι H d v) (h:gq K (RD K) ι H (Cy f d μ) Q) :
  ∃a ns,v=.ref a∧(LsL K H a (ns.map V.bl)∨SqT K H a (ns.map V.bl))∧gq K (RD K) ι H (f ns μ) Q:=by
 unfold Cy at h
 cases e:de μ d with
 | none=>rw[e]at h;exact h.elim
 | some ds =>
  rw[e]at h
  simp only[HE]at h
  split at h
  ·rename_i ns e2
   obtain⟨a,xs,rfl,hq,hxs⟩:=tj hS hd e
   rw[A1 hxs e2]at hq
   exact⟨a,ns,rfl,hq,h⟩
  ·exact h.elim
theorem bt_len {m:Mk}:fk X (.builtin "len") (qt X.K (btD .len m)):=fk.imp wq fun xs H Q ⟨ι,ds,μ,hS,hds,h⟩=>by
 obtain⟨d,v,rfl,hv,h⟩:=jn hds h
 obtain⟨a,xs,es,rfl,hq,hxs,h⟩:=zw hS hv h
 exact⟨a,xs,rfl,hq.imp (·.sq) id,by rw[hxs.length];exact h.ok hS (by simp[IsD])⟩
theorem bt_tuple {m:Mk}:fk X (.type "tuple") (qt X.K (btD .tuple m)):=fk.imp uj fun xs H Q ⟨ι,ds,μ,hS,hds,h⟩=>by
 obtain⟨d,v,rfl,hv,h⟩:=jn hds h
 obtain⟨a,xs,es,rfl,hq,hxs,h⟩:=zw hS hv h
 refine⟨a,xs,rfl,?_⟩
 rcases hq with hq | hq
 ·exact .inl ⟨hq.sq,fun l hl=>uq hS hxs h hl⟩
 ·exact .inr ⟨hq,h.ok hS (tup_is hq hxs)⟩
theorem bt_list {m:Mk}:fk X (.type "list") (qt X.K (btD .list m)):=fk.imp (fk.fq wt) fun xs H Q ⟨ι,ds,μ,hS,hds,h⟩=>by
 obtain⟨d,v,rfl,hv,h⟩:=jn hds h
 obtain⟨a,xs,es,rfl,hq,hxs,h⟩:=zw hS hv h
 exact⟨a,xs,rfl,hq.imp (·.sq) id,fun l hl=>k7 hS hxs h hl⟩
theorem bt_min {m:Mk} (hc:X.calm=true):fk X (.builtin "min") (qt X.K (btD .min m)):=fk.imp (D5 hc) fun xs H Q ⟨ι,ds,μ,hS,hds,h⟩=>by
 simp only[btD,minD]at h
 split at h
 ·rename_i i j
  obtain⟨v,w,rfl,hv,hw⟩:=Kc hds
  cases dg hv
  cases dg hw
  exact⟨i,j,rfl,h.ok hS (by simp[IsD])⟩
 ·exact h.elim
theorem bt_max {m:Mk} (hc:X.calm=true):fk X (.builtin "max") (qt X.K (btD .max m)):=fk.imp (D4 hc) fun xs H Q ⟨ι,ds,μ,hS,hds,h⟩=>by
 simp only[btD,maxD]at h
 split at h
 ·rename_i i j
  obtain⟨v,w,rfl,hv,hw⟩:=Kc hds
  cases dg hv
  cases dg hw
  exact⟨i,j,rfl,h.ok hS (by simp[IsD])⟩
 ·exact h.elim
theorem p5 {A:Around} {E:Value→Shared→Prop} {a:Addr} {xs:List V} (I:Inv X pins σ H s) (hq:LsL X.K H a xs∨SqT X.K H a xs) (hh:A.handled=none) {Q:Value→Shared→Prop}
  (h:∀(it:Addr) (fp:List Addr) (its:List Value) St s2,bq xs its→Walks X.prog X.w A it fp [it] its.length (fun i v=>its[i]? = some v) St→St 0 s2.heap→(∀b∈fp,b<s2.heap.objs.size) →
   (∀h' tk,(∀b o,b∉[it]→s2.heap.get? b=some o→h'.get? b=some o)→Inv X pins σ H {s2 with heap:=h',toks:=tk})→Q (.ref it) s2) :
  wpAny (model X.prog X.w) A (pyIter (.ref a)) Q E s:=by
 have fin:∀(ob:Obj) (h':Heap) (tk:Nat),(∀b o,b∉[s.heap.objs.size]→(s.heap.push ob).get? b=some o→h'.get? b=some o)→Inv X pins σ H {s with heap:=h',toks:=tk}:=fun ob h' tk hk =>
  I.kept fun b u e=>hk b u (by simp;exact AW (AI e)) (AC _ e)
 rcases hq with hq | hq
 ·obtain⟨z,its,n,hv,hl,hg⟩:=I.ls hq
  have hil:s.heap.IsList a its.toArray:=⟨_,hg,rfl,n,rfl⟩
  refine GM hil ?_
  have hne:a≠s.heap.objs.size:=AW (AI hg)
  have W:=Walks.list (prog:=X.prog) (w:=X.w) (A:=A) hh s.heap.objs.size a hne its.toArray
  simp only[AD,FL]at W
  refine h s.heap.objs.size _ its _ _ hv W ⟨⟨_,AN _ rfl,rfl,rfl⟩,hil.at fun o e=>AC _ e⟩ (fun b hb=>?_) (fun h' tk hk=>fin _ h' tk hk)
  simp only[AO,BJ,or_false]at hb
  rw[CW]
  rcases hb with rfl | rfl
  ·exact HD _
  ·exact FF (AI hg)
 ·obtain⟨its,hv,ht,hz⟩:=I.tuple hq
  have hit:s.heap.IsTuple a its.toArray:=ht
  refine DJ hit ?_
  obtain⟨o,ho,_⟩:=id hit
  have hne:a≠s.heap.objs.size:=AW (AI ho)
  have W:=Walks.tuple (prog:=X.prog) (w:=X.w) (A:=A) hh s.heap.objs.size a hne its.toArray
  simp only[AD,FL]at W
  refine h s.heap.objs.size _ its _ _ hv W ⟨⟨_,AN _ rfl,rfl,rfl⟩,hit.at fun o e=>AC _ e⟩ (fun b hb=>?_) (fun h' tk hk=>fin _ h' tk hk)
  simp only[AO,BJ,or_false]at hb
  rw[CW]
  rcases hb with rfl | rfl
  ·exact HD _
  ·exact FF (AI ho)
theorem xq (ns:List Int):∀k,k≤ns.length→preSum (fun i=>ns.getD i 0) k=(ns.take k).sum
 | 0,_=>by simp[preSum]
 | k+1,h=>by
  rw[preSum,xq ns k (by lia),List.take_succ,CS,AT,AA (by lia)]
  simp
theorem bt_sum {m:Mk} (hc:X.calm=true):fk X (.builtin "sum") (qt X.K (btD .sum m)):=by
 intro pins s σ H xs us Q I r ⟨ι,ds,μ,hS,hds,h⟩
 obtain⟨d,v,rfl,hv,h⟩:=jn hds h
 obtain⟨a,ns,rfl,hq,h⟩:=E2 hS hv h
 obtain⟨u,rfl,ru⟩:=vals1 r
 cases(show u=Value.ref a from ru)
 refine call_sum_walkG (p5 I hq (show X.A.in1.handled=none from I.ok.hd hc) fun it fp its St s2 hvs W st hfp hI=>?_)
 have hl:ns.length=its.length:=by have:=hvs.length;simpa using this
 refine⟨it,fp,[it],its.length,_,St,fun i=>ns.getD i 0,rfl,W,st,hfp,fun i w e=>?_,fun h' tk t' hk=>?_⟩
 ·have hi:i<ns.length:=by rw[hl];exact(AE.mp e).1
  obtain⟨u',e1,⟨t,e2⟩⟩:=hvs.get (i:=i) (x:=.int ns[i]) (by simp[AA hi])
  rw[e]at e1;cases e1
  exact⟨t,by rw[e2];simp[AT,AA hi]⟩
 ·refine⟨.int ns.sum,H,hI h' tk hk,⟨t',?_⟩,h.ok hS (by simp[IsD])⟩
  rw[←hl,xq ns ns.length (AF _),List.take_length]
theorem all_range (bs:List Bool):(List.range bs.length).all (fun i=>bs.getD i false)=bs.all id:=by
 induction bs with
 | nil=>rfl
 | cons b r ih=>rw[BH,FG,BB,EE,BB];exact congrArg _ ih
theorem any_range (bs:List Bool):(List.range bs.length).any (fun i=>bs.getD i false)=bs.any id:=by
 induction bs with
 | nil=>rfl
 | cons b r ih=>rw[BH,FG,CK,ID,CK];exact congrArg _ ih
theorem A5 {A:Around} {bs:List Bool} {its:List Value} (hvs:bq (bs.map V.bl) its):TruthOf X.prog X.w A (fun i v=>its[i]? = some v) (fun i=>bs.getD i false):=by
 intro i v s Q E e q
 have hl:bs.length=its.length:=by have:=hvs.length;simpa using this
 have hi:i<bs.length:=by rw[hl];exact(AE.mp e).1
 obtain⟨u',e1,e2⟩:=hvs.get (i:=i) (x:=.bl bs[i]) (by simp[AA hi])
 rw[e]at e1;cases e1
 cases(show v=Value.bool bs[i]from e2)
 refine CZ ?_
 simpa[AT,AA hi]using q
theorem bt_all {m:Mk} (hc:X.calm=true):fk X (.builtin "all") (qt X.K (btD .all m)):=by
 intro pins s σ H xs us Q I r ⟨ι,ds,μ,hS,hds,h⟩
 obtain⟨d,v,rfl,hv,h⟩:=jn hds h
 obtain⟨a,bs,rfl,hq,h⟩:=A4 hS hv h
 obtain⟨u,rfl,ru⟩:=vals1 r
 cases(show u=Value.ref a from ru)
 refine call_all_walk (p5 I hq (show X.A.in1.handled=none from I.ok.hd hc) fun it fp its St s2 hvs W st hfp hI=>?_)
 have hl:bs.length=its.length:=by have:=hvs.length;simpa using this
 refine⟨it,fp,[it],its.length,_,St,fun i=>bs.getD i false,rfl,W,st,A5 hvs,fun h' tk hk=>?_⟩
 refine⟨.bl (bs.all id),H,hI h' tk hk,?_,h.ok hS (by simp[IsD])⟩
 rw[←hl,all_range]
 rfl
theorem bt_any {m:Mk} (hc:X.calm=true):fk X (.builtin "any") (qt X.K (btD .any m)):=by
 intro pins s σ H xs us Q I r ⟨ι,ds,μ,hS,hds,h⟩
 obtain⟨d,v,rfl,hv,h⟩:=jn hds h
 obtain⟨a,bs,rfl,hq,h⟩:=A4 hS hv h
 obtain⟨u,rfl,ru⟩:=vals1 r
 cases(show u=Value.ref a from ru)
 refine call_any_walk (p5 I hq (show X.A.in1.handled=none from I.ok.hd hc) fun it fp its St s2 hvs W st hfp hI=>?_)
 have hl:bs.length=its.length:=by have:=hvs.length;simpa using this
 refine⟨it,fp,[it],its.length,_,St,fun i=>bs.getD i false,rfl,W,st,A5 hvs,fun h' tk hk=>?_⟩
 refine⟨.bl (bs.any id),H,hI h' tk hk,?_,h.ok hS (by simp[IsD])⟩
 rw[←hl,any_range]
 rfl
end
end Lp
namespace Lp
open PySem PySem.Spec PyProof.Rows L2
theorem zx {prog:Program} {w:World} {A:Around} {E:Value→Shared→Prop} {s:Shared} {t sl:Addr} {items:Array Value} {vl vu:Value} {lo hi:Option Int} {Q:Value→Shared→Prop} (ht:IsTup s.heap t items) (hs:s.heap.IsSliceOf sl vl vu .none) (pl:IsPart vl lo) (pu:IsPart vu hi)
  (hw:HT.sIx items.size 0 lo=0∧HT.sIx items.size items.size hi=items.size) (h:Q (.ref t) s):wpAny (model prog w) A (getItem (.ref t) (.ref sl)) Q E s:=by
 obtain⟨os,hos,hcs,hds⟩:=id hs
 have hTs:s.TypeIs (.ref sl) "slice":=⟨os,hos,hcs⟩
 unfold getItem
 try with_reducible refine DP ?_
 first | refine AB (AL ?_) | skip
 refine AB (wpAny_sequenceKey ht.typeIs (by decide) ?_)
 refine AB (BY (name:=Str.ofString "__getitem__") ht.typeIs BV
  (CM BV ht.typeIs entry_tuple_getitem ?_ (args_tuple_getitem _ _)))
 show wpAny _ _ (Builtin.Tuple.tupleItemsOf (.ref t)>>=_) _ _ s
 refine AB (tupleItemsOf_ ht ?_)
 refine AB (HJ hTs ?_)
 rw[if_pos (by decide)]
 refine AB (HT.kq hs pl pu ?_)
 have hyes:(((HT.sIx items.size 0 lo:Nat):Int)==0&&(1:Int)==1&&(HT.sIx items.size items.size hi-HT.sIx items.size 0 lo)==items.size)=true:=by
  rw[hw.1,hw.2];simp
 show wpAny _ _ (if(((HT.sIx items.size 0 lo:Nat):Int)==0&&(1:Int)==1&&(HT.sIx items.size items.size hi-HT.sIx items.size 0 lo)==items.size)=true then _ else _) _ _ s
 rw[if_pos hyes]
 refine AB ?_
 unfold Builtin.Tuple.tupleIsExact
 refine AB (HJ ht.typeIs (AL ?_))
 rw[if_pos (by decide)]
 exact AB (HM (AL ⟨_,rfl,AL h⟩))
section
variable {X : Cx} {φ : Phi} {pins : List (Addr × Obj)} {σ : St} {H : Hp} {s : Shared}
theorem Um {m:Mk}:SlR X (fun x lo hi H Q=>∃ι d μ,Sim X.K ι H μ∧IsD X.K ι H d x∧gq X.K (RD X.K) ι H (slD m d lo hi μ) Q):=by
 intro pins s σ H x v vl vu lo hi sl Q I rx hs pl pu ⟨ι,d,μ,hS,hd,h⟩
 unfold slD at h
 split at h
 ·rename_i ds
  obtain⟨a,xs,rfl,hq,hxs⟩:=g7 hd
  by_cases hw:HT.sIx xs.length 0 lo=0∧HT.sIx xs.length xs.length hi=xs.length
  ·cases(show v=Value.ref a from rx)
   obtain⟨its,r,ht,hz⟩:=I.tuple hq
   have hlen:its.toArray.size=xs.length:=by rw[AD];exact r.length.symm
   refine⟨"tuple",_,BV.lookup,ht.typeIs,zx ht hs pl pu (by rw[hlen];exact hw) ⟨.ref a,H,I,rfl,h.ok hS ?_⟩⟩
   have e1:∀n d o,Lp.sIx n d o=HT.sIx n d o:=fun n d o=>by cases o<;>rfl
   have ec:cut ds lo hi=ds:=by
    unfold cut
    rw[e1,e1,←hxs.length,hw.1,hw.2]
    simp[hxs.length]
   rw[ec]
   exact hd
  ·exact Pf pins s σ H _ v vl vu lo hi sl Q I rx hs pl pu ⟨a,xs,rfl,hq,hw,fun p hp=>uq hS (J8 hxs lo hi) h hp⟩
 ·split at h
  ·rename_i es
   obtain⟨a,xs,rfl,ha,hxs⟩:=ka hS hd es
   exact SlR.fq Me pins s σ H _ v vl vu lo hi sl Q I rx hs pl pu ⟨a,xs,rfl,ha.sq,fun p hp=>k7 hS (J8 hxs lo hi) h hp⟩
  ·exact h.elim
theorem PO.imp {e:Option Expr} {t t':TO} (h:PO X e t) (i:∀σ H Q,t' σ H Q→t σ H Q):PO X e t':=by
 intro pins s σ H Q I q
 exact h pins s σ H Q I (i _ _ _ q)
theorem Wy:PO X none (tEo X.K φ .no):=PO.imp Ma fun σv H Q ⟨ι,σ,μ,hS,hL,h⟩=>by
 simp only[evO]at h
 exact h.ok hS rfl
theorem Wz {e:Expr} {x:Ex} (he:PE X e (tE X.K φ x)):PO X (some e) (tEo X.K φ (.so x)):=PO.imp (Mb he) fun σv H Q ⟨ι,σ,μ,hS,hL,h⟩=>by
 simp only[evO]at h
 obtain⟨d,μ1,e1,h⟩:=h.bind
 refine⟨ι,σ,μ,hS,hL,?_⟩
 rw[e1]
 intro ι1 v H1 p1 x1 s1 d1
 cases d with
 | int i=>exact⟨i,dg d1,h ι1 (some i) H1 p1 x1 s1 rfl⟩
 | _=>exact h.elim
theorem W0 {e:Expr} {lo hi:Option Expr} {x:Ex} {xl xh:ExO} {m:Mk} {p2 pos:Pos} (he:PE X e (tE X.K φ x)) (hl:PO X lo (tEo X.K φ xl)) (hh:PO X hi (tEo X.K φ xh)):PE X (.Subscript e (.Slice lo hi none p2) pos) (tE X.K φ (.sl m x xl xh)) :=
 PE.imp (Hk Um he hl hh) fun σv H Q ⟨ι,σ,μ,hS,hL,h⟩=>by
  simp only[evE]at h
  obtain⟨d,μ1,e1,h⟩:=h.bind
  refine⟨ι,σ,μ,hS,hL,?_⟩
  rw[e1]
  intro ι1 v H1 p1 x1 s1 d1
  obtain⟨l,μ2,e2,h⟩:=h.bind
  refine⟨ι1,σ,μ1,s1,hL.mono p1 x1,?_⟩
  rw[e2]
  intro ι2 l' H2 p2 x2 s2 d2
  cases d2
  obtain⟨u,μ3,e3,h⟩:=h.bind
  refine⟨ι2,σ,μ2,s2,(hL.mono p1 x1).mono p2 x2,?_⟩
  rw[e3]
  intro ι3 u' H3 p3 x3 s3 d3
  cases d3
  exact⟨ι3,d,μ3,s3,IsD.mono p3 x3 _ _ (IsD.mono p2 x2 _ _ d1),h.mono ((p1.trans p2).trans p3) ((x1.trans x2).trans x3)⟩
noncomputable def oy:Cl→String
 | .int=>"int"
 | .bool=>"bool"
 | .tuple=>"tuple"
 | .list=>"list"
 | .str=>"str"
 | .own _=>""
noncomputable def uu:String→Cl→Bool
 | "bool",.int=>true
 | "bool",.bool=>true
 | "int",.int=>true
 | "str",.str=>true
 | "tuple",.tuple=>true
 | "list",.list=>true
 | _,_=>false
theorem qu (K:PySem.W.Frag) (t:String) (c:Cl) (hc:∀n,c≠.own n) (ht:t∈["NoneType","bool","int","str","tuple","list"]):PySem.W.kitOne K (.type t) (.type (oy c))=some (uu t c):=by
 simp only[AO,BJ,or_false]at ht
 rcases ht with rfl | rfl | rfl | rfl | rfl | rfl<;>cases c<;>first | rfl | exact absurd rfl (hc _)
theorem Qn {c:Cl} (hc:∀n,c≠.own n):fk X (.builtin "isinstance") (fun xs H Q=>∃ι d μ v,xs=[v,.ty (oy c)]∧Sim X.K ι H μ∧IsD X.K ι H d v∧gq X.K (RD X.K) ι H (Py c d μ) Q):=by
 intro pins s σ H xs us Q I r ⟨ι,d,μ,v,e,hS,hd,h⟩
 subst e
 obtain⟨u,w,rfl,ru,rw'⟩:=vals2 r
 cases(show w=Value.type (oy c)from rw')
 have key:∀(t:String),t∈["NoneType","bool","int","str","tuple","list"]→(∀tk,EP X pins σ Q (.bool (uu t c)) {s with toks:=tk})→PySem.W.kitOne X.K (.type t) (.type (oy c))=some (uu t c)∧∀tk,EP X pins σ Q (.bool (uu t c)) {s with toks:=tk}:=fun t ht hq=>⟨qu X.K t c hc ht,hq⟩
 have lst:∀a xs,v=.ref a→LsL X.K H a xs→Q (.bl (uu "list" c)) H→wpAny (model X.prog X.w) X.A (call (.builtin "isinstance") [u,.type (oy c)]) (EP X pins σ Q) X.xe s:=fun a xs e hq q=>by
  subst e
  cases(show u=Value.ref a from ru)
  obtain⟨z,its,n,hv,_,hg⟩:=I.ls hq
  exact EH PySem.W.kitx_list I.kIn ⟨_,hg,rfl⟩ (qu X.K "list" c hc (by decide)) (fun z=>nomatch z) fun tk=>⟨.bl (uu "list" c),H,I.tok tk,rfl,q⟩
 cases d with
 | non =>
  cases(show v=.non by simpa[IsD]using hd)
  cases(show u=Value.none from ru)
  refine EH PySem.W.kitx_none I.kIn True.intro (qu X.K "NoneType" c hc (by decide)) (fun z=>nomatch z) fun tk=>⟨.bl (uu "NoneType" c),H,I.tok tk,rfl,?_⟩
  cases c<;>first | exact absurd rfl (hc _) | exact h.ok hS (by simp[IsD,uu])
 | bl b =>
  cases xg hd
  cases(show u=Value.bool b from ru)
  refine EH PySem.W.kitx_bool I.kIn True.intro (qu X.K "bool" c hc (by decide)) (fun z=>nomatch z) fun tk=>⟨.bl (uu "bool" c),H,I.tok tk,rfl,?_⟩
  cases c<;>first | exact absurd rfl (hc _) | exact h.ok hS (by simp[IsD,uu])
 | int i =>
  cases dg hd
  obtain⟨t,rfl⟩:=(show ∃t,u=Value.int i t from ru)
  refine EH PySem.W.kitx_int I.kIn True.intro (qu X.K "int" c hc (by decide)) (fun z=>nomatch z) fun tk=>⟨.bl (uu "int" c),H,I.tok tk,rfl,?_⟩
  cases c<;>first | exact absurd rfl (hc _) | exact h.ok hS (by simp[IsD,uu])
 | str x =>
  cases(show v=.str x by simpa[IsD]using hd)
  obtain⟨t,rfl⟩:=(show ∃t,u=Value.str x t from ru)
  refine EH PySem.W.kitx_str I.kIn True.intro (qu X.K "str" c hc (by decide)) (fun z=>nomatch z) fun tk=>⟨.bl (uu "str" c),H,I.tok tk,rfl,?_⟩
  cases c<;>first | exact absurd rfl (hc _) | exact h.ok hS (by simp[IsD,uu])
 | tup ds =>
  obtain⟨a,xs,rfl,hq,hxs⟩:=g7 hd
  cases(show u=Value.ref a from ru)
  obtain⟨its,hv,⟨o,h1,h2,_⟩,hz⟩:=I.tuple hq
  refine EH PySem.W.kitx_tuple I.kIn ⟨o,h1,h2⟩ (qu X.K "tuple" c hc (by decide)) (fun z=>nomatch z) fun tk=>⟨.bl (uu "tuple" c),H,I.tok tk,rfl,?_⟩
  cases c<;>first | exact absurd rfl (hc _) | exact h.ok hS (by simp[IsD,uu])
 | lst ds =>
  obtain⟨a,xs,rfl,hq,hxs⟩:∃a xs,v=.ref a∧FzL X.K H a xs∧aj X.K ι H ds xs:=by simpa[IsD]using hd
  refine lst a xs rfl (.inr hq) ?_
  cases c<;>first | exact absurd rfl (hc _) | exact h.ok hS (by simp[IsD,uu])
 | loc n =>
  cases c with
  | list =>
   simp only[Py]at h
   split at h
   ·rename_i ds em
    obtain⟨a,xs,rfl,hq,hxs⟩:=ka (ds:=ds) hS hd (by simp[listOf,em])
    exact lst a xs rfl hq (h.ok hS (by simp[IsD,uu]))
   ·rename_i ds em
    obtain⟨a,xs,rfl,hq,hxs⟩:=ka (ds:=ds) hS hd (by simp[listOf,em])
    exact lst a xs rfl hq (h.ok hS (by simp[IsD,uu]))
   ·exact h.elim
  | own k=>exact absurd rfl (hc k)
  | _=>exact h.elim
theorem Uo {a:Expr} {xa:Ex} {c:Cl} {cn:Str} {p cp pos:Pos} (hc:∀n,c≠.own n) (ha:PE X a (tE X.K φ xa)) (hgi:Gl X "isinstance") (hmi:X.mg "isinstance"=none) (hgc:Gl X cn) (hmc:X.mg cn=none) (hbc:bootBuiltins cn=some (.type (oy c)))
  (hn:cn≠"__name__") (hd:(cn==("__debug__":Str))=false) (hs:starEach [a,.Name cn cp] X.env=(false,eval a X.env)::starEach [.Name cn cp] X.env) :
  PE X (.Call (.Name "isinstance" p) [a,.Name cn cp] [] pos) (tE X.K φ (.isi xa c)):=by
 have hb:PE X (.Name cn cp) (tC (.ty (oy c))):=Lz hgc hmc hbc rfl hn hd
 refine PE.imp (g9 (Qn hc) hgi hmi boot_isinstance (zi ha (zi hb Jy) hs) (by decide) (by decide) hs) fun σv H Q ⟨ι,σ,μ,hS,hL,h⟩=>?_
 simp only[evE]at h
 obtain⟨d,μ1,e1,h⟩:=h.bind
 refine⟨ι,σ,μ,hS,hL,?_⟩
 rw[e1]
 exact fun ι1 v H1 p1 x1 s1 d1=>⟨ι1,d,μ1,v,rfl,s1,d1,h.mono p1 x1⟩
end
end Lp
namespace Lp
open PySem PySem.Spec PyProof.Rows L2
section
variable {X : Cx} {φ : Phi} {pins : List (Addr × Obj)} {σ : St} {H : Hp} {s : Shared}
theorem Kd {K:PySem.W.Frag} {ι:List Addr} {μ:Sto} {n:Nat} {v:V} {ob:O} {xs:List D} (hS:Sim K ι H μ) (hd:IsD K ι H (.loc n) v) (e:μ[n]? = some ob) (hi:iu ob=some xs) :
  ∃a vs,v=.ref a∧ι[n]? = some a∧H a=some (.lst vs)∧aj K ι H xs vs∧(∀ds,ob=.l ds→aj K [] H xs vs):=by
 obtain⟨a,rfl,ha⟩:∃a,v=.ref a∧ι[n]? = some a:=by simpa[IsD]using hd
 obtain⟨a',ea,ho⟩:=hS.at e
 rw[ha]at ea;cases ea
 cases ob with
 | l ds =>
  cases hi
  obtain⟨vs,e1,e2⟩:=ho
  exact⟨a,vs,rfl,ha,e1,aj.mono (CG) (.refl _) _ _ e2,fun _ _=>e2⟩
 | r ds =>
  cases hi
  obtain⟨vs,e1,e2⟩:=ho
  exact⟨a,vs,rfl,ha,e1,e2,fun _ z=>by cases z⟩
 | d _=>cases hi
 | dt _=>cases hi
 | dead=>cases hi
theorem nh {K:PySem.W.Frag} {ι:List Addr} {μ:Sto} {n:Nat} {ob:O} {ys:List D} {vs ws:List V} {d:D} {v:V} {a:Addr} {Q:VK} (hS:Sim K ι H μ) (ha:ι[n]? = some a) (hH:H a=some (.lst vs))
  (hw:aj K ι H ys ws) (hw0:∀ds,ob=.l ds→aj K [] H ys ws) (hd:IsD K ι H d v) (h:gq K (RD K) ι H (putL n ob ys d μ) Q):Q v (upd H a (.lst ws)):=by
 cases ob with
 | l ds =>
  exact h ι v _ (AH _) (.lst hH) (hS.put ha (.lst hH) ⟨ws,a8,aj.mono (AH _) (.lst hH) _ _ (hw0 ds rfl)⟩) (IsD.mono (AH _) (.lst hH) _ _ hd)
 | r ds =>
  exact h ι v _ (AH _) (.lst hH) (hS.put ha (.lst hH) ⟨ws,a8,aj.mono (AH _) (.lst hH) _ _ hw⟩) (IsD.mono (AH _) (.lst hH) _ _ hd)
 | d _=>exact h.elim
 | dt _=>exact h.elim
 | dead=>exact h.elim
theorem xu {K:PySem.W.Frag} {ι:List Addr} {ob:O} {d:D} {v:V} (hf:fits ob d=true) (hd:IsD K ι H d v):∀ds,ob=.l ds→IsD K [] H d v:=fun ds e=>by
 subst e
 exact IsD.pur hf hd
noncomputable def rMt (K:PySem.W.Frag) (mt:Mt):V→List V→Hp→VK→Prop:=fun x vs H Q=>∃ι d ds μ,Sim K ι H μ∧IsD K ι H d x∧aj K ι H ds vs∧gq K (RD K) ι H (mtD mt d ds μ) Q
theorem M5 {mt:Mt} (hne:mt≠.count∧mt≠.countL∧mt≠.get) {x:V} {vs:List V} {Q:VK} (h:rMt X.K mt x vs H Q):∃ι n ob xs ds μ a ws,Sim X.K ι H μ∧aj X.K ι H ds vs∧x=.ref a∧ι[n]? = some a∧H a=some (.lst ws)∧aj X.K ι H xs ws ∧
  (∀es,ob=.l es→aj X.K [] H xs ws)∧gq X.K (RD X.K) ι H (mtL mt n ob xs ds μ) Q:=by
 obtain⟨ι,d,ds,μ,hS,hd,hds,h⟩:=h
 have e0:mtD mt d ds μ=um mt d ds μ:=by
  cases mt<;>first | exact absurd rfl hne.1 | exact absurd rfl hne.2.1 | exact absurd rfl hne.2.2 | rfl
 rw[e0]at h
 cases d with
 | loc n =>
  simp only[um]at h
  cases em:μ[n]? with
  | none=>rw[em]at h;exact h.elim
  | some ob =>
   rw[em]at h
   simp only at h
   cases ei:iu ob with
   | none=>rw[ei]at h;exact h.elim
   | some xs =>
    rw[ei]at h
    obtain⟨a,ws,ex,ha,hH,h1,h2⟩:=Kd hS hd em ei
    exact⟨ι,n,ob,xs,ds,μ,a,ws,hS,hds,ex,ha,hH,h1,h2,h⟩
 | _=>exact h.elim
theorem Ic:MtR X "list.append" (rMt X.K .append):=MtR.imp Eb fun x vs H Q h0=>by
 obtain⟨ι,n,ob,xs,ds,μ,a,ws,hS,hds,rfl,ha,hH,h1,h2,h⟩:=M5 (by decide) h0
 clear h0
 simp only[mtL]at h
 obtain⟨d,v,rfl,hv,h⟩:=jn hds h
 split at h
 ·rename_i hf
  rw[h9]at hf
  refine⟨a,ws,v,rfl,rfl,hH,by rw[h1.length];exact hf.2,nh hS ha hH (h1.append (.one hv)) (fun es e=>(h2 es e).append (.one (xu hf.1 hv es e))) (by simp[IsD]) h⟩
 ·exact h.elim
theorem Uq:MtR X "list.pop" (rMt X.K .pop):=by
 intro pins s σ H x vs v us Q I rx rv h0
 obtain⟨ι,n,ob,xs,ds,μ,a,ws,hS,hds,rfl,ha,hH,h1,h2,h⟩:=M5 (by decide) h0
 clear h0
 simp only[mtL]at h
 split at h
 ·have e:vs=[]:=by simpa[aj]using hds
  subst e
  split at h
  ·rename_i d ed
   have hl:xs[xs.length-1]? = some d:=by rw[←List.getLast?_eq_getElem?];exact ed
   obtain⟨w,ew,hw⟩:=h1.get hl
   refine Po pins s σ H _ _ v us Q I rx rv ⟨a,ws,w,rfl,rfl,hH,by rw[h1.length];exact ew,nh hS ha hH h1.dropLast (fun es e=>(h2 es e).dropLast) hw h⟩
  ·exact h.elim
 ·rename_i i
  obtain⟨w0,rfl,hw0⟩:=Kb hds
  cases dg hw0
  split at h
  ·rename_i hi
   rw[h9]at hi
   have h24:sizeLine=16777216:=DF
   rw[h24]at hi
   split at h
   ·rename_i d ed
    obtain⟨w,ew,hw⟩:=h1.get ed
    have hlt:i.toNat<xs.length:=(AE.mp ed).1
    refine Hl pins s σ H _ _ v us Q I rx rv ⟨a,ws,i,i.toNat,w,rfl,rfl,hH,by lia,by lia,?_,ew,nh hS ha hH (h1.eraseIdx _) (fun es e=>(h2 es e).eraseIdx _) hw h⟩
    rw[h1.length]
    exact PySem.StrLaws.seqIndex_nonneg hi.1 (by lia)
   ·exact h.elim
  ·exact h.elim
 ·exact h.elim
end
end Lp
namespace Lp
open PySem PySem.Spec PyProof.Rows L2
theorem IsD.belowN {K:PySem.W.Frag} {ι ι':List Addr} {H:Hp} (hp:ι <+: ι'):∀(k:Nat) (d:D) (v:V),D.belowN ι.length k d=true→IsD K ι' H d v→IsD K ι H d v:=by
 have list:∀(k:Nat),(∀(d:D) (v:V),D.belowN ι.length k d=true→IsD K ι' H d v→IsD K ι H d v) →
   ∀(ds:List D) (xs:List V),ds.all (D.belowN ι.length k)=true→aj K ι' H ds xs→aj K ι H ds xs:=by
  intro k ih ds
  induction ds with
  | nil=>intro xs _ h;simpa[aj]using h
  | cons d ds ihd =>
   intro xs hp h
   simp only[aj]at h ⊢
   simp only[BB,BA]at hp
   obtain⟨v,r,e,q,t⟩:=h
   exact⟨v,r,e,ih d v hp.1 q,ihd r hp.2 t⟩
 have loc:∀(n:Nat) (v:V),n<ι.length→IsD K ι' H (.loc n) v→IsD K ι H (.loc n) v:=fun n v hn h=>by
  simp only[IsD]at h ⊢
  obtain⟨a,e,q⟩:=h
  obtain⟨t,rfl⟩:=hp
  rw[AV hn]at q
  exact⟨a,e,q⟩
 intro k
 induction k with
 | zero =>
  intro d v hb h
  cases d with
  | loc n=>exact loc n v (by simpa[D.belowN]using hb) h
  | tup ds=>simp[D.belowN]at hb
  | lst ds=>simp[D.belowN]at hb
  | _=>simpa[IsD]using h
 | succ k ih =>
  intro d v hb h
  cases d with
  | tup ds =>
   simp only[D.belowN]at hb
   simp only[IsD]at h ⊢
   obtain⟨a,xs,e,q,r⟩:=h
   exact⟨a,xs,e,q,list k ih ds xs hb r⟩
  | lst ds =>
   simp only[D.belowN]at hb
   simp only[IsD]at h ⊢
   obtain⟨a,xs,e,q,r⟩:=h
   exact⟨a,xs,e,q,list k ih ds xs hb r⟩
  | loc n=>exact loc n v (by simpa[D.belowN]using hb) h
  | _=>simpa[IsD]using h
theorem aj.belowN {K:PySem.W.Frag} {ι ι':List Addr} {H:Hp} (hp:ι <+: ι') {k:Nat}:∀(ds:List D) (xs:List V),ds.all (D.belowN ι.length k)=true→aj K ι' H ds xs→aj K ι H ds xs
 | [],xs,_,h=>by simpa[aj]using h
 | d::ds,xs,hb,h=>by
  simp only[aj]at h ⊢
  simp only[BB,BA]at hb
  obtain⟨v,r,e,q,t⟩:=h
  exact⟨v,r,e,IsD.belowN hp k d v hb.1 q,aj.belowN hp ds r hb.2 t⟩
theorem Sim.cut {K:PySem.W.Frag} {ι ι':List Addr} {H:Hp} {μ:Sto} (h:Sim K ι' H μ) (hp:ι <+: ι') (hc:(μ.take ι.length).all (iz ι.length)=true):Sim K ι H (μ.take ι.length):=by
 have hl:ι.length≤μ.length:=by rw[←h.len];exact hp.length_le
 refine⟨by rw[CT];lia,hp.sublist.nodup h.nd,fun n a o e1 e2=>?_⟩
 have hn:n<ι.length:=(AE.mp e1).1
 have e1':ι'[n]? = some a:=by
  obtain⟨t,rfl⟩:=hp
  rw[AV hn];exact e1
 have e2':μ[n]? = some o:=by
  rw[GQ hn]at e2;exact e2
 have q:=h.obj n a o e1' e2'
 have c:iz ι.length o=true:=AM.mp hc o (CB e2)
 cases o with
 | l ds=>exact q
 | r ds =>
  obtain⟨xs,e,r⟩:=q
  exact⟨xs,e,aj.belowN hp ds xs c r⟩
 | d kvs=>exact q
 | dt kvs=>exact q
 | dead=>exact q
theorem E3 {K:PySem.W.Frag} {ι:List Addr} {H:Hp} {μ:Sto} {keep:Bool} {r:Res D} {Q:VK} (hS:Sim K ι H μ) (h:gq K (RD K) ι H (o6 keep μ.length r) Q):gq K (RD K) ι H r Q:=by
 cases r with
 | exc c ds μ'=>exact h
 | stuck=>exact h
 | ok d μ' =>
  cases keep with
  | true=>simpa[o6]using h
  | false =>
   simp only[o6,BD,if_false]at h
   split at h
   ·rename_i hc
    rw[←hS.len]at hc h
    exact fun ι' v H' p e s q=>h ι v H' (AH _) e (s.cut p hc.2) (IsD.belowN p 8 d v hc.1 q)
   ·exact h.elim
noncomputable def spD (K:PySem.W.Frag) (φ:Phi) (f:Nat):Sp:=fun vs H Q _=>∃ι ds μ,Sim K ι H μ∧aj K ι H ds vs∧gq K (RD K) ι H (φ f ds μ) Q
noncomputable def Callee (P:Program) (w:World) (K:PySem.W.Frag) (mg:Str→Option Value) (base:Heap) (A:Around) (φ:Phi) (f:Nat) (x:Str):Prop :=
 ∃(k:Nat) (fa:Addr) (fd:FuncData) (ps:List Str),FnOk P w K mg base CX0 k fa fd ps (spD K φ f)∧Room k A∧mg x=some (.ref fa)∧PySem.W.keepIn K (.ref fa)=true∧Binds K fd ps []
section
variable {X : Cx} {φ : Phi} {x : Str} {p pos : Pos} {e : Expr} {es : List Expr} {xs : Exs} {f : Nat} {keep : Bool}
theorem s_call (C:Callee X.prog X.w X.K X.mg X.base X.A φ f x) (hg:Gl X x) (ha:PA X (e::es) (tEs X.K φ xs)) (hdb:(x==("__debug__":Str))=false)
  (he:starEach (e::es) X.env=(false,eval e X.env)::starEach es X.env) (hpl:(backTo pos (starEach es X.env)).any (·.1)=false):PE X (.Call (.Name x p) (e::es) [] pos) (tE X.K φ (.call keep f xs)):=by
 obtain⟨k,fa,fd,ps,F,hr,hm,hk,hb⟩:=C
 refine PE.imp (L8 F hr hg hm hk hb .nil Tx ha hdb he hpl) fun σv H Q ⟨ι,σ,μ,hS,hL,h⟩=>?_
 simp only[evE]at h
 obtain⟨ds,μ1,e1,h⟩:=h.bind
 refine⟨ι,σ,μ,hS,hL,?_⟩
 rw[e1]
 intro ι1 vs H1 p1 x1 s1 d1
 exact⟨ι1,ds,μ1,s1,by rw[EU];exact d1,E3 s1 (h.mono p1 x1)⟩
end
theorem M6 {P:Program} {w:World} {K:PySem.W.Frag} {mg:Str→Option Value} {base:Heap} {x qual:Str} {st:Stmt} {fa:Addr} {fd:FuncData} {N ps:List Str} {n f:Nat} {T:List Df} {df:Df} (F:Fun K x qual st fa fd) (S:FnScope N ps (ak st))
  (hd:T[f]? = some df) (hnp:df.np=ps.length) (hnn:df.nn=N.length)
  (hb:∀(cdv:Value) (A:Around) (outer:List Env) (s:Shared) (H:Hp) (E:XK),Room n (A.deeper (envOfC qual (ak st) s.heap.objs.size fa cdv)) →
   PSs (Jz CX0 P w K mg base N qual (ak st) fa cdv A outer s H E).nox (az st) (tSs K (ar T n) df.body)):FnOk P w K mg base CX0 (n+1) fa fd ps (spD K (ar T (n+1)) f):=by
 have len:∀{vs:List V} {H:Hp} {ds:List D} {ι:List Addr} {μ:Sto} {Q:VK},aj K ι H ds vs→gq K (RD K) ι H (ar T (n+1) f ds μ) Q→ds.length=df.np:=fun {vs H ds ι μ Q} hds h=>by
  simp only[ar,hd,Oo]at h
  split at h
  ·assumption
  ·exact h.elim
 refine F.ok S (fun vs H Q E ⟨ι,ds,μ,hS,hds,h⟩=>?_) fun cdv A outer s H vs Q E hr ⟨ι,ds,μ,hS,hds,h⟩=>⟨_,hb cdv A outer s H E hr,?_⟩
 ·rw[hds.length,len hds h,hnp]
 ·have hl:=len hds h
  refine⟨ι,ds.map some++List.replicate (df.nn-df.np) none,μ,hS,fun i d e=>?_,?_,?_⟩
  ·by_cases hi:i<ds.length
   ·rw[AV (by simpa using hi),AX]at e
    cases ed:ds[i]? with
    | none=>rw[ed]at e;cases e
    | some d' =>
     rw[ed]at e
     simp only[HS,BN]at e
     subst e
     obtain⟨v,ev,hv⟩:=hds.get ed
     refine⟨v,?_,hv⟩
     unfold L2.start
     rw[AV (by rw[AG,hds.length];exact hi),AX,ev]
     rfl
   ·rw[BM (by simpa using hi),Da]at e
    split at e<;>cases e
  ·unfold L2.start
   simp only[CC,AG,HU,hds.length]
   lia
  ·simp only[ar,hd,Oo,if_pos hl]at h
   cases er:n4 (ar T n) df.body (ds.map some++List.replicate (df.nn-df.np) none) μ with
   | exc c es μ'=>rw[er]at h;exact h.elim
   | stuck=>rw[er]at h;exact h.elim
   | ok fl μ' =>
    rw[er]at h
    simp only[Res.ba]at h
    cases fl with
    | nx σ'=>exact fun ι' σv H' p e s' l z=>h ι' .non H' p e s' (by simp[IsD])
    | rt d=>exact fun ι' v H' p e s' q=>h ι' v H' p e s' q
    | bk σ'=>exact h.elim
    | ct σ'=>exact h.elim
theorem M7 {P:Program} {w:World} {K:PySem.W.Frag} {mg:Str→Option Value} {base:Heap} {fa:Addr} {fd:FuncData} {ps:List Str} {f:Nat} {T:List Df}:FnOk P w K mg base CX0 0 fa fd ps (spD K (ar T 0) f) :=
 ⟨fun vs H Q E ⟨ι,ds,μ,hS,hds,h⟩=>h.elim,fun A outer s H args us vs Q E hr he hb hv ⟨ι,ds,μ,hS,hds,h⟩=>h.elim⟩
structure Ent where
 id:Nat
 name:Str
 st:Stmt
 N:List Str
 ps:List Str
 df:Df
structure ModOf (K:PySem.W.Frag) (mg:Str→Option Value) (e:Ent):Prop where
 ex:∃(fa:Addr) (fd:FuncData),mg e.name=some (.ref fa)∧Fun K e.name e.name e.st fa fd∧∀us:List Value,us.length=e.ps.length→bindArgs fd ⟨us,[]⟩=pure (e.ps.zip us)
theorem cf {K:PySem.W.Frag} {h:Heap} {mg:Str→Option Value} {e:Ent} {f:Addr} {oc:Value} {od an:Option Addr} {sl:Array (Option Value)} {kV dc pm cd ct:Value} (X:K.In h) (G:h.Ns mainGlobals mg) (a:PySem.W.nsIn K mainGlobals e.name=some (some (.ref f)))
  (l:K.lookup f=some ⟨oc,od,.func (PySem.W.fnOf e.name e.name (a9 e.st) (az e.st) (ak e.st) .none kV dc pm an cd ct),sl⟩) (c:PySem.W.codeIn K cd e.name=true) (k:PySem.W.keepIn K (.ref f)=true)
  (hb:∀(kV doc pm:Value) (an:Option Addr) (cdv ct:Value) (us:List Value),us.length=e.ps.length→bindArgs (PySem.W.fnOf e.name e.name (a9 e.st) (az e.st) (ak e.st) .none kV doc pm an cdv ct) ⟨us,[]⟩=pure (e.ps.zip us)):ModOf K mg e :=
 ⟨f,_,PySem.W.mg_of X G a,Pt l c k,hb kV dc pm an cd ct⟩
structure Derived (T:List Df) (P:Program) (w:World) (K:PySem.W.Frag) (mg:Str→Option Value) (base:Heap) (es:List Ent) (e:Ent):Prop where
 sc:FnScope e.N e.ps (ak e.st)
 tb:T[e.id]? = some e.df
 np:e.df.np=e.ps.length
 nn:e.df.nn=e.N.length
 dv:∀(n:Nat) (fa:Addr) (cdv:Value) (A:Around) (outer:List Env) (s:Shared) (H:Hp) (E:XK),(A.deeper (envOfC e.name (ak e.st) s.heap.objs.size fa cdv)).units+64<cLine →
  (∀(j:Nat) e',es[j]? = some e'→Callee P w K mg base (A.deeper (envOfC e.name (ak e.st) s.heap.objs.size fa cdv)) (ar T n) e'.id e'.name) →
  PSs (Jz CX0 P w K mg base e.N e.name (ak e.st) fa cdv A outer s H E).nox (az e.st) (tSs K (ar T n) e.df.body)
theorem Ke {T:List Df} {P:Program} {w:World} {K:PySem.W.Frag} {mg:Str→Option Value} {base:Heap} {es:List Ent} (M:∀(j:Nat) e,es[j]? = some e→ModOf K mg e) (Dv:∀(j:Nat) e,es[j]? = some e→Derived T P w K mg base es e) :
  ∀(n:Nat) (j:Nat) e,es[j]? = some e→∀(fa:Addr) (fd:FuncData),mg e.name=some (.ref fa)→Fun K e.name e.name e.st fa fd→FnOk P w K mg base CX0 n fa fd e.ps (spD K (ar T n) e.id)
 | 0,j,e,_,fa,fd,_,_=>M7
 | n+1,j,e,he,fa,fd,hm,hF=>by
  have d:=Dv j e he
  refine M6 hF d.sc d.tb d.np d.nn fun cdv A outer s H E hr=>d.dv n fa cdv A outer s H E hr.units fun i e' he'=>?_
  obtain⟨fa',fd',hm',hF',hb'⟩:=(M i e' he').ex
  exact⟨n,fa',fd',e'.ps,Ke M Dv n i e' he' fa' fd' hm' hF',hr,hm',hF'.kp,.all hb'⟩
noncomputable def Ie (K:PySem.W.Frag):Sp:=fun vs H Q _=>∃(a:Addr) (ns:List Int),vs=[.ref a]∧FzL K H a (ns.map V.int)∧ns.length≤63∧∀H',Q (.bl true) H'
theorem Qo {T:List Df} {P:Program} {w:World} {K:PySem.W.Frag} {mg:Str→Option Value} {base:Heap} {es:List Ent} {n j:Nat} {e:Ent} {fa:Addr} {fd:FuncData} (M:∀(j:Nat) e,es[j]? = some e→ModOf K mg e) (Dv:∀(j:Nat) e,es[j]? = some e→Derived T P w K mg base es e)
  (he:es[j]? = some e) (hm:mg e.name=some (.ref fa)) (hF:Fun K e.name e.name e.st fa fd) (hps:e.ps.length=1)
  (hlaw:∀ns:List Int,ns.length≤63→∃μ',ar T n e.id [.lst (ns.map D.int)] []=.ok (.bl true) μ'):FnOk P w K mg base CX0 n fa fd e.ps (Ie K):=by
 refine(Ke M Dv n j e he fa fd hm hF).imp fun vs H Q E ⟨a,ns,ev,hS,hl,q⟩=>?_
 subst ev
 obtain⟨μ',el⟩:=hlaw ns hl
 refine⟨[],[.lst (ns.map D.int)],[],⟨rfl,List.nodup_nil,fun n a o e1 e2=>by simp at e1⟩,?_,?_⟩
 ·simp only[aj,IsD]
  exact⟨.ref a,[],rfl,⟨a,_,rfl,hS,aj.ints ns⟩,rfl⟩
 ·rw[el]
  intro ι' v H' p x s' d
  have ev:v=.bl true:=by simpa[IsD]using d
  subst ev
  exact q H'
theorem M8 {T:List Df} {P:Program} {w:World} {K:PySem.W.Frag} {mg:Str→Option Value} {es:List Ent} {n j:Nat} {e:Ent} {fa:Addr} (M:∀(j:Nat) e,es[j]? = some e→ModOf K mg e) (Dv:∀(base:Heap) (j:Nat) e,es[j]? = some e→Derived T P w K mg base es e)
  (he:es[j]? = some e) (hfa:mg e.name=some (.ref fa)) (hps:e.ps=[("script":Str)])
  (hlaw:∀ns:List Int,ns.length≤63→∃μ',ar T n e.id [.lst (ns.map D.int)] []=.ok (.bl true) μ') :
  ∃fd:FuncData,(∀(s:Shared) (v:Value),BindsTo s fd ⟨[v],[]⟩ [("script",v)])∧∀base:Heap,K.In base→base.Ns mainGlobals mg→FnOk P w K mg base CX0 n fa fd ["script"] (Ie K):=by
 obtain⟨fa',fd,hm,hF,hb⟩:=(M j e he).ex
 have z:=hfa.symm.trans hm
 cases z
 rw[hps]at hb
 refine⟨fd,fun s v=>.of_eq (hb [v] rfl),fun base _ _=>?_⟩
 have q:=Qo M (Dv base) he hm hF (by rw[hps];rfl) hlaw
 rw[hps]at q
 exact q
theorem Ig {l:PySem.W.OpenLaw} {n:Nat} {q:Program} {loose:List Str} {XP:(Str→Option Value)→Heap→Prop} {YP:World→Heap→Prop} {d:DefRec} {K:Params→PySem.W.Frag} (hr:Room n callerA) (hn:l.most=some 63) (hdf:d.params.defaults=[])
  (hY:∀(w:World) (h:Heap),YP w h→(K w.params).In h)
  (F:∀(w:World) (mg:Str→Option Value) (fa:Addr) (h:Heap),(K w.params).In h→h.Ns mainGlobals mg→mg d.name=some (.ref fa) →
   ∃fd:FuncData,(∀(s:Shared) (u:Value),BindsTo s fd ⟨[u],[]⟩ [("script",u)])∧∀base:Heap,(K w.params).In base→base.Ns mainGlobals mg→FnOk l.prog w (K w.params) mg base CX0 n fa fd ["script"] (Ie (K w.params))) :
  PySem.W.WalkO q loose XP YP l.row.toRowW d [] (fun f vs=>PySem.call f vs) :=
 L2.Mj (n:=63) (k:=n) (x:="script") (CX:=fun _=>CX0) (sp:=fun w=>Ie (K w.params)) hn (by decide) hdf hr hY F (fun _ _ a ns hl _ hS=>⟨a,ns,rfl,hS,hl,fun _=>rfl⟩) fun _ _ _ _ _ z=>z
end Lp
namespace Lp
open PySem PySem.Spec PyProof.Rows L2
noncomputable def Exs.len:Exs→Nat
 | .nil=>0
 | .cons _ r=>r.len+1
theorem uv {φ:Phi}:∀{xs:Exs} {σ:Sl} {μ:Sto} {ds:List D} {μ':Sto},gw φ xs σ μ=.ok ds μ'→ds.length=xs.len
 | .nil,σ,μ,ds,μ',h=>by
  simp only[gw]at h
  cases h;rfl
 | .cons e r,σ,μ,ds,μ',h=>by
  simp only[gw]at h
  cases e1:evE φ e σ μ with
  | exc _ _ _=>rw[e1]at h;cases h
  | stuck=>rw[e1]at h;cases h
  | ok d μ1 =>
   rw[e1]at h
   simp only[Res.ba]at h
   cases e2:gw φ r σ μ1 with
   | exc _ _ _=>rw[e2]at h;cases h
   | stuck=>rw[e2]at h;cases h
   | ok es μ2 =>
    rw[e2]at h
    cases h
    simp[Exs.len,uv e2]
noncomputable def A6 (sc scope:Scope) (N Nb:List Str) (cap:List Nat) (nl:Nat):Bool :=
 decide (scope.kind=.function)&&scope.names.all (fun y=>decide (y.2≠.cell)&&decide (scope.names.lookup y.1=some y.2)
  && (!decide (y.2=.free) || decide (sc.names.lookup y.1=some .cell) || decide (sc.names.lookup y.1=some .free)))
 && decide Nb.Nodup&&decide (Nb.length=cap.length+nl)
 && (List.range cap.length).all (fun j=>match cap[j]?,Nb[j]? with
  | some i,some x=>decide (N[i]? = some x)&&scope.names.any fun y=>decide (y.1=x)&&decide (y.2=.free)
  | _,_=>false)
theorem lookup_mem {l:List (Str×NameKind)} {n:Str} {k:NameKind} (h:l.lookup n=some k):(n,k)∈l:=by
 induction l with
 | nil=>cases h
 | cons a r ih =>
  obtain⟨m,j⟩:=a
  rw[DW]at h
  cases hb:n==m with
  | true =>
   rw[hb]at h
   cases h
   have:n=m:=by simpa using hb
   subst this
   exact AS
  | false =>
   rw[hb]at h
   exact AJ _ (ih h)
theorem qw {scope:Scope} {env:Env} {n:Str} {k:NameKind} (h:(n,k)∈(relabel scope env).names):(n,k)∈scope.names∨(k=.cell∧(n,NameKind.free)∈scope.names):=by
 have h2:(n,k)∈scope.names.map (fun(n,k)=>if(k==NameKind.free&&env.scope.kind==.function&&env.kindOf n==some .cell)then(n,NameKind.cell)else(n,k)):=h
 obtain⟨⟨m,j⟩,hm,e⟩:=AZ.mp h2
 dsimp only at e
 split at e
 ·rename_i hc
  cases e
  simp only[BA,beq_iff_eq]at hc
  obtain⟨⟨rfl,_⟩,_⟩:=hc
  exact .inr ⟨rfl,hm⟩
 ·cases e
  exact .inl hm
theorem tw {sc scope:Scope} {N Nb:List Str} {cap:List Nat} {nl:Nat} (h:A6 sc scope N Nb cap nl=true):CompScope sc scope N Nb cap nl:=by
 simp only[A6,BA,AM,decide_eq_true_eq,Bool.or_eq_true,Bool.not_eq_true',decide_eq_false_iff_not]at h
 obtain⟨⟨⟨⟨h1,h2⟩,h3⟩,h4⟩,h5⟩:=h
 refine⟨h1,fun y hy=>(h2 y hy).1.1,fun y hy=>(h2 y hy).1.2,fun n hn=>?_,fun n hn=>?_,h3,h4,fun j i e=>?_⟩
 ·rcases(h2 (n,.free) hn).2 with(z | z) | z
  ·exact absurd rfl z
  ·exact .inl z
  ·exact .inr z
 ·rcases hn with hn | hn
  ·rcases qw (lookup_mem hn)with z | z
   ·exact absurd rfl (h2 _ z).1.1
   ·exact z.2
  ·rcases qw (lookup_mem hn)with z | z
   ·exact z
   ·exact z.2
 ·have hj:j<cap.length:=(AE.mp e).1
  have q:=h5 j (List.mem_range.mpr hj)
  rw[e]at q
  cases ex:Nb[j]? with
  | none=>rw[ex]at q;simp at q
  | some x =>
   rw[ex]at q
   simp only[BA,decide_eq_true_eq,FM]at q
   obtain⟨q1,⟨y,k⟩,hy,e1,e2⟩:=q
   dsimp only at e1 e2
   subst e1;subst e2
   exact⟨y,rfl,q1,hy⟩
noncomputable def ndB (l:List Str):Bool:=decide l.Nodup
theorem A7 {l:List Str} (h:ndB l=true):l.Nodup:=of_decide_eq_true h
section
variable {X : Cx} {φ : Phi} {a b c e : Expr} {es : List Expr} {xa xb xc xe : Ex} {xs : Exs} {pos : Pos}
theorem aa (i:Nat) {x:Str} (hN:X.N[i]? = some x:=by rfl) (hv:Vis X.env.scope x:=by first | exact Or.inl rfl | exact Or.inr (Or.inl rfl) | exact Or.inr (Or.inr rfl)) (hd:(x==("__debug__":Str))=false:=by decide)
  (hcd:(x==("__classdict__":Str))=false:=by decide):PE X (.Name x pos) (tE X.K φ (.var i)):=T2 hN hv hd hcd
theorem E4 (i:Nat) {x:Str} (hN:X.N[i]? = some x:=by rfl) (hv:Vis X.env.scope x:=by first | exact Or.inl rfl | exact Or.inr (Or.inl rfl) | exact Or.inr (Or.inr rfl)) (hd:(x==("__debug__":Str))=false:=by decide)
  (hcd:(x==("__classdict__":Str))=false:=by decide):PE X (.Name x pos) (tE X.K φ (.frz i)):=Uj hN hv hd hcd
theorem ah {i:Int} {j:Nat}:PE X (.Constant (.int i) j pos) (tE X.K φ (.cst (.int i))):=T3
theorem Ih {i:Bool} {j:Nat}:PE X (.Constant (.bool i) j pos) (tE X.K φ (.cst (.bl i))):=Wt
theorem Ii {j:Nat}:PE X (.Constant .none j pos) (tE X.K φ (.cst .non)):=T4
theorem x5 {i:Str} {j:Nat}:PE X (.Constant (.str i) j pos) (tE X.K φ (.cst (.str i))):=T5
theorem af:PA X [] (tEs X.K φ .nil):=El
theorem ae (ha:PE X a (tE X.K φ xa)) (hb:PA X es (tEs X.K φ xs)) (hs:starEach (a::es) X.env=(false,eval a X.env)::starEach es X.env:=by rfl):PA X (a::es) (tEs X.K φ (.cons xa xs)):=qj ha hb hs
theorem aq {op:Operator} {m:Mk} (ha:PE X a (tE X.K φ xa)) (hb:PE X b (tE X.K φ xb)):PE X (.BinOp a op b pos) (tE X.K φ (.bin op m xa xb)):=T6 Qc ha hb
theorem Qp (ha:PE X a (tE X.K φ xa)):PE X (.UnaryOp .Not a pos) (tE X.K φ (.not xa)):=P0 ha
theorem Ur {rest:List Expr} (ha:PE X a (tE X.K φ xa)) (hb:PE X (.BoolOp .And (b::rest) pos) (tE X.K φ xb)):PE X (.BoolOp .And (a::b::rest) pos) (tE X.K φ (.and xa xb)):=P1 ha hb
theorem W1 {rest:List Expr} (ha:PE X a (tE X.K φ xa)) (hb:PE X (.BoolOp .Or (b::rest) pos) (tE X.K φ xb)):PE X (.BoolOp .Or (a::b::rest) pos) (tE X.K φ (.or xa xb)):=T9 ha hb
theorem Qq {t:TE} (h:PE X a t):PE X (.BoolOp .And [a] pos) t:=Jv h
theorem Us {t:TE} (h:PE X a t):PE X (.BoolOp .Or [a] pos) t:=Jv h
theorem mh {k:Nat} (h:PA X es (tEs X.K φ xs)) (hl:xs.len≤1000:=by decide):PE X (.Tuple es k pos) (tE X.K φ (.tup xs)):=T7 h fun σ μ ds μ' e=>by
 rw[uv e];exact EM (wz hl)
theorem o7 {m:Mk} (h:PA X es (tEs X.K φ xs)) (hl:xs.len≤1000:=by decide):PE X (.List es pos) (tE X.K φ (.lst m xs)):=Ui h fun σ μ ds μ' e=>by
 rw[uv e];exact EM (wz hl)
theorem c8 (ha:PE X a (tE X.K φ xa)) (hb:PE X b (tE X.K φ xb)) (hs:zk b:=by intro _ _;rfl):PE X (.Subscript a b pos) (tE X.K φ (.ix xa xb)):=Wu Uk ha hb hs
theorem Ij:PO X none (tEo X.K φ .no):=Wy
theorem Ik (he:PE X e (tE X.K φ xe)):PO X (some e) (tEo X.K φ (.so xe)):=Wz he
theorem Il {lo hi:Option Expr} {xl xh:ExO} {m:Mk} {p2:Pos} (he:PE X e (tE X.K φ xe)) (hl:PO X lo (tEo X.K φ xl)) (hh:PO X hi (tEo X.K φ xh)):PE X (.Subscript e (.Slice lo hi none p2) pos) (tE X.K φ (.sl m xe xl xh)):=W0 he hl hh
theorem x6 (hu:X.A.units+64<cLine) (op:Cp) (he:PE X e (tE X.K φ xe)):PCh X [opOf op] [e] (tCh X.K φ (.cons op xe .nil)):=Mz (Ez op (by lia)) he
theorem gu (hu:X.A.units+64<cLine) (op:Cp) (he:PE X e (tE X.K φ xe)):PTh X [opOf op] [e] (tTh X.K φ (.cons op xe .nil)):=M1 (Ez op (by lia)) he
theorem Qr (hu:X.A.units+64<cLine) (op:Cp) {op':Cp} {e':Expr} {ops:List CmpOp} {xe':Ex} {r:Cps} (he:PE X e (tE X.K φ xe)) (hr:PTh X (opOf op'::ops) (e'::es) (tTh X.K φ (.cons op' xe' r))) :
  PTh X (opOf op::opOf op'::ops) (e::e'::es) (tTh X.K φ (.cons op xe (.cons op' xe' r))):=M3 (Ez op (by lia)) he hr
theorem x8 {ops:List CmpOp} {r:Cps} (ha:PE X a (tE X.K φ xa)) (hr:PCh X ops es (tCh X.K φ r)) (hm:lastMarks ops es=false:=by rfl):PE X (.Compare a ops es pos) (tE X.K φ (.cmp xa r)):=Ul ha hr hm
theorem c9 {ops:List CmpOp} {r:Cps} (ha:PE X a (tE X.K φ xa)) (hr:PTh X ops es (tTh X.K φ r)) (hm:lastMarks ops es=false:=by rfl):PT X (.Compare a ops es pos) (tT X.K φ (.cmp xa r)):=Qk ha hr hm
theorem mj (ha:PE X a (tE X.K φ xa)) (he:∀whole,isTrue a X.env whole=(do let v ←whole;standAt a.pos;holding [v] (truthy v)):=by intro _;rfl):PT X a (tT X.K φ xa):=Mq ha he
theorem ya (ha:PT X a (tT X.K φ xa)):PT X (.UnaryOp .Not a pos) (tT X.K φ (.not xa)):=Pz ha
theorem E5 (ha:PT X a (tT X.K φ xa)):PW X (.BoolOp .And [a] pos) (tT X.K φ xa):=L0 ha
theorem E6 (ha:PT X a (tT X.K φ xa)):PW X (.BoolOp .Or [a] pos) (tT X.K φ xa):=Oy ha
theorem Kf {rest:List Expr} (ha:PT X a (tT X.K φ xa)) (hb:PW X (.BoolOp .And (b::rest) pos) (tT X.K φ xb)):PW X (.BoolOp .And (a::b::rest) pos) (tT X.K φ (.and xa xb)):=P2 ha hb
theorem Im {rest:List Expr} (ha:PT X a (tT X.K φ xa)) (hb:PW X (.BoolOp .Or (b::rest) pos) (tT X.K φ xb)):PW X (.BoolOp .Or (a::b::rest) pos) (tT X.K φ (.or xa xb)):=Ua ha hb
theorem Qs {t:TT} (h:PW X a t):PT X a t:=h.pt
theorem av {x:Str} {p:Pos} {f:Nat} {keep:Bool} (C:Callee X.prog X.w X.K X.mg X.base X.A φ f x) (ha:PA X (e::es) (tEs X.K φ xs)) (hg:Gl X x:=by rfl) (hdb:(x==("__debug__":Str))=false:=by decide)
  (he:starEach (e::es) X.env=(false,eval e X.env)::starEach es X.env:=by rfl) (hpl:(backTo pos (starEach es X.env)).any (·.1)=false:=by rfl):PE X (.Call (.Name x p) (e::es) [] pos) (tE X.K φ (.call keep f xs)):=s_call C hg ha hdb he hpl
theorem jo {r:List V→Hp→VK→Prop} {b:Bt} {m:Mk} {es:List Expr} (h:PE X e (tCB (qt X.K (btD b m)) (tEs X.K φ xs))):PE X e (tE X.K φ (.blt b m xs)) :=
 PE.imp h fun σv H Q ⟨ι,σ,μ,hS,hL,h⟩=>by
  simp only[evE]at h
  obtain⟨ds,μ1,e1,h⟩:=h.bind
  refine⟨ι,σ,μ,hS,hL,?_⟩
  rw[e1]
  exact fun ι1 vs H1 p1 x1 s1 d1=>⟨ι1,ds,μ1,s1,d1,h.mono p1 x1⟩
theorem du {m:Mk} {p:Pos} (hm:X.mg "len"=none) (ha:PA X (e::es) (tEs X.K φ xs)) (hg:Gl X "len":=by rfl) (he:starEach (e::es) X.env=(false,eval e X.env)::starEach es X.env:=by rfl) (hpl:(backTo pos (starEach es X.env)).any (·.1)=false:=by rfl) :
  PE X (.Call (.Name "len" p) (e::es) [] pos) (tE X.K φ (.blt .len m xs)):=jo (r:=fun _ _ _=>True) (es:=es) (g9 bt_len hg hm PySem.boot_len ha (by decide) (by decide) he hpl)
theorem cv {m:Mk} {p:Pos} (hm:X.mg "tuple"=none) (ha:PA X (e::es) (tEs X.K φ xs)) (hg:Gl X "tuple":=by rfl) (he:starEach (e::es) X.env=(false,eval e X.env)::starEach es X.env:=by rfl) (hpl:(backTo pos (starEach es X.env)).any (·.1)=false:=by rfl) :
  PE X (.Call (.Name "tuple" p) (e::es) [] pos) (tE X.K φ (.blt .tuple m xs)):=jo (r:=fun _ _ _=>True) (es:=es) (wj bt_tuple hg hm (by first | exact PyProof.Rows.boot_tuple | decide +kernel) ha (by decide) (by decide) he hpl)
theorem A8 {m:Mk} {p:Pos} (hm:X.mg "list"=none) (ha:PA X (e::es) (tEs X.K φ xs)) (hg:Gl X "list":=by rfl) (he:starEach (e::es) X.env=(false,eval e X.env)::starEach es X.env:=by rfl) (hpl:(backTo pos (starEach es X.env)).any (·.1)=false:=by rfl) :
  PE X (.Call (.Name "list" p) (e::es) [] pos) (tE X.K φ (.blt .list m xs)):=jo (r:=fun _ _ _=>True) (es:=es) (wj bt_list hg hm (by first | exact HN | decide +kernel) ha (by decide) (by decide) he hpl)
theorem qx {m:Mk} {p:Pos} (hm:X.mg "min"=none) (ha:PA X (e::es) (tEs X.K φ xs)) (hc:X.calm=true:=by rfl) (hg:Gl X "min":=by rfl) (he:starEach (e::es) X.env=(false,eval e X.env)::starEach es X.env:=by rfl) (hpl:(backTo pos (starEach es X.env)).any (·.1)=false:=by rfl) :
  PE X (.Call (.Name "min" p) (e::es) [] pos) (tE X.K φ (.blt .min m xs)):=jo (r:=fun _ _ _=>True) (es:=es) (g9 (bt_min hc) hg hm (by first | exact HW | decide +kernel) ha (by decide) (by decide) he hpl)
theorem og {m:Mk} {p:Pos} (hm:X.mg "max"=none) (ha:PA X (e::es) (tEs X.K φ xs)) (hc:X.calm=true:=by rfl) (hg:Gl X "max":=by rfl) (he:starEach (e::es) X.env=(false,eval e X.env)::starEach es X.env:=by rfl) (hpl:(backTo pos (starEach es X.env)).any (·.1)=false:=by rfl) :
  PE X (.Call (.Name "max" p) (e::es) [] pos) (tE X.K φ (.blt .max m xs)):=jo (r:=fun _ _ _=>True) (es:=es) (g9 (bt_max hc) hg hm (by first | exact PyProof.Rows.boot_max | decide +kernel) ha (by decide) (by decide) he hpl)
theorem jq {m:Mk} {p:Pos} (hm:X.mg "sum"=none) (ha:PA X (e::es) (tEs X.K φ xs)) (hc:X.calm=true:=by rfl) (hg:Gl X "sum":=by rfl) (he:starEach (e::es) X.env=(false,eval e X.env)::starEach es X.env:=by rfl) (hpl:(backTo pos (starEach es X.env)).any (·.1)=false:=by rfl) :
  PE X (.Call (.Name "sum" p) (e::es) [] pos) (tE X.K φ (.blt .sum m xs)):=jo (r:=fun _ _ _=>True) (es:=es) (g9 (bt_sum hc) hg hm (by first | exact PyProof.Rows.boot_sum | decide +kernel) ha (by decide) (by decide) he hpl)
theorem M9 {m:Mk} {p:Pos} (hm:X.mg "all"=none) (ha:PA X (e::es) (tEs X.K φ xs)) (hc:X.calm=true:=by rfl) (hg:Gl X "all":=by rfl) (he:starEach (e::es) X.env=(false,eval e X.env)::starEach es X.env:=by rfl) (hpl:(backTo pos (starEach es X.env)).any (·.1)=false:=by rfl) :
  PE X (.Call (.Name "all" p) (e::es) [] pos) (tE X.K φ (.blt .all m xs)):=jo (r:=fun _ _ _=>True) (es:=es) (g9 (bt_all hc) hg hm (by first | exact PyProof.Rows.boot_all | decide +kernel) ha (by decide) (by decide) he hpl)
theorem qy {m:Mk} {p:Pos} (hm:X.mg "any"=none) (ha:PA X (e::es) (tEs X.K φ xs)) (hc:X.calm=true:=by rfl) (hg:Gl X "any":=by rfl) (he:starEach (e::es) X.env=(false,eval e X.env)::starEach es X.env:=by rfl) (hpl:(backTo pos (starEach es X.env)).any (·.1)=false:=by rfl) :
  PE X (.Call (.Name "any" p) (e::es) [] pos) (tE X.K φ (.blt .any m xs)):=jo (r:=fun _ _ _=>True) (es:=es) (g9 (bt_any hc) hg hm (by first | exact PyProof.Rows.boot_any | decide +kernel) ha (by decide) (by decide) he hpl)
theorem Ut {c:Cl} {cn:Str} {p cp:Pos} (ha:PE X a (tE X.K φ xa)) (hmi:X.mg "isinstance"=none) (hmc:X.mg cn=none) (hc:∀n,c≠.own n:=by intro _ h;cases h) (hgi:Gl X "isinstance":=by rfl) (hgc:Gl X cn:=by rfl)
  (hbc:bootBuiltins cn=some (.type (oy c)):=by first | boot_by_name | rfl | kernel_rfl) (hn:cn≠"__name__":=by decide) (hd:(cn==("__debug__":Str))=false:=by decide) (hs:starEach [a,.Name cn cp] X.env=(false,eval a X.env)::starEach [.Name cn cp] X.env:=by rfl) :
  PE X (.Call (.Name "isinstance" p) [a,.Name cn cp] [] pos) (tE X.K φ (.isi xa c)):=Uo hc ha hgi hmi hgc hmc hbc hn hd hs
theorem g8 {tg:Expr} (hl:PE X e (tE X.K φ xe)):PI X tg e (tI X.K φ (.seq xe)):=Ql hl
theorem gj {tg:Expr} {p:Pos} (hm:X.mg "range"=none) (ha:PE X a (tE X.K φ xa)) (hg:Gl X "range":=by rfl) (hs:starEach [a] X.env=[(false,eval a X.env)]:=by rfl):PI X tg (.Call (.Name "range" p) [a] [] pos) (tI X.K φ (.rng xa)):=Qm hg hm ha hs
theorem bh (i:Nat) {y:Str} (hi:X.N[i]? = some y:=by rfl) (hN:ndB X.N=true:=by first | rfl | kernel_rfl) (hx:Loc X.env.scope y:=by first | exact Or.inl rfl | exact Or.inr rfl) (hf:X.fn y=true∨X.env.scope.names.lookup y=some .local:=by first | exact Or.inl rfl | exact Or.inr rfl) :
  PG X (.Name y pos) (tG X.K (.one i)):=P6 (A7 hN) hi hx hf
theorem cw:PGs X [] (tGs X.K []):=P7
theorem ag (i:Nat) {is:List Nat} {y:Str} (h2:PGs X es (tGs X.K is)) (hi:X.N[i]? = some y:=by rfl) (hN:ndB X.N=true:=by first | rfl | kernel_rfl) (hx:Loc X.env.scope y:=by first | exact Or.inl rfl | exact Or.inr rfl) (hf:X.fn y=true∨X.env.scope.names.lookup y=some .local:=by first | exact Or.inl rfl | exact Or.inr rfl)
  (hs:(assignEach (.Name y pos::es) X.env).map (·.2)=assign (.Name y pos) X.env::(assignEach es X.env).map (·.2):=by rfl):PGs X (.Name y pos::es) (tGs X.K (i::is)):=Mr (Dy (A7 hN) hi hx hf) h2 hs
theorem cx {is:List Nat} {k:Nat} (h:PGs X es (tGs X.K is)) (hc:X.calm=true:=by rfl) (hn:(assignEach es X.env).length=is.length:=by rfl) (hst:(assignEach es X.env).findIdx? (·.1)=none:=by rfl):PG X (.Tuple es k pos) (tG X.K (.many is)):=Ud hc h hn hst
theorem bo:PTs X [] (tTs X.K φ .nil):=Qa
theorem uw {r:List Expr} {xr:Exs} (h1:PT X c (tT X.K φ xc)) (h2:PTs X r (tTs X.K φ xr)):PTs X (c::r) (tTs X.K φ (.cons xc xr)):=Mx h1 h2
theorem dy (Nb:List Str) {target iter:Expr} {ifs:List Expr} {scope:Scope} {cap:List Nat} {nl:Nat} {m:Mk} {tg:Tg} {it:It} {cs:Exs} {elt:Ex} (hi:PI X target iter (tI X.K φ it))
  (B:zq X scope Nb target ifs e (tG X.K tg) (tTs X.K φ cs) (tE X.K φ elt)) (S:A6 X.env.scope scope X.N Nb cap nl=true:=by first | rfl | kernel_rfl) (hc:X.calm=true:=by rfl) (hf:∀x,foldedSetIterable iter X.env x=pure x:=by intro _;rfl) (hs:∀j∈slots tg,cap.length≤j:=by decide) :
  PE X (.ListComp e [⟨target,iter,ifs,0⟩] scope pos) (tE X.K φ (.comp m cap nl tg it cs elt)):=Qb (tw S) hc hi B hf hs
theorem qz (i:Nat) (Nb:List Str) {target iter:Expr} {ifs:List Expr} {scope:Scope} {cap:List Nat} {nl:Nat} {m:Mk} {tg:Tg} {it:It} {cs:Exs} {elt:Ex} {spos py:Pos} {y:Str} (hi:PI X target iter (tI X.K φ it))
  (B:zq X scope Nb target ifs e (tG X.K tg) (tTs X.K φ cs) (tE X.K φ elt)) (S:A6 X.env.scope scope X.N Nb cap nl=true:=by first | rfl | kernel_rfl) (hc:X.calm=true:=by rfl) (hf:∀x,foldedSetIterable iter X.env x=pure x:=by intro _;rfl) (hs:∀j∈slots tg,cap.length≤j:=by decide)
  (hsw:swapsWith (.ListComp e [⟨target,iter,ifs,0⟩] scope pos) (some (.Name y py)) spos.line X.env=pure true:=by rfl) (hiN:X.N[i]? = some y:=by rfl) (hN:ndB X.N=true:=by first | rfl | kernel_rfl) (hy:X.env.scope.names.lookup y=some .local:=by rfl) :
  PS X (.Assign [.Name y py] (.ListComp e [⟨target,iter,ifs,0⟩] scope pos) spos) (tS X.K φ (.set i (.comp m cap nl tg it cs elt))):=Er (tw S) hc hi B hf hs hsw (A7 hN) hiN hy
theorem bw:PSs X [] (tSs X.K φ .nil):=Ub
theorem au {s:Stmt} {ss:List Stmt} {x:Sm} {xss:Sms} (h1:PS X s (tS X.K φ x)) (h2:PSs X ss (tSs X.K φ xss)):PSs X (s::ss) (tSs X.K φ (.cons x xss)):=P4 h1 h2
theorem E7 (he:PE X e (tE X.K φ xe)) (hs:swapsWith e none pos.line X.env=pure false:=by rfl):PS X (.Expr e pos) (tS X.K φ (.ex xe)):=P5 he hs
theorem br (he:PE X e (tE X.K φ xe)):PS X (.Return (some e) pos) (tS X.K φ (.ret xe)):=Uc he
theorem p6 {x y:List Stmt} {xx xy:Sms} (hc:PT X c (tT X.K φ xc)) (ha:PSs X x (tSs X.K φ xx)) (hb:PSs X y (tSs X.K φ xy)):PS X (.If c x y pos) (tS X.K φ (.ite xc xx xy)):=Wv hc ha hb
theorem a7 (i:Nat) {y:Str} {pos':Pos} (he:PE X e (tE X.K φ xe)) (hi:X.N[i]? = some y:=by rfl) (hN:ndB X.N=true:=by first | rfl | kernel_rfl) (hx:Loc X.env.scope y:=by first | exact Or.inl rfl | exact Or.inr rfl) (hf:X.fn y=true∨X.env.scope.names.lookup y=some .local:=by first | exact Or.inl rfl | exact Or.inr rfl)
  (hs:swapsWith e (some (.Name y pos')) pos.line X.env=pure false:=by rfl):PS X (.Assign [.Name y pos'] e pos) (tS X.K φ (.set i xe)):=Ue (A7 hN) hi hx hf he hs
theorem ux {is:List Nat} {tg:Expr} (hg:PG X tg (tG X.K (.many is))) (he:PE X e (tE X.K φ xe)) (hs:swapsWithSole [tg] e pos.line X.env=pure false:=by rfl) (hw:swappedStores [tg] e X.env=pure none:=by rfl)
  (h1:(assignEach [tg] X.env).map (·.2)=[assign tg X.env]:=by rfl):PS X (.Assign [tg] e pos) (tS X.K φ (.unp is xe)):=Ug hg he hs hw h1
theorem ky {tg it:Expr} {body:List Stmt} {xt:Tg} {xi:It} {xb:Sms} (hi:PI X tg it (tI X.K φ xi)) (hg:PG X tg (tG X.K xt)) (hb:PSs X body (tSs X.K φ xb)) (hp:PassesOwn (model X.prog X.w) X.A X.env X.xe:=by exact PassesOwn.never) (hc:X.calm=true:=by rfl)
  (hs:∀x,foldedSetIterable it X.env x=pure x:=by intro _;rfl):PS X (.For tg it body [] pos) (tS X.K φ (.loop xt xi xb)):=Uh hp hc hi hg hb hs
end
end Lp
namespace Lp
open PySem PySem.Spec PyProof.Rows L2
theorem Io:typeLookup (.type "list_reverseiterator") "__len__"=pure none:=by rw[typeLookup_type,builtinLookup_eq_fast];kernel_rfl
theorem Na:typeLookup (.type "list_reverseiterator") "__length_hint__"=pure (some (.builtin "list_reverseiterator.__length_hint__")):=by rw[typeLookup_type,builtinLookup_eq_fast];kernel_rfl
section
variable {prog : Program} {w : World} {A : Around} {E : Value → Shared → Prop} {s : Shared} {r l : Addr}
theorem Nc {Q:Bool→Shared→Prop} (hT:s.TypeIs (.ref r) "list_reverseiterator") (h:Q false s):wpAny (model prog w) A (Builtin.List.listLengthHint (.ref r)) Q E s:=by
 unfold Builtin.List.listLengthHint
 refine AB (wpAny_specialOf hT Io ?_)
 show wpAny _ _ (specialOf (Value.ref r) (Str.ofString "__length_hint__")>>=_) _ _ _
 refine AB (wpAny_specialOf hT Na ?_)
 generalize hid:("list_reverseiterator.__length_hint__":String)=id0
 wp_delta
 rw[show splitId id0=some ("list_reverseiterator","__length_hint__")from by subst hid;decide +kernel]
 subst hid
 refine AB (HF (T:="list_reverseiterator") (b:=true) hT (by rw[isSubtype_type];kernel_rfl) ?_)
 refine FV (fun hab=>absurd hab (by decide)) (fun _=>?_)
 refine FV (fun _=>?_) (fun hab=>absurd (by decide +kernel) hab)
 refine FV (fun hab=>absurd hab (by decide +kernel)) (fun _=>?_)
 exact AL h
theorem E8 {R:Result→Shared→Prop} {items:Array Value} (hh:A.handled=none) (S:Addr) (hSr:S≠r) (hSl:S≠l) (hlr:l≠r) (res:Value) (c₀:Nat) (hit:s.heap.IsRevIter r l ((items.size:Int)-1)) (hl:s.heap.IsList l items)
  (hS:s.heap.get? S=some {cls:=.type "list",data:=.seq #[] c₀})
  (hR:∀h' tk acc' c',(∀b o,b≠S→b≠r→s.heap.get? b=some o→h'.get? b=some o)→h'.get? S=some {cls:=.type "list",dict:=none,data:=.seq acc' c',slots:=#[]}→ItemsOf (fun i v=>items[items.size-1-i]? = some v) acc' items.size→R (.ok (.ret res)) {s with heap:=h',toks:=tk}) (hn:items.size≤sizeLine) :
  wpAny (model prog w) A.in1 (Builtin.List.listExtendWith (.ref S) (.ref r) res)
   (fun fin s'=>match fin with | .done f=>R (.ok f) s' | .again c'=>c'.quiet=true∧codeAny (model prog w) A c' R s') (fun e s'=>R (.error e) s') s:=by
 have W:=Walks.listRev (prog:=prog) (w:=w) (A:=A.in1) hh r l hlr items
 have hSf:S∉[r,l]:=by simp only[AO,BJ,or_false,not_or];exact⟨hSr,hSl⟩
 have st0:∀h:Heap,h.IsRevIter r l ((items.size:Int)-1)→h.IsList l items→(0≤items.size∧h.IsRevIter r l ((items.size:Int)-1-((0:Nat):Int))∧h.IsList l items):=fun h a b=>⟨CV _,by simpa using a,b⟩
 have key:∀(h:Heap) (c₁ tk:Nat),(0≤items.size∧h.IsRevIter r l ((items.size:Int)-1-((0:Nat):Int))∧h.IsList l items)→(∀b o,b≠S→s.heap.get? b=some o→h.get? b=some o) →
   h.get? S=some {cls:=.type "list",data:=.seq #[] c₁}→codeAny (model prog w) A (.builtin "list.extend.loop" ⟨[.ref S,.ref r,res],[]⟩) R {s with heap:=h,toks:=tk}:=by
  intro h c₁ tk hst hk hS₁
  refine codeAny_extend_loopS W.toS hn S hSf res items.size 0 _ #[] c₁ rfl (CV _) hst hS₁ (ItemsOf.nil _) fun s' acc' c' hm hS' hacc=>?_
  rw[Moved.eq_with hm]
  refine hR s'.heap s'.toks acc' c' (fun b o hb hbr e=>hm.heap b o (fun hmem=>?_) (hk b o hb e)) hS' hacc
  rcases AO.mp hmem with e' | hmem
  ·exact hb e'
  ·exact hbr (CO.mp hmem)
 unfold Builtin.List.listExtendWith
 refine AB (HJ (T:="list_reverseiterator") hit.typeIs ?_)
 have h1:Builtin.List.listSameRef (.ref S) (.ref r)=false:=by simp[Builtin.List.listSameRef,hSr]
 have h2:(Value.type "list_reverseiterator"==Value.type "list")=false:=by decide
 have h3:(Value.type "list_reverseiterator"==Value.type "tuple")=false:=by decide
 simp only[h1,h2,h3,Bool.or_false,BD,if_false]
 refine AB (wpAny_pyIter_revIter hit ?_)
 refine AB (DP (Nc hit.typeIs ?_))
 refine FV (fun hab=>absurd hab (by decide)) (fun _=>AL ⟨plainId_quiet PySem.F.plain_extend_loop _,key _ c₀ _ (st0 _ hit hl) (fun b o _ e=>e) hS⟩)
theorem Nd {R:Result→Shared→Prop} {items:Array Value} (hh:A.handled=none) (S:Addr) (hSr:S≠r) (hSl:S≠l) (hlr:l≠r) (hit:s.heap.IsRevIter r l ((items.size:Int)-1)) (hl:s.heap.IsList l items)
  (hS:s.heap.get? S=some {cls:=.type "list",data:=.seq #[]})
  (hR:∀h' tk acc' c',(∀b o,b≠S→b≠r→s.heap.get? b=some o→h'.get? b=some o)→h'.get? S=some {cls:=.type "list",dict:=none,data:=.seq acc' c',slots:=#[]}→ItemsOf (fun i v=>items[items.size-1-i]? = some v) acc' items.size→R (.ok (.ret .none)) {s with heap:=h',toks:=tk}) (hn:items.size≤sizeLine) :
  wpAny (model prog w) A.in1 (Builtin.«list.__init__» ⟨[.ref S,.ref r],[]⟩)
   (fun fin s'=>match fin with | .done f=>R (.ok f) s' | .again c'=>c'.quiet=true∧codeAny (model prog w) A c' R s') (fun e s'=>R (.error e) s') s:=by
 show wpAny _ _ (do let old ←Builtin.List.listItems (.ref S);Builtin.List.listUpdate (.ref S) (fun _=>#[]);letGo old.toList.reverse;Builtin.List.listExtendWith (.ref S) (.ref r) .none) _ _ s
 refine AB ?_
 unfold Builtin.List.listItems
 refine AB (CY hS rfl (AL ?_))
 show wpAny _ _ (updateSeq S (fun _=>#[])>>=fun _=>letGo (#[]:Array Value).toList.reverse>>=fun _=>Builtin.List.listExtendWith (.ref S) (.ref r) .none) _ _ s
 refine AB (wpAny_updateSeq hS rfl ?_)
 have hS₂:=FJ (Obj.mapSeq (fun _=>(#[]:Array Value))) hS rfl
 have oth:∀b o,b≠S→s.heap.get? b=some o→(s.heap.update S (Obj.mapSeq (fun _=>(#[]:Array Value)))).get? b=some o :=
  fun b o hb e=>(FD _ _ (Ne.symm hb)).trans e
 refine AB (GN ?_)
 refine E8 hh S hSr hSl hlr .none _ (hit.at fun o e=>oth r o (Ne.symm hSr) e) (hl.at fun o e=>oth l o (Ne.symm hSl) e) hS₂ (fun h' tk acc' c' hk hS' hacc=>?_) hn
 exact hR h' tk acc' c' (fun b o hb hbr e=>hk b o hb hbr (oth b o hb e)) hS' hacc
theorem Nf {Q:Value→Shared→Prop} {items:Array Value} (hh:A.handled=none) (hlr:l≠r) (hit:s.heap.IsRevIter r l ((items.size:Int)-1)) (hl:s.heap.IsList l items) (hn:items.size≤sizeLine)
  (hQ:∀h' tk acc' c',(∀b o,b≠r→s.heap.get? b=some o→h'.get? b=some o)→h'.get? s.heap.objs.size=some {cls:=.type "list",dict:=none,data:=.seq acc' c',slots:=#[]}→ItemsOf (fun i v=>items[items.size-1-i]? = some v) acc' items.size→Q (.ref s.heap.objs.size) {s with heap:=h',toks:=tk}) :
  wpAny (model prog w) A (call (.type "list") [.ref r]) Q E s:=by
 refine callType_codes (Q₁:=fun obj s₁=>obj=.ref s.heap.objs.size∧s₁={s with heap:=s.heap.push {cls:=.type "list",data:=.seq #[]}}) PySem.F.called_list (PySem.F.typeCall_list_1 _) PySem.F.entry_list_init
  (code_list_new _ ⟨rfl,rfl⟩) fun obj s₁ h₁=>?_
 obtain⟨rfl,rfl⟩:=h₁
 have hS:(s.heap.push {cls:=.type "list",data:=.seq #[]}).get? s.heap.objs.size=some {cls:=.type "list",data:=.seq #[]}:=AN _ rfl
 have hr:r<s.heap.objs.size:=by obtain⟨o,e,_⟩:=hit;exact AI e
 have hl':l<s.heap.objs.size:=by obtain⟨o,e,_⟩:=hl;exact AI e
 refine⟨⟨_,hS,rfl⟩,PySem.F.args_list_init_2 _ _,Nd (A:=A.in1) hh _ (DB hr) (DB hl') hlr (hit.at fun o e=>AC _ e) (hl.at fun o e=>AC _ e) hS (fun h' tk acc' c' hk hS' hacc=>?_) hn⟩
 exact⟨rfl,hQ h' tk acc' c' (fun b o hb e=>hk b o (AW (AI e)) hb (AC _ e)) hS' hacc⟩
end
theorem E9 {its:List Value} {acc:Array Value} (h:ItemsOf (fun i v=>its.toArray[its.toArray.size-1-i]? = some v) acc its.toArray.size):acc.toList=its.reverse:=by
 obtain⟨h1,h2⟩:=h
 simp only[AD]at h1 h2
 refine BI fun i=>?_
 by_cases hi:i<its.length
 ·have e:acc[i]? = some (acc[i]'(by lia)):=Array.getElem?_eq_getElem (by lia)
  have q:=h2 i _ e
  rw[EJ,e,←q,FL,List.getElem?_reverse hi]
 ·rw[EJ,AQ (by simpa using hi),Array.getElem?_eq_none (by lia)]
section
variable {X : Cx} {φ : Phi} {a : Expr} {xa : Ex} {p p2 pos pos2 : Pos} {m : Mk}
theorem Fb (hml:X.mg "list"=none) (hmr:X.mg "reversed"=none) (ha:PE X a (tE X.K φ xa)) (hgl:Gl X "list":=by rfl) (hgr:Gl X "reversed":=by rfl) (hc:X.calm=true:=by rfl)
  (hs:starEach [a] X.env=[(false,eval a X.env)]:=by rfl) (hs2:starEach [.Call (.Name "reversed" p2) [a] [] pos2] X.env=[(false,eval (.Call (.Name "reversed" p2) [a] [] pos2) X.env)]:=by rfl) :
  PE X (.Call (.Name "list" p) [.Call (.Name "reversed" p2) [a] [] pos2] [] pos) (tE X.K φ (.blt .listRev m (.cons xa .nil))):=by
 refine PE.imp (t:=fun σ H Q=>tE X.K φ xa σ H fun v H1=>∃l ys,v=.ref l∧LsL X.K H1 l ys∧∀q,H1 q=none→FQ Q (.ref q) (upd H1 q (.lst ys.reverse))) ?_ fun σv H Q ⟨ι,σ,μ,hS,hL,h⟩=>?_
 ·intro pins s σ H Q I h
  refine EA (my I hgl hml HN ?_ (by decide) (by decide))
  refine BU ?_ hs2 rfl
  rw[hs2]
  refine Ev ?_
  refine EA (my I hgr hmr PyProof.Rows.boot_reversed ?_ (by decide) (by decide))
  refine BU ?_ hs rfl
  rw[hs]
  refine Ev (thn (ha pins s σ H _ I h) fun u s1 ⟨v,H1,I1,r1,l,ys,ev,hls,q⟩=>FA ?_)
  subst ev
  cases(show u=Value.ref l from r1)
  obtain⟨hz,its,n,rv,hlen,hget⟩:=I1.ls hls
  have hlist:s1.heap.IsList l its.toArray:=⟨_,hget,rfl,n,rfl⟩
  refine call_reversed_list hlist ?_
  refine FA ?_
  have hl1:l<s1.heap.objs.size:=AI hget
  refine En (Nf (l:=l) (r:=s1.heap.objs.size) (items:=its.toArray) (I1.ok.hd hc) (AW hl1) ⟨_,AN _ rfl,rfl,rfl⟩ (hlist.at fun o e=>AC _ e) (by rw[AD];lia) fun h' tk acc c hk hD hacc=>?_)
  have hsz:(s1.heap.push (revObj l ((its.toArray.size:Int)-1))).objs.size=s1.heap.objs.size+1:=CW _ _
  have ea:=E9 hacc
  have hf:H1 (s1.heap.objs.size+1)=none:=I1.hok.fresh (FP _)
  refine⟨.ref (s1.heap.objs.size+1),upd H1 (s1.heap.objs.size+1) (.lst ys.reverse),I1.laid (t':=tk) (fun b o e=>hk b o (AW (AI e)) (AC _ e)) (FP _) ?_,?_,q _ hf⟩
  ·refine⟨by rw[List.length_reverse];exact hz,its.reverse,c,rv.reverse,?_⟩
   rw[hsz]at hD
   rw[hD,←ea,Array.toArray_toList]
  ·show Value.ref _=Value.ref _
   rw[hsz]
 ·simp only[evE,gw]at h
  rw[Res.bind_assoc]at h
  obtain⟨d,μ1,e1,h⟩:=h.bind
  refine⟨ι,σ,μ,hS,hL,?_⟩
  rw[e1]
  intro ι1 v H1 p1 x1 s1 d1
  have h:=h.mono p1 x1
  simp only[Res.ba,btD,jg,uk]at h
  split at h
  ·rename_i xs ex
   obtain⟨l,ys,ev,hls,hys⟩:=ka s1 d1 ex
   exact⟨l,ys,ev,hls,fun q hq=>k7 s1 hys.reverse h hq⟩
  ·exact h.elim
end
end Lp
namespace Lp
open PySem PySem.Spec PyProof.Rows L2
section
variable {X : Cx} {φ : Phi} {o e : Expr} {es : List Expr} {xo : Ex} {xs : Exs} {apos cpos : Pos} {T id : String} {name : Str} {mt : Mt}
theorem Ng (hT:∀(ι:List Addr) (H:Hp) (μ:Sto) (d:D) (x:V),Sim X.K ι H μ→IsD X.K ι H d x→iy mt d μ=true→tyV X.K T x H) (h:PE X e (Vf X.K T (rMt X.K mt) (tE X.K φ xo))):PE X e (tE X.K φ (.meth mt xo .nil)) :=
 PE.imp h fun σv H Q ⟨ι,σ,μ,hS,hL,h⟩=>by
  simp only[evE,gw]at h
  obtain⟨d,μ1,e1,h⟩:=h.bind
  refine⟨ι,σ,μ,hS,hL,?_⟩
  rw[e1]
  intro ι1 x H1 p1 x1 s1 d1
  split at h
  ·rename_i hm
   exact⟨hT ι1 H1 μ1 d x s1 d1 hm,ι1,d,[],μ1,s1,d1,by simp[aj],h.mono p1 x1⟩
  ·exact h.elim
theorem Kg (hT:∀(ι:List Addr) (H:Hp) (μ:Sto) (d:D) (x:V),Sim X.K ι H μ→IsD X.K ι H d x→iy mt d μ=true→tyV X.K T x H) (h:PE X e (tBM X.K T (rMt X.K mt) (tE X.K φ xo) (tEs X.K φ xs))):PE X e (tE X.K φ (.meth mt xo xs)) :=
 PE.imp h fun σv H Q ⟨ι,σ,μ,hS,hL,h⟩=>by
  simp only[evE]at h
  obtain⟨d,μ1,e1,h⟩:=h.bind
  refine⟨ι,σ,μ,hS,hL,?_⟩
  rw[e1]
  intro ι1 x H1 p1 x1 s1 d1
  split at h
  ·rename_i hm
   refine⟨hT ι1 H1 μ1 d x s1 d1 hm,ι1,σ,μ1,s1,hL.mono p1 x1,?_⟩
   obtain⟨ds,μ2,e2,h⟩:=h.bind
   rw[e2]
   exact fun ι2 vs H2 p2 x2 s2 d2=>⟨ι2,d,ds,μ2,s2,IsD.mono p2 x2 _ _ d1,d2,h.mono (p1.trans p2) (x1.trans x2)⟩
  ·exact h.elim
theorem oh (hmt:∀d μ,iy mt d μ=(listOf μ d).isSome) (ι:List Addr) (H:Hp) (μ:Sto) (d:D) (x:V) (hS:Sim X.K ι H μ) (hd:IsD X.K ι H d x) (hm:iy mt d μ=true):tyV X.K "list" x H:=by
 rw[hmt]at hm
 obtain⟨ds,e⟩:=DQ.mp hm
 obtain⟨a,xs,rfl,hls,_⟩:=ka hS hd e
 exact .inl ⟨rfl,_,hls.sq⟩
theorem Ip (ho:PE X o (tE X.K φ xo)) (hbase:attributeBase o "pop" X.env (eval o X.env)=eval o X.env:=by rfl) (hline:(apos.endLine==cpos.line)=true:=by rfl):PE X (.Call (.Attribute o "pop" apos) [] [] cpos) (tE X.K φ (.meth .pop xo .nil)) :=
 Ng (oh fun _ _=>rfl) (Pm GO HR F.type_list_pop Uq ho hbase hline)
theorem ck (ho:PE X o (tE X.K φ xo)) (ha:PA X (e::es) (tEs X.K φ xs)) (hbase:attributeBase o "append" X.env (eval o X.env)=eval o X.env:=by rfl)
  (hfew:((backTo cpos (starEach (e::es) X.env)).all (fun x=>!x.1)&&(backToKw cpos (keywordEach [] X.env)).all (fun x=>x.1.isSome)&&decide ((e::es).length+([]:List Keyword).length+(if([]:List Keyword).isEmpty then 0 else 1)<30))=true:=by rfl)
  (hline:(apos.endLine==cpos.line)=true:=by rfl) (hs:starEach (e::es) X.env=(false,eval e X.env)::starEach es X.env:=by rfl) (hplain:(backTo cpos (starEach es X.env)).any (·.1)=false:=by rfl):PE X (.Call (.Attribute o "append" apos) (e::es) [] cpos) (tE X.K φ (.meth .append xo xs)) :=
 Kg (oh fun _ _=>rfl) (Pn GO F.slot_list_append F.type_list_append Ic ho ha hbase hfew hline hs hplain)
theorem Fc {a:Expr} {xa:Ex} {p p2 pos pos2:Pos} {m:Mk} (hml:X.mg "list"=none) (hmr:X.mg "reversed"=none) (ha:PE X a (tE X.K φ xa)) (hgl:Gl X "list":=by rfl) (hgr:Gl X "reversed":=by rfl) (hc:X.calm=true:=by rfl)
  (hs:starEach [a] X.env=[(false,eval a X.env)]:=by rfl) (hs2:starEach [.Call (.Name "reversed" p2) [a] [] pos2] X.env=[(false,eval (.Call (.Name "reversed" p2) [a] [] pos2) X.env)]:=by rfl) :
  PE X (.Call (.Name "list" p) [.Call (.Name "reversed" p2) [a] [] pos2] [] pos) (tE X.K φ (.blt .listRev m (.cons xa .nil))):=Fb hml hmr ha hgl hgr hc hs hs2
end
end Lp
namespace Lp
open PySem PySem.Spec PyProof.Rows L2
section
variable {X : Cx} {φ : Phi} {a : Expr} {xa : Ex} {p p2 pos pos2 : Pos} {m : Mk}
theorem Qt (hu:X.A.units+64<cLine):Su X (Vj X.K):=by
 intro pins s σ H o i v ov iv u Q I ro ri rv ⟨ι,a,b,d,μ,hS,ha,hb,hd,h⟩
 cases a with
 | loc n =>
  simp only[Az]at h
  cases em:μ[n]? with
  | none=>rw[em]at h;exact h.elim
  | some ob =>
   rw[em]at h
   obtain⟨q,rfl,hq⟩:∃q,o=.ref q∧ι[n]? = some q:=by simpa[IsD]using ha
   obtain⟨q',eq',hob⟩:=hS.at em
   rw[hq]at eq';cases eq'
   have lst:∀(ob:O) (xs:List D),iu ob=some xs→μ[n]? = some ob→OIs X.K ι H q ob→gq X.K (fun _ _ _ (_:Unit)=>True) ι H (match some xs,b with
     | some xs,.int i=>match ixN xs.length i with
      | some j=>if fits ob d=true then(putL n ob (xs.set j d) .non μ).bind fun _ μ=>.ok () μ else .stuck
      | none=>.stuck
     | _,_=>.stuck) (fun _ H'=>Q H')→wpAny (model X.prog X.w) X.A (setItem ov iv u) (fun _ s'=>∃H',Inv X pins σ H' s'∧Q H') X.xe s:=by
    intro ob xs ei em ho h
    cases b with
    | int k =>
     simp only at h
     split at h
     ·rename_i j ej
      split at h
      ·rename_i hf
       obtain⟨a',vs,ea,hι,hH,h1,h2⟩:=Kd hS ha em ei
       cases ea
       cases dg hb
       refine set_list pins s σ H _ _ v ov iv u Q I ro ri rv ⟨_,vs,k,j,rfl,rfl,hH,by rw[h1.length];exact ej,?_⟩
       have h':gq X.K (RD X.K) ι H (putL n ob (xs.set j d) .non μ) fun _ H'=>Q H':=by
        cases ob with
        | l _=>exact fun ι' v' H' p e s' _=>h ι' () H' p e s' trivial
        | r _=>exact fun ι' v' H' p e s' _=>h ι' () H' p e s' trivial
        | d _=>exact h.elim
        | dt _=>exact h.elim
        | dead=>exact h.elim
       exact nh (v:=.non) hS hι hH (h1.set hd j) (fun es e=>(h2 es e).set (xu hf hd es e) j) (by simp[IsD]) h'
      ·exact h.elim
     ·exact h.elim
    | _=>exact h.elim
   cases ob with
   | l xs=>exact lst (.l xs) xs rfl em hob h
   | r xs=>exact lst (.r xs) xs rfl em hob h
   | d kvs =>
    simp only at h
    split at h
    ·rename_i hc
     obtain⟨hk,hv,hl⟩:=hc
     obtain⟨xs,hH,hkv⟩:=hob
     obtain⟨k,rfl,rfl⟩:=Ew hk hb
     cases(show ov=Value.ref q from ro)
     have hlen:xs.length=kvs.length:=(DE hkv).symm
     refine Ee (by lia) I (Sw.k (k:=k) (v:=v) hH (by rw[hlen,←h9];exact hl)) ri rv fun s' I'=>⟨_,I',?_⟩
     exact h ι () _ (AH _) (.dK hH) (hS.put hq (.dK hH) ⟨_,a8,Paired.mapP (A3 (IsD.pur hv hd) hkv) fun p r z=>⟨IsD.mono (AH _) (.dK hH) _ _ z.1,IsD.mono (AH _) (.dK hH) _ _ z.2⟩⟩) trivial
    ·exact h.elim
   | dt kvs=>simp only[iu]at h;exact h.elim
   | dead=>simp only[iu]at h;exact h.elim
 | _=>exact h.elim
theorem yb (hu:X.A.units+64<cLine) {o i e:Expr} {xo xi x:Ex} {tp:Pos} (ho:PE X o (tE X.K φ xo)) (hi:PE X i (tE X.K φ xi)) (he:PE X e (tE X.K φ x))
  (ha:∀v,assign (.Subscript o i tp) X.env v=(do
   let ov ←holding [v] (eval o X.env)
   let iv ←holding [v,ov] (eval i X.env)
   standAt tp
   holding [v,ov,iv] (setItem ov iv v)
   release [v,ov,iv] []):=by intro _;rfl) (hs:swapsWithSole [.Subscript o i tp] e pos.line X.env=pure false:=by rfl) (hw:swappedStores [.Subscript o i tp] e X.env=pure none:=by rfl)
  (h1:(assignEach [.Subscript o i tp] X.env).map (·.2)=[assign (.Subscript o i tp) X.env]:=by rfl):PS X (.Assign [.Subscript o i tp] e pos) (tS X.K φ (.setx xo xi x)):=P8 (Qt hu) ho hi he ha hs hw h1
theorem Nh {a b tg:Expr} {xa xb:Ex} {p:Pos} (hm:X.mg "range"=none) (ha:PE X a (tE X.K φ xa)) (hb:PE X b (tE X.K φ xb)) (hg:Gl X "range":=by rfl) (hs:starEach [a,b] X.env=[(false,eval a X.env),(false,eval b X.env)]:=by rfl) (hs2:starEach [b] X.env=[(false,eval b X.env)]:=by rfl) :
  PI X tg (.Call (.Name "range" p) [a,b] [] pos) (tI X.K φ (.rng2 xa xb)):=M4 hg hm ha hb hs hs2
end
end Lp
namespace Lp
open PySem PySem.Spec PyProof.Rows L2
noncomputable def SI (b:Bool) (h:Heap) (it l:Addr) (i:Nat):Prop:=match b with
 | true=>h.IsListIter it l i
 | false=>h.IsTupleIter it l i
noncomputable def SQ (b:Bool) (h:Heap) (l:Addr) (xs:Array Value):Prop:=match b with
 | true=>h.IsList l xs
 | false=>h.IsTuple l xs
noncomputable def Qu:Bool→String
 | true=>"list_iterator"
 | false=>"tuple_iterator"
theorem SI.keep {b:Bool} {h h':Heap} {it l:Addr} {i:Nat} (x:SI b h it l i) (e:∀o,h.get? it=some o→h'.get? it=some o):SI b h' it l i:=by
 cases b
 ·exact Heap.IsTupleIter.at x e
 ·exact Heap.IsListIter.at x e
theorem SI.but {b:Bool} {h h':Heap} {it l c:Addr} {i:Nat} (x:SI b h it l i) (e:Heap.ExtBut c h h') (n:it≠c):SI b h' it l i:=x.keep fun o q=>e it o n q
theorem SI.obj {b:Bool} {h:Heap} {it l:Addr} {i:Nat} (x:SI b h it l i):∃o,h.get? it=some o∧o.cls=.type (Qu b)∧o.data=.fields #[.ref l,.int i 0]:=by
 cases b<;>exact x
theorem SQ.but {b:Bool} {h h':Heap} {l c:Addr} {xs:Array Value} (x:SQ b h l xs) (e:Heap.ExtBut c h h') (n:l≠c):SQ b h' l xs:=by
 cases b
 ·exact Heap.IsTuple.at x fun o q=>e l o n q
 ·exact Heap.IsList.at x fun o q=>e l o n q
theorem SQ.lt {b:Bool} {h:Heap} {l:Addr} {xs:Array Value} (x:SQ b h l xs):l<h.objs.size:=by
 cases b
 ·obtain⟨o,e,_⟩:=x;exact AI e
 ·obtain⟨o,e,_⟩:=x;exact AI e
theorem SQ.push {b:Bool} {h:Heap} {l:Addr} {xs:Array Value} (x:SQ b h l xs) (o:Obj):SQ b (h.push o) l xs:=by
 cases b
 ·exact Heap.IsTuple.push x o
 ·exact Heap.IsList.push x o
section
variable {prog : Program} {w : World} {A : Around} {E : Value → Shared → Prop} {s : Shared}
theorem Fd {b:Bool} {l:Addr} {xs:Array Value} {Q:Value→Shared→Prop} (x:SQ b s.heap l xs) (hQ:Q (.ref s.heap.objs.size) {s with heap:=s.heap.push {cls:=.type (Qu b),data:=.fields #[.ref l,.int 0 0]}}) :
  wpAny (model prog w) A (pyIter (.ref l)) Q E s:=by
 cases b
 ·exact DJ x hQ
 ·exact GM x hQ
theorem uy {b:Bool} {it l:Addr} {i:Nat} {xs:Array Value} {x:Value} {Q:Value→Shared→Prop} (hit:SI b s.heap it l i) (hl:SQ b s.heap l xs) (hx:xs[i]? = some x)
  (hQ:∀h',SI b h' it l (i+1)→Heap.SameBut it s.heap h'→Q x {s with heap:=h'}):wpAny (model prog w) A (Builtin.SmallTypes.nextOf (.ref it)) Q E s:=by
 cases b
 ·obtain⟨o,ho,hc,hd⟩:=hit.obj
  obtain⟨ol,hol,_,nl,hdl⟩:=hl
  have ht:s.TypeIs (.ref it) "tuple_iterator":=⟨o,ho,hc⟩
  unfold Builtin.SmallTypes.nextOf
  refine AB (BY (name:=Str.ofString "__next__") ht DK (CM DK ht Go ?_ (FW _)))
  show wpAny _ _ (field (.ref it) 0>>=_) _ _ s
  refine AB (BQ ho hd (x:=.ref l) rfl ?_)
  show wpAny _ _ (if(Value.ref l==Value.none)=true then _ else _) _ _ s
  rw[if_neg (show ¬((Value.ref l==Value.none)=true)from AY)]
  show wpAny _ _ (field (.ref it) 1>>=_) _ _ s
  refine AB (BQ ho hd (x:=.int i 0) rfl ?_)
  show wpAny _ _ (seqItems? (.ref l)>>=_) _ _ s
  refine AB (CY hol hdl ?_)
  simp only[Do,hx]
  refine AB (wpAny_setField ho hd (by simp) (AL ⟨x,rfl,AL (hQ _ ?_ (Ix ..))⟩))
  exact⟨_,FJ _ ho (Obj.isFreed_of_fields (Obj.data_mapFields hd _)),(Obj.cls_mapFields ..).trans hc,by rw[Obj.data_mapFields hd];simp[rawInt]⟩
 ·exact wpAny_nextOf_list_item hit hl hx hQ
theorem Fe {b:Bool} {it l:Addr} {i:Nat} {xs:Array Value} {Q:Value→Shared→Prop} (hh:A.handled=none) (hit:SI b s.heap it l i) (hl:SQ b s.heap l xs) (hx:xs[i]? = none)
  (hE:∀h' e,Heap.ExtBut it s.heap h'→(∃o,h'.get? e=some o∧o.cls=.type "StopIteration")→E (.ref e) {s with heap:=h'}):wpAny (model prog w) A (Builtin.SmallTypes.nextOf (.ref it)) Q E s:=by
 cases b
 ·obtain⟨o,ho,hc,hd⟩:=hit.obj
  obtain⟨ol,hol,_,nl,hdl⟩:=hl
  have ht:s.TypeIs (.ref it) "tuple_iterator":=⟨o,ho,hc⟩
  unfold Builtin.SmallTypes.nextOf
  refine AB (BY (name:=Str.ofString "__next__") ht DK (CM DK ht Go ?_ (FW _)))
  show wpAny _ _ (field (.ref it) 0>>=_) _ _ s
  refine AB (BQ ho hd (x:=.ref l) rfl ?_)
  show wpAny _ _ (if(Value.ref l==Value.none)=true then _ else _) _ _ s
  rw[if_neg (show ¬((Value.ref l==Value.none)=true)from AY)]
  show wpAny _ _ (field (.ref it) 1>>=_) _ _ s
  refine AB (BQ ho hd (x:=.int i 0) rfl ?_)
  show wpAny _ _ (seqItems? (.ref l)>>=_) _ _ s
  refine AB (CY hol hdl ?_)
  simp only[Do,hx]
  refine AB (HM (AB (wpAny_setField ho hd (by simp) ?_)))
  show wpAny _ _ (newExc (.type "StopIteration") []>>=_) _ _ _
  refine AB ?_
  simp only[newExc,newTuple]
  refine AB (Db ?_ (by size_fits))
  refine AB (m:=firstArgMember _ _) (wpAny_of_eq (a:=Value.none) (by first | rfl | (simp only[firstArgMember];rfl)) ?_)
  refine Db ?_ (by size_fits)
  simp only[raiseNew]
  refine AB (wpAny_handled ?_)
  first | rw[show A.in1.handled=none from hh] | rw[hh]
  refine AB (AL (wpAny_throw ?_))
  exact hE _ _ (((Ix ..).extBut.push _).push _) ⟨_,AN _ rfl,rfl⟩
 ·exact wpAny_nextOf_list_end hh hit hl hx hE
variable {b1 b2 : Bool} {z TI TO i1 i2 l1 l2 : Addr} {k1 k2 : Nat} {xs ys : Array Value} {x y a b : Value}
theorem Ni {Q:Option Value→Shared→Prop} (D:ZipApart z TI TO i1 i2 l1 l2)
  (hz:IsZip s.heap z TI TO .none) (hTI:IsPair s.heap TI (.ref i1) (.ref i2)) (hTO:IsPair s.heap TO a b)
  (h1:SI b1 s.heap i1 l1 k1) (h2:SI b2 s.heap i2 l2 k2) (hl1:SQ b1 s.heap l1 xs) (hl2:SQ b2 s.heap l2 ys) (hx:xs[k1]? = some x) (hy:ys[k2]? = some y)
  (hQ:∀h',IsZip h' z TI TO (rawInt s.heap.objs.size)→IsPair h' TO x y→SI b1 h' i1 l1 (k1+1)→SI b2 h' i2 l2 (k2+1)→IsPair h' s.heap.objs.size x y →
   (∀c o,c≠z→c≠TO→c≠i1→c≠i2→s.heap.get? c=some o→h'.get? c=some o)→Q (some (.ref s.heap.objs.size)) {s with heap:=h'}) :
  wpAny (model prog w) A (pyNext (.ref z)) Q E s:=by
 have hT:s.TypeIs (.ref z) "zip":=⟨_,hz,rfl⟩
 unfold pyNext
 refine AB (GS (BY (name:=Str.ofString "__next__") hT FX (CM FX hT F.entry_zip_next ?_ (F.args_zip_next_1 _))))
 show wpAny _ _ (field (.ref z) 2>>=_) _ _ _
 refine AB (BQ hz rfl (x:=.bool false) rfl ?_)
 show wpAny _ _ (field (.ref z) 3>>=_) _ _ _
 refine AB (BQ hz rfl (x:=.ref TI) rfl ?_)
 refine AB (CY hTI rfl ?_)
 show wpAny _ _ (Builtin.SmallTypes.ownedTupleIsFree (.ref z)>>=_) _ _ _
 refine AB ?_
 unfold Builtin.SmallTypes.ownedTupleIsFree
 refine AB (BQ hz rfl (x:=.none) rfl (AL ?_))
 simp only[if_true]
 refine AB (HM ?_)
 refine AB (BQ hz rfl (x:=.ref TO) rfl ?_)
 refine AB (BS hz (by simp) fun h₁ hz₁ hs₁=>?_)
 replace hz₁:IsZip h₁ z TI TO .ellipsis:=hz₁
 refine AB ?_
 simp only[List.zipIdx_cons,List.zipIdx_nil,EV,List.forIn_nil]
 refine AB (AB (GU ?_))
 show wpAny _ _ (Builtin.SmallTypes.nextOf (.ref i1)>>=_) _ _ _
 refine AB (uy (h1.but hs₁.extBut D.i1z) (hl1.but hs₁.extBut D.l1z) hx fun h₂ h1₂ hs₂=>AL ?_)
 have hTO₂:IsPair h₂ TO a b:=hs₂.extBut _ _ D.TOi1 (hs₁.extBut _ _ D.TOz hTO)
 refine AB (CY hTO₂ rfl ?_)
 refine AB (FR hTO₂ fun h₃ hTO₃ hs₃=>?_)
 replace hTO₃:IsPair h₃ TO x b:=hTO₃
 refine AB (GN (AL ?_))
 refine AB (AB (GU ?_))
 show wpAny _ _ (Builtin.SmallTypes.nextOf (.ref i2)>>=_) _ _ _
 refine AB (uy (((h2.but hs₁.extBut D.i2z).but hs₂.extBut D.i12.symm).but hs₃.extBut D.TOi2.symm) (((hl2.but hs₁.extBut D.l2z).but hs₂.extBut D.l2i1).but hs₃.extBut D.l2TO) hy fun h₄ h2₄ hs₄=>AL ?_)
 have hTO₄:IsPair h₄ TO x b:=hs₄.extBut _ _ D.TOi2 hTO₃
 refine AB (CY hTO₄ rfl ?_)
 refine AB (FR hTO₄ fun h₅ hTO₅ hs₅=>?_)
 replace hTO₅:IsPair h₅ TO x y:=hTO₅
 refine AB (GN (AL (AL ?_)))
 refine AB (CY hTO₅ rfl ?_)
 refine AB (wpAny_newTuple ?_)
 have hsz:h₅.objs.size=s.heap.objs.size:=by rw[hs₅.1,hs₄.1,hs₃.1,hs₂.1,hs₁.1]
 have hz₅:IsZip h₅ z TI TO .ellipsis:=hs₅.extBut _ _ D.TOz.symm (hs₄.extBut _ _ D.i2z.symm (hs₃.extBut _ _ D.TOz.symm (hs₂.extBut _ _ D.i1z.symm hz₁)))
 have hk₅:∀c o,c≠z→c≠TO→c≠i1→c≠i2→s.heap.get? c=some o→h₅.get? c=some o:=fun c o c1 c2 c3 c4 e=>hs₅.extBut _ _ c2 (hs₄.extBut _ _ c4 (hs₃.extBut _ _ c2 (hs₂.extBut _ _ c3 (hs₁.extBut _ _ c1 e))))
 have h1₅:SI b1 h₅ i1 l1 (k1+1):=((h1₂.but hs₃.extBut D.TOi1.symm).but hs₄.extBut D.i12).but hs₅.extBut D.TOi1.symm
 have h2₅:SI b2 h₅ i2 l2 (k2+1):=h2₄.but hs₅.extBut D.TOi2.symm
 have hzlt:z<h₅.objs.size:=AI hz₅
 show wpAny _ _ (Builtin.SmallTypes.ownedTupleHandOut (.ref z) (.ref h₅.objs.size)>>=_) _ _ _
 refine AB ?_
 unfold Builtin.SmallTypes.ownedTupleHandOut
 have hz₆:IsZip (h₅.push {cls:=.type "tuple",data:=.seq #[x,y]}) z TI TO .ellipsis:=AC _ hz₅
 refine AB (BS hz₆ (by simp) fun h₇ hz₇ hs₇=>?_)
 replace hz₇:IsZip h₇ z TI TO (rawInt h₅.objs.size):=hz₇
 refine BS hz₇ (by simp) fun h₈ hz₈ hs₈=>?_
 replace hz₈:IsZip h₈ z TI TO (rawInt h₅.objs.size):=hz₈
 have up:∀c o,c≠z→h₅.get? c=some o→h₈.get? c=some o:=fun c o c1 e=>hs₈.extBut _ _ c1 (hs₇.extBut _ _ c1 (AC _ e))
 have hT₈:IsPair h₈ h₅.objs.size x y:=hs₈.extBut _ _ (DB hzlt) (hs₇.extBut _ _ (DB hzlt) (AN _ rfl))
 rw[hsz]at hz₈ hT₈
 refine AL ⟨_,rfl,?_⟩
 show wpAny _ _ (pure (some (Value.ref h₅.objs.size))) _ _ _
 rw[hsz]
 exact AL (hQ h₈ hz₈ (up _ _ D.TOz hTO₅) (h1₅.keep fun o e=>up _ o D.i1z e) (h2₅.keep fun o e=>up _ o D.i2z e) hT₈ fun c o c1 c2 c3 c4 e=>up c o c1 (hk₅ c o c1 c2 c3 c4 e))
theorem Nj {Q:Fin→Shared→Prop} (hh:A.handled=none) (D:ZipApart z TI TO i1 i2 l1 l2)
  (hz:IsZip s.heap z TI TO .none) (hTI:IsPair s.heap TI (.ref i1) (.ref i2)) (hTO:IsPair s.heap TO a b)
  (h1:SI b1 s.heap i1 l1 k1) (h2:SI b2 s.heap i2 l2 k2) (hl1:SQ b1 s.heap l1 xs) (hl2:SQ b2 s.heap l2 ys) (hend:xs[k1]? = none∨ys[k2]? = none)
  (hE:∀h' e,(∀c o,c≠z→c≠TO→c≠i1→c≠i2→s.heap.get? c=some o→h'.get? c=some o)→(∃o,h'.get? e=some o∧o.cls=.type "StopIteration")→E (.ref e) {s with heap:=h'}) :
  wpAny (model prog w) A (Builtin.«zip.__next__» ⟨[.ref z],[]⟩) Q E s:=by
 show wpAny _ _ (field (.ref z) 2>>=_) _ _ _
 refine AB (BQ hz rfl (x:=.bool false) rfl ?_)
 show wpAny _ _ (field (.ref z) 3>>=_) _ _ _
 refine AB (BQ hz rfl (x:=.ref TI) rfl ?_)
 refine AB (CY hTI rfl ?_)
 show wpAny _ _ (Builtin.SmallTypes.ownedTupleIsFree (.ref z)>>=_) _ _ _
 refine AB ?_
 unfold Builtin.SmallTypes.ownedTupleIsFree
 refine AB (BQ hz rfl (x:=.none) rfl (AL ?_))
 simp only[if_true]
 refine AB (HM ?_)
 refine AB (BQ hz rfl (x:=.ref TO) rfl ?_)
 refine AB (BS hz (by simp) fun h₁ hz₁ hs₁=>?_)
 replace hz₁:IsZip h₁ z TI TO .ellipsis:=hz₁
 refine AB ?_
 simp only[List.zipIdx_cons,List.zipIdx_nil,EV,List.forIn_nil]
 refine AB (AB (GU ?_))
 show wpAny _ _ (Builtin.SmallTypes.nextOf (.ref i1)>>=_) _ _ _
 cases hx:xs[k1]? with
 | none =>
  refine AB (Fe hh (h1.but hs₁.extBut D.i1z) (hl1.but hs₁.extBut D.l1z) hx fun h₂ e hs₂ ⟨oe,hoe,hce⟩=>?_)
  have hz₂:IsZip h₂ z TI TO .ellipsis:=hs₂ _ _ D.i1z.symm hz₁
  have hez:e≠z:=fun x=>by subst x;rw[hz₂]at hoe;cases hoe;simp at hce
  exact BS hz₂ (by simp) fun h₃ _ hs₃=>hE h₃ e (fun c o c1 _ c3 _ x=>hs₃.extBut _ _ c1 (hs₂ _ _ c3 (hs₁.extBut _ _ c1 x))) ⟨oe,hs₃.extBut _ _ hez hoe,hce⟩
 | some x =>
  have hy:ys[k2]? = none:=by rcases hend with h | h;rw[hx]at h;cases h;exact h
  refine AB (uy (h1.but hs₁.extBut D.i1z) (hl1.but hs₁.extBut D.l1z) hx fun h₂ h1₂ hs₂=>AL ?_)
  have hTO₂:IsPair h₂ TO a b:=hs₂.extBut _ _ D.TOi1 (hs₁.extBut _ _ D.TOz hTO)
  refine AB (CY hTO₂ rfl ?_)
  refine AB (FR hTO₂ fun h₃ hTO₃ hs₃=>?_)
  refine AB (GN (AL ?_))
  refine AB (AB (GU ?_))
  show wpAny _ _ (Builtin.SmallTypes.nextOf (.ref i2)>>=_) _ _ _
  refine AB (Fe hh (((h2.but hs₁.extBut D.i2z).but hs₂.extBut D.i12.symm).but hs₃.extBut D.TOi2.symm) (((hl2.but hs₁.extBut D.l2z).but hs₂.extBut D.l2i1).but hs₃.extBut D.l2TO) hy fun h₄ e hs₄ ⟨oe,hoe,hce⟩=>?_)
  have hz₄:IsZip h₄ z TI TO .ellipsis:=hs₄ _ _ D.i2z.symm (hs₃.extBut _ _ D.TOz.symm (hs₂.extBut _ _ D.i1z.symm hz₁))
  have hez:e≠z:=fun x=>by subst x;rw[hz₄]at hoe;cases hoe;simp at hce
  exact BS hz₄ (by simp) fun h₅ _ hs₅=>hE h₅ e (fun c o c1 c2 c3 c4 x=>hs₅.extBut _ _ c1 (hs₄ _ _ c4 (hs₃.extBut _ _ c2 (hs₂.extBut _ _ c3 (hs₁.extBut _ _ c1 x))))) ⟨oe,hs₅.extBut _ _ hez hoe,hce⟩
theorem Qv {Q:Option Value→Shared→Prop} (hh:A.handled=none) (D:ZipApart z TI TO i1 i2 l1 l2)
  (hz:IsZip s.heap z TI TO .none) (hTI:IsPair s.heap TI (.ref i1) (.ref i2)) (hTO:IsPair s.heap TO a b)
  (h1:SI b1 s.heap i1 l1 k1) (h2:SI b2 s.heap i2 l2 k2) (hl1:SQ b1 s.heap l1 xs) (hl2:SQ b2 s.heap l2 ys) (hend:xs[k1]? = none∨ys[k2]? = none)
  (hQ:∀h',(∀c o,c≠z→c≠TO→c≠i1→c≠i2→s.heap.get? c=some o→h'.get? c=some o)→Q none {s with heap:=h'}):wpAny (model prog w) A (pyNext (.ref z)) Q E s:=by
 have hT:s.TypeIs (.ref z) "zip":=⟨_,hz,rfl⟩
 unfold pyNext
 refine AB (GS (BY (name:=Str.ofString "__next__") hT FX
  (CM FX hT F.entry_zip_next (Nj hh D hz hTI hTO h1 h2 hl1 hl2 hend fun h' e hk he=>?_) (F.args_zip_next_1 _))))
 obtain⟨o,ho,hc⟩:=he
 exact AB (HF (T:="StopIteration") (b:=true) ⟨o,ho,hc⟩ isSubtype_stop (AL (hQ _ hk)))
noncomputable abbrev zp1 (b1:Bool) (h:Heap) (l1:Addr):Heap:=h.push {cls:=.type (Qu b1),data:=.fields #[.ref l1,.int 0 0]}
noncomputable abbrev zp2 (b1 b2:Bool) (h:Heap) (l1 l2:Addr):Heap:=(zp1 b1 h l1).push {cls:=.type (Qu b2),data:=.fields #[.ref l2,.int 0 0]}
noncomputable abbrev zp3 (b1 b2:Bool) (h:Heap) (l1 l2:Addr):Heap:=(zp2 b1 b2 h l1 l2).push {cls:=.type "tuple",data:=.seq #[.ref h.objs.size,.ref (zp1 b1 h l1).objs.size]}
noncomputable abbrev zp4 (b1 b2:Bool) (h:Heap) (l1 l2:Addr):Heap:=(zp3 b1 b2 h l1 l2).push {cls:=.type "tuple",data:=.seq #[.none,.none]}
noncomputable abbrev zp5 (b1 b2:Bool) (h:Heap) (l1 l2:Addr):Heap:=(zp4 b1 b2 h l1 l2).push {cls:=.type "zip",data:=.fields #[.none,.bool false,.bool false,.ref (zp2 b1 b2 h l1 l2).objs.size,.ref (zp3 b1 b2 h l1 l2).objs.size]}
theorem Qw (b1 b2:Bool) (l1 l2:Addr) (xs ys:Array Value) :
  Meets (Builtin.«zip.__new__» ⟨[.type "zip",.ref l1,.ref l2],[]⟩) (fun _ R s=>SQ b1 s.heap l1 xs∧SQ b2 s.heap l2 ys ∧
   R (.ok (.ret (.ref (zp4 b1 b2 s.heap l1 l2).objs.size))) {s with heap:=zp5 b1 b2 s.heap l1 l2}) :=
 .of_wp fun prog w A R s h=>by
  obtain⟨hp,g,d,tk,os⟩:=s;obtain⟨hl1,hl2,h⟩:=h
  have hsub:=sub_zip
  have hL1:SQ b1 (Shared.heap ⟨hp,g,d,tk,os⟩) l1 xs:=hl1
  have hL2:SQ b2 (Shared.heap ⟨hp.push {cls:=.type (Qu b1),data:=.fields #[.ref l1,.int 0 0]},g,d,tk,os⟩) l2 ys:=SQ.push hl2 _
  wp_walk using Fd hL1,Fd hL2
  exact⟨_,rfl,h⟩
theorem Nk {Q:Value→Shared→Prop} (hl1:SQ b1 s.heap l1 xs) (hl2:SQ b2 s.heap l2 ys)
  (h:∀h',IsZip h' (s.heap.objs.size+4) (s.heap.objs.size+2) (s.heap.objs.size+3) .none→IsPair h' (s.heap.objs.size+2) (.ref s.heap.objs.size) (.ref (s.heap.objs.size+1)) →
   IsPair h' (s.heap.objs.size+3) .none .none→SI b1 h' s.heap.objs.size l1 0→SI b2 h' (s.heap.objs.size+1) l2 0 →
   (∀c o,s.heap.get? c=some o→h'.get? c=some o)→Q (.ref (s.heap.objs.size+4)) {s with heap:=h'}) :
  wpAny (model prog w) A (call (.type "zip") [.ref l1,.ref l2]) Q E s:=by
 refine callType_new F.called_zip (by decide) (F.typeCall_zip_2 _ _) (F.newCall_zip_2 _ _) (fun obj=>F.args_object_init_3 obj _ _) F.entry_zip_new (Qw b1 b2 l1 l2 xs ys) ⟨hl1,hl2,?_⟩
 have z1:(zp1 b1 s.heap l1).objs.size=s.heap.objs.size+1:=CW ..
 have z2:(zp2 b1 b2 s.heap l1 l2).objs.size=s.heap.objs.size+2:=by rw[CW,z1]
 have z3:(zp3 b1 b2 s.heap l1 l2).objs.size=s.heap.objs.size+3:=by rw[CW,z2]
 have z4:(zp4 b1 b2 s.heap l1 l2).objs.size=s.heap.objs.size+4:=by rw[CW,z3]
 have g5:(zp5 b1 b2 s.heap l1 l2).get? (zp4 b1 b2 s.heap l1 l2).objs.size=some _:=AN _ rfl
 have g4:(zp5 b1 b2 s.heap l1 l2).get? (zp3 b1 b2 s.heap l1 l2).objs.size=some _:=AC _ (AN _ rfl)
 have g3:(zp5 b1 b2 s.heap l1 l2).get? (zp2 b1 b2 s.heap l1 l2).objs.size=some _:=AC _ (AC _ (AN _ rfl))
 have g2:(zp5 b1 b2 s.heap l1 l2).get? (zp1 b1 s.heap l1).objs.size=some _:=AC _ (AC _ (AC _ (AN _ rfl)))
 have g1:(zp5 b1 b2 s.heap l1 l2).get? s.heap.objs.size=some _:=AC _ (AC _ (AC _ (AC _ (AN _ rfl))))
 have s1:SI b1 (zp5 b1 b2 s.heap l1 l2) s.heap.objs.size l1 0:=by cases b1<;>exact⟨_,g1,rfl,rfl⟩
 have s2:SI b2 (zp5 b1 b2 s.heap l1 l2) (zp1 b1 s.heap l1).objs.size l2 0:=by cases b2<;>exact⟨_,g2,rfl,rfl⟩
 show _∧_
 rw[z2,z3,z4]at g5
 rw[z1,z2]at g3
 rw[z3]at g4
 rw[z1]at s2
 rw[z4]
 exact⟨⟨_,g5,rfl⟩,h _ g5 g3 g4 s1 s2 fun c o x=>AC _ (AC _ (AC _ (AC _ (AC _ x))))⟩
end
end Lp
namespace Lp
open PySem PySem.Spec PyProof.Rows L2
section
variable {X : Cx} {pins : List (Addr × Obj)} {σ : St} {H : Hp} {s : Shared} {φ : Phi}
theorem uz {h':Heap} {t':Nat} {ch:List Addr} (I:Inv X pins σ H s) (k:∀b o,b∉ch→s.heap.get? b=some o→h'.get? b=some o) (hf:∀b∈ch,Cj X pins H b):Inv X pins σ H {s with heap:=h',toks:=t'}:=by
 have nit:∀b u,H b=some u→b∉ch:=fun b u e z=>by rw[(hf b z).1]at e;cases e
 refine I.step (g':=s.gens) (d':=s.drawn) (ch:=ch) (fun b hb=>⟨(hf b hb).2.2.2.1,(hf b hb).2.1,(hf b hb).2.2.2.2.1,(hf b hb).2.2.2.2.2⟩) (fun b o _ _ hc e _=>k b o hc e) (fun b o _ _ hc e _=>⟨o.slots,k b o hc e⟩) (fun _ _ _ _ n=>n)
  (fun b o hc e=>⟨o,k b o hc e⟩) (fun _ _ e=>e) (fun _ _ _ e=>e) (fun b ps e=>⟨#[],by rw[e];simp⟩) (fun m hm=>?_) (fun b u e=>?_) I.bare
 ·obtain⟨o,es,ep,ho,r⟩:=hm
  exact⟨o,es,ep,k _ o (fun z=>(hf _ z).2.1 rfl) ho,r⟩
 ·refine(I.hok b u e).stay (fun c v hc q=>k c v ?_ q) (fun _ q=>q) fun _ _ q=>q
  rcases hc with z | z
  ·rw[z];exact nit b u e
  ·exact nit c _ z
noncomputable def Sq (b:Bool) (K:PySem.W.Frag) (H:Hp) (a:Addr) (xs:List V):Prop:=match b with
 | true=>SqL K H a xs
 | false=>SqT K H a xs
theorem Sq.vals {b:Bool} {a:Addr} {xs:List V} (h:Sq b X.K H a xs) (I:Inv X pins σ H s):∃its:List Value,bq xs its∧SQ b s.heap a its.toArray∧xs.length≤sizeLine:=by
 cases b
 ·obtain⟨its,rv,p,hz⟩:=I.tuple h
  exact⟨its,rv,p,hz⟩
 ·obtain⟨its,rv,p,hz⟩:=I.list h
  exact⟨its,rv,p.isList,hz⟩
theorem Sq.inj {b:Bool} {a:Addr} {xs ys:List V} (h:Sq b X.K H a xs) (I:Inv X pins σ H s) (h':Sq b X.K H a ys):ys=xs:=by
 cases b
 ·exact I.tuple_inj h' h
 ·exact I.list_inj h' h
noncomputable def Itz (K:PySem.W.Frag) (b1 b2:Bool) (a1 a2:Addr):L2.It :=
 ⟨fun i H=>∃xs ys x y,Sq b1 K H a1 xs∧Sq b2 K H a2 ys∧xs[i]? = some x∧ys[i]? = some y,
 fun i H v H'=>∃p x y,v=.ref p∧H p=none∧H'=upd H p (.tup [x,y])∧(∀xs,Sq b1 K H a1 xs→xs[i]? = some x)∧(∀ys,Sq b2 K H a2 ys→ys[i]? = some y),
 fun i H=>∃xs ys,Sq b1 K H a1 xs∧Sq b2 K H a2 ys∧(xs.length≤i∨ys.length≤i)⟩
theorem Iq {P:Program} {w:World} {K:PySem.W.Frag} {elts:List Expr} {k:Nat} {tp:Pos} {b1 b2:Bool} {z TI TO i1 i2 a1 a2:Addr} (D:ZipApart z TI TO i1 i2 a1 a2) :
  Turn P w K (.Tuple elts k tp) (Itz K b1 b2 a1 a2) [z,TI,TO,i1,i2] z (fun i h=>IsZip h z TI TO .none∧IsPair h TI (.ref i1) (.ref i2)∧(∃a b,IsPair h TO a b)∧SI b1 h i1 a1 i∧SI b2 h i2 a2 i) where
 mem:=by simp
 obj:=fun i h ⟨hz,hTI,⟨ta,tb,hTO⟩,s1,s2⟩ b hb=>by
  simp only[AO,BJ,or_false]at hb
  rcases hb with rfl | rfl | rfl | rfl | rfl
  ·exact⟨_,hz,fun v e=>by cases e⟩
  ·exact⟨_,hTI,fun v e=>by cases e⟩
  ·exact⟨_,hTO,fun v e=>by cases e⟩
  ·obtain⟨o,e,_,d⟩:=s1.obj
   exact⟨o,e,fun v q=>by rw[d]at q;cases q⟩
  ·obtain⟨o,e,_,d⟩:=s2.obj
   exact⟨o,e,fun v q=>by rw[d]at q;cases q⟩
 keep:=fun i h h' ⟨hz,hTI,⟨ta,tb,hTO⟩,s1,s2⟩ k=>⟨k z (by simp) _ hz,k TI (by simp) _ hTI,⟨ta,tb,k TO (by simp) _ hTO⟩,s1.keep fun o e=>k i1 (by simp) o e,s2.keep fun o e=>k i2 (by simp) o e⟩
 item:=by
  intro X hP hw hK hc i pins s σ H E I hf ⟨hz,hTI,⟨ta,tb,hTO⟩,s1,s2⟩ hg
  subst hP hw hK
  obtain⟨xs,ys,x,y,q1,q2,ex,ey⟩:=hg
  obtain⟨is1,rv1,p1,_⟩:=q1.vals I
  obtain⟨is2,rv2,p2,_⟩:=q2.vals I
  obtain⟨u1,hu1,ru1⟩:=rv1.get ex
  obtain⟨u2,hu2,ru2⟩:=rv2.get ey
  refine Ni D hz hTI hTO s1 s2 p1 p2 (x:=u1) (y:=u2) (by simpa using hu1) (by simpa using hu2) fun h' c1 c2 c3 c4 c5 kk=>⟨_,rfl,wpAny_letOwnedTupleGo_zip c1 fun h'' z'' sb=>?_⟩
  have fr:H s.heap.objs.size=none:=I.hok.fresh (AF _)
  have lt:∀b∈[z,TI,TO,i1,i2],b≠s.heap.objs.size:=by
   intro b hb
   simp only[AO,BJ,or_false]at hb
   rcases hb with rfl | rfl | rfl | rfl | rfl
   ·exact AW (AI hz)
   ·exact AW (AI hTI)
   ·exact AW (AI hTO)
   ·obtain⟨o,e,_⟩:=s1.obj;exact AW (AI e)
   ·obtain⟨o,e,_⟩:=s2.obj;exact AW (AI e)
  have I1:Inv X pins σ (upd H s.heap.objs.size (.tup [x,y])) {s with heap:=s.heap.push {cls:=.type "tuple",data:=.seq #[u1,u2]},toks:=s.toks} :=
   I.laid (fun b u e=>AC _ e) (AF _) ⟨by show 2≤sizeLine;rw[DF];decide,[u1,u2],.cons ru1 (.cons ru2 .nil),⟨_,AN _ rfl,rfl,rfl,_,rfl⟩⟩
  have hf':∀b∈[z,TI,TO,i1,i2],Cj X pins (upd H s.heap.objs.size (.tup [x,y])) b:=fun b hb=>by
   obtain⟨f0,f⟩:=hf b hb
   exact⟨by rw[ay (lt b hb)];exact f0,f⟩
  have up:∀c o,c≠z→h'.get? c=some o→h''.get? c=some o:=fun c o n e=>sb.extBut _ _ n e
  have I2:=uz (s:={s with heap:=s.heap.push {cls:=.type "tuple",data:=.seq #[u1,u2]},toks:=s.toks}) (h':=h'') (t':=s.toks) (ch:=[z,TI,TO,i1,i2]) I1 (fun b o hb e=>by
   simp only[AO,BJ,or_false,not_or]at hb
   rcases Heap.get?_push_cases e with⟨rfl,rfl⟩ | e
   ·exact up _ _ hb.1 c5
   ·exact up _ _ hb.1 (kk b o hb.1 hb.2.2.1 hb.2.2.2.1 hb.2.2.2.2 e)) hf'
  refine⟨.ref s.heap.objs.size,_,I2,rfl,⟨_,x,y,rfl,fr,rfl,fun zs hz'=>by rw[q1.inj I hz'];exact ex,fun zs hz'=>by rw[q2.inj I hz'];exact ey⟩,?_,fun b hb=>(hf' b hb).1⟩
  ·exact⟨z'',up _ _ D.TIz (kk _ _ D.TIz D.TITO D.TIi1 D.TIi2 hTI),⟨u1,u2,up _ _ D.TOz c2⟩,c3.keep fun o e=>up _ o D.i1z e,c4.keep fun o e=>up _ o D.i2z e⟩
 done:=by
  intro X hP hw hK hc i pins s σ H E I hf ⟨hz,hTI,⟨ta,tb,hTO⟩,s1,s2⟩ hg
  subst hP hw hK
  obtain⟨xs,ys,q1,q2,en⟩:=hg
  obtain⟨is1,rv1,p1,_⟩:=q1.vals I
  obtain⟨is2,rv2,p2,_⟩:=q2.vals I
  have l1:=rv1.length
  have l2:=rv2.length
  refine Qv (I.ok.hd hc) D hz hTI hTO s1 s2 p1 p2 (by rcases en with en | en;exact .inl (by simp;lia);exact .inr (by simp;lia)) fun h' kk=>⟨rfl,uz I (h':=h') (t':=s.toks) (ch:=[z,TI,TO,i1,i2]) (fun b o hb e=>?_) hf⟩
  simp only[AO,BJ,or_false,not_or]at hb
  exact kk b o hb.1 hb.2.2.1 hb.2.2.2.1 hb.2.2.2.2 e
 self:=fun _ _ _ _ _ st h=>wpAny_pyIter_zip st.1 h
theorem zy {K:PySem.W.Frag} {ι:List Addr} {H:Hp} {μ:Sto} {d:D} {v:V} {ds:List D} {g:Gd} (S:Sim K ι H μ) (hd:IsD K ι H d v) (hw:cu μ d=some (ds,g)) :
  ∃b a xs,v=.ref a∧Sq b K H a xs∧aj K ι H ds xs∧∀ι2 H2 μ2,ι <+: ι2→Ext H H2→Sim K ι2 H2 μ2→gd g μ2→∃ys,Sq b K H2 a ys∧aj K ι2 H2 ds ys:=by
 cases d with
 | tup es =>
  simp only[cu,BN,GV]at hw
  obtain⟨rfl,rfl⟩:=hw
  obtain⟨a,xs,rfl,hq,hds⟩:=g7 hd
  exact⟨false,a,xs,rfl,hq,hds,fun ι2 H2 μ2 q1 q2 q3 q4=>⟨xs,hq.ext q2,aj.mono q1 q2 _ _ hds⟩⟩
 | lst es =>
  simp only[cu,BN,GV]at hw
  obtain⟨rfl,rfl⟩:=hw
  obtain⟨a,xs,rfl,hq,hds⟩:∃a xs,v=.ref a∧FzL K H a xs∧aj K ι H es xs:=by simpa[IsD]using hd
  exact⟨true,a,xs,rfl,hq.sq,hds,fun ι2 H2 μ2 q1 q2 q3 q4=>⟨xs,(hq.ext q2).sq,aj.mono q1 q2 _ _ hds⟩⟩
 | loc n =>
  obtain⟨a,rfl,hn⟩:∃a,v=.ref a∧ι[n]? = some a:=by simpa[IsD]using hd
  have pre:∀{ι2:List Addr},ι <+: ι2→ι2[n]? = some a:=fun hp=>by
   obtain⟨t,rfl⟩:=hp
   rw[AV (AE.mp hn).1];exact hn
  cases em:μ[n]? with
  | none=>simp[cu,em]at hw
  | some o =>
   cases o with
   | l es =>
    simp only[cu,em,BN,GV]at hw
    obtain⟨rfl,rfl⟩:=hw
    obtain⟨a',q',ho⟩:=S.at em
    rw[hn]at q';cases q'
    obtain⟨xs,f1,f2⟩:=ho
    refine⟨true,a,xs,rfl,(show LsL K H a xs from .inl f1).sq,aj.mono (CG) (.refl _) _ _ f2,fun ι2 H2 μ2 q1 q2 q3 q4=>?_⟩
    obtain⟨a2,e2,o2⟩:=q3.at (show μ2[n]? = some (.l es)from q4)
    rw[pre q1]at e2;cases e2
    obtain⟨ys,g1,g2⟩:=o2
    exact⟨ys,(show LsL K H2 a ys from .inl g1).sq,aj.mono (CG) (.refl _) _ _ g2⟩
   | r es =>
    simp only[cu,em,BN,GV]at hw
    obtain⟨rfl,rfl⟩:=hw
    obtain⟨a',q',ho⟩:=S.at em
    rw[hn]at q';cases q'
    obtain⟨xs,f1,f2⟩:=ho
    refine⟨true,a,xs,rfl,(show LsL K H a xs from .inl f1).sq,f2,fun ι2 H2 μ2 q1 q2 q3 q4=>?_⟩
    obtain⟨a2,e2,o2⟩:=q3.at (show μ2[n]? = some (.r es)from q4)
    rw[pre q1]at e2;cases e2
    obtain⟨ys,g1,g2⟩:=o2
    exact⟨ys,(show LsL K H2 a ys from .inl g1).sq,g2⟩
   | d kvs=>simp[cu,em]at hw
   | dt kvs=>simp[cu,em]at hw
   | dead=>simp[cu,em]at hw
 | _=>simp[cu]at hw
theorem Ir {y:D} {ys:List D} (h:de [] y=some ys) (μ:Sto):cu μ y=some (ys,none):=by
 cases y<;>simp_all[de,cu]
theorem Qx {a b:Expr} {xa xb:Ex} {elts:List Expr} {k:Nat} {tp:Pos} {p pos:Pos} (hg:Gl X "zip") (hm:X.mg "zip"=none) (ha:PE X a (tE X.K φ xa)) (hb:PE X b (tE X.K φ xb)) (hs:starEach [a,b] X.env=[(false,eval a X.env),(false,eval b X.env)])
  (hs2:starEach [b] X.env=[(false,eval b X.env)]):PI X (.Tuple elts k tp) (.Call (.Name "zip" p) [a,b] [] pos) (tI X.K φ (.zip xa xb)):=by
 intro pins s σv H R I ⟨ι,σ,μ,hS,hL,h⟩
 simp only[evI]at h
 cases e1:evE φ xa σ μ with
 | exc _ _ _=>rw[e1]at h;exact h.elim
 | stuck=>rw[e1]at h;exact h.elim
 | ok d μ1 =>
 rw[e1]at h
 simp only[Res.ba]at h
 cases e2:evE φ xb σ μ1 with
 | exc _ _ _=>rw[e2]at h;exact h.elim
 | stuck=>rw[e2]at h;exact h.elim
 | ok d2 μ2 =>
 rw[e2]at h
 simp only[Res.ba]at h
 have hq:tEs X.K φ (.cons xa (.cons xb .nil)) σv H (fun vs H1=>∃ι1,ι <+: ι1∧Ext H H1∧Sim X.K ι1 H1 μ2∧aj X.K ι1 H1 [d,d2] vs):=⟨ι,σ,μ,hS,hL,by
  simp only[gw,e1,e2,Res.ba]
  exact fun ι1 v H1 p1 x1 s1 d1=>⟨ι1,p1,x1,s1,d1⟩⟩
 refine Call_ (my I hg hm PyProof.Rows.boot_zip (BU (thn (qj ha (qj hb El hs2) (by rw[hs,hs2]) pos pins s σv H _ I hq) fun us s1 ⟨vs,H1,I1,r1,ι1,p1,x1,S1,d1⟩=>?_) (by rw[hs,hs2]) (by rw[hs2];rfl)))
 simp only[aj]at d1
 obtain⟨v1,_,rfl,q1,v2,_,rfl,q2,rfl⟩:=d1
 cases r1 with
 | cons ra rr =>
 cases rr with
 | cons rb rr =>
 cases rr
 cases ew:cu μ2 d with
 | none=>simp only[ew]at h
 | some wg =>
 obtain⟨ds,g⟩:=wg
 cases ey:de [] d2 with
 | none=>simp only[ew,ey]at h
 | some es =>
 simp only[ew,ey]at h
 obtain⟨b1,a1,xs,rfl,sq1,ds1,st1⟩:=zy S1 q1 ew
 obtain⟨b2,a2,ys,rfl,sq2,ds2,st2⟩:=zy S1 q2 (Ir ey μ2)
 cases ra
 cases rb
 obtain⟨i1,rv1,p1',z1⟩:=sq1.vals I1
 obtain⟨i2,rv2,p2',z2⟩:=sq2.vals I1
 refine Nk p1' p2' fun h' c1 c2 c3 c4 c5 kk=>?_
 refine wpAny_pyIter_zip c1 ?_
 have I2:Inv X pins σv H1 {s1 with heap:=h'}:=I1.kept (t':=s1.toks) kk
 refine⟨_,[s1.heap.objs.size+4,s1.heap.objs.size+2,s1.heap.objs.size+3,s1.heap.objs.size,s1.heap.objs.size+1],_,_,H1,rfl,I2,Iq (b1:=b1) (b2:=b2) (zipApart_new p1'.lt p2'.lt),⟨c1,c2,⟨_,_,c3⟩,c4,c5⟩,fun b hb=>?_,h ι1 H1 _ p1 x1 S1 ?_⟩
 ·have hb':s1.heap.objs.size≤b:=by
   simp only[AO,BJ,or_false]at hb
   rcases hb with rfl | rfl | rfl | rfl | rfl<;>first | exact AF _ | exact HG _ _
  exact I1.fpOk hb' (I1.hok.fresh hb')
 ·have hlen:((ds.zip es).map fun p=>D.tup [p.1,p.2]).length=min ds.length es.length:=by simp
  have n1:=ds1.length
  have n2:=ds2.length
  refine⟨by rw[hlen];lia,fun i ι2 H2 μ3 q1 q2 q3 q4 hi=>?_,fun i ι2 H2 μ3 w H3 q1 q2 q3 q4 hi hy=>?_,fun ι2 H2 μ3 q1 q2 q3 q4=>?_⟩
  ·rw[hlen]at hi
   obtain⟨xs',y1,y2⟩:=st1 ι2 H2 μ3 q1 q2 q3 q4
   obtain⟨ys',y3,y4⟩:=st2 ι2 H2 μ3 q1 q2 q3 trivial
   obtain⟨v,ev,_⟩:=y2.get (AA (by lia:i<ds.length))
   obtain⟨v',ev',_⟩:=y4.get (AA (by lia:i<es.length))
   exact⟨xs',ys',v,v',y1,y3,ev,ev'⟩
  ·rw[hlen]at hi
   obtain⟨xs',y1,y2⟩:=st1 ι2 H2 μ3 q1 q2 q3 q4
   obtain⟨ys',y3,y4⟩:=st2 ι2 H2 μ3 q1 q2 q3 trivial
   have hi1:i<ds.length:=by lia
   have hi2:i<es.length:=by lia
   obtain⟨v,ev,hv⟩:=y2.get (AA hi1)
   obtain⟨v',ev',hv'⟩:=y4.get (AA hi2)
   obtain⟨p,x,y,rfl,hp,rfl,f1,f2⟩:=hy
   have e1':=f1 _ y1
   rw[ev]at e1';cases e1'
   have e2':=f2 _ y3
   rw[ev']at e2';cases e2'
   have X1:Ext H2 (upd H2 p (.tup [v,v'])):=Ext.new hp
   refine⟨X1,q3.new hp,.tup [ds[i],es[i]],by simp[CN,hi1,hi2],tup_is (xs:=[v,v']) (.inl ?_) ?_⟩
   ·exact .inl a8
   ·simp only[aj]
    exact⟨v,_,rfl,IsD.mono (AH _) X1 _ _ hv,v',_,rfl,IsD.mono (AH _) X1 _ _ hv',rfl⟩
  ·obtain⟨xs',y1,y2⟩:=st1 ι2 H2 μ3 q1 q2 q3 q4
   obtain⟨ys',y3,y4⟩:=st2 ι2 H2 μ3 q1 q2 q3 trivial
   have m1:=y2.length
   have m2:=y4.length
   rw[hlen]
   exact⟨xs',ys',y1,y3,by lia⟩
theorem rf {a b:Expr} {xa xb:Ex} {elts:List Expr} {k:Nat} {tp:Pos} {p pos:Pos} (hm:X.mg "zip"=none) (ha:PE X a (tE X.K φ xa)) (hb:PE X b (tE X.K φ xb)) (hg:Gl X "zip":=by rfl) (hs:starEach [a,b] X.env=[(false,eval a X.env),(false,eval b X.env)]:=by rfl) (hs2:starEach [b] X.env=[(false,eval b X.env)]:=by rfl) :
  PI X (.Tuple elts k tp) (.Call (.Name "zip" p) [a,b] [] pos) (tI X.K φ (.zip xa xb)):=Qx hg hm ha hb hs hs2
end
end Lp
namespace Lp
open PySem PySem.Spec PyProof.Rows L2
open AutoSeq1 (wpAny_loadPart')
theorem Nl (l:Addr) (items:Array Value) (n:Nat) (dct:Option Addr) (sl:Array (Option Value)) :
  Meets (Builtin.«enumerate.__new__» ⟨[.type "enumerate",.ref l],[]⟩) (fun _ R s=>s.heap.get? l=some {cls:=.type "tuple",dict:=dct,data:=.seq items n,slots:=sl} ∧
   R (.ok (.ret (.ref (s.heap.push {cls:=.type "tuple_iterator",data:=.fields #[.ref l,.int 0 0]}).objs.size)))
    {s with heap:=(s.heap.push {cls:=.type "tuple_iterator",data:=.fields #[.ref l,.int 0 0]}).push {cls:=.type "enumerate",data:=.fields #[.none,.bool false,.ref s.heap.objs.size,rawInt 0,.none,.none]}}) :=
 .of_wp fun prog w A R s h=>by
  obtain⟨hp,g,d,tk,os⟩:=s;obtain⟨hl,h⟩:=h
  have hsub:=sub_enumerate
  have hL:Heap.IsTuple (Shared.heap ⟨hp,g,d,tk,os⟩) l items:=⟨_,hl,rfl,n,rfl⟩
  wp_walk using CD hl
  refine wpAny_stack_any fun st=>AL ?_
  split
  ·rename_i c _ _ _ _ _
   cases(c==Value.type "enumerate")
   ·wp_walk using CD hl,DJ hL
    exact⟨_,rfl,h⟩
   ·wp_walk using CD hl,DJ hL
    exact⟨_,rfl,h⟩
  ·wp_walk using CD hl,DJ hL
   exact⟨_,rfl,h⟩
section
variable {prog : Program} {w : World} {A : Around} {E : Value → Shared → Prop} {s : Shared} {b : Bool}
theorem Nm {l:Addr} {items:Array Value} {Q:Value→Shared→Prop} (hL:SQ b s.heap l items)
  (h:∀h',IsEnum h' (s.heap.objs.size+1) s.heap.objs.size 0 .none→SI b h' s.heap.objs.size l 0→(∀b o,s.heap.get? b=some o→h'.get? b=some o)→Q (.ref (s.heap.objs.size+1)) {s with heap:=h'}) :
  wpAny (model prog w) A (call (.type "enumerate") [.ref l]) Q E s:=by
 cases b
 ·obtain⟨⟨c,dct,dt,sl⟩,hl,hc,n,hd⟩:=hL
  replace hc:c=.type "tuple":=hc
  replace hd:dt=.seq items n:=hd
  subst hc hd
  refine callType_new F.called_enumerate (by decide) (F.typeCall_enumerate_1 _) (F.newCall_enumerate_1 _) (fun obj=>F.args_object_init_2 obj _) F.entry_enumerate_new (Nl l items n dct sl) ⟨hl,?_⟩
  have hz:(s.heap.push {cls:=.type "tuple_iterator",data:=.fields #[.ref l,.int 0 0]}).objs.size=s.heap.objs.size+1:=CW ..
  show _∧_
  rw[hz]
  have he:IsEnum ((s.heap.push {cls:=.type "tuple_iterator",data:=.fields #[.ref l,.int 0 0]}).push
    {cls:=.type "enumerate",data:=.fields #[.none,.bool false,.ref s.heap.objs.size,rawInt 0,.none,.none]}) (s.heap.objs.size+1) s.heap.objs.size 0 .none:=by
   have:=AN (s.heap.push {cls:=.type "tuple_iterator",data:=.fields #[.ref l,.int 0 0]})
    (o:={cls:=.type "enumerate",data:=.fields #[.none,.bool false,.ref s.heap.objs.size,rawInt 0,.none,.none]}) rfl
   rw[hz]at this;exact this
  exact⟨⟨_,he,rfl⟩,h _ he ⟨_,AC _ (AN _ rfl),rfl,rfl⟩ fun b o x=>AC _ (AC _ x)⟩
 ·exact call_enumerate_list hL fun h' a1 a2 _ a3=>h h' a1 a2 a3
theorem Nn {e it l:Addr} {i:Nat} {items:Array Value} {x old:Value} {Q:Option Value→Shared→Prop}
  (he:IsEnum s.heap e it i old) (hit:SI b s.heap it l i) (hl:SQ b s.heap l items) (hx:items[i]? = some x) (hne:e≠it)
  (hQ:∀h',IsEnumOut h' e it ((i:Int)+1) x s.heap.objs.size→SI b h' it l (i+1)→h'.get? s.heap.objs.size=some {cls:=.type "tuple",data:=.seq #[.int i s.toks,x]} →
   (∀b o,b≠e→b≠it→s.heap.get? b=some o→h'.get? b=some o)→Q (some (.ref s.heap.objs.size)) {s with heap:=h',toks:=s.toks+1}) :
  wpAny (model prog w) A (pyNext (.ref e)) Q E s:=by
 have hT:s.TypeIs (.ref e) "enumerate":=⟨_,he,rfl⟩
 unfold pyNext
 refine AB (GS (BY (name:=Str.ofString "__next__") hT EK (CM EK hT F.entry_enumerate_next ?_ (F.args_enumerate_next_1 _))))
 obtain⟨hp,g,d,tk,os⟩:=s
 show wpAny _ _ (field (.ref e) 2>>=_) _ _ _
 refine AB (BQ he rfl (x:=.ref it) rfl ?_)
 refine AB (uy hit hl hx fun h₁ hit₁ hs₁=>?_)
 replace hs₁:Heap.SameBut it hp h₁:=hs₁
 have he₁:IsEnum h₁ e it i old:=(hs₁.2 e hne).trans he
 show wpAny _ _ (field (.ref e) 3>>=_) _ _ ⟨h₁,g,d,tk,os⟩
 refine AB (BQ he₁ rfl (x:=rawInt i) rfl ?_)
 show wpAny _ _ (field (.ref e) 4>>=_) _ _ ⟨h₁,g,d,tk,os⟩
 refine AB (BQ he₁ rfl (x:=.none) rfl ?_)
 show wpAny _ _ (mkInt i>>=_) _ _ ⟨h₁,g,d,tk,os⟩
 refine AB (wpAny_mkInt ?_)
 show wpAny _ _ (setField (.ref e) 3 (rawInt ((i:Int)+1))>>=_) _ _ ⟨h₁,g,d,tk+1,os⟩
 refine AB (BS he₁ (by simp) fun h₂ he₂ hs₂=>?_)
 replace hs₂:Heap.SameBut e h₁ h₂:=hs₂
 replace he₂:IsEnum h₂ e it ((i:Int)+1) old:=he₂
 show wpAny _ _ (setField (.ref e) 4 .none>>=_) _ _ ⟨h₂,g,d,tk+1,os⟩
 refine AB (BS he₂ (by simp) fun h₃ he₃ hs₃=>?_)
 replace hs₃:Heap.SameBut e h₂ h₃:=hs₃
 replace he₃:IsEnum h₃ e it ((i:Int)+1) old:=he₃
 show wpAny _ _ (newTuple [.int i tk,x]>>=_) _ _ ⟨h₃,g,d,tk+1,os⟩
 refine AB (wpAny_newTuple ?_)
 have he₄:IsEnum (h₃.push {cls:=.type "tuple",data:=.seq #[.int i tk,x]}) e it ((i:Int)+1) old:=AC _ he₃
 generalize hh₄:h₃.push {cls:=.type "tuple",data:=.seq #[.int i tk,x]}=h₄ at he₄
 have hsz:h₃.objs.size=hp.objs.size:=by rw[hs₃.1,hs₂.1,hs₁.1]
 have hel:e<hp.objs.size:=AI he
 have ht₄:h₄.get? hp.objs.size=some {cls:=.type "tuple",data:=.seq #[.int i tk,x]}:=by rw[←hh₄,←hsz];exact AN _ rfl
 have hk₄:∀b o,b≠e→b≠it→hp.get? b=some o→h₄.get? b=some o:=fun b o hbe hbi hb=>by
  rw[←hh₄];exact AC _ (hs₃.extBut b o hbe (hs₂.extBut b o hbe (hs₁.extBut b o hbi hb)))
 have hit₄:SI b h₄ it l (i+1):=by
  rw[←hh₄];exact((hit₁.but hs₂.extBut (Ne.symm hne)).but hs₃.extBut (Ne.symm hne)).keep fun o ho=>AC _ ho
 show wpAny _ _ (Builtin.SmallTypes.ownedTupleIsFree (.ref e)>>=_) _ _ ⟨h₄,g,d,tk+1,os⟩
 rw[hsz]
 clear hh₄ he₃ hs₃ he₂ hs₂ he₁ hs₁ hit₁ hsz h₃ h₂ h₁
 refine AB ?_
 unfold Builtin.SmallTypes.ownedTupleIsFree
 refine AB (BQ he₄ rfl (x:=.none) rfl (AL ?_))
 simp only[if_true]
 refine AB (HM ?_)
 refine AB (BQ he₄ rfl (x:=old) rfl ?_)
 refine AB (BS he₄ (by simp) fun h₅ he₅ hs₅=>?_)
 replace hs₅:Heap.SameBut e h₄ h₅:=hs₅
 replace he₅:IsEnum h₅ e it ((i:Int)+1) x:=he₅
 show wpAny _ _ (Builtin.SmallTypes.ownedTupleHandOut (.ref e) (.ref hp.objs.size)>>=_) _ _ ⟨h₅,g,d,tk+1,os⟩
 refine AB ?_
 unfold Builtin.SmallTypes.ownedTupleHandOut
 refine AB (BS he₅ (by simp) fun h₆ he₆ hs₆=>?_)
 replace hs₆:Heap.SameBut e h₅ h₆:=hs₆
 replace he₆:IsEnumOut h₆ e it ((i:Int)+1) x hp.objs.size:=he₆
 refine BS he₆ (by simp) fun h₇ he₇ hs₇=>?_
 replace hs₇:Heap.SameBut e h₆ h₇:=hs₇
 replace he₇:IsEnumOut h₇ e it ((i:Int)+1) x hp.objs.size:=he₇
 refine AB (GN (AL ⟨_,rfl,AL (hQ h₇ he₇ ?_ ?_ ?_)⟩))
 ·exact((hit₄.but hs₅.extBut (Ne.symm hne)).but hs₆.extBut (Ne.symm hne)).but hs₇.extBut (Ne.symm hne)
 ·exact hs₇.extBut _ _ (DB hel) (hs₆.extBut _ _ (DB hel) (hs₅.extBut _ _ (DB hel) ht₄))
 ·exact fun b o hbe hbi hb=>hs₇.extBut b o hbe (hs₆.extBut b o hbe (hs₅.extBut b o hbe (hk₄ b o hbe hbi hb)))
theorem Qy {e it l:Addr} {i:Nat} {items:Array Value} {old:Value} {Q:Option Value→Shared→Prop} (hh:A.handled=none)
  (he:IsEnum s.heap e it i old) (hit:SI b s.heap it l i) (hl:SQ b s.heap l items) (hx:items[i]? = none)
  (hQ:∀h',Heap.ExtBut it s.heap h'→Q none {s with heap:=h'}):wpAny (model prog w) A (pyNext (.ref e)) Q E s:=by
 have hT:s.TypeIs (.ref e) "enumerate":=⟨_,he,rfl⟩
 unfold pyNext
 refine AB (GS (BY (name:=Str.ofString "__next__") hT EK (CM EK hT F.entry_enumerate_next ?_ (F.args_enumerate_next_1 _))))
 show wpAny _ _ (field (.ref e) 2>>=_) _ _ _
 refine AB (BQ he rfl (x:=.ref it) rfl ?_)
 refine AB (Fe hh hit hl hx fun h' x he' hx'=>?_)
 obtain⟨o,ho,hc⟩:=hx'
 refine AB (HF (T:="StopIteration") (b:=true) ⟨o,ho,hc⟩ isSubtype_stop ?_)
 exact AL (hQ _ he')
end
section
variable {X : Cx} {pins : List (Addr × Obj)} {σ : St} {H : Hp} {s : Shared} {φ : Phi}
noncomputable def Ite (K:PySem.W.Frag) (b:Bool) (a:Addr):L2.It :=
 ⟨fun i H=>∃xs x,Sq b K H a xs∧xs[i]? = some x,
 fun i H v H'=>∃p x,v=.ref p∧H p=none∧H'=upd H p (.tup [.int i,x])∧∀xs,Sq b K H a xs→xs[i]? = some x,
 fun i H=>∃xs,Sq b K H a xs∧xs.length≤i⟩
theorem Ff {P:Program} {w:World} {K:PySem.W.Frag} {elts:List Expr} {k:Nat} {tp:Pos} {b:Bool} {e it a:Addr} (hne:e≠it) :
  Turn P w K (.Tuple elts k tp) (Ite K b a) [e,it] e (fun i h=>(∃old,IsEnum h e it i old)∧SI b h it a i) where
 mem:=by simp
 obj:=fun i h ⟨⟨old,he⟩,s1⟩ c hc=>by
  simp only[AO,BJ,or_false]at hc
  rcases hc with rfl | rfl
  ·exact⟨_,he,fun v e=>by cases e⟩
  ·obtain⟨o,e,_,d⟩:=s1.obj
   exact⟨o,e,fun v q=>by rw[d]at q;cases q⟩
 keep:=fun i h h' ⟨⟨old,he⟩,s1⟩ k=>⟨⟨old,k e (by simp) _ he⟩,s1.keep fun o q=>k it (by simp) o q⟩
 item:=by
  intro X hP hw hK hc i pins s σ H E I hf ⟨⟨old,he⟩,s1⟩ hg
  subst hP hw hK
  obtain⟨xs,x,q1,ex⟩:=hg
  obtain⟨is1,rv1,p1,_⟩:=q1.vals I
  obtain⟨u1,hu1,ru1⟩:=rv1.get ex
  refine Nn he s1 p1 (x:=u1) (by simpa using hu1) hne fun h' c1 c2 c3 kk=>⟨_,rfl,wpAny_letOwnedTupleGo_enum c1 fun h'' z'' sb=>?_⟩
  have fr:H s.heap.objs.size=none:=I.hok.fresh (AF _)
  have lt:∀c∈[e,it],c≠s.heap.objs.size:=by
   intro c hc
   simp only[AO,BJ,or_false]at hc
   rcases hc with rfl | rfl
   ·exact AW (AI he)
   ·obtain⟨o,q,_⟩:=s1.obj;exact AW (AI q)
  have I1:Inv X pins σ (upd H s.heap.objs.size (.tup [.int i,x])) {s with heap:=s.heap.push {cls:=.type "tuple",data:=.seq #[.int i s.toks,u1]},toks:=s.toks+1} :=
   I.laid (fun b u e=>AC _ e) (AF _) ⟨by show 2≤sizeLine;rw[DF];decide,[.int i s.toks,u1],.cons ⟨s.toks,rfl⟩ (.cons ru1 .nil),⟨_,AN _ rfl,rfl,rfl,_,rfl⟩⟩
  have hf':∀c∈[e,it],Cj X pins (upd H s.heap.objs.size (.tup [.int i,x])) c:=fun c hc=>by
   obtain⟨f0,f⟩:=hf c hc
   exact⟨by rw[ay (lt c hc)];exact f0,f⟩
  have up:∀c o,c≠e→h'.get? c=some o→h''.get? c=some o:=fun c o n q=>sb.extBut _ _ n q
  have I2:=uz (s:={s with heap:=s.heap.push {cls:=.type "tuple",data:=.seq #[.int i s.toks,u1]},toks:=s.toks+1}) (h':=h'') (t':=s.toks+1) (ch:=[e,it]) I1 (fun c o hc q=>by
   simp only[AO,BJ,or_false,not_or]at hc
   rcases Heap.get?_push_cases q with⟨rfl,rfl⟩ | q
   ·exact up _ _ hc.1 c3
   ·exact up _ _ hc.1 (kk c o hc.1 hc.2 q)) hf'
  refine⟨.ref s.heap.objs.size,_,I2,rfl,⟨_,x,rfl,fr,rfl,fun zs hz'=>by rw[q1.inj I hz'];exact ex⟩,⟨⟨u1,?_⟩,c2.keep fun o q=>up _ o (Ne.symm hne) q⟩,fun c hc=>(hf' c hc).1⟩
  exact z''
 done:=by
  intro X hP hw hK hc i pins s σ H E I hf ⟨⟨old,he⟩,s1⟩ hg
  subst hP hw hK
  obtain⟨xs,q1,en⟩:=hg
  obtain⟨is1,rv1,p1,_⟩:=q1.vals I
  have l1:=rv1.length
  refine Qy (I.ok.hd hc) he s1 p1 (by simp;lia) fun h' kk=>⟨rfl,uz I (h':=h') (t':=s.toks) (ch:=[e,it]) (fun c o hc q=>?_) hf⟩
  simp only[AO,BJ,or_false,not_or]at hc
  exact kk c o hc.2 q
 self:=fun _ _ _ _ _ st h=>wpAny_pyIter_enum st.1.choose_spec h
theorem Np {a:Expr} {xa:Ex} {elts:List Expr} {k:Nat} {tp:Pos} {p pos:Pos} (hg:Gl X "enumerate") (hm:X.mg "enumerate"=none) (ha:PE X a (tE X.K φ xa)) (hs:starEach [a] X.env=[(false,eval a X.env)]) :
  PI X (.Tuple elts k tp) (.Call (.Name "enumerate" p) [a] [] pos) (tI X.K φ (.enum xa)):=by
 intro pins s σv H R I ⟨ι,σ,μ,hS,hL,h⟩
 simp only[evI]at h
 cases e1:evE φ xa σ μ with
 | exc _ _ _=>rw[e1]at h;exact h.elim
 | stuck=>rw[e1]at h;exact h.elim
 | ok d μ2 =>
 rw[e1]at h
 simp only[Res.ba]at h
 have hq:tEs X.K φ (.cons xa .nil) σv H (fun vs H1=>∃ι1,ι <+: ι1∧Ext H H1∧Sim X.K ι1 H1 μ2∧aj X.K ι1 H1 [d] vs):=⟨ι,σ,μ,hS,hL,by
  simp only[gw,e1,Res.ba]
  exact fun ι1 v H1 p1 x1 s1 d1=>⟨ι1,p1,x1,s1,d1⟩⟩
 refine Call_ (my I hg hm PyProof.Rows.boot_enumerate (BU (thn (qj ha El hs pos pins s σv H _ I hq) fun us s1 ⟨vs,H1,I1,r1,ι1,p1,x1,S1,d1⟩=>?_) hs rfl))
 simp only[aj]at d1
 obtain⟨v1,_,rfl,q1,rfl⟩:=d1
 cases r1 with
 | cons ra rr =>
 cases rr
 cases ew:cu μ2 d with
 | none=>simp only[ew]at h
 | some wg =>
 obtain⟨ds,g⟩:=wg
 simp only[ew]at h
 obtain⟨b1,a1,xs,rfl,sq1,ds1,st1⟩:=zy S1 q1 ew
 cases ra
 obtain⟨i1,rv1,p1',z1⟩:=sq1.vals I1
 refine Nm p1' fun h' c1 c2 kk=>?_
 refine wpAny_pyIter_enum c1 ?_
 have I2:Inv X pins σv H1 {s1 with heap:=h'}:=I1.kept (t':=s1.toks) kk
 refine⟨_,[s1.heap.objs.size+1,s1.heap.objs.size],_,_,H1,rfl,I2,Ff (b:=b1) (a:=a1) (Nat.succ_ne_self _),⟨⟨_,c1⟩,c2⟩,fun c hc=>?_,h ι1 H1 _ p1 x1 S1 ?_⟩
 ·have hc':s1.heap.objs.size≤c:=by
   simp only[AO,BJ,or_false]at hc
   rcases hc with rfl | rfl<;>first | exact AF _ | exact HG _ _
  exact I1.fpOk hc' (I1.hok.fresh hc')
 ·have hlen:(((List.range ds.length).zip ds).map fun(p:Nat×D)=>D.tup [.int p.1,p.2]).length=ds.length:=by simp
  have n1:=ds1.length
  refine⟨by rw[hlen];lia,fun i ι2 H2 μ3 q1 q2 q3 q4 hi=>?_,fun i ι2 H2 μ3 w H3 q1 q2 q3 q4 hi hy=>?_,fun ι2 H2 μ3 q1 q2 q3 q4=>?_⟩
  ·rw[hlen]at hi
   obtain⟨xs',y1,y2⟩:=st1 ι2 H2 μ3 q1 q2 q3 q4
   obtain⟨v,ev,_⟩:=y2.get (AA hi)
   exact⟨xs',v,y1,ev⟩
  ·rw[hlen]at hi
   obtain⟨xs',y1,y2⟩:=st1 ι2 H2 μ3 q1 q2 q3 q4
   obtain⟨v,ev,hv⟩:=y2.get (AA hi)
   obtain⟨p,x,rfl,hp,rfl,f1⟩:=hy
   have e1':=f1 _ y1
   rw[ev]at e1';cases e1'
   have X1:Ext H2 (upd H2 p (.tup [.int i,v])):=Ext.new hp
   refine⟨X1,q3.new hp,.tup [.int i,ds[i]],by simp[CN,hi],tup_is (xs:=[.int i,v]) (.inl ?_) ?_⟩
   ·exact .inl a8
   ·simp only[aj]
    exact⟨.int i,_,rfl,by simp[IsD],v,_,rfl,IsD.mono (AH _) X1 _ _ hv,rfl⟩
  ·obtain⟨xs',y1,y2⟩:=st1 ι2 H2 μ3 q1 q2 q3 q4
   have m1:=y2.length
   rw[hlen]
   exact⟨xs',y1,by lia⟩
theorem Nq {a:Expr} {xa:Ex} {elts:List Expr} {k:Nat} {tp:Pos} {p pos:Pos} (hm:X.mg "enumerate"=none) (ha:PE X a (tE X.K φ xa)) (hg:Gl X "enumerate":=by rfl) (hs:starEach [a] X.env=[(false,eval a X.env)]:=by rfl) :
  PI X (.Tuple elts k tp) (.Call (.Name "enumerate" p) [a] [] pos) (tI X.K φ (.enum xa)):=Np hg hm ha hs
end
end Lp
namespace Lp
open PySem PySem.Spec PyProof.Rows L2
section
variable {X : Cx} {φ : Phi} {o e f : Expr} {xo xe xf : Ex} {pos apos cpos : Pos}
theorem Qz (t:Bool):PE X (.Dict [] [] pos) (tE X.K φ (.dic t .nil)):=by
 cases t with
 | false =>
  refine PE.imp Ho fun σv H Q ⟨ι,σ,μ,hS,hL,h⟩=>?_
  simp only[evE,gw,Res.ba,J7,BD,if_false]at h
  intro p hp
  refine h (ι++[p]) _ _ (GC _ _) (Ext.new hp) (hS.push hp ⟨[],a8,Paired.nil⟩) ?_
  simp only[Lp.IsD]
  exact⟨p,rfl,by rw[←hS.len];simp⟩
 | true =>
  refine PE.imp Hq fun σv H Q ⟨ι,σ,μ,hS,hL,h⟩=>?_
  simp only[evE,gw,Res.ba,J7,if_true]at h
  intro p hp
  refine h (ι++[p]) _ _ (GC _ _) (Ext.new hp) (hS.push hp ⟨[],a8,Paired.nil⟩) ?_
  simp only[Lp.IsD]
  exact⟨p,rfl,by rw[←hS.len];simp⟩
theorem u0 (hu:X.A.units+64<cLine) (ho:PE X o (tE X.K φ xo)) (he:PE X e (tE X.K φ xe)) (hf:PE X f (tE X.K φ xf)) (m:M2 X o "get" apos e f cpos:=by exact⟨rfl,rfl,rfl,rfl⟩) :
  PE X (.Call (.Attribute o "get" apos) [e,f] [] cpos) (tE X.K φ (.meth .get xo (.cons xe (.cons xf .nil)))):=by
 refine PE.imp (Hr (by lia) ho he hf m) fun σv H Q ⟨ι,σ,μ,hS,hL,h⟩=>?_
 simp only[evE,gw]at h
 obtain⟨d,μ1,e1,h⟩:=h.bind
 refine⟨ι,σ,μ,hS,hL,?_⟩
 rw[e1]
 intro ι1 x H1 p1 x1 s1 d1
 cases d with
 | loc n =>
  obtain⟨a,rfl,hn⟩:∃a,x=.ref a∧ι1[n]? = some a:=by simpa[Lp.IsD]using d1
  cases em:μ1[n]? with
  | none=>simp[iy,em,gq]at h
  | some ob =>
   cases ob with
   | d kvs =>
    simp only[iy,em,if_true,Res.bind_assoc,Res.ba]at h
    obtain⟨a',q',kx,hk1,hk2⟩:=s1.at em
    rw[hn]at q';cases q'
    obtain⟨y,μ2,e2,h⟩:=h.bind
    refine⟨a,rfl,.inl ⟨_,.inl hk1⟩,ι1,σ,μ1,s1,hL.mono p1 x1,?_⟩
    rw[e2]
    intro ι2 yv H2 p2 x2 s2 d2
    obtain⟨z,μ3,e3,h⟩:=h.bind
    refine⟨ι2,σ,μ2,s2,(hL.mono p1 x1).mono p2 x2,?_⟩
    rw[e3]
    intro ι3 zv H3 p3 x3 s3 d3
    simp only[mtD,Mp]at h
    cases ed:dictAt μ3 (.loc n) y with
    | none=>simp only[ed]at h;exact h.elim
    | some kvs3 =>
     simp only[ed]at h
     obtain⟨p,q,xs,e4,rfl,rfl,hp,hk⟩:=zu s3 (IsD.mono p3 x3 _ _ (IsD.mono p2 x2 _ _ d1)) (IsD.mono p3 x3 _ _ d2) ed
     cases e4
     exact⟨_,Hm.k hp,h ι3 _ H3 ((p1.trans p2).trans p3) ((x1.trans x2).trans x3) s3 ((pq hk).getD d3)⟩
   | _=>simp[iy,em,gq]at h
 | _=>simp[iy,gq]at h
end
end Lp
namespace Lp
open PySem PySem.Spec PyProof.Rows L2
section
variable {X : Cx} {pins : List (Addr × Obj)} {σ : St} {H : Hp} {s : Shared} {φ : Phi}
theorem Nr {p:Addr} {xs:List (Key×V)} (I:Inv X pins σ H s) (h:H p=some (.dK xs)):∃o,Inv X pins σ (upd H p (.frz o (.dK xs))) s:=by
 have hp:=I.hok p _ h
 obtain⟨hz,hsys,vs,rel,o,es,ep,hget,r⟩:=id hp
 refine⟨o,I.ok,I.os,I.bare,⟨I.base.keep,I.base.slot,fun b o e hn hx=>?_,I.base.there,fun b ys e=>?_,fun b o u e=>?_,fun b ps e=>?_⟩,I.loc,I.cell,?_,fun x c e=>?_,fun q hq=>?_,fun b u e=>?_,I.len⟩
 ·have q:=I.base.free b o e hn hx
  rw[ay (fun z=>by subst z;rw[h]at q;cases q)]
  exact q
 ·have q:=I.base.tups b ys e
  rw[ay (ma q h (by intro z;cases z))];exact q
 ·have q:=I.base.frzs b o u e
  rw[ay (ma q h (by intro z;cases z))];exact q
 ·obtain⟨more,q⟩:=I.base.tbls b ps e
  exact⟨more,by rw[ay (ma q h (by intro z;cases z))];exact q⟩
 ·rw[ay (fun z=>by rw[←z,I.free]at h;cases h)];exact I.free
 ·rw[ay (fun z=>by rw[←z,I.freeC x c e]at h;cases h)];exact I.freeC x c e
 ·obtain⟨e1,e2,e3⟩:=I.pin q hq
  refine⟨e1,?_,e3⟩
  rw[ay (fun z=>by rw[←z,e2]at h;cases h)];exact e2
 ·by_cases hb:b=p
  ·subst hb
   rw[a8]at e;cases e
   exact⟨hget,hz,hsys,vs,rel,o,es,ep,hget,r⟩
  ·rw[ay hb]at e
   refine(I.hok b u e).stay (fun c v _ q=>q) (fun c q=>?_) (fun c ys q=>?_)
   ·rw[ay (ma q h (by intro z;cases z))];exact q
   ·rw[ay (ma q h (by intro z;cases z))];exact q
theorem t6 {α β:Type} {F:α→β→Prop}:∀{xs:List α} {ys:List β} {i:Nat} {y:β},Paired F xs ys→ys[i]? = some y→∃x,xs[i]? = some x∧F x y
 | _,_,_,_,.nil,e=>by simp at e
 | x::_,_::_,0,_,.cons h _,e=>by simp at e;subst e;exact⟨x,rfl,h⟩
 | _::_,_::_,i+1,_,.cons _ t,e=>by
  obtain⟨x,h1,h2⟩:=t6 (i:=i) t (by simpa using e)
  exact⟨x,by simpa using h1,h2⟩
theorem u3:entryFor table "dict_valueiterator.__iter__"=some Builtin.«dict_keyiterator.__iter__» :=
 entryFor_alias (id':="dict_keyiterator.__iter__") (by kernel_rfl) (by first | rfl | decide +kernel | (unfold String.splitOn;simp +decide [String.splitOnAux])) (by decide +kernel) (by kernel_rfl)
noncomputable def Itv (a:Addr) (o:Obj) (xs:List (Key×V)):L2.It :=
 ⟨fun i H=>H a=some (.frz o (.dK xs))∧i<xs.length,fun i H x H'=>H'=H∧∃k,xs[i]? = some (k,x),fun i H=>H a=some (.frz o (.dK xs))∧xs.length≤i⟩
theorem Kh:∀{kvs:List (Key×V)} {vs:List (Key×Value)} {i:Nat} {p:Key×V},KV kvs vs→kvs[i]? = some p→∃u,vs[i]? = some (p.1,u)∧RelV p.2 u
 | _,_,_,_,.nil,e=>by simp at e
 | q::_,r::_,0,p,.cons h _,e=>by
  simp at e;subst e
  exact⟨r.2,by rw[h.1];rfl,h.2⟩
 | q::kvs,r::vs,i+1,p,.cons _ t,e=>by
  obtain⟨u,h1,h2⟩:=Kh (i:=i) t (by simpa using e)
  exact⟨u,by simpa using h1,h2⟩
theorem Ki {a:Addr} {o:Obj} {xs:List (Key×V)} {ep:Nat} (I:Inv X pins σ H s) (hep:∃es,o.data=.dict es ep) (e:H a=some (.frz o (.dK xs))):∃vs,KV xs vs∧s.heap.DictAt (bz X.prog X.w) a vs ep:=by
 obtain⟨hget,hz,hsys,vs,rel,o',es',ep',hget',r1,r2,r3⟩:=(show gv X.prog X.w H s.heap a (.frz o (.dK xs))from I.hok a _ e)
 rw[hget]at hget';cases hget'
 obtain⟨es,h⟩:=hep
 rw[h]at r2;cases r2
 exact⟨vs,rel,o,_,hget,r1,h,r3⟩
theorem Fg {P:Program} {w:World} {K:PySem.W.Frag} {tg:Expr} {a it:Addr} {o:Obj} {xs:List (Key×V)} {ep:Nat} (hep:∃es,o.data=.dict es ep) :
  Turn P w K tg (Itv a o xs) [it] it (fun i h=>h.IsValIter it a i xs.length ep) where
 mem:=by simp
 obj:=fun i h st b hb=>by
  have e:b=it:=by simpa using hb
  subst e
  obtain⟨o,e,c,d⟩:=st
  exact⟨o,e,fun v z=>by rw[d]at z;cases z⟩
 keep:=fun i h h' ⟨o,e,r⟩ k=>⟨o,k it (by simp) o e,r⟩
 item:=by
  intro X hP hw hK hc i pins s σ H E I hf st hg
  subst hP hw hK
  obtain⟨hq,hi⟩:=hg
  obtain⟨vs,rel,dd⟩:=Ki I hep hq
  have hl:vs.length=xs.length:=(DE rel).symm
  obtain⟨u,hu,ru⟩:=Kh rel (AA hi)
  obtain⟨f0,f1,f2,f3,f4,f5⟩:=hf it (by simp)
  refine wpAny_pyNext_values_item (by rw[hl];exact st) dd hu fun h' st' sb=>?_
  rw[hl]at st'
  have I1:Inv X pins σ H {s with heap:=h'}:=I.turned (t':=s.toks) (fun b o hb e=>(sb.2 b hb).trans e) f0 f1 f3 f4 f5
  obtain⟨o',e',c',d'⟩:=id st'
  exact⟨u,rfl,Hg (s:={s with heap:=h'}) e' c' d' (by decide) ⟨_,H,I1,ru,⟨rfl,_,AA hi⟩,st',fun b hb=>(hf b hb).1⟩⟩
 done:=by
  intro X hP hw hK hc i pins s σ H E I hf st hg
  subst hP hw hK
  obtain⟨hq,hi⟩:=hg
  obtain⟨vs,rel,dd⟩:=Ki I hep hq
  have hl:vs.length=xs.length:=(DE rel).symm
  obtain⟨f0,f1,f2,f3,f4,f5⟩:=hf it (by simp)
  exact wpAny_pyNext_values_end (I.ok.hd hc) (by rw[hl];exact st) dd (AQ (by lia)) fun h' eb=>⟨rfl,I.turned (t':=s.toks) (fun b o hb e=>eb b o hb e) f0 f1 f3 f4 f5⟩
 self:=fun A i s Q E st h=>by
  have hT:s.TypeIs (.ref it) "dict_valueiterator":=st.typeIs
  refine wpAny_pyIter_slot hT FN (CM FN hT u3 ?_ (F.args_dict_valueiterator_iter_1 _))
  show wpAny _ _ (ret (.ref it)) _ _ s
  exact AL ⟨_,rfl,"dict_valueiterator",_,hT,F.slot_dict_valueiterator_next.lookup,h⟩
theorem Nt {o tg:Expr} {xo:Ex} {apos cpos:Pos} (ho:PE X o (tE X.K φ xo)) (hbase:attributeBase o "values" X.env (eval o X.env)=eval o X.env) (hline:(apos.endLine==cpos.line)=true) :
  PI X tg (.Call (.Attribute o "values" apos) [] [] cpos) (tI X.K φ (.vals xo)):=by
 intro pins s σv H R I ⟨ι,σ,μ,hS,hL,h⟩
 simp only[evI]at h
 cases e1:evE φ xo σ μ with
 | exc _ _ _=>rw[e1]at h;exact h.elim
 | stuck=>rw[e1]at h;exact h.elim
 | ok d μ1 =>
 rw[e1]at h
 simp only[Res.ba]at h
 cases d with
 | loc n =>
  simp only at h
  cases em:μ1[n]? with
  | none=>rw[em]at h;exact h.elim
  | some ob =>
   rw[em]at h
   cases ob with
   | d kvs =>
    simp only at h
    have hq:tE X.K φ xo σv H (fun v H1=>∃ι1,ι <+: ι1∧Ext H H1∧Sim X.K ι1 H1 μ1∧Lp.IsD X.K ι1 H1 (.loc n) v):=⟨ι,σ,μ,hS,hL,by rw[e1];exact fun ι1 v H1 p1 x1 s1 d1=>⟨ι1,p1,x1,s1,d1⟩⟩
    refine wpAny_Call_method0_late hbase hline (thn (ho pins s σv H _ I hq) fun u s1 ⟨v,H1,I1,r1,ι1,p1,x1,S1,d1⟩=>?_)
    obtain⟨a,rfl,hn⟩:∃a,v=.ref a∧ι1[n]? = some a:=by simpa[Lp.IsD]using d1
    obtain⟨a',q',xs,hH,hkv⟩:=S1.at em
    rw[hn]at q';cases q'
    obtain rfl:u=Value.ref a:=r1
    obtain⟨t1,t2,hsys⟩:=J4 I1 (.inl ⟨_,.inl hH⟩)
    obtain⟨_,_,vs0,_,dd0⟩:=Mf I1.hok hH
    refine⟨"dict","dict.values",HC,GW,PySem.F.type_dict_values,t1,t2,EB rfl (PySem.evalArgs_none ?_)⟩
    refine call_meetsIn GW t1 PySem.F.entry_dict_values (PySem.F.args_dict_values_1 _) (meets_dict_values (bz X.prog X.w) a hsys) ⟨⟨vs0,dd0⟩,?_⟩
    have I1':Inv X pins σv H1 {s1 with heap:=s1.heap.push {cls:=.type "dict_values",data:=.fields #[.ref a]}}:=I1.kept (t':=s1.toks) fun b o e=>AC _ e
    obtain⟨fo,I2⟩:=Nr I1' hH
    obtain⟨hget,hz,_,vs,rel,o',es,ep,hget',r⟩:=(show gv X.prog X.w _ _ a (.frz fo (.dK xs))from I2.hok a _ a8)
    rw[hget]at hget';cases hget'
    have dat:Heap.DictAt (bz X.prog X.w) (s1.heap.push {cls:=.type "dict_values",data:=.fields #[.ref a]}) a vs ep:=⟨fo,es,hget,r⟩
    have hl:vs.length=xs.length:=(DE rel).symm
    show wpAny _ _ (pyIter (.ref s1.heap.objs.size)) _ _ _
    refine wpAny_pyIter_values (s:={s1 with heap:=s1.heap.push {cls:=.type "dict_values",data:=.fields #[.ref a]}}) (knd:=bz X.prog X.w) (v:=s1.heap.objs.size) ⟨_,AN _ rfl,rfl,rfl⟩ dat ?_
    have X2:Ext H1 (upd H1 a (.frz fo (.dK xs))):=.dK hH
    refine⟨_,[(s1.heap.push {cls:=.type "dict_values",data:=.fields #[.ref a]}).objs.size],_,_,_,rfl,I2.kept (t':=s1.toks) fun b o e=>AC _ e,Fg (a:=a) (o:=fo) (xs:=xs) (ep:=ep) ⟨es,r.2.1⟩,⟨_,AN _ rfl,rfl,by rw[hl];rfl⟩,fun b hb=>?_,h ι1 _ _ p1 (x1.trans X2) (S1.put hn X2 ⟨_,a8⟩) ?_⟩
    ·have e:b=(s1.heap.push {cls:=.type "dict_values",data:=.fields #[.ref a]}).objs.size:=by simpa using hb
     subst e
     exact I2.fpOk (AF _) (I2.hok.fresh (AF _))
    ·have hk:kvs.length=xs.length:=DE hkv
     have get:∀(i:Nat) (hi:i<xs.length) k x,xs[i]? = some (k,x)→∃d,(kvs.map (·.2))[i]? = some d∧Lp.IsD X.K [] H1 d x:=fun i hi k x e=>by
      obtain⟨p,e1,_,q⟩:=t6 hkv e
      exact⟨p.2,by rw[AX,e1];rfl,q⟩
     refine⟨by rw[AG,hk];exact hz,fun i ι2 H2 μ3 q1 q2 q3 q4 hi=>?_,fun i ι2 H2 μ3 w H3 q1 q2 q3 q4 hi hy=>?_,fun ι2 H2 μ3 q1 q2 q3 q4=>?_⟩
     ·exact⟨q2.frzs _ _ _ a8,by rw[AG,hk]at hi;exact hi⟩
     ·obtain⟨rfl,k,e⟩:=hy
      rw[AG,hk]at hi
      obtain⟨d,e2,hd⟩:=get i hi k w e
      exact⟨.refl _,q3,d,e2,IsD.mono CG (X2.trans q2) _ _ hd⟩
     ·exact⟨q2.frzs _ _ _ a8,by rw[AG,hk];exact AF _⟩
   | _=>exact h.elim
 | _=>exact h.elim
theorem Nu {o tg:Expr} {xo:Ex} {apos cpos:Pos} (ho:PE X o (tE X.K φ xo)) (hbase:attributeBase o "values" X.env (eval o X.env)=eval o X.env:=by rfl) (hline:(apos.endLine==cpos.line)=true:=by rfl) :
  PI X tg (.Call (.Attribute o "values" apos) [] [] cpos) (tI X.K φ (.vals xo)):=Nt ho hbase hline
theorem Q0 (iw il iw':Nat) {c:Int} {j:Nat} {xw xl xw':Str} {p0 p1 p2 p3 p4 pos:Pos}
  (hNw:X.N[iw]? = some xw:=by rfl) (hvw:Vis X.env.scope xw:=by first | exact Or.inl rfl | exact Or.inr (Or.inl rfl) | exact Or.inr (Or.inr rfl)) (hdw:(xw==("__debug__":Str))=false:=by decide) (hcw:(xw==("__classdict__":Str))=false:=by decide)
  (hNl:X.N[il]? = some xl:=by rfl) (hvl:Vis X.env.scope xl:=by first | exact Or.inl rfl | exact Or.inr (Or.inl rfl) | exact Or.inr (Or.inr rfl)) (hdl:(xl==("__debug__":Str))=false:=by decide) (hcl:(xl==("__classdict__":Str))=false:=by decide)
  (hNv:X.N[iw']? = some xw':=by rfl) (hvv:Vis X.env.scope xw':=by first | exact Or.inl rfl | exact Or.inr (Or.inl rfl) | exact Or.inr (Or.inr rfl)) (hdv:(xw'==("__debug__":Str))=false:=by decide) (hcv:(xw'==("__classdict__":Str))=false:=by decide) :
  PE X (.Dict [some (.Constant (.int c) j p0),some (.Name xl p1)] [.UnaryOp .USub (.Name xw p2) p3,.Name xw' p4] pos)
   (tE X.K φ (.dic false (.cons (.cst (.int c)) (.cons (.neg (.var iw)) (.cons (.var il) (.cons (.var iw') .nil)))))):=by
 refine PE.imp (Mi (Ay Ju (Te O8 (sr hNw hvw hdw hcw)) (Ay (sr hNl hvl hdl hcl) (sr hNv hvv hdv hcv) Mh)) rfl rfl (by simp) (by simp)) fun σv H Q ⟨ι,σ,μ,hS,hL,h⟩=>?_
 simp only[evE,gw,Res.ba]at h
 intro p hp
 cases ew:σ[iw]? with
 | none=>rw[ew]at h;exact h.elim
 | some ow =>
 cases ow with
 | none=>rw[ew]at h;exact h.elim
 | some dw =>
 rw[ew]at h
 simp only[Res.ba]at h
 cases dw with
 | int w =>
  simp only[Res.ba]at h
  cases el:σ[il]? with
  | none=>rw[el]at h;exact h.elim
  | some ol =>
  cases ol with
  | none=>rw[el]at h;exact h.elim
  | some dl =>
  rw[el]at h
  simp only[Res.ba]at h
  cases ev:σ[iw']? with
  | none=>rw[ev]at h;exact h.elim
  | some ov =>
  cases ov with
  | none=>rw[ev]at h;exact h.elim
  | some dv =>
  rw[ev]at h
  simp only[Res.ba]at h
  cases dl with
  | int l =>
   simp only[J7]at h
   split at h
   ·rename_i hc
    obtain⟨_,_,hpv⟩:=hc
    obtain⟨vw,e1,q1⟩:=hL _ _ ew
    obtain⟨vl,e2,q2⟩:=hL _ _ el
    obtain⟨vv,e3,q3⟩:=hL _ _ ev
    cases dg q1
    cases dg q2
    refine⟨.int w,e1,w,rfl,.int l,e2,vv,e3,a8,[(.inl c,.int (-w)),(.inl l,vv)],rfl,by simp,?_⟩
    rw[Dw]
    refine h (ι++[p]) _ _ (GC _ _) (Ext.new hp) (hS.push hp ⟨_,a8,?_⟩) ?_
    ·have X1:Ext H (upd H p (.dK (qg [] [(.inl c,.int (-w)),(.inl l,vv)]))):=Ext.new hp
     have k0:Hu X.K (upd H p (.dK (qg [] [(.inl c,.int (-w)),(.inl l,vv)]))) [(.int c,.int (-w))] [(.inl c,.int (-w))]:=.cons ⟨by simp[Lp.IsD,kV],by simp[Lp.IsD]⟩ .nil
     exact A3 (k:=.inl l) (IsD.mono CG X1 _ _ (IsD.pur hpv q3)) k0
    ·simp only[Lp.IsD]
     exact⟨p,rfl,by rw[←hS.len];simp⟩
   ·exact h.elim
  | _=>exact h.elim
 | _=>exact h.elim
end
end Lp
namespace Lp
open PySem PySem.Spec PyProof.Rows L2
section
variable {X : Cx} {φ : Phi} {pos : Pos}
theorem zz:∀(r:List Int) (x:Int),Ej x r≤x∧(∀y∈r,Ej x r≤y)∧(Ej x r=x∨Ej x r∈r)
 | [],x=>⟨EZ _,by simp,.inl rfl⟩
 | y::r,x=>by
  have ih:=zz r (if y<x then y else x)
  simp only[Ej]
  split at ih
  ·rename_i hlt
   rw[if_pos hlt]
   refine⟨by lia,fun z hz=>?_,?_⟩
   ·rcases AO.mp hz with rfl | hz
    ·exact ih.1
    ·exact ih.2.1 z hz
   ·rcases ih.2.2 with e | e
    ·exact .inr (by rw[e];simp)
    ·exact .inr (AJ _ e)
  ·rename_i hlt
   rw[if_neg hlt]
   refine⟨ih.1,fun z hz=>?_,?_⟩
   ·rcases AO.mp hz with rfl | hz
    ·lia
    ·exact ih.2.1 z hz
   ·rcases ih.2.2 with e | e
    ·exact .inl e
    ·exact .inr (AJ _ e)
theorem Nv {m:Mk} (hc:X.calm=true):fk X (.builtin "min") (qt X.K (btD .min1 m)):=by
 intro pins s σ H xs us Q I r ⟨ι,ds,μ,hS,hds,h⟩
 obtain⟨d,v,rfl,hv,h⟩:=jn hds h
 obtain⟨a,ns,rfl,hq,h⟩:=E2 hS hv h
 obtain⟨u,rfl,ru⟩:=vals1 r
 cases(show u=Value.ref a from ru)
 cases ns with
 | nil=>exact h.elim
 | cons n0 r0 =>
 refine call_min_walk (p5 I hq (show X.A.in1.handled=none from I.ok.hd hc) fun it fp its St s2 hvs W st hfp hI=>?_)
 have hl:(n0::r0).length=its.length:=by have:=hvs.length;simpa using this
 have at_:∀(i:Nat) w,its[i]? = some w→∃t,w=.int ((n0::r0).getD i 0) t:=fun i w e=>by
  have hi:i<(n0::r0).length:=by rw[hl];exact(AE.mp e).1
  obtain⟨u',e1,⟨t,e2⟩⟩:=hvs.get (i:=i) (x:=.int (n0::r0)[i]) (by rw[AX,AA hi];rfl)
  rw[e]at e1;cases e1
  exact⟨t,by rw[e2];simp[AT,AA hi]⟩
 refine⟨it,fp,[it],its.length,_,St,fun i j=>decide ((n0::r0).getD i 0<(n0::r0).getD j 0),rfl,W,st,hfp,by rw[←hl];simp,CmpOf.ints_lt (fun i=>(n0::r0).getD i 0) at_,fun w h' tk hw hk=>?_⟩
 ·obtain⟨t,rfl⟩:=at_ _ w hw
  have ab:=argBest_lt (fun i=>(n0::r0).getD i 0) (its.length-1)
  have ml:=zz r0 n0
  have hl':r0.length+1=its.length:=by simpa using hl
  have e:(n0::r0).getD (argBest (fun i j=>decide ((n0::r0).getD i 0<(n0::r0).getD j 0)) (its.length-1)) 0=Ej n0 r0:=by
   apply Int.le_antisymm
   ·have mem:Ej n0 r0∈n0::r0:=by rcases ml.2.2 with e | e;(rw[e];simp);exact AJ _ e
    obtain⟨k,hk,ek⟩:=CJ.mp mem
    have:=ab.2 k (by simp at hk;lia)
    rw[←ek]
    simpa[AT,AA hk]using this
   ·have hb:argBest (fun i j=>decide ((n0::r0).getD i 0<(n0::r0).getD j 0)) (its.length-1)<(n0::r0).length:=by
     have:=ab.1
     simp only[BH];lia
    generalize argBest (fun i j=>decide ((n0::r0).getD i 0<(n0::r0).getD j 0)) (its.length-1)=b at hb
    have mem:(n0::r0).getD b 0∈n0::r0:=by
     rw[AT,AA hb]
     exact CH hb
    rcases AO.mp mem with e | e
    ·rw[e];exact ml.1
    ·exact ml.2.1 _ e
  exact⟨.int (Ej n0 r0),H,hI h' tk hk,⟨t,by rw[e]⟩,h.ok hS (by simp[IsD])⟩
theorem Iu {m:Mk} {p:Pos} {e:Expr} {xs:Exs} (hm:X.mg "min"=none) (ha:PA X [e] (tEs X.K φ xs)) (hc:X.calm=true:=by rfl) (hg:Gl X "min":=by rfl) (he:starEach [e] X.env=(false,eval e X.env)::starEach [] X.env:=by rfl) (hpl:(backTo pos (starEach [] X.env)).any (·.1)=false:=by rfl) :
  PE X (.Call (.Name "min" p) [e] [] pos) (tE X.K φ (.blt .min1 m xs)):=jo (r:=fun _ _ _=>True) (es:=[]) (g9 (Nv hc) hg hm (by first | exact HW | decide +kernel) ha (by decide) (by decide) he hpl)
end
end Lp
namespace Lp.Srt
open PySem PySem.W PyProof.Rows
noncomputable def KW {α:Type} (lt:Nat→Nat→Bool) (n:Nat):KasT α→(α→Prop)→Prop
 | .ret a,Q=>Q a
 | .ask i j k,Q=>i<n∧j<n∧KW lt n (k (lt i j)) Q
theorem KW.bd {α β:Type} {lt:Nat→Nat→Bool} {n:Nat} {f:α→KasT β} {Q:β→Prop}:∀{t:KasT α},KW lt n t (fun a=>KW lt n (f a) Q)→KW lt n (t.bind f) Q
 | .ret _,h=>h
 | .ask i j k,h=>⟨h.1,h.2.1,KW.bd h.2.2⟩
theorem KW.weak {α:Type} {lt:Nat→Nat→Bool} {n:Nat} {Q Q':α→Prop} (hq:∀a,Q a→Q' a):∀{t:KasT α},KW lt n t Q→KW lt n t Q'
 | .ret _,h=>hq _ h
 | .ask _ _ _,h=>⟨h.1,h.2.1,KW.weak hq h.2.2⟩
section
variable {r : Nat → Nat} {n : Nat}
noncomputable abbrev ltR (r:Nat→Nat) (i j:Nat):Bool:=decide (r i<r j)
noncomputable def PP (n:Nat) (p:Array Nat):Prop:=p.toList.Perm (List.range n)
noncomputable def Ky (r:Nat→Nat) (p:Array Nat) (x:Nat):Nat:=r (p.getD x 0)
noncomputable def Up (r:Nat→Nat) (p:Array Nat) (k:Nat):Prop:=∀i j,i≤j→j<k→Ky r p i≤Ky r p j
noncomputable def Dn (r:Nat→Nat) (p:Array Nat) (k:Nat):Prop:=∀i j,i≤j→j<k→Ky r p j≤Ky r p i
theorem PP.sz {p:Array Nat} (h:PP n p):p.size=n:=by
 have:=h.length_eq
 simpa using this
theorem PP.inb {p:Array Nat} (h:PP n p) (hn:0<n) (x:Nat):p.getD x 0<n:=by
 by_cases hx:x<p.size
 ·have e:p.getD x 0=p[x]:=by simp[hx]
  rw[e]
  have:p[x]∈List.range n:=h.mem_iff.mp (by simp)
  simpa using this
 ·have e:p.getD x 0=0:=by simp[hx]
  rw[e];exact hn
theorem yc (p:Array Nat) (x:Nat):Ky r p x=r ((p[x]?).getD 0):=by
 unfold Ky
 rw[Array.getD_eq_getD_getElem?]
theorem PP.rev {p:Array Nat} (h:PP n p) (i j:Nat):PP n (kas_rev p i j):=(GD.mp (mirror_perm p i j ((j-i) / 2))).trans h
theorem PP.bub {p:Array Nat} (h:PP n p) (i d:Nat):PP n (bubble p i d):=(GD.mp (bubble_perm p i d)).trans h
theorem A9 {p:Array Nat} {i j:Nat} (hj:j≤p.size) (hij:i≤j) (x:Nat):Ky r (kas_rev p i j) x=if i≤x∧x<j then Ky r p (i+j-1-x)else Ky r p x:=by
 rw[yc]
 unfold kas_rev
 rw[getElem?_mirror hj ((j-i) / 2) (by lia) x]
 by_cases h:i≤x∧x<j
 ·rw[if_pos h]
  split
  ·rw[yc]
  ·rename_i hm
   have:x=i+j-1-x:=by lia
   rw[yc,←this]
 ·rw[if_neg h,if_neg (by lia),yc]
theorem Kj {p:Array Nat} {k d:Nat} (hk:k<p.size) (hd:d≤k) (x:Nat):Ky r (bubble p k d) x=if x=k-d then Ky r p k else if k-d<x∧x≤k then Ky r p (x-1)else Ky r p x:=by
 rw[yc,getElem?_bubble hk d hd x]
 split
 ·rw[yc]
 ·split
  ·rw[yc]
  ·rw[yc]
theorem Fh {p:Array Nat} (hp:PP n p) (hn:0<n):∀(f m:Nat),1≤m→m+f≤n→Up r p m→KW (ltR r) n (kas_asc p f m) (fun q=>m≤q∧q≤m+f∧Up r p q∧(q<m+f→Ky r p q<Ky r p (q-1)))
 | 0,m,_,_,hu=>⟨AF _,AF _,hu,fun h=>absurd h (by lia)⟩
 | f+1,m,h1,h2,hu=>by
  refine⟨hp.inb hn _,hp.inb hn _,?_⟩
  by_cases hc:Ky r p m<Ky r p (m-1)
  ·have e:ltR r (p.getD m 0) (p.getD (m-1) 0)=true:=decide_eq_true hc
   (rw[e];dsimp only;rw[if_pos rfl])
   exact⟨AF _,by lia,hu,fun _=>hc⟩
  ·have e:ltR r (p.getD m 0) (p.getD (m-1) 0)=false:=decide_eq_false hc
   (rw[e];dsimp only;rw[if_neg AY])
   refine(Fh hp hn f (m+1) (by lia) (by lia) fun i j hij hj=>?_).weak fun q hq=>⟨by lia,by lia,hq.2.2.1,fun h=>hq.2.2.2 (by lia)⟩
   by_cases hj':j<m
   ·exact hu i j hij hj'
   ·have ej:j=m:=by lia
    subst ej
    by_cases hi:i=j
    ·rw[hi];exact AF _
    ·have:=hu i (j-1) (by lia) (by lia)
     lia
noncomputable def Bk (r:Nat→Nat) (p:Array Nat) (m q:Nat):Prop:=∀x,m-(q+1)≤x→x<m→Ky r p x=Ky r p (m-1)
theorem Fi {p:Array Nat} {m q:Nat} (hm:m≤p.size) (hq:q+1≤m) (hb:Bk r p m q) (x:Nat):Ky r (kas_rev p (m-(q+1)) m) x=Ky r p x:=by
 rw[A9 hm (by lia)]
 split
 ·rename_i h
  rw[hb x h.1 h.2,hb _ (by lia) (by lia)]
 ·rfl
theorem u4 (hn:0<n):∀(f:Nat) (p:Array Nat) (m q:Nat),PP n p→1≤m→m+f≤n→q+1≤m→Dn r p m→Bk r p m q →
  KW (ltR r) n (kas_desc f p m q) (fun z=>PP n z.1∧m≤z.2.1∧z.2.1≤m+f∧z.2.2+1≤z.2.1∧Dn r z.1 z.2.1∧Bk r z.1 z.2.1 z.2.2)
 | 0,p,m,q,hp,h1,h2,hq,hd,hb=>⟨hp,AF _,AF _,hq,hd,hb⟩
 | f+1,p,m,q,hp,h1,h2,hq,hd,hb=>by
  have hsz:=hp.sz
  have dn1:∀p':Array Nat,(∀x,Ky r p' x=Ky r p x)→Ky r p m≤Ky r p (m-1)→Dn r p' (m+1):=fun p' he hle i j hij hj=>by
   rw[he,he]
   by_cases hj':j<m
   ·exact hd i j hij hj'
   ·have ej:j=m:=by lia
    subst ej
    by_cases hi:i=j
    ·rw[hi];exact AF _
    ·have:=hd i (j-1) (by lia) (by lia)
     lia
  have bk0:∀p':Array Nat,Bk r p' (m+1) 0:=fun p' x hx hx'=>by
   have:x=m:=by lia
   rw[this];rfl
  refine⟨hp.inb hn _,hp.inb hn _,?_⟩
  by_cases hc:Ky r p m<Ky r p (m-1)
  ·have e:ltR r (p.getD m 0) (p.getD (m-1) 0)=true:=decide_eq_true hc
   (rw[e];dsimp only;rw[if_pos rfl])
   by_cases h0:q > 0
   ·rw[if_pos h0]
    exact(u4 hn f _ (m+1) 0 (hp.rev _ _) (by lia) (by lia) (by lia) (dn1 _ (Fi (by lia) hq hb) (by lia)) (bk0 _)).weak fun z hz=>⟨hz.1,by lia,by lia,hz.2.2.2⟩
   ·rw[if_neg h0]
    exact(u4 hn f p (m+1) 0 hp (by lia) (by lia) (by lia) (dn1 p (fun _=>rfl) (by lia)) (bk0 _)).weak fun z hz=>⟨hz.1,by lia,by lia,hz.2.2.2⟩
  ·have e:ltR r (p.getD m 0) (p.getD (m-1) 0)=false:=decide_eq_false hc
   (rw[e];dsimp only;rw[if_neg AY])
   refine⟨hp.inb hn _,hp.inb hn _,?_⟩
   by_cases hc2:Ky r p (m-1)<Ky r p m
   ·have e2:ltR r (p.getD (m-1) 0) (p.getD m 0)=true:=decide_eq_true hc2
    (rw[e2];dsimp only;rw[if_pos rfl])
    exact⟨hp,AF _,HG _ _,hq,hd,hb⟩
   ·have e2:ltR r (p.getD (m-1) 0) (p.getD m 0)=false:=decide_eq_false hc2
    (rw[e2];dsimp only;rw[if_neg AY])
    refine(u4 hn f p (m+1) (q+1) hp (by lia) (by lia) (by lia) (dn1 p (fun _=>rfl) (by lia)) fun x hx hx'=>?_).weak fun z hz=>⟨hz.1,by lia,by lia,hz.2.2.2⟩
    show Ky r p x=Ky r p m
    by_cases hx2:x=m
    ·rw[hx2]
    ·rw[hb x (by lia) (by lia)];lia
theorem Q1 {p:Array Nat} {m:Nat} (hm:m≤p.size) (hd:Dn r p m):Up r (kas_rev p 0 m) m:=fun i j hij hj=>by
 rw[A9 hm (CV _),A9 hm (CV _),if_pos (by lia),if_pos (by lia)]
 exact hd _ _ (by lia) (by lia)
theorem Fj {p:Array Nat} {m:Nat} (hp:PP n p) (hn:0<n) (h1:1≤m) (h2:m≤n) (hd:Dn r p m):KW (ltR r) n (kas_tail3 m n p) (fun z=>1≤z.1∧z.1≤n∧PP n z.2∧Up r z.2 z.1):=by
 unfold kas_tail3
 refine KW.bd ((Fh (hp.rev _ _) hn (n-m) m h1 (by lia) (Q1 (by rw[hp.sz];exact h2) hd)).weak fun q hq=>?_)
 exact⟨by lia,by lia,hp.rev _ _,hq.2.2.1⟩
theorem Fk {p:Array Nat} {m:Nat} (hp:PP n p) (hn:0<n) (h1:1≤m) (h2:m<n) (hd:Dn r p m) (hlt:Ky r p m<Ky r p (m-1)):KW (ltR r) n (kas_descPart m n p) (fun z=>1≤z.1∧z.1≤n∧PP n z.2∧Up r z.2 z.1):=by
 unfold kas_descPart
 have hd1:Dn r p (m+1):=fun i j hij hj=>by
  by_cases hj':j<m
  ·exact hd i j hij hj'
  ·have ej:j=m:=by lia
   subst ej
   by_cases hi:i=j
   ·rw[hi];exact AF _
   ·have:=hd i (j-1) (by lia) (by lia)
    lia
 refine KW.bd ((u4 hn (n-(m+1)) p (m+1) 0 hp (by lia) (by lia) (by lia) hd1 fun x hx hx'=>by rw[show x=m by lia];rfl).weak fun z hz=>?_)
 obtain⟨hp',g1,g2,g3,g4,g5⟩:=hz
 by_cases h0:z.2.2 > 0
 ·rw[if_pos h0]
  refine Fj (hp'.rev _ _) hn (by lia) (by lia) fun i j hij hj=>?_
  rw[Fi (by rw[hp'.sz];lia) g3 g5,Fi (by rw[hp'.sz];lia) g3 g5]
  exact g4 i j hij hj
 ·rw[if_neg h0]
  exact Fj hp' hn (by lia) (by lia) g4
theorem Iv {p:Array Nat} (hp:PP n p) (hn:2≤n):KW (ltR r) n (kas_count n p) (fun z=>1≤z.1∧z.1≤n∧PP n z.2∧Up r z.2 z.1):=by
 unfold kas_count
 have hn0:0<n:=by lia
 refine KW.bd ((Fh hp hn0 (n-1) 1 (AF _) (by lia) fun i j hij hj=>by rw[show i=j by lia];exact AF _).weak fun q hq=>?_)
 obtain⟨g1,g2,g3,g4⟩:=hq
 by_cases h0:q=n
 ·rw[if_pos (by simp[h0])]
  exact⟨by lia,by lia,hp,g3⟩
 ·rw[if_neg (by simp[h0])]
  have hlt:=g4 (by lia)
  by_cases h1:q > 1
  ·rw[if_pos h1]
   refine⟨hp.inb hn0 _,hp.inb hn0 _,?_⟩
   by_cases hc:Ky r p 0<Ky r p (q-1)
   ·have e:ltR r (p.getD 0 0) (p.getD (q-1) 0)=true:=decide_eq_true hc
    (rw[e];dsimp only;rw[if_pos rfl])
    exact⟨by lia,by lia,hp,g3⟩
   ·have e:ltR r (p.getD 0 0) (p.getD (q-1) 0)=false:=decide_eq_false hc
    (rw[e];dsimp only;rw[if_neg AY])
    have all:∀x,x<q→Ky r p x=Ky r p 0:=fun x hx=>by
     have a:=g3 0 x (by lia) hx
     have b:=g3 x (q-1) (by lia) (by lia)
     lia
    have same:∀x,Ky r (kas_rev p 0 q) x=Ky r p x:=fun x=>by
     rw[A9 (by rw[hp.sz];lia) (by lia)]
     split
     ·rw[all x (by lia),all _ (by lia)]
     ·rfl
    refine Fk (hp.rev _ _) hn0 (by lia) (by lia) (fun i j hij hj=>?_) ?_
    ·rw[same,same,all i (by lia),all j hj]
     exact AF _
    ·rw[same,same];exact hlt
  ·rw[if_neg h1]
   have e1:q=1:=by lia
   subst e1
   exact Fk hp hn0 (by lia) (by lia) (fun i j hij hj=>by rw[show i=j by lia];exact AF _) hlt
theorem u5 {p:Array Nat} {k:Nat} (hp:PP n p) (hn:0<n) (hu:Up r p k):∀(f l q:Nat),l≤q→q≤k→q-l≤f→(∀x,x<l→Ky r p x≤Ky r p k)→(∀x,q≤x→x<k→Ky r p k<Ky r p x) →
  KW (ltR r) n (kas_place p k f l q) (fun z=>z≤k∧(∀x,x<z→Ky r p x≤Ky r p k)∧∀x,z≤x→x<k→Ky r p k<Ky r p x)
 | 0,l,q,h1,h2,h3,ha,hb=>⟨by lia,ha,fun x hx=>hb x (by lia)⟩
 | f+1,l,q,h1,h2,h3,ha,hb=>by
  unfold kas_place
  by_cases h0:l≥q
  ·rw[if_pos h0]
   exact⟨by lia,ha,fun x hx=>hb x (by lia)⟩
  ·rw[if_neg h0]
   refine⟨hp.inb hn _,hp.inb hn _,?_⟩
   by_cases hc:Ky r p k<Ky r p ((l+q) / 2)
   ·have e:ltR r (p.getD k 0) (p.getD ((l+q) / 2) 0)=true:=decide_eq_true hc
    (rw[e];dsimp only;rw[if_pos rfl])
    refine u5 hp hn hu f l ((l+q) / 2) (by lia) (by lia) (by lia) ha fun x hx hx'=>?_
    have:=hu ((l+q) / 2) x hx hx'
    lia
   ·have e:ltR r (p.getD k 0) (p.getD ((l+q) / 2) 0)=false:=decide_eq_false hc
    (rw[e];dsimp only;rw[if_neg AY])
    refine u5 hp hn hu f ((l+q) / 2+1) q (by lia) h2 (by lia) (fun x hx=>?_) hb
    have:=hu x ((l+q) / 2) (by lia) (by lia)
    lia
theorem Kk (hn:0<n):∀(f:Nat) (p:Array Nat) (k:Nat),PP n p→k+f=n→1≤k→Up r p k→KW (ltR r) n (kas_bin f p k) (fun z=>PP n z∧Up r z n)
 | 0,p,k,hp,h1,_,hu=>⟨hp,by rw[←h1];exact hu⟩
 | f+1,p,k,hp,h1,h2,hu=>by
  unfold kas_bin
  refine KW.bd ((u5 hp hn hu k 0 k (by lia) (AF _) (by lia) (fun x hx=>absurd hx (by lia)) (fun x hx hx'=>absurd hx' (by lia))).weak fun l hl=>?_)
  obtain⟨g1,g2,g3⟩:=hl
  refine Kk hn f _ (k+1) (hp.bub _ _) (by lia) (by lia) fun i j hij hj=>?_
  have hsz:=hp.sz
  have ek:k-(k-l)=l:=by lia
  rw[Kj (by lia) (by lia),Kj (by lia) (by lia),ek]
  by_cases i1:i=l
  ·rw[if_pos i1]
   by_cases j1:j=l
   ·rw[if_pos j1];exact AF _
   ·rw[if_neg j1,if_pos (by lia)]
    exact EM (g3 (j-1) (by lia) (by lia))
  ·rw[if_neg i1]
   by_cases i2:l<i∧i≤k
   ·rw[if_pos i2,if_neg (show ¬j=l by lia),if_pos (by lia)]
    exact hu (i-1) (j-1) (by lia) (by lia)
   ·rw[if_neg i2]
    by_cases j1:j=l
    ·rw[if_pos j1];exact g2 i (by lia)
    ·rw[if_neg j1]
     by_cases j2:l<j∧j≤k
     ·rw[if_pos j2]
      exact hu i (j-1) (by lia) (by lia)
     ·rw[if_neg j2]
      exact hu i j hij (by lia)
theorem Nw (hn:2≤n):KW (ltR r) n (kas_sort n) (fun z=>PP n z∧Up r z n):=by
 unfold kas_sort
 have hp:PP n (List.toArray (List.range n)):=by unfold PP;rw[FZ]
 refine KW.bd ((Iv hp hn).weak fun z hz=>?_)
 obtain⟨g1,g2,g3,g4⟩:=hz
 by_cases h:z.1<n
 ·rw[if_pos h]
  have em:max z.1 1=z.1:=by lia
  rw[em]
  exact Kk (by lia) (n-z.1) z.2 z.1 g3 (by lia) g1 g4
 ·rw[if_neg h]
  have:z.1=n:=by lia
  rw[this]at g4
  exact⟨g3,g4⟩
end
end Lp.Srt
namespace Lp.Srt
open PySem PySem.W PyProof.Rows PySem.Calls
section
variable {prog : Program} {w : World} {A : Around} {E : Value → Shared → Prop} {s : Shared}
theorem Q2 {α:Type} {lt:Nat→Nat→Bool} {n:Nat} {cmp:Nat→Nat→(Bool→Shared→Prop)→Shared→Prop} {s1:Shared} {Q:α→Prop} (hc:∀i j C,i<n→j<n→C (lt i j) s1→cmp i j C s1) :
  ∀{t:KasT α},KW lt n t Q→t.kasWp cmp (fun a s'=>s'=s1∧Q a) s1
 | .ret _,h=>⟨rfl,h⟩
 | .ask i j _,h=>hc i j _ h.1 h.2.1 (Q2 hc h.2.2)
theorem l8 (vs:List Value):(List.range vs.length).map (fun i=>vs.getD i Value.none)=vs:=by
 apply BI
 intro i
 by_cases h:i<vs.length
 ·simp[h]
 ·simp[h]
theorem yd {a:Addr} {vs:List Value} {c0:Nat} {P:PySem.Fin→Shared→Prop} (q0:s.heap.get? a=some (seqObj "list" vs.toArray c0)) (hsm:vs.length<64) (rk:Nat→Nat)
  (hk:2≤vs.length→∀g:Heap,(∀b o,b≠a→s.heap.get? b=some o→g.get? b=some o)→∃κ:SortKind,(∀(Q:SortKind→Shared→Prop) (E':Value→Shared→Prop),Q κ {s with heap:=g}→wpAny (model prog w) A (keyKind' vs.toArray) Q E' {s with heap:=g}) ∧
   ∀(i j:Nat) (C:Bool→Shared→Prop),i<vs.length→j<vs.length→C (decide (rk i<rk j)) {s with heap:=g}→wpAny (model prog w) A (keyLt' κ (vs.getD i Value.none) (vs.getD j Value.none)) C (fun _ _=>False) {s with heap:=g})
  (fin:∀p:Array Nat,PP vs.length p→Up rk p vs.length→P (.done (.ret .none)) {s with heap:=sortedHeap s.heap a vs (List.toArray (p.toList.map fun i=>vs.getD i Value.none))}) :
  wpAny (model prog w) A (Builtin.«list.sort» ⟨[.ref a],[]⟩) P E s:=by
 rw[list_sort_plain]
 have lta:a<s.heap.objs.size:=AI q0
 have small:vs.toArray.size≤sizeLine:=by rw[AD,DF];lia
 refine AB (listItems_at q0 rfl (AB (listUpdate_at q0 rfl ?_ small (CV _))))
 obtain⟨e1,q1⟩:∃e1,(s.heap.update a (Obj.mapSeq fun _=>(#[]:Array Value))).get? a=some (seqObj "list" #[] e1):=⟨_,get?_update_seq q0 (fun _=>#[])⟩
 refine AB (seqEpoch_at q1 rfl (AB (wpAny_newTuple (AB (wpAny_newList (DP ?_) (CV _))) (by simpa using small))))
 have sz1:(s.heap.update a (Obj.mapSeq fun _=>(#[]:Array Value))).objs.size=s.heap.objs.size:=Heap.size_update _ _ _
 have q6:(((s.heap.update a (Obj.mapSeq fun _=>(#[]:Array Value))).push (seqObj "tuple" vs.toArray 0)).push (seqObj "list" #[] 0)).get? a=some (seqObj "list" #[] e1):=AC _ (AC _ q1)
 have old:∀b o,b≠a→s.heap.get? b=some o→(((s.heap.update a (Obj.mapSeq fun _=>(#[]:Array Value))).push (seqObj "tuple" vs.toArray 0)).push (seqObj "list" #[] 0)).get? b=some o:=fun b o hb e =>
  AC _ (AC _ (by rw[Heap.get?_update_ne _ _ _ _ hb];exact e))
 show wpAny (model prog w) A _ P E {s with heap:=((s.heap.update a (Obj.mapSeq fun _=>(#[]:Array Value))).push (seqObj "tuple" vs.toArray 0)).push (seqObj "list" #[] 0)}
 dsimp only
 by_cases hs2:vs.toArray.size<2
 ·have hs2':vs.length<2:=by simpa using hs2
  rw[if_pos hs2,if_pos hs2]
  refine AB (AL ?_)
  rw[StateT.run_pure]
  refine AB (AL ?_)
  dsimp only
  have eo:(arrOf (SortSt.mk' general' (vs.toArray.zip vs.toArray) #[] 7 none)).map (·.2)=List.toArray ((List.toArray (List.range vs.length)).toList.map fun i=>vs.getD i Value.none):=by
   show(vs.toArray.zip vs.toArray).map (·.2)=_
   rw[FZ,l8]
   apply Array.toList_inj.mp
   simp[List.map_snd_zip]
  rw[eo]
  refine AB (seqEpoch_at q6 rfl (AB (listUpdate_at q6 rfl ?_ (CV _) (by rw[FZ,l8];lia))))
  simp only[bne_self_eq_false,BD,if_false]
  refine AL (fin (List.toArray (List.range vs.length)) (List.Perm.refl _) fun i j hij hj=>?_)
  rw[show i=j by lia]
  exact AF _
 ·have h2:2≤vs.length:=by simp at hs2;lia
  rw[if_neg hs2,if_neg hs2]
  obtain⟨κ,k1,k2⟩:=hk h2 _ old
  refine AB (k1 _ _ ?_)
  have run:=kat_run (prog:=prog) (w:=w) (A:=A) (E:=E) (κ:=κ) (ks:=vs) (vs:=vs) (s:={s with heap:=((s.heap.update a (Obj.mapSeq fun _=>(#[]:Array Value))).push (seqObj "tuple" vs.toArray 0)).push (seqObj "list" #[] 0)})
   (Q:=fun st' s'=>s'={s with heap:=((s.heap.update a (Obj.mapSeq fun _=>(#[]:Array Value))).push (seqObj "tuple" vs.toArray 0)).push (seqObj "list" #[] 0)}∧failedOf st'=none∧∃p:Array Nat,PP vs.length p∧Up rk p vs.length∧(arrOf st').map (·.2)=List.toArray (p.toList.map fun i=>vs.getD i Value.none))
   (G:=fun p s'=>s'={s with heap:=((s.heap.update a (Obj.mapSeq fun _=>(#[]:Array Value))).push (seqObj "tuple" vs.toArray 0)).push (seqObj "list" #[] 0)}∧PP vs.length p∧Up rk p vs.length)
   rfl h2 hsm (fun p st' s' _ har hf hg=>⟨hg.1,hf,p,hg.2.1,hg.2.2,kat_snds rfl har⟩) (Q2 (lt:=ltR rk) (fun i j C hi hj hC=>k2 i j C hi hj hC) (Nw h2))
  refine AB (DO run ?_ fun _ _ x=>x)
  rintro⟨⟨⟩,st'⟩ s' ⟨rfl,hf,p,hp,hu,ho⟩
  dsimp only
  rw[ho]
  refine AB (seqEpoch_at q6 rfl (AB (listUpdate_at q6 rfl ?_ (CV _) (by rw[AD,AG,BW,hp.sz];simp at small;lia))))
  rw[hf]
  simp only[bne_self_eq_false,BD,if_false]
  exact AL (fin p hp hu)
theorem Fm {l:Addr} {vs:List Value} {Q:Value→Shared→Prop} (hl:s.heap.IsList l vs.toArray) (hsm:vs.length<64) (rk:Nat→Nat)
  (hk:2≤vs.length→∀(A':Around) (g:Heap),(∀b o,s.heap.get? b=some o→g.get? b=some o)→∃κ:SortKind,(∀(Q:SortKind→Shared→Prop) (E':Value→Shared→Prop),Q κ {s with heap:=g}→wpAny (model prog w) A' (keyKind' vs.toArray) Q E' {s with heap:=g}) ∧
   ∀(i j:Nat) (C:Bool→Shared→Prop),i<vs.length→j<vs.length→C (decide (rk i<rk j)) {s with heap:=g}→wpAny (model prog w) A' (keyLt' κ (vs.getD i Value.none) (vs.getD j Value.none)) C (fun _ _=>False) {s with heap:=g})
  (fin:∀p:Array Nat,PP vs.length p→Up rk p vs.length→Q (.ref (s.heap.objs.size+1)) {s with heap:=sortedAll s.heap vs (List.toArray (p.toList.map fun i=>vs.getD i Value.none))}) :
  wpAny (model prog w) A (call (.builtin "sorted") [.ref l]) Q E s:=by
 have small:vs.length≤sizeLine:=by rw[DF];lia
 refine Calls.call_function_entry kind_sorted plain_sorted entry_sorted (args_sorted1 _) ?_
 unfold Builtin.«sorted»
 refine AB (m:=checkCount "sorted" 1 1 _) (AL (AB (collect_list hl (AB (wpAny_newList ?_ small)) small)))
 have szL:((s.heap.push (seqObj "list" #[] 0)).update s.heap.objs.size (Obj.mapSeq (·++vs.toArray))).objs.size=s.heap.objs.size+1:=by rw[Heap.size_update,size_push']
 have qL:(((s.heap.push (seqObj "list" #[] 0)).update s.heap.objs.size (Obj.mapSeq (·++vs.toArray))).push (seqObj "list" vs.toArray 0)).get? (s.heap.objs.size+1)=some (seqObj "list" vs.toArray 0):=szL ▸ AN _ rfl
 have old:∀b o,s.heap.get? b=some o→(((s.heap.push (seqObj "list" #[] 0)).update s.heap.objs.size (Obj.mapSeq (·++vs.toArray))).push (seqObj "list" vs.toArray 0)).get? b=some o:=fun b o e =>
  AC _ (by rw[Heap.get?_update_ne _ _ _ _ (AW (AI e))];exact AC _ e)
 show wpAny _ _ _ _ _ {s with heap:=(((s.heap.push (seqObj "list" #[] 0)).update s.heap.objs.size (Obj.mapSeq (·++vs.toArray))).push (seqObj "list" vs.toArray 0))}
 rw[szL]
 refine AB (DP (CM slot_list_sort ⟨_,qL,rfl⟩ entry_list_sort ?go (args_list_sort _)))
 case go =>
  refine yd (s:={s with heap:=(((s.heap.push (seqObj "list" #[] 0)).update s.heap.objs.size (Obj.mapSeq (·++vs.toArray))).push (seqObj "list" vs.toArray 0))}) qL hsm rk (fun h2 g hg=>hk h2 _ g fun b o e=>hg b o (AW (FF (AI e))) (old b o e)) fun p hp hu=>⟨_,rfl,?_⟩
  exact AL ⟨_,rfl,fin p hp hu⟩
end
end Lp.Srt
namespace Lp.Srt
open PySem PySem.W PyProof.Rows PySem.Calls
theorem z5:∀a:List Int,lexLt a a=false
 | []=>rfl
 | x::xs=>by simp[lexLt,z5 xs]
theorem Ba:∀{a b c:List Int},lexLt a b=true→lexLt b c=true→lexLt a c=true
 | a,b,[],_,h=>by cases b<;>simp[lexLt]at h
 | [],_,_::_,_,_=>rfl
 | x::xs,[],c::cs,h,_=>by simp[lexLt]at h
 | x::xs,y::ys,z::zs,h1,h2=>by
  simp only[lexLt]at h1 h2 ⊢
  by_cases e1:x=y
  ·subst e1
   by_cases e2:x=z
   ·subst e2
    simp only[if_true]at h1 h2 ⊢
    exact Ba h1 h2
   ·simp only[if_true]at h1
    rw[if_neg e2]at h2 ⊢
    exact h2
  ·rw[if_neg e1]at h1
   have h1':=of_decide_eq_true h1
   by_cases e2:y=z
   ·subst e2
    rw[if_neg e1]
    exact h1
   ·rw[if_neg e2]at h2
    have h2':=of_decide_eq_true h2
    rw[if_neg (show ¬x=z by lia)]
    exact decide_eq_true (by lia)
theorem z6:∀{a b:List Int},lexLt a b=false→lexLt b a=false→a=b
 | [],[],_,_=>rfl
 | [],_::_,h,_=>by simp[lexLt]at h
 | _::_,[],_,h=>by simp[lexLt]at h
 | x::xs,y::ys,h1,h2=>by
  simp only[lexLt]at h1 h2
  by_cases e:x=y
  ·subst e
   simp only[if_true]at h1 h2
   rw[z6 h1 h2]
  ·rw[if_neg e]at h1
   rw[if_neg (Ne.symm e)]at h2
   have a1:=of_decide_eq_false h1
   have a2:=of_decide_eq_false h2
   lia
theorem Kl {r a b:List Int} (h1:lexLt r b=true) (h2:lexLt a b=false):lexLt r a=true:=by
 cases e:lexLt r a with
 | true=>rfl
 | false =>
  cases e2:lexLt a r with
  | true=>rw[Ba e2 h1]at h2;cases h2
  | false=>rw[z6 e e2,h2]at h1;cases h1
theorem Q3 {a b:List Int} (h:lexLt a b=true):lexLt b a=false:=by
 cases e:lexLt b a with
 | false=>rfl
 | true=>have:=Ba h e;rw[z5]at this;cases this
theorem ye {α:Type} {p q:α→Bool}:∀{l:List α},(∀x∈l,p x=true→q x=true)→(∃x∈l,q x=true∧p x=false)→l.countP p<l.countP q
 | [],_,h=>by obtain⟨x,hx,_⟩:=h;simp at hx
 | y::r,h1,h2=>by
  have le:r.countP p≤r.countP q:=HX fun x hx=>h1 x (AJ _ hx)
  obtain⟨x,hx,hq,hp⟩:=h2
  rcases AO.mp hx with rfl | hx
  ·simp[DI,hq,hp];lia
  ·have:=ye (l:=r) (fun z hz=>h1 z (AJ _ hz)) ⟨x,hx,hq,hp⟩
   have h0:=h1 y AS
   simp only[DI]
   cases e1:p y with
   | true=>simp[h0 e1];lia
   | false=>simp;lia
noncomputable def rkL (rs:List (List Int)) (i:Nat):Nat:=rs.countP fun r=>lexLt r (rs.getD i [])
theorem Q4 {rs:List (List Int)} {i j:Nat} (hi:i<rs.length) (hj:j<rs.length):decide (rkL rs i<rkL rs j)=lexLt (rs.getD i []) (rs.getD j []):=by
 have mi:rs.getD i []∈rs:=by rw[show rs.getD i []=rs[i]by simp[hi]];exact CH hi
 cases e:lexLt (rs.getD i []) (rs.getD j [])with
 | true=>exact decide_eq_true (ye (fun x _ h=>Ba h e) ⟨_,mi,e,z5 _⟩)
 | false =>
  refine decide_eq_false (Nat.not_lt.mpr ?_)
  exact HX fun x _ h=>Kl h e
theorem u6 (x:List Int):∀l:List (List Int),(Mn x l).Perm (x::l)
 | []=>.refl _
 | y::r=>by
  unfold Mn
  split
  ·exact((u6 x r).cons y).trans (.swap x y r)
  ·exact .refl _
theorem iq:∀l:List (List Int),(si l).Perm l
 | []=>.refl _
 | x::r=>(u6 x (si r)).trans ((iq r).cons x)
theorem Km (x:List Int):∀l:List (List Int),l.Pairwise (fun a b=>lexLt b a=false)→(Mn x l).Pairwise (fun a b=>lexLt b a=false)
 | [],_=>by simp[Mn]
 | y::r,h=>by
  unfold Mn
  have h':=DL.mp h
  split
  ·rename_i hc
   refine DL.mpr ⟨fun z hz=>?_,Km x r h'.2⟩
   rcases AO.mp ((u6 x r).mem_iff.mp hz)with rfl | hz
   ·exact Q3 hc
   ·exact h'.1 z hz
  ·rename_i hc
   have hc':lexLt y x=false:=by simpa using hc
   refine DL.mpr ⟨fun z hz=>?_,h⟩
   rcases AO.mp hz with rfl | hz
   ·exact hc'
   ·cases e:lexLt z x with
    | false=>rfl
    | true=>have:=Kl e hc';rw[h'.1 z hz]at this;cases this
theorem u7:∀l:List (List Int),(si l).Pairwise (fun a b=>lexLt b a=false)
 | []=>.nil
 | x::r=>Km x _ (u7 r)
theorem range_getD {α:Type} (d:α) (l:List α):(List.range l.length).map (fun i=>l.getD i d)=l:=by
 apply BI
 intro i
 by_cases h:i<l.length<;>simp[h]
theorem Fn {rs:List (List Int)} {p:Array Nat} (hp:PP rs.length p) (hu:Up (rkL rs) p rs.length):p.toList.map (fun i=>rs.getD i [])=si rs:=by
 have p1:(p.toList.map fun i=>rs.getD i []).Perm rs:=by
  have:=hp.map fun i=>rs.getD i []
  rwa [range_getD]at this
 refine List.Perm.eq_of_pairwise (le:=fun a b=>lexLt b a=false) (fun a b _ _ h1 h2=>z6 h2 h1) ?_ (u7 rs) (p1.trans (iq rs).symm)
 rw[EN]
 intro i j hi hj hij
 have hsz:=hp.sz
 simp only[AG,BW]at hi hj
 simp only[HH,Array.getElem_toList]
 have bi:p[i]<rs.length:=by simpa using hp.mem_iff.mp (show p[i]∈p.toList by simp)
 have bj:p[j]<rs.length:=by simpa using hp.mem_iff.mp (show p[j]∈p.toList by simp)
 rw[←Q4 bj bi]
 refine decide_eq_false (Nat.not_lt.mpr ?_)
 have:=hu i j (by lia) (by lia)
 unfold Ky at this
 simpa[hi,hj]using this
end Lp.Srt
namespace Lp
open PySem PySem.Spec PyProof.Rows L2 Lp.Srt
section
variable {X : Cx} {φ : Phi} {pos : Pos}
theorem Fo {prog:Program} {w:World} {A:Around} {s:Shared} {fin:Bool} {Q:Bool→Shared→Prop}:∀(r1 r2:List Int) (u1 u2:List Value) (i:Nat),bq (r1.map V.int) u1→bq (r2.map V.int) u2→fin=decide (r1.length<r2.length)→Q (lexLt r1 r2) s →
  PySem.W.KatLex prog w A true fin Q (u1.zip u2) i s
 | [],[],u1,u2,i,h1,h2,hf,q=>by
  cases h1;cases h2
  rw[hf];exact q
 | [],_::_,u1,u2,i,h1,h2,hf,q=>by
  cases h1
  rw[hf];simpa[PySem.W.KatLex,lexLt]using q
 | _::_,[],u1,u2,i,h1,h2,hf,q=>by
  cases h2
  rw[hf,EW];simpa[PySem.W.KatLex,lexLt]using q
 | x::r1,y::r2,u1,u2,i,h1,h2,hf,q=>by
  rw[AR]at h1 h2
  cases h1 with
  | cons a1 b1 =>
   cases h2 with
   | cons a2 b2 =>
    obtain⟨t1,rfl⟩:=a1
    obtain⟨t2,rfl⟩:=a2
    rw[CU]
    refine PySem.W.kat_cons (wpAny_eqBool_int (PySem.W.kat_go (fun e=>PySem.W.kat_yes ?_) fun e=>PySem.W.kat_no ?_))
    ·have e':x=y:=by simpa using e
     refine Fo r1 r2 _ _ (i+1) b1 b2 (by rw[hf];simp) ?_
     simpa[lexLt,e']using q
    ·have e':¬x=y:=by simpa using e
     have q':Q (decide (x<y)) s:=by simpa[lexLt,e']using q
     cases hi:(true&&i==0)with
     | true=>exact oneLt_int q'
     | false=>exact PySem.W.kat_one _ _ (lt_int (show PySem.W.BoolBack Q (.bool (decide (x<y))) s from q'))
theorem Iw (ns:List Int):eh (ns.map D.int)=some ns:=by
 induction ns with
 | nil=>rfl
 | cons n r ih=>simp[eh,ih]
theorem Bb:∀{ds:List D} {ns:List Int},eh ds=some ns→ns.map D.int=ds
 | [],ns,h=>by simp[eh]at h;subst h;rfl
 | .int i::r,ns,h=>by
  simp only[eh]at h
  cases e:eh r with
  | none=>rw[e]at h;simp at h
  | some q =>
   rw[e]at h
   simp at h
   subst h
   rw[AR,Bb e]
 | .non::_,_,h=>by simp[eh]at h
 | .bl _::_,_,h=>by simp[eh]at h
 | .str _::_,_,h=>by simp[eh]at h
 | .tup _::_,_,h=>by simp[eh]at h
 | .lst _::_,_,h=>by simp[eh]at h
 | .loc _::_,_,h=>by simp[eh]at h
theorem Q5 {ι:List Addr} {H:Hp} {pins:List (Addr×Obj)} {σ:St} {s:Shared} (I:Inv X pins σ H s) {r:List Int} {v:V} {u:Value} (hd:IsD X.K ι H (.tup (r.map D.int)) v) (hu:RelV v u):∃a its,u=.ref a∧IsTup s.heap a (List.toArray its)∧bq (r.map V.int) its:=by
 simp only[IsD]at hd
 obtain⟨a,xs,rfl,hq,hx⟩:=hd
 cases(show u=Value.ref a from hu)
 obtain⟨its,rv,tp,_⟩:=I.tuple hq
 refine⟨a,its,rfl,tp,?_⟩
 have e:xs=r.map V.int:=ints_of hx (Iw r)
 rw[←e];exact rv
theorem yf:∀{xs:List D} {rs:List (List Int)},rowsOf xs=some rs→xs=rs.map fun r=>D.tup (r.map D.int)
 | [],rs,h=>by simp[rowsOf]at h;subst h;rfl
 | .tup ds::r,rs,h=>by
  simp only[rowsOf]at h
  cases e1:eh ds with
  | none=>rw[e1]at h;simp at h
  | some ns =>
   rw[e1]at h
   cases e2:rowsOf r with
   | none=>rw[e2]at h;simp at h
   | some q =>
    rw[e2]at h
    simp at h
    subst h
    rw[AR,Bb e1,←yf e2]
 | .non::_,_,h=>by simp[rowsOf]at h
 | .bl _::_,_,h=>by simp[rowsOf]at h
 | .int _::_,_,h=>by simp[rowsOf]at h
 | .str _::_,_,h=>by simp[rowsOf]at h
 | .lst _::_,_,h=>by simp[rowsOf]at h
 | .loc _::_,_,h=>by simp[rowsOf]at h
noncomputable def u9 (g:Heap) (r:List Int) (u:Value):Prop:=r≠[]∧∃a its,u=Value.ref a∧IsTup g a (List.toArray its)∧bq (r.map V.int) its
theorem Fp {ι:List Addr} {H:Hp} {pins:List (Addr×Obj)} {σ:St} {s:Shared} (I:Inv X pins σ H s):∀{rs:List (List Int)} {xs:List V} {us:List Value},(rs.all fun r=>!r.isEmpty)=true→aj X.K ι H (rs.map fun r=>D.tup (r.map D.int)) xs→bq xs us→Paired (u9 s.heap) rs us
 | [],xs,us,_,h1,h2=>by
  have:xs=[]:=by simpa[aj]using h1
  subst this
  cases h2
  exact .nil
 | r::rs,xs,us,hn,h1,h2=>by
  rw[AR]at h1
  simp only[aj]at h1
  obtain⟨v,q,rfl,hd,ht⟩:=h1
  rw[BB,BA]at hn
  cases h2 with
  | cons a b=>exact .cons ⟨fun z=>by rw[z]at hn;simp at hn,Q5 I hd a⟩ (Fp I hn.2 ht b)
theorem u9.keep {g g':Heap} {r:List Int} {u:Value} (h:u9 g r u) (k:∀b o,g.get? b=some o→g'.get? b=some o):u9 g' r u:=by
 obtain⟨h0,a,its,e,⟨o,q1,q2,q3⟩,v⟩:=h
 exact⟨h0,a,its,e,⟨o,k _ _ q1,q2,q3⟩,v⟩
theorem yg {g:Heap}:∀{rs:List (List Int)} {us:List Value},Paired (u9 g) rs us→∃fs,PySem.W.KatTups g us fs∧fs.length=us.length∧∀v∈fs,∃i t,v=Value.int i t
 | _,_,.nil=>⟨[],.nil,rfl,by simp⟩
 | r::rs,_,.cons h t=>by
  obtain⟨fs,f1,f2,f3⟩:=yg t
  obtain⟨h0,a,its,rfl,⟨o,q1,q2,n,q3⟩,v⟩:=h
  cases r with
  | nil=>exact absurd rfl h0
  | cons x r =>
   rw[AR]at v
   cases v with
   | cons a1 b1 =>
    obtain⟨t1,rfl⟩:=a1
    refine⟨.int x t1::fs,.cons q1 q2 q3 (by simp) f1,by simp[f2],fun z hz=>?_⟩
    rcases AO.mp hz with rfl | hz
    ·exact⟨_,_,rfl⟩
    ·exact f3 z hz
theorem ni {α β:Type} {R:α→β→Prop} {d:α} {e:β}:∀{xs:List α} {ys:List β},Paired R xs ys→∀i,i<xs.length→R (xs.getD i d) (ys.getD i e)
 | _,_,.nil,i,h=>by simp at h
 | _,_,.cons a _,0,_=>by simpa using a
 | _,_,.cons _ t,i+1,h=>by simpa using ni t i (by simpa using h)
theorem Bc {K:PySem.W.Frag} {ι:List Addr} {H:Hp} {f:Nat→D} {g:Nat→V}:∀{l:List Nat},(∀i∈l,IsD K ι H (f i) (g i))→aj K ι H (l.map f) (l.map g)
 | [],_=>by simp[aj]
 | i::l,h=>by
  rw[AR,AR]
  simp only[aj]
  exact⟨_,_,rfl,h i AS,Bc fun j hj=>h j (AJ _ hj)⟩
theorem Bd {f:Nat→V} {g:Nat→Value}:∀{l:List Nat},(∀i∈l,RelV (f i) (g i))→bq (l.map f) (l.map g)
 | [],_=>.nil
 | i::l,h=>.cons (h i AS) (Bd fun j hj=>h j (AJ _ hj))
theorem Nx {K:PySem.W.Frag} {ι:List Addr} {H:Hp} {ds:List D} {xs:List V} (h:aj K ι H ds xs) {i:Nat} (hi:i<ds.length):IsD K ι H (ds.getD i .non) (xs.getD i .non):=by
 obtain⟨v,e,q⟩:=h.get (show ds[i]? = some (ds.getD i .non)by simp[hi])
 have:xs.getD i .non=v:=by rw[AT,e];rfl
 rw[this];exact q
theorem Fq {m:Mk}:fk X (.builtin "sorted") (qt X.K (btD .sorted m)):=by
 intro pins s σ H xs us Q I r ⟨ι,ds,μ,hS,hds,h⟩
 obtain⟨d,v,rfl,hv,h⟩:=jn hds h
 unfold Ek at h
 cases el:Lp.listOf μ d with
 | none=>rw[el]at h;exact h.elim
 | some zs =>
 rw[el]at h
 simp only at h
 split at h
 ·rename_i h64
  unfold zo at h
  cases er:rowsOf zs with
  | none=>rw[er]at h;exact h.elim
  | some rs =>
  rw[er]at h
  simp only at h
  split at h
  ·rename_i hne
   obtain⟨a,vV,rfl,hq,hz⟩:=ka hS hv el
   obtain⟨u,rfl,ru⟩:=vals1 r
   cases(show u=Value.ref a from ru)
   obtain⟨its,rv,pl,hlen⟩:=I.list hq.sq
   have ez:=yf er
   subst ez
   have l1:vV.length=rs.length:=by rw[hz.length,AG]
   have l2:its.length=rs.length:=by rw[←rv.length];exact l1
   have hrs:rs.length<64:=by simpa using h64
   have pr:=Fp I hne hz rv
   refine Fm pl.isList (by lia) (rkL rs) (fun _ A' g hg=>⟨tuples' true,fun Q' E' q=>?_,fun i j C hi hj hC=>?_⟩) fun p hp hu=>Em ?_
   ·have pg:Paired (u9 g) rs its:=Paired.mapP pr fun r u h=>u9.keep h hg
    obtain⟨fs,f1,f2,f3⟩:=yg pg
    exact PySem.W.kat_kind (s:={s with heap:=g}) (T:=.type "int") f1 (by lia) (fun v hv=>by obtain⟨i,t,rfl⟩:=f3 v hv;exact PySem.W.Looks.of_pure rfl) (by decide) q
   ·have pg:Paired (u9 g) rs its:=Paired.mapP pr fun r u h=>u9.keep h hg
    rw[Q4 (by lia) (by lia)]at hC
    obtain⟨_,a1,i1,e1,⟨o1,g1,_,n1,d1⟩,v1⟩:=ni (d:=[]) (e:=Value.none) pg i (by lia)
    obtain⟨_,a2,i2,e2,⟨o2,g2,_,n2,d2⟩,v2⟩:=ni (d:=[]) (e:=Value.none) pg j (by lia)
    rw[e1,e2]
    refine PySem.W.kat_lt (s:={s with heap:=g}) g1 d1 g2 d2 ?_
    have z1:=v1.length
    have z2:=v2.length
    rw[AG]at z1 z2
    exact Fo _ _ i1 i2 0 v1 v2 (by simp only[AD,z1,z2]) hC
   ·rw[l2]at hp hu
    obtain⟨e',he⟩:=sortedAll_at s.heap its (List.toArray (p.toList.map fun i=>its.getD i Value.none))
    have mem:∀i∈p.toList,i<rs.length:=fun i hi=>by simpa using hp.mem_iff.mp hi
    have hd:aj X.K ι H ((si rs).map fun r=>D.tup (r.map D.int)) (p.toList.map fun i=>vV.getD i .non):=by
     rw[←Fn hp hu,BC]
     refine Bc fun i hi=>?_
     have:=Nx hz (i:=i) (by rw[AG];exact mem i hi)
     have e3:(rs.map fun r=>D.tup (r.map D.int)).getD i .non=D.tup ((rs.getD i []).map D.int):=by simp[mem i hi]
     rw[e3]at this
     exact this
    have hv2:bq (p.toList.map fun i=>vV.getD i .non) (p.toList.map fun i=>its.getD i Value.none):=Bd fun i hi=>ni rv i (by have:=mem i hi;lia)
    exact⟨.ref (s.heap.objs.size+1),upd H (s.heap.objs.size+1) (.lst (p.toList.map fun i=>vV.getD i .non)),I.laid (t':=s.toks) (fun b u e=>sortedAll_old e) (FP _) ⟨by rw[AG,BW,hp.sz,DF];lia,_,e',hv2,he⟩,rfl,k7 hS hd h (I.hok.fresh (FP _))⟩
  ·exact h.elim
 ·exact h.elim
theorem C2 {m:Mk} {p:Pos} {e:Expr} {es:List Expr} {xs:Exs} (hm:X.mg "sorted"=none) (ha:PA X (e::es) (tEs X.K φ xs)) (hg:Gl X "sorted":=by rfl) (he:starEach (e::es) X.env=(false,eval e X.env)::starEach es X.env:=by rfl) (hpl:(backTo pos (starEach es X.env)).any (·.1)=false:=by rfl) :
  PE X (.Call (.Name "sorted" p) (e::es) [] pos) (tE X.K φ (.blt .sorted m xs)):=jo (r:=fun _ _ _=>True) (es:=es) (g9 Fq hg hm (by first | exact PyProof.Rows.boot_sorted | decide +kernel) ha (by decide) (by decide) he hpl)
end
end Lp
namespace Lp
open PySem PySem.Spec PyProof.Rows L2
theorem Ny (l:Addr) (xs:Array Value) (n:Nat) (b:Addr) (o:Obj) (ys:Array Value) (k:Nat) (hc:o.cls=.type "tuple") (hd:o.data=.seq ys k) (hl:¬(!xs.isEmpty&&Builtin.List.listTooLong (xs.size+ys.size))=true) (h1:xs.size≤sizeLine) (h2:xs.size+ys.size≤sizeLine+1) :
  Meets (Builtin.«list.extend» ⟨[.ref l,.ref b],[]⟩) (fun _ R s=>s.heap.get? l=some {cls:=.type "list",dict:=none,data:=.seq xs n,slots:=#[]}∧s.heap.get? b=some o∧R (.ok (.ret Value.none)) {s with heap:=s.heap.update l (Obj.mapSeq fun x=>x++ys),toks:=s.toks}) :=
 .of_wp fun prog w A R s h=>by
  obtain⟨hp,g,d,tk,os⟩:=s
  obtain⟨ql,qb,h⟩:=h
  obtain⟨oc,od,ot,osl⟩:=o
  simp only at hc hd
  subst hc hd
  have z:(xs++ys).size≤sizeLine+1:=by rw[Array.size_append];exact h2
  wp_walk using(wpAny_updateSeq ql rfl (hz:=h1) (_hz':=z)),CD ql,CD qb
  exact⟨_,rfl,h⟩
section
variable {X : Cx} {φ : Phi} {pos : Pos} {pins : List (Addr × Obj)} {σ : St} {H : Hp} {s : Shared}
theorem Fs:MtR X "list.extend" (rMt X.K .extendT):=by
 intro pins s σ H x vs v us Q I rx rv h0
 obtain⟨ι,n,ob,xs,ds,μ,a,ws,hS,hds,rfl,ha,hH,h1,h2,h⟩:=M5 (by decide) h0
 clear h0
 simp only[mtL]at h
 obtain⟨d,w0,rfl,hv,h⟩:=jn hds h
 cases d with
 | tup ys =>
  simp only at h
  split at h
  ·rename_i hf
   rw[h9]at hf
   simp only[IsD]at hv
   obtain⟨b,zs,rfl,hb,hzs⟩:=hv
   cases(show v=Value.ref a from rx)
   obtain⟨u,rfl,ru⟩:=rv.one
   cases(show u=Value.ref b from ru)
   obtain⟨z,its,n1,r,hl,e⟩:=I.lstM hH
   obtain⟨its2,r2,⟨o,e2,c2,n2,d2⟩,z2⟩:=I.tuple hb
   have l1:=h1.length
   have l2:=hzs.length
   have l3:=r.length
   have l4:=r2.length
   have hsz:its.toArray.size+its2.toArray.size≤sizeLine:=by rw[AD,AD];lia
   refine GB F.slot_list_extend ⟨_,e,rfl⟩ F.entry_list_extend (F.args_list_extend_2 _ _)
    (Ny a its.toArray n1 b o its2.toArray n2 c2 d2 (by rw[Au hsz,If];exact AY) (by lia) (by lia)) ⟨e,e2,?_⟩
   refine⟨.non,_,I.lset (its':=its++its2) hH e (by simp) (r.append r2) (by rw[CC];lia),rfl,nh hS ha hH (h1.append hzs) (fun es ee=>(h2 es ee).append ?_) (by simp[IsD]) h⟩
   subst ee
   exact aj.pur (by simpa[fits]using hf.1) hzs
  ·exact h.elim
 | _=>exact h.elim
end
section
variable {X : Cx} {φ : Phi} {o e : Expr} {es : List Expr} {xo : Ex} {xs : Exs} {apos cpos : Pos}
theorem yh (ho:PE X o (tE X.K φ xo)) (ha:PA X (e::es) (tEs X.K φ xs)) (hbase:attributeBase o "extend" X.env (eval o X.env)=eval o X.env:=by rfl)
  (hfew:((backTo cpos (starEach (e::es) X.env)).all (fun x=>!x.1)&&(backToKw cpos (keywordEach [] X.env)).all (fun x=>x.1.isSome)&&decide ((e::es).length+([]:List Keyword).length+(if([]:List Keyword).isEmpty then 0 else 1)<30))=true:=by rfl)
  (hline:(apos.endLine==cpos.line)=true:=by rfl) (hs:starEach (e::es) X.env=(false,eval e X.env)::starEach es X.env:=by rfl) (hplain:(backTo cpos (starEach es X.env)).any (·.1)=false:=by rfl):PE X (.Call (.Attribute o "extend" apos) (e::es) [] cpos) (tE X.K φ (.meth .extendT xo xs)) :=
 Kg (oh fun _ _=>rfl) (Pn GO F.slot_list_extend F.type_list_extend Fs ho ha hbase hfew hline hs hplain)
end
end Lp
namespace Lp.Sets
open PySem PySem.W PyProof.Rows PySem.Calls
noncomputable def intOf:Value→Int
 | .int n _=>n
 | _=>0
theorem ints_of:∀{vs:List Value} {ns:List Int},IntsAre vs ns→ns=vs.map intOf∧∀v∈vs,∃n t,v=.int n t
 | _,_,.nil=>⟨rfl,fun v h=>by simp at h⟩
 | _,_,.cons n t r=>by
  obtain⟨e,h⟩:=ints_of r
  refine⟨by rw[AR,←e];rfl,fun v hv=>?_⟩
  rcases AO.mp hv with rfl | hv
  ·exact⟨n,t,rfl⟩
  ·exact h v hv
end Lp.Sets
namespace Lp
open PySem PySem.Spec PyProof.Rows L2
namespace Sets
theorem vals_ints:∀{ns:List Int} {us:List Value},bq (ns.map V.int) us→IntsAre us ns
 | [],[],_=>.nil
 | n::r,u::us,h=>by
  cases h with
  | cons h1 h2 =>
   obtain⟨t,rfl⟩:=h1
   exact .cons n t (vals_ints h2)
 | [],u::us,h=>by cases h
 | n::r,[],h=>by cases h
end Sets
end Lp
namespace Lp
open PySem
noncomputable abbrev lr:Nat:=2
noncomputable abbrev cb:Nat:=3
noncomputable abbrev dm:Nat:=4
noncomputable abbrev gn:Nat:=5
noncomputable abbrev vc:Nat:=13
noncomputable abbrev bp:Nat:=34
noncomputable abbrev yi:Nat:=35
noncomputable abbrev i4:Nat:=37
noncomputable abbrev i5:Nat:=38
noncomputable abbrev kg:Nat:=39
noncomputable abbrev jh:Nat:=41
noncomputable abbrev bx:Nat:=42
noncomputable abbrev cg:Nat:=53
noncomputable abbrev d8:Nat:=54
noncomputable abbrev dh:Nat:=55
noncomputable abbrev dz:Nat:=56
noncomputable abbrev nj:Nat:=57
noncomputable abbrev fm:Nat:=58
noncomputable abbrev ib:Nat:=59
noncomputable abbrev kh:Nat:=60
noncomputable abbrev vd:Nat:=61
noncomputable abbrev ve:Nat:=62
noncomputable abbrev j4:Nat:=63
noncomputable abbrev lu:Nat:=70
noncomputable abbrev ft:Nat:=71
noncomputable abbrev ic:Nat:=142
noncomputable abbrev ji:Nat:=143
noncomputable abbrev k8:Nat:=149
noncomputable abbrev mq:Nat:=151
noncomputable def D_can_burn:Df:=⟨3,6,(.cons (.unp [3,4,5] (.ix (.ix (.var 0) (.cst (.int 2))) (.var 1))) (.cons (.ret (.cmp (.var 2) (.cons .notin (.var 5) .nil))) .nil))⟩
noncomputable def D_law_next:Df:=⟨1,1,(.cons (.ite (.cmp (.blt .len .z (.cons (.var 0) .nil)) (.cons .gt (.cst (.int 0)) .nil)) (.cons (.ret (.meth .pop (.var 0) .nil)) .nil) .nil) (.cons (.ret (.cst (.int 0))) .nil))⟩
noncomputable def D_law_turn:Df:=⟨1,2,(.cons (.set 1 (.bin .Mod .z (.bin .Mult .z (.bin .Add .z (.bin .Mod .z (.var 0) (.bin .Pow .z (.cst (.int 10)) (.cst (.int 60)))) (.cst (.int 1))) (.cst (.int 69621))) (.cst (.int 2147483647)))) (.cons (.ret (.bin .FloorDiv .z (.bin .Mod .z (.bin .Mult .z (.var 1) (.var 1)) (.cst (.int 1000000007))) (.cst (.int 7)))) .nil))⟩
noncomputable def D_law_size:Df:=⟨2,3,(.cons (.set 2 (.call false dm (.cons (.var 0) .nil))) (.cons (.ite (.cmp (.bin .Mod .z (.var 2) (.cst (.int 8))) (.cons .lt (.cst (.int 6)) .nil)) (.cons (.ret (.blt .min .z (.cons (.var 1) (.cons (.bin .Mod .z (.bin .FloorDiv .z (.var 2) (.cst (.int 8))) (.cst (.int 13))) .nil)))) .nil) .nil) (.cons (.ite (.cmp (.bin .Mod .z (.var 2) (.cst (.int 8))) (.cons .eq (.cst (.int 6)) .nil)) (.cons (.ret (.bin .Sub .z (.var 1) (.bin .Mod .z (.bin .FloorDiv .z (.var 2) (.cst (.int 8))) (.cst (.int 2))))) .nil) .nil) (.cons (.ret (.bin .Mod .z (.var 0) (.bin .Add .z (.var 1) (.cst (.int 1))))) .nil))))⟩
noncomputable def oi:Ex:=(.cmp (.var 0) (.cons .lt (.var 1) .nil))
noncomputable def D_rises:Df:=⟨1,1,(.cons (.ret (.blt .all .z (.cons (.comp .z [] 2 (.many [0,1]) (.zip (.var 0) (.sl .z (.var 0) (.so (.cst (.int 1))) .no)) .nil oi) .nil))) .nil)⟩
noncomputable def eu:Sms:=(.cons (.setx (.var 2) (.var 3) (.bin .Sub .z (.bin .Add .z (.meth .get (.var 2) (.cons (.var 3) (.cons (.cst (.int 0)) .nil))) (.var 5)) (.var 4))) .nil)
noncomputable def fb:Ex:=(.meth .get (.var 0) (.cons (.var 1) (.cons (.cst (.int 0)) .nil)))
noncomputable def D_ticks_of_spans:Df:=⟨2,6,(.cons (.set 2 (.dic false .nil)) (.cons (.loop (.many [3,4,5]) (.seq (.var 1)) eu) (.cons (.ret (.blt .tuple .z (.cons (.comp .z [2] 1 (.one 1) (.rng (.var 0)) .nil fb) .nil))) .nil)))⟩
noncomputable def rg:Ex:=(.bin .Mult .z (.ix (.var 0) (.cst (.int 1))) (.ix (.var 1) (.cst (.int 2))))
noncomputable def D_cost:Df:=⟨2,2,(.cons (.ret (.blt .sum .z (.cons (.comp .z [] 2 (.many [0,1]) (.zip (.var 1) (.ix (.var 0) (.cst (.int 3)))) .nil rg) .nil))) .nil)⟩
noncomputable def D_law_share:Df:=⟨3,3,(.cons (.ite (.cmp (.bin .Mod .z (.var 0) (.cst (.int 4))) (.cons .lt (.cst (.int 2)) .nil)) (.cons (.ret (.bin .Add .z (.var 1) (.bin .Mod .z (.bin .Mult .z (.bin .FloorDiv .z (.var 0) (.cst (.int 4))) (.cst (.int 1000003))) (.bin .Add .z (.bin .Sub .z (.var 2) (.var 1)) (.cst (.int 1)))))) .nil) .nil) (.cons (.ret (.ix (.lst .z (.cons (.var 1) (.cons (.var 2) .nil))) (.bin .Mod .z (.var 0) (.cst (.int 2))))) .nil))⟩
noncomputable def jr:Ex:=(.ix (.var 0) (.bin .Mod .z (.bin .Add .z (.var 2) (.var 1)) (.blt .len .z (.cons (.var 0) .nil))))
noncomputable def jt:Sms:=(.cons (.set 8 (.blt .max .z (.cons (.cst (.int 0)) (.cons (.bin .Sub .z (.var 5) (.bin .Mult .z (.var 2) (.bin .Sub .z (.bin .Sub .z (.blt .len .z (.cons (.var 4) .nil)) (.var 7)) (.cst (.int 1))))) .nil)))) (.cons (.set 9 (.call false i4 (.cons (.bin .Add .z (.bin .Add .z (.bin .FloorDiv .z (.var 0) (.cst (.int 8))) (.bin .Mult .z (.bin .Mult .z (.cst (.int 7919)) (.var 7)) (.var 7))) (.var 7)) (.cons (.var 8) (.cons (.blt .min .z (.cons (.var 2) (.cons (.var 5) .nil))) .nil))))) (.cons (.ex (.meth .append (.var 6) (.cons (.tup (.cons (.ix (.var 4) (.var 7)) (.cons (.var 9) .nil))) .nil))) (.cons (.set 5 (.bin .Sub .z (.var 5) (.var 9))) .nil))))
noncomputable def D_law_ticks:Df:=⟨4,10,(.cons (.set 4 (.comp .z [1,0] 1 (.one 2) (.rng (.blt .len .z (.cons (.var 1) .nil))) .nil jr)) (.cons (.set 5 (.bin .Mult .z (.var 3) (.var 2))) (.cons (.set 6 (.lst .l .nil)) (.cons (.loop (.one 7) (.rng (.blt .len .z (.cons (.var 4) .nil))) jt) (.cons (.ret (.frz 6)) .nil)))))⟩
noncomputable def dn:Sms:=(.cons (.set 6 (.bin .Add .z (.var 3) (.var 5))) (.cons (.ite (.cmp (.var 5) (.cons .gt (.cst (.int 0)) .nil)) (.cons (.ex (.meth .append (.var 2) (.cons (.tup (.cons (.var 4) (.cons (.var 3) (.cons (.blt .min .z (.cons (.var 6) (.cons (.var 0) .nil))) .nil)))) .nil))) .nil) .nil) (.cons (.ite (.cmp (.var 6) (.cons .gt (.var 0) .nil)) (.cons (.ex (.meth .append (.var 2) (.cons (.tup (.cons (.var 4) (.cons (.cst (.int 0)) (.cons (.bin .Sub .z (.var 6) (.var 0)) .nil)))) .nil))) .nil) .nil) (.cons (.set 3 (.bin .Mod .z (.var 6) (.var 0))) .nil))))
noncomputable def D_law_spans:Df:=⟨2,7,(.cons (.set 2 (.lst .l .nil)) (.cons (.set 3 (.cst (.int 0))) (.cons (.loop (.many [4,5]) (.seq (.var 1)) dn) (.cons (.ret (.blt .tuple .z (.cons (.blt .sorted .z (.cons (.var 2) .nil)) .nil))) .nil))))⟩
noncomputable def fu:Exs:=(.cons (.cmp (.var 0) (.cons .notin (.ix (.ix (.var 1) (.cst (.int 2))) (.var 2)) .nil)) .nil)
noncomputable def fw:Ex:=(.var 2)
noncomputable def i6:Sms:=(.cons (.set 4 (.comp .z [3,1] 1 (.one 2) (.rng (.ix (.var 1) (.cst (.int 0)))) fu fw)) (.cons (.set 5 (.blt .max .z (.cons (.cst (.int 1)) (.cons (.call false gn (.cons (.call false cb (.cons (.var 0) .nil)) (.cons (.bin .Pow .z (.cst (.int 10)) (.cst (.int 15))) .nil))) .nil)))) (.cons (.set 6 (.call false dm (.cons (.call false cb (.cons (.var 0) .nil)) .nil))) (.cons (.set 7 (.bin .Mod .z (.var 6) (.bin .Add .z (.blt .len .z (.cons (.var 4) .nil)) (.cst (.int 1))))) (.cons (.set 8 (.lst .z .nil)) (.cons (.ite (.cmp (.blt .len .z (.cons (.var 4) .nil)) (.cons .gt (.cst (.int 0)) .nil)) (.cons (.set 8 (.call false i5 (.cons (.bin .FloorDiv .z (.var 6) (.cst (.int 16))) (.cons (.var 4) (.cons (.var 5) (.cons (.var 7) .nil)))))) .nil) .nil) (.cons (.ex (.meth .append (.var 2) (.cons (.tup (.cons (.var 5) (.cons (.var 7) (.cons (.var 8) (.cons (.call false kg (.cons (.var 5) (.cons (.var 8) .nil))) .nil))))) .nil))) .nil)))))))
noncomputable def D_law_nights:Df:=⟨2,9,(.cons (.set 2 (.lst .l .nil)) (.cons (.loop (.one 3) (.rng (.ix (.var 1) (.cst (.int 1)))) i6) (.cons (.ret (.frz 2)) .nil)))⟩
noncomputable def D_law_slack:Df:=⟨1,2,(.cons (.set 1 (.call false dm (.cons (.call false cb (.cons (.var 0) .nil)) .nil))) (.cons (.ite (.cmp (.bin .Mod .z (.var 1) (.cst (.int 3))) (.cons .lt (.cst (.int 2)) .nil)) (.cons (.ret (.cst (.int 0))) .nil) .nil) (.cons (.ret (.bin .Mod .z (.bin .FloorDiv .z (.var 1) (.cst (.int 3))) (.cst (.int 7)))) .nil)))⟩
noncomputable def D_have_tick_in_common:Df:=⟨2,2,(.cons (.ret (.and (.cmp (.ix (.var 0) (.cst (.int 0))) (.cons .eq (.ix (.var 1) (.cst (.int 0))) .nil)) (.cmp (.ix (.var 1) (.cst (.int 1))) (.cons .lt (.ix (.var 0) (.cst (.int 2))) .nil)))) .nil)⟩
noncomputable def fc:Sms:=(.cons (.ite (.not (.and (.cmp (.cst (.int 0)) (.cons .le (.var 3) (.cons .lt (.var 1) .nil))) (.cmp (.cst (.int 0)) (.cons .le (.var 4) (.cons .lt (.var 5) (.cons .le (.var 0) .nil)))))) (.cons (.ret (.cst (.bl true))) .nil) .nil) .nil)
noncomputable def ff:Ex:=(.call false cg (.cons (.var 0) (.cons (.var 1) .nil)))
noncomputable def D_has_span_fault:Df:=⟨3,6,(.cons (.loop (.many [3,4,5]) (.seq (.var 2)) fc) (.cons (.ret (.or (.not (.call false vc (.cons (.var 2) .nil))) (.blt .any .z (.cons (.comp .z [] 2 (.many [0,1]) (.zip (.var 2) (.sl .z (.var 2) (.so (.cst (.int 1))) .no)) .nil ff) .nil)))) .nil))⟩
noncomputable def fg:Sms:=(.cons (.setx (.var 3) (.var 5) (.bin .Add .z (.meth .get (.var 3) (.cons (.var 5) (.cons (.cst (.int 0)) .nil))) (.cst (.int 1)))) (.cons (.setx (.var 3) (.var 6) (.bin .Sub .z (.meth .get (.var 3) (.cons (.var 6) (.cons (.cst (.int 0)) .nil))) (.cst (.int 1)))) .nil))
noncomputable def fh:Ex:=(.cmp (.var 0) (.cons .ne (.cst (.int 0)) .nil))
noncomputable def D_has_dark_fault:Df:=⟨3,7,(.cons (.set 3 (.dic false (.cons (.cst (.int 0)) (.cons (.neg (.var 1)) (.cons (.var 0) (.cons (.var 1) .nil)))))) (.cons (.loop (.many [4,5,6]) (.seq (.var 2)) fg) (.cons (.ret (.blt .any .z (.cons (.comp .z [] 1 (.one 0) (.vals (.var 3)) .nil fh) .nil))) .nil)))⟩
noncomputable def f6:Ex:=(.var 1)
noncomputable def D_held_at_first:Df:=⟨1,1,(.cons (.ret (.tup (.cons (.ix (.var 0) (.cst (.int 1))) (.cons (.blt .tuple .z (.cons (.comp .z [] 3 (.many [0,1,2]) (.seq (.ix (.var 0) (.cst (.int 2)))) .nil f6) .nil)) .nil)))) .nil)⟩
noncomputable def mr:Ex:=(.bin .Add .z (.var 0) (.var 1))
noncomputable def D_filled:Df:=⟨2,2,(.cons (.ret (.blt .tuple .z (.cons (.comp .z [] 2 (.many [0,1]) (.zip (.var 0) (.var 1)) .nil mr) .nil))) .nil)⟩
noncomputable def gy:Ex:=(.bin .Sub .z (.var 0) (.var 1))
noncomputable def D_held_behind:Df:=⟨3,11,(.cons (.unp [3,4] (.var 1)) (.cons (.unp [5,6,7,8] (.var 2)) (.cons (.set 9 (.bin .Sub .z (.bin .Add .z (.bin .Add .z (.var 3) (.var 5)) (.var 6)) (.blt .sum .z (.cons (.var 7) .nil)))) (.cons (.set 10 (.call false bp (.cons (.blt .len .z (.cons (.var 4) .nil)) (.cons (.var 8) .nil)))) (.cons (.ret (.tup (.cons (.blt .min .z (.cons (.var 9) (.cons (.ix (.var 0) (.cst (.int 0))) .nil))) (.cons (.blt .tuple .z (.cons (.comp .z [] 2 (.many [0,1]) (.zip (.call false nj (.cons (.var 4) (.cons (.var 7) .nil))) (.var 10)) .nil gy) .nil)) .nil)))) .nil)))))⟩
noncomputable def gz:Ex:=(.not (.call false lr (.cons (.var 0) (.cons (.var 2) (.cons (.var 1) .nil)))))
noncomputable def g0:Ex:=(.cmp (.var 0) (.cons .gt (.var 1) .nil))
noncomputable def D_night_fault:Df:=⟨4,10,(.cons (.unp [4,5,6,7,8] (.ix (.ix (.var 0) (.cst (.int 3))) (.var 1))) (.cons (.ite (.call false d8 (.cons (.var 7) (.cons (.blt .len .z (.cons (.var 2) .nil)) (.cons (.var 3) .nil)))) (.cons (.ret (.cst (.str (PySem.Str.ofString "span")))) .nil) .nil) (.cons (.ite (.blt .any .z (.cons (.comp .z [0,1] 3 (.many [2,3,4]) (.seq (.var 3)) .nil gz) .nil)) (.cons (.ret (.cst (.str (PySem.Str.ofString "away")))) .nil) .nil) (.cons (.set 9 (.call false bp (.cons (.blt .len .z (.cons (.var 2) .nil)) (.cons (.var 3) .nil)))) (.cons (.ite (.blt .any .z (.cons (.comp .z [] 2 (.many [0,1]) (.zip (.var 9) (.var 2)) .nil g0) .nil)) (.cons (.ret (.cst (.str (PySem.Str.ofString "oil")))) .nil) .nil) (.cons (.ite (.call false dh (.cons (.var 7) (.cons (.var 8) (.cons (.var 3) .nil)))) (.cons (.ret (.cst (.str (PySem.Str.ofString "dark")))) .nil) .nil) (.cons (.ret (.cst .non)) .nil)))))))⟩
noncomputable def ju:Ex:=(.cmp (.var 0) (.cons .gt (.ix (.var 1) (.cst (.int 0))) .nil))
noncomputable def D_day_fault:Df:=⟨4,16,(.cons (.unp [4,5,6,7,8] (.ix (.ix (.var 0) (.cst (.int 3))) (.var 1))) (.cons (.unp [9,10] (.var 2)) (.cons (.unp [11,12,13,14] (.var 3)) (.cons (.ite (.not (.cmp (.cst (.int 0)) (.cons .le (.var 11) (.cons .le (.var 4) .nil)))) (.cons (.ret (.cst (.str (PySem.Str.ofString "boat")))) .nil) .nil) (.cons (.ite (.not (.cmp (.cst (.int 0)) (.cons .le (.var 12) (.cons .le (.var 5) .nil)))) (.cons (.ret (.cst (.str (PySem.Str.ofString "market")))) .nil) .nil) (.cons (.ite (.or (.cmp (.blt .min1 .z (.cons (.var 13) .nil)) (.cons .lt (.cst (.int 0)) .nil)) (.cmp (.blt .sum .z (.cons (.var 13) .nil)) (.cons .gt (.bin .Add .z (.bin .Add .z (.var 9) (.var 11)) (.var 12)) .nil))) (.cons (.ret (.cst (.str (PySem.Str.ofString "pour")))) .nil) .nil) (.cons (.set 15 (.call false nj (.cons (.var 10) (.cons (.var 13) .nil)))) (.cons (.ite (.blt .any .z (.cons (.comp .z [] 2 (.many [0,1]) (.zip (.var 15) (.ix (.var 0) (.cst (.int 2)))) .nil ju) .nil)) (.cons (.ret (.cst (.str (PySem.Str.ofString "tank")))) .nil) .nil) (.cons (.ret (.call false ib (.cons (.var 0) (.cons (.var 1) (.cons (.var 15) (.cons (.var 14) .nil)))))) .nil)))))))))⟩
noncomputable def oj:Sms:=(.cons (.set 5 (.call false kh (.cons (.var 0) (.cons (.var 3) (.cons (.var 2) (.cons (.var 4) .nil)))))) (.cons (.ite (.cmp (.var 5) (.cons .isnot (.cst .non) .nil)) (.cons (.ret (.tup (.cons (.var 3) (.cons (.var 5) .nil)))) .nil) .nil) (.cons (.set 2 (.call false fm (.cons (.var 0) (.cons (.var 2) (.cons (.var 4) .nil))))) .nil)))
noncomputable def D_fault:Df:=⟨2,6,(.cons (.set 2 (.call false dz (.cons (.var 0) .nil))) (.cons (.loop (.many [3,4]) (.enum (.var 1)) oj) (.cons (.ret (.cst .non)) .nil)))⟩
noncomputable def D_keeps:Df:=⟨2,2,(.cons (.ret (.cmp (.call false vd (.cons (.var 0) (.cons (.var 1) .nil))) (.cons .is (.cst .non) .nil))) .nil)⟩
noncomputable def ki:Sms:=(.cons (.set 2 (.call false fm (.cons (.var 0) (.cons (.var 2) (.cons (.var 4) .nil))))) (.cons (.ex (.meth .append (.var 3) (.cons (.var 2) .nil))) .nil))
noncomputable def D_evenings:Df:=⟨2,5,(.cons (.set 2 (.call false dz (.cons (.var 0) .nil))) (.cons (.set 3 (.lst .l .nil)) (.cons (.loop (.one 4) (.seq (.var 1)) ki) (.cons (.ret (.frz 3)) .nil))))⟩
noncomputable def ie:Exs:=(.cons (.cmp (.var 1) (.cons .ge (.var 0) .nil)) .nil)
noncomputable def ig:Ex:=(.bin .Sub .z (.var 1) (.var 0))
noncomputable def kj:Sms:=(.cons (.set 5 (.blt .tuple .z (.cons (.comp .z [2] 1 (.one 1) (.seq (.ix (.ix (.ix (.var 0) (.cst (.int 2))) (.var 4)) (.cst (.int 2)))) ie ig) .nil))) (.cons (.ex (.meth .append (.var 3) (.cons (.tup (.cons (.ix (.ix (.ix (.var 0) (.cst (.int 2))) (.var 4)) (.cst (.int 0))) (.cons (.ix (.ix (.var 1) (.cst (.int 1))) (.var 4)) (.cons (.var 5) .nil)))) .nil))) .nil))
noncomputable def D_law_rest:Df:=⟨3,6,(.cons (.set 3 (.lst .l .nil)) (.cons (.loop (.one 4) (.rng (.blt .len .z (.cons (.ix (.var 0) (.cst (.int 2))) .nil))) kj) (.cons (.ret (.tup (.cons (.ix (.var 0) (.cst (.int 0))) (.cons (.ix (.var 1) (.cst (.int 0))) (.cons (.blt .tuple .z (.cons (.var 3) .nil)) (.cons (.sl .z (.ix (.var 0) (.cst (.int 3))) (.so (.var 2)) .no) .nil)))))) .nil)))⟩
noncomputable def f9:Ex:=(.ix (.var 0) (.cst (.int 1)))
noncomputable def gb:Ex:=(.bin .Sub .z (.ix (.var 0) (.cst (.int 2))) (.ix (.var 0) (.cst (.int 1))))
noncomputable def gc:Sms:=(.cons (.unp [6,7,8,9] (.ix (.var 1) (.var 5))) (.cons (.set 10 (.blt .sum .z (.cons (.comp .z [] 1 (.one 0) (.seq (.var 9)) .nil gb) .nil))) (.cons (.set 11 (.bin .Sub .z (.bin .Add .z (.bin .Add .z (.var 4) (.var 6)) (.var 7)) (.blt .sum .z (.cons (.var 8) .nil)))) (.cons (.set 12 (.blt .max .z (.cons (.cst (.int 0)) (.cons (.bin .Sub .z (.var 11) (.ix (.var 0) (.cst (.int 0)))) .nil)))) (.cons (.set 13 (.bin .Add .z (.ix (.ix (.var 2) (.var 5)) (.cst (.int 0))) (.blt .sum .z (.cons (.ix (.ix (.var 2) (.var 5)) (.cst (.int 1))) .nil)))) (.cons (.ite (.cmp (.bin .Add .z (.bin .Add .z (.var 3) (.var 6)) (.var 7)) (.cons .ne (.bin .Add .z (.bin .Add .z (.var 13) (.var 10)) (.var 12)) .nil)) (.cons (.ret (.cst (.bl false))) .nil) .nil) (.cons (.set 3 (.var 13)) (.cons (.set 4 (.ix (.ix (.var 2) (.var 5)) (.cst (.int 0)))) .nil))))))))
noncomputable def D_law_days_even:Df:=⟨3,14,(.cons (.set 3 (.bin .Add .z (.ix (.var 0) (.cst (.int 1))) (.blt .sum .z (.cons (.comp .z [] 1 (.one 0) (.seq (.ix (.var 0) (.cst (.int 2)))) .nil f9) .nil)))) (.cons (.set 4 (.ix (.var 0) (.cst (.int 1)))) (.cons (.loop (.one 5) (.rng (.blt .len .z (.cons (.var 1) .nil))) gc) (.cons (.ret (.cst (.bl true))) .nil))))⟩
noncomputable def di:Exs:=(.cons (.and (.cmp (.bin .Mod .z (.var 0) (.cst (.int 3))) (.cons .eq (.cst (.int 1)) .nil)) (.cmp (.bin .Mod .z (.bin .RShift .z (.var 0) (.bin .Add .z (.var 1) (.cst (.int 2)))) (.cst (.int 2))) (.cons .eq (.cst (.int 1)) .nil))) .nil)
noncomputable def dj:Ex:=(.var 1)
noncomputable def d9:Sms:=(.cons (.set 6 (.call false dm (.cons (.call false cb (.cons (.var 0) .nil)) .nil))) (.cons (.ex (.meth .append (.var 4) (.cons (.comp .z [6] 1 (.one 1) (.rng (.var 3)) di dj) .nil))) .nil))
noncomputable def D_law_frame_2:Df:=⟨1,7,(.cons (.set 1 (.call false dm (.cons (.call false cb (.cons (.var 0) .nil)) .nil))) (.cons (.set 2 (.bin .Add .z (.cst (.int 1)) (.bin .Mod .z (.var 1) (.cst (.int 3))))) (.cons (.set 3 (.bin .Add .z (.cst (.int 1)) (.bin .Mod .z (.bin .FloorDiv .z (.var 1) (.cst (.int 3))) (.cst (.int 4))))) (.cons (.ite (.cmp (.bin .Mod .z (.bin .FloorDiv .z (.var 1) (.cst (.int 12))) (.cst (.int 7))) (.cons .eq (.cst (.int 1)) .nil)) (.cons (.set 2 (.bin .Add .z (.cst (.int 1)) (.bin .Mod .z (.bin .FloorDiv .z (.var 1) (.cst (.int 84))) (.cst (.int 8))))) (.cons (.set 3 (.bin .Add .z (.cst (.int 1)) (.bin .Mod .z (.bin .FloorDiv .z (.var 1) (.cst (.int 672))) (.cst (.int 16))))) .nil)) .nil) (.cons (.set 4 (.lst .l .nil)) (.cons (.loop (.one 5) (.rng (.var 2)) d9) (.cons (.ret (.tup (.cons (.var 2) (.cons (.var 3) (.cons (.frz 4) .nil))))) .nil)))))))⟩
noncomputable def i7:Ex:=(.call false bx (.cons (.var 0) .nil))
noncomputable def i8:Ex:=(.cst (.int 0))
noncomputable def i9:Sms:=(.cons (.setx (.var 15) (.var 16) (.var 17)) .nil)
noncomputable def ja:Ex:=(.bin .Add .z (.blt .max .z (.cons (.cst (.int 0)) (.cons (.bin .Sub .z (.ix (.var 0) (.var 3)) (.ix (.var 1) (.var 3))) .nil))) (.call false bx (.cons (.var 2) .nil)))
noncomputable def jb:Ex:=(.bin .Add .z (.ix (.var 0) (.var 2)) (.ix (.var 1) (.var 2)))
noncomputable def jc:Ex:=(.blt .max .z (.cons (.ix (.var 0) (.var 2)) (.cons (.ix (.var 1) (.var 2)) .nil)))
noncomputable def jd:Ex:=(.bin .Sub .z (.ix (.var 0) (.var 2)) (.ix (.var 1) (.var 2)))
noncomputable def gf:Sms:=(.cons (.set 15 (.comp .l [] 1 (.one 0) (.rng (.ix (.var 1) (.cst (.int 0)))) .nil i8)) (.cons (.loop (.many [16,17]) (.seq (.var 13)) i9) (.cons (.set 18 (.comp .z [15,6,0] 1 (.one 3) (.rng (.ix (.var 1) (.cst (.int 0)))) .nil ja)) (.cons (.set 19 (.bin .Add .z (.blt .max .z (.cons (.cst (.int 0)) (.cons (.bin .Sub .z (.blt .sum .z (.cons (.var 18) .nil)) (.var 10)) .nil))) (.call false bx (.cons (.var 0) .nil)))) (.cons (.set 20 (.call false i4 (.cons (.call false dm (.cons (.call false cb (.cons (.var 0) .nil)) .nil)) (.cons (.cst (.int 0)) (.cons (.var 19) .nil))))) (.cons (.set 6 (.comp .z [6,18] 1 (.one 2) (.rng (.ix (.var 1) (.cst (.int 0)))) .nil jb)) (.cons (.set 7 (.comp .z [7,6] 1 (.one 2) (.rng (.ix (.var 1) (.cst (.int 0)))) .nil jc)) (.cons (.set 6 (.comp .z [6,15] 1 (.one 2) (.rng (.ix (.var 1) (.cst (.int 0)))) .nil jd)) (.cons (.set 10 (.blt .min .z (.cons (.var 3) (.cons (.bin .Sub .z (.bin .Add .z (.var 10) (.var 19)) (.blt .sum .z (.cons (.var 18) .nil))) .nil)))) (.cons (.set 21 (.call false gn (.cons (.call false cb (.cons (.var 0) .nil)) (.cons (.bin .Pow .z (.cst (.int 10)) (.cst (.int 15))) .nil)))) (.cons (.ex (.meth .append (.var 8) (.cons (.tup (.cons (.bin .Add .z (.var 20) (.call false bx (.cons (.var 0) .nil))) (.cons (.bin .Add .z (.bin .Sub .z (.var 19) (.var 20)) (.call false bx (.cons (.var 0) .nil))) (.cons (.var 21) (.cons (.var 11) (.cons (.var 12) .nil)))))) .nil))) (.cons (.ex (.meth .append (.var 9) (.cons (.tup (.cons (.var 20) (.cons (.bin .Sub .z (.var 19) (.var 20)) (.cons (.blt .tuple .z (.cons (.var 18) .nil)) (.cons (.var 14) .nil))))) .nil))) .nil))))))))))))
noncomputable def je:Sms:=(.cons (.ex (.meth .append (.var 22) (.cons (.tup (.cons (.bin .Add .z (.ix (.var 7) (.var 16)) (.call false bx (.cons (.var 0) .nil))) (.cons (.ix (.var 5) (.var 16)) (.cons (.blt .tuple .z (.cons (.ix (.ix (.var 1) (.cst (.int 2))) (.var 16)) .nil)) .nil)))) .nil))) .nil)
noncomputable def D_law_kept_3:Df:=⟨1,23,(.cons (.set 1 (.call false ic (.cons (.var 0) .nil))) (.cons (.set 2 (.call false jh (.cons (.var 0) (.cons (.var 1) .nil)))) (.cons (.set 3 (.call false gn (.cons (.call false cb (.cons (.var 0) .nil)) (.cons (.bin .Pow .z (.cst (.int 10)) (.cst (.int 30))) .nil)))) (.cons (.set 4 (.call false bx (.cons (.var 0) .nil))) (.cons (.set 5 (.comp .z [0] 1 (.one 1) (.rng (.ix (.var 1) (.cst (.int 0)))) .nil i7)) (.cons (.set 6 (.blt .list .z (.cons (.var 5) .nil))) (.cons (.set 7 (.blt .list .z (.cons (.var 5) .nil))) (.cons (.set 8 (.lst .l .nil)) (.cons (.set 9 (.lst .l .nil)) (.cons (.set 10 (.var 4)) (.cons (.loop (.many [11,12,13,14]) (.seq (.var 2)) gf) (.cons (.set 22 (.lst .l .nil)) (.cons (.loop (.one 16) (.rng (.ix (.var 1) (.cst (.int 0)))) je) (.cons (.ret (.tup (.cons (.tup (.cons (.var 3) (.cons (.var 4) (.cons (.blt .tuple .z (.cons (.var 22) .nil)) (.cons (.blt .tuple .z (.cons (.var 8) .nil)) .nil))))) (.cons (.blt .tuple .z (.cons (.var 9) .nil)) .nil)))) .nil))))))))))))))⟩
noncomputable def k9:Sms:=(.cons (.ex (.meth .extendT (.var 2) (.cons (.var 6) .nil))) .nil)
noncomputable def D_burnt_3:Df:=⟨2,7,(.cons (.set 2 (.lst .l .nil)) (.cons (.loop (.many [3,4,5,6]) (.seq (.var 1)) k9) (.cons (.ret (.call false bp (.cons (.blt .len .z (.cons (.ix (.var 0) (.cst (.int 2))) .nil)) (.cons (.frz 2) .nil)))) .nil)))⟩
noncomputable def jv:Ex:=(.bin .Mult .z (.ix (.ix (.var 0) (.var 2)) (.cst (.int 1))) (.ix (.ix (.ix (.var 1) (.cst (.int 3))) (.var 2)) (.cst (.int 2))))
noncomputable def jw:Ex:=(.cst (.int 0))
noncomputable def gr:Sms:=(.cons (.setx (.var 7) (.var 9) (.bin .Sub .z (.bin .Add .z (.ix (.var 7) (.var 9)) (.var 11)) (.var 10))) .nil)
noncomputable def gs:Sms:=(.cons (.loop (.many [9,10,11]) (.seq (.ix (.var 8) (.cst (.int 3)))) gr) .nil)
noncomputable def jx:Ex:=(.bin .Add .z (.ix (.var 0) (.var 2)) (.ix (.var 1) (.var 2)))
noncomputable def jy:Sms:=(.cons (.set 5 (.call false lu (.cons (.var 1) (.cons (.ix (.var 3) (.bin .Sub .z (.var 4) (.cst (.int 1)))) (.cons (.var 4) .nil))))) (.cons (.ite (.or (.cmp (.call false ve (.cons (.var 5) (.cons (.sl .z (.var 2) (.so (.var 4)) .no) .nil))) (.cons .isnot (.cst (.bl true)) .nil)) (.cmp (.call false j4 (.cons (.var 5) (.cons (.sl .z (.var 2) (.so (.var 4)) .no) .nil))) (.cons .ne (.sl .z (.var 3) (.so (.var 4)) .no) .nil))) (.cons (.ret (.cst (.bl false))) .nil) .nil) (.cons (.set 6 (.blt .sum .z (.cons (.comp .z [2,1] 1 (.one 2) (.rng (.var 4)) .nil jv) .nil))) (.cons (.ite (.cmp (.bin .Add .z (.call false yi (.cons (.var 5) (.cons (.sl .z (.var 2) (.so (.var 4)) .no) .nil))) (.var 6)) (.cons .ne (.call false yi (.cons (.var 1) (.cons (.var 2) .nil))) .nil)) (.cons (.ret (.cst (.bl false))) .nil) .nil) (.cons (.set 7 (.comp .l [] 1 (.one 0) (.seq (.ix (.var 1) (.cst (.int 2)))) .nil jw)) (.cons (.loop (.one 8) (.seq (.sl .z (.var 2) .no (.so (.var 4)))) gs) (.cons (.set 12 (.call false k8 (.cons (.var 5) (.cons (.sl .z (.var 2) (.so (.var 4)) .no) .nil)))) (.cons (.ite (.cmp (.call false k8 (.cons (.var 1) (.cons (.var 2) .nil))) (.cons .ne (.blt .tuple .z (.cons (.comp .z [7,12] 1 (.one 2) (.rng (.blt .len .z (.cons (.var 7) .nil))) .nil jx) .nil)) .nil)) (.cons (.ret (.cst (.bl false))) .nil) .nil) .nil))))))))
noncomputable def D_law_k12_4:Df:=⟨1,13,(.cons (.unp [1,2] (.call false ji (.cons (.blt .listRev .l (.cons (.var 0) .nil)) .nil))) (.cons (.set 3 (.call false j4 (.cons (.var 1) (.cons (.var 2) .nil)))) (.cons (.ite (.or (.not (.isi (.var 3) .list)) (.or (.cmp (.blt .len .z (.cons (.var 3) .nil)) (.cons .ne (.blt .len .z (.cons (.var 2) .nil)) .nil)) (.not (.call false ft (.cons (.var 1) (.cons (.var 2) (.cons (.var 3) .nil))))))) (.cons (.ret (.cst (.bl false))) .nil) .nil) (.cons (.loop (.one 4) (.rng2 (.cst (.int 1)) (.blt .len .z (.cons (.var 2) .nil))) jy) (.cons (.ret (.cst (.bl true))) .nil)))))⟩
noncomputable def GL:List Df:=[⟨0,0,.nil⟩,⟨0,0,.nil⟩,D_can_burn,D_law_next,D_law_turn,D_law_size,⟨0,0,.nil⟩,⟨0,0,.nil⟩,⟨0,0,.nil⟩,⟨0,0,.nil⟩,⟨0,0,.nil⟩,⟨0,0,.nil⟩,⟨0,0,.nil⟩,D_rises,⟨0,0,.nil⟩,⟨0,0,.nil⟩,⟨0,0,.nil⟩,⟨0,0,.nil⟩,⟨0,0,.nil⟩,⟨0,0,.nil⟩,⟨0,0,.nil⟩,⟨0,0,.nil⟩,⟨0,0,.nil⟩,⟨0,0,.nil⟩,⟨0,0,.nil⟩,⟨0,0,.nil⟩,⟨0,0,.nil⟩,⟨0,0,.nil⟩,⟨0,0,.nil⟩,⟨0,0,.nil⟩,⟨0,0,.nil⟩,⟨0,0,.nil⟩,⟨0,0,.nil⟩,⟨0,0,.nil⟩,D_ticks_of_spans,D_cost,⟨0,0,.nil⟩,D_law_share,D_law_ticks,D_law_spans,⟨0,0,.nil⟩,D_law_nights,D_law_slack,⟨0,0,.nil⟩,⟨0,0,.nil⟩,⟨0,0,.nil⟩,⟨0,0,.nil⟩,⟨0,0,.nil⟩,⟨0,0,.nil⟩,⟨0,0,.nil⟩,⟨0,0,.nil⟩,⟨0,0,.nil⟩,⟨0,0,.nil⟩,D_have_tick_in_common,D_has_span_fault,D_has_dark_fault,D_held_at_first,D_filled,D_held_behind,D_night_fault,D_day_fault,D_fault,D_keeps,D_evenings,⟨0,0,.nil⟩,⟨0,0,.nil⟩,⟨0,0,.nil⟩,⟨0,0,.nil⟩,⟨0,0,.nil⟩,⟨0,0,.nil⟩,D_law_rest,D_law_days_even,⟨0,0,.nil⟩,⟨0,0,.nil⟩,⟨0,0,.nil⟩,⟨0,0,.nil⟩,⟨0,0,.nil⟩,⟨0,0,.nil⟩,⟨0,0,.nil⟩,⟨0,0,.nil⟩,⟨0,0,.nil⟩,⟨0,0,.nil⟩,⟨0,0,.nil⟩,⟨0,0,.nil⟩,⟨0,0,.nil⟩,⟨0,0,.nil⟩,⟨0,0,.nil⟩,⟨0,0,.nil⟩,⟨0,0,.nil⟩,⟨0,0,.nil⟩,⟨0,0,.nil⟩,⟨0,0,.nil⟩,⟨0,0,.nil⟩,⟨0,0,.nil⟩,⟨0,0,.nil⟩,⟨0,0,.nil⟩,⟨0,0,.nil⟩,⟨0,0,.nil⟩,⟨0,0,.nil⟩,⟨0,0,.nil⟩,⟨0,0,.nil⟩,⟨0,0,.nil⟩,⟨0,0,.nil⟩,⟨0,0,.nil⟩,⟨0,0,.nil⟩,⟨0,0,.nil⟩,⟨0,0,.nil⟩,⟨0,0,.nil⟩,⟨0,0,.nil⟩,⟨0,0,.nil⟩,⟨0,0,.nil⟩,⟨0,0,.nil⟩,⟨0,0,.nil⟩,⟨0,0,.nil⟩,⟨0,0,.nil⟩,⟨0,0,.nil⟩,⟨0,0,.nil⟩,⟨0,0,.nil⟩,⟨0,0,.nil⟩,⟨0,0,.nil⟩,⟨0,0,.nil⟩,⟨0,0,.nil⟩,⟨0,0,.nil⟩,⟨0,0,.nil⟩,⟨0,0,.nil⟩,⟨0,0,.nil⟩,⟨0,0,.nil⟩,⟨0,0,.nil⟩,⟨0,0,.nil⟩,⟨0,0,.nil⟩,⟨0,0,.nil⟩,⟨0,0,.nil⟩,⟨0,0,.nil⟩,⟨0,0,.nil⟩,⟨0,0,.nil⟩,⟨0,0,.nil⟩,⟨0,0,.nil⟩,⟨0,0,.nil⟩,⟨0,0,.nil⟩,⟨0,0,.nil⟩,⟨0,0,.nil⟩,⟨0,0,.nil⟩,D_law_frame_2,D_law_kept_3,⟨0,0,.nil⟩,⟨0,0,.nil⟩,⟨0,0,.nil⟩,⟨0,0,.nil⟩,⟨0,0,.nil⟩,D_burnt_3,⟨0,0,.nil⟩,D_law_k12_4,⟨0,0,.nil⟩,⟨0,0,.nil⟩,⟨0,0,.nil⟩,⟨0,0,.nil⟩,⟨0,0,.nil⟩,⟨0,0,.nil⟩,⟨0,0,.nil⟩,⟨0,0,.nil⟩,⟨0,0,.nil⟩,⟨0,0,.nil⟩,⟨0,0,.nil⟩,⟨0,0,.nil⟩,⟨0,0,.nil⟩,⟨0,0,.nil⟩,⟨0,0,.nil⟩]
theorem C3:GL[lr]? = some D_can_burn:=rfl
theorem C4:GL[cb]? = some D_law_next:=rfl
theorem C5:GL[dm]? = some D_law_turn:=rfl
theorem C6:GL[gn]? = some D_law_size:=rfl
theorem Nz:GL[vc]? = some D_rises:=rfl
theorem o8:GL[bp]? = some D_ticks_of_spans:=rfl
theorem Q6:GL[yi]? = some D_cost:=rfl
theorem rh:GL[i4]? = some D_law_share:=rfl
theorem z7:GL[i5]? = some D_law_ticks:=rfl
theorem z8:GL[kg]? = some D_law_spans:=rfl
theorem yj:GL[jh]? = some D_law_nights:=rfl
theorem z9:GL[bx]? = some D_law_slack:=rfl
theorem la:GL[cg]? = some D_have_tick_in_common:=rfl
theorem o9:GL[d8]? = some D_has_span_fault:=rfl
theorem pd:GL[dh]? = some D_has_dark_fault:=rfl
theorem rj:GL[dz]? = some D_held_at_first:=rfl
theorem Iy:GL[nj]? = some D_filled:=rfl
theorem vf:GL[fm]? = some D_held_behind:=rfl
theorem vg:GL[ib]? = some D_night_fault:=rfl
theorem Aa:GL[kh]? = some D_day_fault:=rfl
theorem N0:GL[vd]? = some D_fault:=rfl
theorem N1:GL[ve]? = some D_keeps:=rfl
theorem C7:GL[j4]? = some D_evenings:=rfl
theorem C8:GL[lu]? = some D_law_rest:=rfl
theorem rl:GL[ft]? = some D_law_days_even:=rfl
theorem nk:GL[ic]? = some D_law_frame_2:=rfl
theorem yk:GL[ji]? = some D_law_kept_3:=rfl
theorem Ft:GL[k8]? = some D_burnt_3:=rfl
theorem Ab:GL[mq]? = some D_law_k12_4:=rfl
end Lp
namespace Lr
open Lp
open PySem
theorem vh {f:D→Sl→Sto→Res Fl} (I:Nat→Sl→Sto→Prop):∀{ds:List D} {σ:Sl} {μ:Sto} (k:Nat),I k σ μ →
  (∀(j:Nat) d σ μ,ds[j]? = some d→I (k+j) σ μ→∃σ' μ',f d σ μ=.ok (.nx σ') μ'∧I (k+j+1) σ' μ') →
  ∃σ' μ',ng none f ds σ μ=.ok (.nx σ') μ'∧I (k+ds.length) σ' μ'
 | [],σ,μ,k,h,_=>⟨σ,μ,by simp[ng],h⟩
 | d::ds,σ,μ,k,h,st=>by
  obtain⟨σ1,μ1,e1,h1⟩:=st 0 d σ μ rfl h
  obtain⟨σ2,μ2,e2,h2⟩:=vh I (ds:=ds) (σ:=σ1) (μ:=μ1) (k+1) h1 fun j d σ μ e i=>by
   obtain⟨σ',μ',a,b⟩:=st (j+1) d σ μ (by simpa using e) (by rw[show k+(j+1)=k+1+j by omega];exact i)
   exact⟨σ',μ',a,by rw[show k+1+j+1=k+(j+1)+1 by omega];exact b⟩
  refine⟨σ2,μ2,?_,by rw[show k+(d::ds).length=k+1+ds.length by simp;omega];exact h2⟩
  simp only[ng,qi,if_true,e1,Res.ba,e2]
theorem ao {T:List Df} {n i:Nat} {d:Df} {ds:List D} {μ:Sto} (h:T[i]? = some d):ar T (n+1) i ds μ=Oo (ar T n) d ds μ:=by
 simp only[ar,h]
noncomputable def finD (fl:Fl) (μ:Sto):Res D:=match fl with
 | .nx _=>.ok .non μ
 | .rt d=>.ok d μ
 | _=>.stuck
@[simp] theorem Fu (d:D) (μ:Sto):finD (.rt d) μ=.ok d μ:=rfl
@[simp] theorem Fv (σ:Sl) (μ:Sto):finD (.nx σ) μ=.ok .non μ:=rfl
theorem run_eq {φ:Phi} {f:Df} {ds:List D} {μ:Sto} (h:ds.length=f.np):Oo φ f ds μ=(n4 φ f.body (ds.map some++List.replicate (f.nn-f.np) none) μ).bind finD:=by
 rw[Oo,if_pos h];rfl
theorem j5 (b:Nat):∀(k:Nat) (d:D),D.pureN k d=true→D.belowN b k d=true
 | 0,d,h=>by cases d<;>simp_all[D.pureN,D.belowN]
 | k+1,d,h=>by
  cases d with
  | tup ds =>
   simp only[D.pureN,D.belowN,AM]at h ⊢
   exact fun x hx=>j5 b k x (h x hx)
  | lst ds =>
   simp only[D.pureN,D.belowN,AM]at h ⊢
   exact fun x hx=>j5 b k x (h x hx)
  | loc n=>simp[D.pureN]at h
  | _=>rfl
theorem cq {k:Nat} {ds:List D}:D.pureN (k+1) (.tup ds)=ds.all (D.pureN k):=rfl
theorem lx {k:Nat} {ds:List D}:D.pureN (k+1) (.lst ds)=ds.all (D.pureN k):=rfl
theorem cy {k:Nat} {i:Int}:D.pureN k (.int i)=true:=by cases k<;>rfl
theorem C9 (b:Nat) (o:O) (h:noR o=true):iz b o=true:=by cases o<;>simp_all[noR,iz]
noncomputable abbrev ly (μ:Sto):Prop:=μ.all (iz μ.length)=true
theorem Dc {d:D} {μ:Sto} {b:Nat} (hd:d.pure=true) (hb:μ.length=b) (hr:ly μ):o6 false b (.ok d μ)=.ok d μ:=by
 have e:μ.take b=μ:=BF (by omega)
 have hr':μ.all (iz b)=true:=by rw[←hb];exact hr
 simp only[o6,BD,if_false,e,j5 b 8 d hd,hr',and_self,if_true]
@[simp] theorem om {d:D} {μ:Sto} {b:Nat}:o6 true b (.ok d μ)=.ok d μ:=by simp[o6]
theorem op_mul {i j:Int} {μ:Sto} (h:CMul i j):opI .Mult i j μ=.ok (.int (i*j)) μ:=by simp[opI,h]
theorem j6 {i j:Int} {μ:Sto} (h:0<j) (h2:j<1073741824):opI .FloorDiv i j μ=.ok (.int (i / j)) μ:=by simp[opI,h,h2]
theorem op_mod {i j:Int} {μ:Sto} (h:0<j):opI .Mod i j μ=.ok (.int (i % j)) μ:=by simp[opI,h]
theorem op_add {i j:Int} {μ:Sto}:opI .Add i j μ=.ok (.int (i+j)) μ:=rfl
theorem op_sub {i j:Int} {μ:Sto}:opI .Sub i j μ=.ok (.int (i-j)) μ:=rfl
theorem op_pow {i:Int} {j:Int} {μ:Sto} (h:0≤j∧j≤1000000∧i.natAbs<2 ^ 64):opI .Pow i j μ=.ok (.int (i ^ j.toNat)) μ:=by simp[opI,h]
theorem op_shr {i j:Int} {μ:Sto} (h:0≤j):opI .RShift i j μ=.ok (.int (i / 2 ^ j.toNat)) μ:=by simp[opI,h]
theorem Ac {op:Operator} {m:Mk} {i j:Int} {μ:Sto}:opD op m (.int i) (.int j) μ=opI op i j μ:=rfl
theorem _root_.Lp.CMul.left {i j:Int} (h:-(2 ^ 64)<i) (h2:i<2 ^ 64):CMul i j:=.inl ⟨h,h2⟩
theorem _root_.Lp.CMul.right {i j:Int} (h:-(2 ^ 64)<j) (h2:j<2 ^ 64):CMul i j:=.inr ⟨h,h2⟩
theorem jf (ns:List Int):eh (ns.map D.int)=some ns:=by
 induction ns with
 | nil=>rfl
 | cons n r ih=>simp[eh,ih]
theorem lz (ns:List Bool):l7 (ns.map D.bl)=some ns:=by
 induction ns with
 | nil=>rfl
 | cons n r ih=>simp[l7,ih]
theorem p7 (i:Int):(D.int i).pure=true:=rfl
end Lr
namespace Lr
open Lp
open PySem
section
variable (φ : Phi)
noncomputable def Vk (o:Option (Option D)) (μ:Sto):Res D:=match o with
 | some (some d)=>.ok d μ
 | _=>.stuck
noncomputable def kB (op:Operator) (m:Mk) (b:Ex) (σ:Sl) (x:D) (μ:Sto):Res D:=(evE φ b σ μ).bind (opD op m x)
noncomputable def kNeg (x:D) (μ:Sto):Res D:=match x with
 | .int i=>.ok (.int (-i)) μ
 | _=>.stuck
noncomputable def kNot (x:D) (μ:Sto):Res D:=match x with
 | .bl b=>.ok (.bl (!b)) μ
 | _=>.stuck
noncomputable def Uu (b:Ex) (σ:Sl) (x:D) (μ:Sto):Res D:=match x with
 | .bl c=>if c=true then evE φ b σ μ else .ok (.bl false) μ
 | _=>.stuck
noncomputable def kOr (b:Ex) (σ:Sl) (x:D) (μ:Sto):Res D:=match x with
 | .bl c=>if c=true then .ok (.bl true) μ else evE φ b σ μ
 | _=>.stuck
noncomputable def Uv (a b:Ex) (σ:Sl) (x:D) (μ:Sto):Res D:=match x with
 | .bl c=>if c=true then evE φ a σ μ else evE φ b σ μ
 | _=>.stuck
noncomputable def Vl (r:Cps) (σ:Sl) (x:D) (μ:Sto):Res D:=evC φ r x σ μ
noncomputable def Sy (r:Cps) (y:D) (σ:Sl) (z:D) (μ:Sto):Res D:=match z with
 | .bl b=>if b=true then evC φ r y σ μ else .ok (.bl false) μ
 | _=>.stuck
noncomputable def kCh (op:Cp) (x:D) (r:Cps) (σ:Sl) (y:D) (μ:Sto):Res D:=(cpD op x y μ).bind (Sy φ r y σ)
noncomputable def rm (keep:Bool) (f:Nat) (ds:List D) (μ:Sto):Res D:=o6 keep μ.length (φ f ds μ)
noncomputable def kM (mt:Mt) (es:Exs) (σ:Sl) (x:D) (μ:Sto):Res D:=if iy mt x μ=true then(gw φ es σ μ).bind (mtD mt x)else .stuck
noncomputable def kIx (b:Ex) (σ:Sl) (x:D) (μ:Sto):Res D:=(evE φ b σ μ).bind (ixD x)
noncomputable def Uw (m:Mk) (hi:ExO) (σ:Sl) (x:D) (l:Option Int) (μ:Sto):Res D:=(evO φ hi σ μ).bind (slD m x l)
noncomputable def kSl (m:Mk) (lo hi:ExO) (σ:Sl) (x:D) (μ:Sto):Res D:=(evO φ lo σ μ).bind (Uw φ m hi σ x)
noncomputable def kTup (ds:List D) (μ:Sto):Res D:=.ok (.tup ds) μ
noncomputable def Ux (d:D) (ds:List D) (μ:Sto):Res (List D):=.ok (d::ds) μ
noncomputable def kEs (es:Exs) (σ:Sl) (d:D) (μ:Sto):Res (List D):=(gw φ es σ μ).bind (Ux d)
noncomputable def kInt (x:D) (μ:Sto):Res (Option Int):=match x with
 | .int i=>.ok (some i) μ
 | _=>.stuck
noncomputable def kOne (x:D) (μ:Sto):Res (List D):=.ok [x] μ
noncomputable def Sz (elt:Ex) (σ:Sl) (b:Bool) (μ:Sto):Res (List D):=if b=true then(evE φ elt σ μ).bind kOne else .ok [] μ
noncomputable def Vm (cs:Exs) (elt:Ex) (μ:Sto) (σ:Sl):Res (List D):=(Cz φ cs σ μ).bind (Sz φ elt σ)
noncomputable def j8 (tg:Tg) (cs:Exs) (elt:Ex) (σ0:Sl) (d:D) (μ:Sto):Res (List D):=l6 (d6 tg d σ0) (Vm φ cs elt μ)
noncomputable def nq (m:Mk) (tg:Tg) (cs:Exs) (elt:Ex) (σ0:Sl) (w:List D×Gd) (μ:Sto):Res D:=(mapR w.2 (j8 φ tg cs elt σ0) w.1 μ).bind (mkL m)
noncomputable def kCs (es:Exs) (σ:Sl) (x:D) (μ:Sto):Res Bool:=match x with
 | .bl b=>if b=true then Cz φ es σ μ else .ok false μ
 | _=>.stuck
noncomputable def kSeq (x:D) (μ:Sto):Res (List D×Gd):=match cu μ x with
 | some w=>.ok w μ
 | none=>.stuck
noncomputable def kRng (x:D) (μ:Sto):Res (List D×Gd):=match x with
 | .int j=>if -(lim:Int)≤j∧j≤lim then .ok ((List.range j.toNat).map fun(i:Nat)=>D.int i,none) μ else .stuck
 | _=>.stuck
noncomputable def Be (x y:D) (μ:Sto):Res (List D×Gd):=match x,y with
 | .int i,.int j=>if -(lim:Int)≤i∧i≤lim∧j≤lim ∧ -(lim:Int)≤j∧(j-i)≤lim then .ok ((List.range (j-i).toNat).map fun(k:Nat)=>D.int (i+k),none) μ else .stuck
 | _,_=>.stuck
noncomputable def Q7 (b:Ex) (σ:Sl) (x:D) (μ:Sto):Res (List D×Gd):=(evE φ b σ μ).bind (Be x)
noncomputable def sj (x y:D) (μ:Sto):Res (List D×Gd):=match cu μ x,de [] y with
 | some w,some ys=>.ok ((w.1.zip ys).map fun p=>.tup [p.1,p.2],w.2) μ
 | _,_=>.stuck
noncomputable def Vn (b:Ex) (σ:Sl) (x:D) (μ:Sto):Res (List D×Gd):=(evE φ b σ μ).bind (sj x)
noncomputable def kEnum (x:D) (μ:Sto):Res (List D×Gd):=match cu μ x with
 | some w=>.ok ((List.range w.1.length |>.zip w.1).map fun(p:Nat×D)=>.tup [.int p.1,p.2],w.2) μ
 | none=>.stuck
noncomputable def kVals (x:D) (μ:Sto):Res (List D×Gd):=match x with
 | .loc n=>match μ[n]? with
  | some (.d kvs)=>.ok (kvs.map (·.2),none) (μ.set n .dead)
  | _=>.stuck
 | _=>.stuck
noncomputable def Vo (i:Nat) (σ:Sl) (d:D) (μ:Sto):Res Fl:=.ok (.nx (σ.set i (some d))) μ
noncomputable def Uy (o:Option Sl) (μ:Sto):Res Fl:=match o with
 | some σ'=>.ok (.nx σ') μ
 | none=>.stuck
noncomputable def Vp (is:List Nat) (σ:Sl) (d:D) (μ:Sto):Res Fl:=Uy (d6 (.many is) d σ) μ
noncomputable def kNx {α:Type} (σ:Sl) (_:α) (μ:Sto):Res Fl:=.ok (.nx σ) μ
noncomputable def Uz (σ:Sl) (d x:D) (y:D) (μ:Sto):Res Fl:=(Az x y d μ).bind (kNx σ)
noncomputable def U0 (i:Ex) (σ:Sl) (d:D) (x:D) (μ:Sto):Res Fl:=(evE φ i σ μ).bind (Uz σ d x)
noncomputable def kSx (o i:Ex) (σ:Sl) (d:D) (μ:Sto):Res Fl:=(evE φ o σ μ).bind (U0 φ i σ d)
noncomputable def kIf (a b:Sms) (σ:Sl) (x:D) (μ:Sto):Res Fl:=match x with
 | .bl k=>if k=true then n4 φ a σ μ else n4 φ b σ μ
 | _=>.stuck
noncomputable def kLp (b:Sms) (μ:Sto) (σ:Sl):Res Fl:=n4 φ b σ μ
noncomputable def fLp (tg:Tg) (b:Sms) (d:D) (σ:Sl) (μ:Sto):Res Fl:=l6 (d6 tg d σ) (kLp φ b μ)
noncomputable def Dd (tg:Tg) (b:Sms) (σ:Sl) (w:List D×Gd) (μ:Sto):Res Fl:=ng w.2 (fLp φ tg b) w.1 σ μ
noncomputable def kRet (d:D) (μ:Sto):Res Fl:=.ok (.rt d) μ
noncomputable def kSs (r:Sms) (fl:Fl) (μ:Sto):Res Fl:=match fl with
 | .nx σ'=>n4 φ r σ' μ
 | fl=>.ok fl μ
end
section
variable {φ : Phi} {σ : Sl} {μ : Sto} {a b c e o i : Ex} {es : Exs} {m : Mk} {op : Operator} {r : Cps} {s : Sm} {rs : Sms}
theorem Q8 {i:Nat}:evE φ (.var i) σ μ=Vk σ[i]? μ:=rfl
theorem Q9 {d:D}:evE φ (.cst d) σ μ=.ok d μ:=rfl
theorem Ra:evE φ (.bin op m a b) σ μ=(evE φ a σ μ).bind (kB φ op m b σ):=rfl
theorem Rb:evE φ (.neg a) σ μ=(evE φ a σ μ).bind kNeg:=rfl
theorem Rc:evE φ (.not a) σ μ=(evE φ a σ μ).bind kNot:=rfl
theorem Rf:evE φ (.and a b) σ μ=(evE φ a σ μ).bind (Uu φ b σ):=rfl
theorem Vq:evE φ (.or a b) σ μ=(evE φ a σ μ).bind (kOr φ b σ):=rfl
theorem Rg:evE φ (.ite c a b) σ μ=(evE φ c σ μ).bind (Uv φ a b σ):=rfl
theorem Rh:evE φ (.cmp a r) σ μ=(evE φ a σ μ).bind (Vl φ r σ):=rfl
theorem Iz {α:Type} (x:Res α):(x.bind fun a μ=>.ok a μ)=x:=by cases x<;>rfl
theorem Ri {op:Cp} {x:D}:evC φ (.cons op e .nil) x σ μ=(evE φ e σ μ).bind (cpD op x):=by
 simp only[evC,Iz]
theorem Kn {op op':Cp} {x:D} {e':Ex}:evC φ (.cons op e (.cons op' e' r)) x σ μ=(evE φ e σ μ).bind (kCh φ op x (.cons op' e' r) σ):=by
 rw[evC]
 all_goals rfl
theorem Ko {keep:Bool} {f:Nat}:evE φ (.call keep f es) σ μ=(gw φ es σ μ).bind (rm φ keep f):=rfl
theorem Rj {b:Bt}:evE φ (.blt b m es) σ μ=(gw φ es σ μ).bind (btD b m):=rfl
theorem Rk {c:Cl}:evE φ (.isi a c) σ μ=(evE φ a σ μ).bind (Py c):=rfl
theorem Kp {mt:Mt}:evE φ (.meth mt o es) σ μ=(evE φ o σ μ).bind (kM φ mt es σ):=rfl
theorem Vr:evE φ (.ix a b) σ μ=(evE φ a σ μ).bind (kIx φ b σ):=rfl
theorem Vs {lo hi:ExO}:evE φ (.sl m a lo hi) σ μ=(evE φ a σ μ).bind (kSl φ m lo hi σ):=rfl
theorem Rl:evE φ (.tup es) σ μ=(gw φ es σ μ).bind kTup:=rfl
theorem Rm:evE φ (.lst m es) σ μ=(gw φ es σ μ).bind (mkL m):=rfl
theorem Rn {t:Bool}:evE φ (.dic t es) σ μ=(gw φ es σ μ).bind (J7 t):=rfl
theorem Kq {cap:List Nat} {nl:Nat} {tg:Tg} {it:It} {cs:Exs} {elt:Ex}:evE φ (.comp m cap nl tg it cs elt) σ μ=(evI φ it σ μ).bind (nq φ m tg cs elt (cap.map (fun i=>(σ[i]?).getD none)++List.replicate nl none)):=rfl
theorem Kr:gw φ .nil σ μ=.ok [] μ:=rfl
theorem Fw:gw φ (.cons e es) σ μ=(evE φ e σ μ).bind (kEs φ es σ):=rfl
theorem Vt:evO φ .no σ μ=.ok none μ:=rfl
theorem Vu:evO φ (.so e) σ μ=(evE φ e σ μ).bind kInt:=rfl
theorem Ks:Cz φ .nil σ μ=.ok true μ:=rfl
theorem Fx:Cz φ (.cons e es) σ μ=(evE φ e σ μ).bind (kCs φ es σ):=rfl
theorem Ro:evI φ (.seq e) σ μ=(evE φ e σ μ).bind kSeq:=rfl
theorem Rp:evI φ (.rng e) σ μ=(evE φ e σ μ).bind kRng:=rfl
theorem Kt:evI φ (.rng2 a b) σ μ=(evE φ a σ μ).bind (Q7 φ b σ):=rfl
theorem Rq:evI φ (.zip a b) σ μ=(evE φ a σ μ).bind (Vn φ b σ):=rfl
theorem Ku:evI φ (.enum a) σ μ=(evE φ a σ μ).bind kEnum:=rfl
theorem Kv:evI φ (.vals a) σ μ=(evE φ a σ μ).bind kVals:=rfl
theorem Rr {i:Nat}:evS φ (.set i e) σ μ=(evE φ e σ μ).bind (Vo i σ):=rfl
theorem Rt {is:List Nat}:evS φ (.unp is e) σ μ=(evE φ e σ μ).bind (Vp is σ):=rfl
theorem Kw:evS φ (.setx o i e) σ μ=(evE φ e σ μ).bind (kSx φ o i σ):=rfl
theorem Vv:evS φ (.ex e) σ μ=(evE φ e σ μ).bind (kNx σ):=rfl
theorem Ru {x y:Sms}:evS φ (.ite c x y) σ μ=(evE φ c σ μ).bind (kIf φ x y σ):=rfl
theorem Kx {tg:Tg} {it:It} {b:Sms}:evS φ (.loop tg it b) σ μ=(evI φ it σ μ).bind (Dd φ tg b σ):=rfl
theorem Rv:evS φ (.ret e) σ μ=(evE φ e σ μ).bind kRet:=rfl
theorem Kz:evS φ .pass σ μ=.ok (.nx σ) μ:=rfl
theorem Rw:evS φ .brk σ μ=.ok (.bk σ) μ:=rfl
theorem K0:evS φ .cont σ μ=.ok (.ct σ) μ:=rfl
theorem K1:n4 φ .nil σ μ=.ok (.nx σ) μ:=rfl
theorem Fy:n4 φ (.cons s rs) σ μ=(evS φ s σ μ).bind (kSs φ rs):=rfl
theorem bb {f:Nat} {ds:List D} {d:D} {μ':Sto} (h:φ f ds μ=.ok d μ') (hd:d.pure=true) (hl:μ'.length=μ.length) (hr:ly μ'):rm φ false f ds μ=.ok d μ':=by
 rw[rm,h,Dc hd hl hr]
theorem Fz {mt:Mt} {x:D} (h:iy mt x μ=true):kM φ mt es σ x μ=(gw φ es σ μ).bind (mtD mt x):=by rw[kM,if_pos h]
theorem yl {d:D}:Vk (some (some d)) μ=.ok d μ:=rfl
theorem Bf {i:Int}:kNeg (.int i) μ=.ok (.int (-i)) μ:=rfl
theorem F0 {b:Bool}:kNot (.bl b) μ=.ok (.bl (!b)) μ:=rfl
theorem K2 {b:Ex}:Uu φ b σ (.bl true) μ=evE φ b σ μ:=rfl
theorem K3 {b:Ex}:Uu φ b σ (.bl false) μ=.ok (.bl false) μ:=rfl
theorem Rx {b:Ex}:kOr φ b σ (.bl true) μ=.ok (.bl true) μ:=rfl
theorem Ry {b:Ex}:kOr φ b σ (.bl false) μ=evE φ b σ μ:=rfl
theorem K4:Uv φ a b σ (.bl true) μ=evE φ a σ μ:=rfl
theorem K5:Uv φ a b σ (.bl false) μ=evE φ b σ μ:=rfl
theorem K6 {y:D}:Sy φ r y σ (.bl true) μ=evC φ r y σ μ:=rfl
theorem K7 {y:D}:Sy φ r y σ (.bl false) μ=.ok (.bl false) μ:=rfl
theorem Rz:kCs φ es σ (.bl true) μ=Cz φ es σ μ:=rfl
theorem R0:kCs φ es σ (.bl false) μ=.ok false μ:=rfl
theorem K8 {elt:Ex}:Sz φ elt σ true μ=(evE φ elt σ μ).bind kOne:=rfl
theorem K9 {elt:Ex}:Sz φ elt σ false μ=.ok [] μ:=rfl
theorem Bg {i:Int}:kInt (.int i) μ=.ok (some i) μ:=rfl
theorem R1 {x y:Sms}:kIf φ x y σ (.bl true) μ=n4 φ x σ μ:=rfl
theorem R3 {x y:Sms}:kIf φ x y σ (.bl false) μ=n4 φ y σ μ:=rfl
theorem La {σ':Sl}:kSs φ rs (.nx σ') μ=n4 φ rs σ' μ:=rfl
theorem Lb {d:D}:kSs φ rs (.rt d) μ=.ok (.rt d) μ:=rfl
theorem Lc {σ':Sl}:kSs φ rs (.bk σ') μ=.ok (.bk σ') μ:=rfl
theorem Ld {σ':Sl}:kSs φ rs (.ct σ') μ=.ok (.ct σ') μ:=rfl
theorem ym {σ':Sl}:Uy (some σ') μ=.ok (.nx σ') μ:=rfl
theorem Bh {ds:List D}:kSeq (.tup ds) μ=.ok (ds,none) μ:=rfl
theorem Bi {ds:List D}:kSeq (.lst ds) μ=.ok (ds,none) μ:=rfl
theorem N2 {j:Int} (h:-1000000≤j∧j≤1000000):kRng (.int j) μ=.ok ((List.range j.toNat).map fun(i:Nat)=>D.int i,none) μ:=by
 have:=k6
 simp only[kRng]
 rw[if_pos ⟨by lia,by lia⟩]
theorem dq {n:Nat} (h:n≤1000000):kRng (.int n) μ=.ok ((List.range n).map fun(i:Nat)=>D.int i,none) μ:=by
 rw[N2 ⟨by lia,by lia⟩,Do]
theorem yn {i:Nat} {d:D}:d6 (.one i) d σ=some (σ.set i (some d)):=rfl
theorem R4 {i j:Int}:cpD .lt (.int i) (.int j) μ=.ok (.bl (decide (i<j))) μ:=rfl
theorem R5 {i j:Int}:cpD .le (.int i) (.int j) μ=.ok (.bl (decide (i≤j))) μ:=rfl
theorem R6 {i j:Int}:cpD .gt (.int i) (.int j) μ=.ok (.bl (decide (j<i))) μ:=rfl
theorem R7 {i j:Int}:cpD .ge (.int i) (.int j) μ=.ok (.bl (decide (j≤i))) μ:=rfl
theorem Le {i j:Int}:cpD .eq (.int i) (.int j) μ=.ok (.bl (decide (i=j))) μ:=rfl
theorem I0 {x y:D} (hx:x.pure=true) (hy:y.pure=true):cpD .ne x y μ=.ok (.bl (!deq x y)) μ:=by simp[cpD,hx,hy]
theorem Lg {i j:Int}:cpD .ne (.int i) (.int j) μ=.ok (.bl (!decide (i=j))) μ:=I0 rfl rfl
theorem Lh {i j:Bool}:cpD .ne (.bl i) (.bl j) μ=.ok (.bl (!(i==j))) μ:=I0 rfl rfl
theorem bt_len {x:D} {xs:List D} (h:de μ x=some xs):btD .len m [x] μ=.ok (.int xs.length) μ:=by simp[btD,seq1,h]
theorem bt_tuple {x:D} {xs:List D} (h:de μ x=some xs):btD .tuple m [x] μ=.ok (.tup xs) μ:=by simp[btD,seq1,h]
theorem bt_list {x:D} {xs:List D} (h:de μ x=some xs):btD .list m [x] μ=mkL m xs μ:=by simp[btD,seq1,h]
theorem De {x:D} {xs:List D} (h:listOf μ x=some xs):btD .listRev m [x] μ=mkL m xs.reverse μ:=by simp[btD,uk,h]
theorem bt_sum {x:D} {xs:List D} {ns:List Int} (h:de μ x=some xs) (h2:eh xs=some ns):btD .sum m [x] μ=.ok (.int ns.sum) μ:=by simp[btD,Mo,h,h2]
theorem bt_all {x:D} {xs:List D} {ns:List Bool} (h:de μ x=some xs) (h2:l7 xs=some ns):btD .all m [x] μ=.ok (.bl (ns.all id)) μ:=by simp[btD,Cy,h,h2]
theorem bt_any {x:D} {xs:List D} {ns:List Bool} (h:de μ x=some xs) (h2:l7 xs=some ns):btD .any m [x] μ=.ok (.bl (ns.any id)) μ:=by simp[btD,Cy,h,h2]
theorem bt_min {i j:Int}:btD .min m [.int i,.int j] μ=.ok (.int (min i j)) μ:=by
 simp only[btD,minD]
 congr 2
 split<;>lia
theorem bt_max {i j:Int}:btD .max m [.int i,.int j] μ=.ok (.int (max i j)) μ:=by
 simp only[btD,maxD]
 congr 2
 split<;>lia
theorem gg {ds:List D}:de μ (.tup ds)=some ds:=rfl
theorem ax {ds:List D}:de μ (.lst ds)=some ds:=rfl
theorem pe {ds:List D}:mkL .z ds μ=.ok (.lst ds) μ:=rfl
theorem yo {x:D} {xs:List D} {k:Nat} {d:D} (h:de μ x=some xs) (hd:xs[k]? = some d):ixD x (.int k) μ=.ok d μ:=by
 have hk:k<xs.length:=(AE.mp hd).1
 have e:ixN xs.length (k:Int)=some k:=by simp[ixN,hk]
 simp only[ixD,h,e,hd]
theorem R8 {x:D} {xs:List D} {i:Int} {d:D} (h:de μ x=some xs) (hi:0≤i) (hd:xs[i.toNat]? = some d):ixD x (.int i) μ=.ok d μ:=by
 have hk:i.toNat<xs.length:=(AE.mp hd).1
 have e:ixN xs.length i=some i.toNat:=by simp[ixN,hi,show i<xs.length by lia]
 simp only[ixD,h,e,hd]
theorem lb {i j:Nat} {a b:D}:d6 (.many [i,j]) (.tup [a,b]) σ=some ((σ.set i (some a)).set j (some b)):=rfl
theorem F1 {i j k:Nat} {a b c:D}:d6 (.many [i,j,k]) (.tup [a,b,c]) σ=some (((σ.set i (some a)).set j (some b)).set k (some c)):=rfl
theorem F2 {i j k l:Nat} {a b c d:D}:d6 (.many [i,j,k,l]) (.tup [a,b,c,d]) σ=some ((((σ.set i (some a)).set j (some b)).set k (some c)).set l (some d)):=rfl
theorem F3 {i j k l m:Nat} {a b c d e:D}:d6 (.many [i,j,k,l,m]) (.tup [a,b,c,d,e]) σ=some (((((σ.set i (some a)).set j (some b)).set k (some c)).set l (some d)).set m (some e)):=rfl
theorem rn {α:Type} {xs:List α} {en:α→D} {k:Nat} {a:α} (h:xs[k]? = some a):ixD (.tup (xs.map en)) (.int k) μ=.ok (en a) μ:=yo gg (by rw[AX,h];rfl)
theorem Ad {α:Type} {xs:List α} {en:α→D} {k:Nat} {a:α} (h:xs[k]? = some a):ixD (.lst (xs.map en)) (.int k) μ=.ok (en a) μ:=yo ax (by rw[AX,h];rfl)
theorem Ae {α:Type} {tg:Tg} {b:Sms} {xs:List α} {en:α→D} (I:Nat→Sl→Prop) (h0:I 0 σ) (st:∀(k:Nat) a σ,xs[k]? = some a→I k σ→∃σ',fLp φ tg b (en a) σ μ=.ok (.nx σ') μ∧I (k+1) σ') :
  ∃σ',Dd φ tg b σ (xs.map en,none) μ=.ok (.nx σ') μ∧I xs.length σ':=by
 obtain⟨σ',μ',e,rfl,i⟩:=vh (f:=fLp φ tg b) (fun k σ μ'=>μ'=μ∧I k σ) (ds:=xs.map en) (σ:=σ) (μ:=μ) 0 ⟨rfl,h0⟩ fun j d σ μ' e ⟨q,i⟩=>by
  subst q
  rw[AX]at e
  cases ex:xs[j]? with
  | none=>rw[ex]at e;cases e
  | some a =>
   rw[ex]at e
   cases e
   obtain⟨σ',e',i'⟩:=st j a σ ex (by simpa using i)
   exact⟨σ',_,e',rfl,by simpa using i'⟩
 exact⟨σ',e,by simpa using i⟩
theorem comp_map {α:Type} {tg:Tg} {cs:Exs} {elt:Ex} {σ0:Sl} {xs:List α} {en:α→D} {g:α→D} (h:∀a∈xs,j8 φ tg cs elt σ0 (en a) μ=.ok [g a] μ):nq φ m tg cs elt σ0 (xs.map en,none) μ=mkL m (xs.map g) μ:=by
 have e:mapR none (j8 φ tg cs elt σ0) (xs.map en) μ=.ok (xs.map g) μ:=by
  induction xs with
  | nil=>simp[mapR]
  | cons a r ih =>
   simp only[AR,mapR,qi,if_true,h a AS,Res.ba,ih fun x hx=>h x (AJ _ hx)]
   rfl
 rw[nq]
 show(mapR none _ (xs.map en) μ).bind _=_
 rw[e];rfl
theorem mv {α:Type} {tg:Tg} {cs:Exs} {elt:Ex} {σ0:Sl} {xs:List α} {en:α→D} {g:α→D} {p:α→Bool} (h:∀a∈xs,j8 φ tg cs elt σ0 (en a) μ=.ok (if p a=true then [g a]else []) μ):nq φ m tg cs elt σ0 (xs.map en,none) μ=mkL m ((xs.filter p).map g) μ:=by
 have e:mapR none (j8 φ tg cs elt σ0) (xs.map en) μ=.ok ((xs.filter p).map g) μ:=by
  induction xs with
  | nil=>simp[mapR]
  | cons a r ih =>
   simp only[AR,mapR,qi,if_true,h a AS,Res.ba,ih fun x hx=>h x (AJ _ hx)]
   by_cases hp:p a=true
   ·simp[hp]
   ·simp[hp]
 rw[nq]
 show(mapR none _ (xs.map en) μ).bind _=_
 rw[e];rfl
noncomputable def many {S α:Type} (G:S→α×S):Nat→S→List α×S
 | 0,s=>([],s)
 | n+1,s=>((G s).1::(many G n (G s).2).1,(many G n (G s).2).2)
theorem R9 {x:D}:kB φ op m b σ x μ=(evE φ b σ μ).bind (opD op m x):=rfl
theorem F4 {x:D}:Vl φ r σ x μ=evC φ r x σ μ:=rfl
theorem Li {o:Cp} {x y:D}:kCh φ o x r σ y μ=(cpD o x y μ).bind (Sy φ r y σ):=rfl
theorem Lj {x:D}:kIx φ b σ x μ=(evE φ b σ μ).bind (ixD x):=rfl
theorem F5 {hi:ExO} {x:D} {l:Option Int}:Uw φ m hi σ x l μ=(evO φ hi σ μ).bind (slD m x l):=rfl
theorem Lk {lo hi:ExO} {x:D}:kSl φ m lo hi σ x μ=(evO φ lo σ μ).bind (Uw φ m hi σ x):=rfl
theorem F6 {ds:List D}:kTup ds μ=.ok (.tup ds) μ:=rfl
theorem F7 {d:D} {ds:List D}:Ux d ds μ=.ok (d::ds) μ:=rfl
theorem Ll {d:D}:kEs φ es σ d μ=(gw φ es σ μ).bind (Ux d):=rfl
theorem F8 {x:D}:kOne x μ=.ok [x] μ:=rfl
theorem F9 {cs:Exs} {elt:Ex}:Vm φ cs elt μ σ=(Cz φ cs σ μ).bind (Sz φ elt σ):=rfl
theorem Bj {x:D}:Q7 φ b σ x μ=(evE φ b σ μ).bind (Be x):=rfl
theorem Ga {x:D}:Vn φ b σ x μ=(evE φ b σ μ).bind (sj x):=rfl
theorem Gb {i:Nat} {d:D}:Vo i σ d μ=.ok (.nx (σ.set i (some d))) μ:=rfl
theorem Gc {is:List Nat} {d:D}:Vp is σ d μ=Uy (d6 (.many is) d σ) μ:=rfl
theorem Ge {d:D}:kNx σ d μ=.ok (.nx σ) μ:=rfl
theorem Gf {d:Unit}:kNx σ d μ=.ok (.nx σ) μ:=rfl
theorem Gg {d x y:D}:Uz σ d x y μ=(Az x y d μ).bind (kNx σ):=rfl
theorem Gh {i:Ex} {d x:D}:U0 φ i σ d x μ=(evE φ i σ μ).bind (Uz σ d x):=rfl
theorem Lm {o i:Ex} {d:D}:kSx φ o i σ d μ=(evE φ o σ μ).bind (U0 φ i σ d):=rfl
theorem Ln {b:Sms}:kLp φ b μ σ=n4 φ b σ μ:=rfl
theorem Gi {d:D}:kRet d μ=.ok (.rt d) μ:=rfl
theorem Bl {n:Nat}:List.replicate (n+1) (none:Option D)=none::List.replicate n none:=rfl
theorem Bm:List.replicate 0 (none:Option D)=[]:=rfl
end
section
variable {φ : Phi} {σ : Sl} {μ : Sto}
noncomputable def Vw (φ:Phi) (b:Ex) (σ:Sl) (x:D) (μ:Sto):Res D:=(evE φ b σ μ).bind (T1 x)
noncomputable def S0 (σ:Sl) (x y z:D) (μ:Sto):Res Fl:=(Az x y z μ).bind (kNx σ)
noncomputable def S2 (op:Operator) (σ:Sl) (x y old d:D) (μ:Sto):Res Fl:=(Vh op old d μ).bind (S0 σ x y)
noncomputable def U1 (φ:Phi) (op:Operator) (e:Ex) (σ:Sl) (x y old:D) (μ:Sto):Res Fl:=(evE φ e σ μ).bind (S2 op σ x y old)
noncomputable def U2 (φ:Phi) (op:Operator) (e:Ex) (σ:Sl) (x y:D) (μ:Sto):Res Fl:=(ixL x y μ).bind (U1 φ op e σ x y)
noncomputable def Vx (φ:Phi) (op:Operator) (i e:Ex) (σ:Sl) (x:D) (μ:Sto):Res Fl:=(evE φ i σ μ).bind (U2 φ op e σ x)
theorem Sa {a b:Ex}:evE φ (.dix a b) σ μ=(evE φ a σ μ).bind (Vw φ b σ):=rfl
theorem Gj {b:Ex} {x:D}:Vw φ b σ x μ=(evE φ b σ μ).bind (T1 x):=rfl
theorem Lo {op:Operator} {o i e:Ex}:evS φ (.augx op o i e) σ μ=(evE φ o σ μ).bind (Vx φ op i e σ):=rfl
theorem Gk {op:Operator} {i e:Ex} {x:D}:Vx φ op i e σ x μ=(evE φ i σ μ).bind (U2 φ op e σ x):=rfl
theorem Gm {op:Operator} {e:Ex} {x y:D}:U2 φ op e σ x y μ=(ixL x y μ).bind (U1 φ op e σ x y):=rfl
theorem Gn {op:Operator} {e:Ex} {x y old:D}:U1 φ op e σ x y old μ=(evE φ e σ μ).bind (S2 op σ x y old):=rfl
theorem Bn {x y:D} {i j:Int}:S2 .Add σ x y (.int i) (.int j) μ=S0 σ x y (.int (i+j)) μ:=rfl
theorem Bo {x y:D} {i j:Int}:S2 .Sub σ x y (.int i) (.int j) μ=S0 σ x y (.int (i-j)) μ:=rfl
theorem Gp {x y z:D}:S0 σ x y z μ=(Az x y z μ).bind (kNx σ):=rfl
end
section
variable {μ : Sto}
theorem Vy {α β:Type} (a:α) (f:α→Sto→Res β):(Res.ok a μ).bind f=f a μ:=rfl
theorem Vz {α β:Type} (a:α) (k:α→Res β):l6 (some a) k=k a:=rfl
theorem Yb (d:D):finD (.rt d) μ=.ok d μ:=rfl
theorem Yc (σ:Sl):finD (.nx σ) μ=.ok .non μ:=rfl
theorem Yd {α β:Type} (f:α→β) (a:α) (l:List α):(a::l).map f=f a::l.map f:=rfl
theorem Ye {α β:Type} (f:α→β):([]:List α).map f=[]:=rfl
theorem Yf {α:Type} (a:α) (l m:List α):a::l++m=a::(l++m):=rfl
theorem Yg {α:Type} (m:List α):[]++m=m:=rfl
theorem Yh {α:Type} (a:α) (l:List α):(a::l)[0]? = some a:=rfl
theorem Yi {α:Type} (a:α) (l:List α) (i:Nat):(a::l)[i+1]? = l[i]?:=rfl
theorem Yj {α:Type} (a b:α) (l:List α):(a::l).set 0 b=b::l:=rfl
theorem Yk {α:Type} (a b:α) (l:List α) (i:Nat):(a::l).set (i+1) b=a::l.set i b:=rfl
theorem Yl {α:Type} (a b:α):(some a).getD b=a:=rfl
theorem Ym {op:Operator} {m:Mk} {i j:Int}:opD op m (.int i) (.int j) μ=opI op i j μ:=Ac
theorem Yn {i j:Int}:opI .Add i j μ=.ok (.int (i+j)) μ:=op_add
theorem Yo {i j:Int}:opI .Sub i j μ=.ok (.int (i-j)) μ:=op_sub
theorem Yp {d:D} {b:Nat}:o6 true b (.ok d μ)=.ok d μ:=om
end
theorem EV1:type_of% (@Q8)∧type_of% (@Q9)∧type_of% (@Ra)∧type_of% (@Rb)∧type_of% (@Rc)∧type_of% (@Rf)∧type_of% (@Vq)∧type_of% (@Rg)∧type_of% (@Rh)∧type_of% (@Ri)∧type_of% (@Kn)∧type_of% (@Ko)∧type_of% (@Rj)∧type_of% (@Rk)∧type_of% (@Kp)∧type_of% (@Vr)∧type_of% (@Vs)∧type_of% (@Rl)∧type_of% (@Rm)∧type_of% (@Rn)∧type_of% (@Kq)∧type_of% (@Kr)∧type_of% (@Fw)∧type_of% (@Vt)∧type_of% (@Vu)∧type_of% (@Ks)∧type_of% (@Fx)∧type_of% (@Ro)∧type_of% (@Rp)∧type_of% (@Kt)∧type_of% (@Rq)∧type_of% (@Ku):=⟨@Q8,@Q9,@Ra,@Rb,@Rc,@Rf,@Vq,@Rg,@Rh,@Ri,@Kn,@Ko,@Rj,@Rk,@Kp,@Vr,@Vs,@Rl,@Rm,@Rn,@Kq,@Kr,@Fw,@Vt,@Vu,@Ks,@Fx,@Ro,@Rp,@Kt,@Rq,@Ku⟩
theorem EV2:type_of% (@Kv)∧type_of% (@Rr)∧type_of% (@Rt)∧type_of% (@Kw)∧type_of% (@Vv)∧type_of% (@Ru)∧type_of% (@Kx)∧type_of% (@Rv)∧type_of% (@Kz)∧type_of% (@Rw)∧type_of% (@K0)∧type_of% (@K1)∧type_of% (@Fy)∧type_of% (@yl)∧type_of% (@R9)∧type_of% (@Bf)∧type_of% (@F0)∧type_of% (@K2)∧type_of% (@K3)∧type_of% (@Rx)∧type_of% (@Ry)∧type_of% (@K4)∧type_of% (@K5)∧type_of% (@F4)∧type_of% (@K6)∧type_of% (@K7)∧type_of% (@Li)∧type_of% (@Lj)∧type_of% (@Lk)∧type_of% (@F5)∧type_of% (@F6)∧type_of% (@Ll):=⟨@Kv,@Rr,@Rt,@Kw,@Vv,@Ru,@Kx,@Rv,@Kz,@Rw,@K0,@K1,@Fy,@yl,@R9,@Bf,@F0,@K2,@K3,@Rx,@Ry,@K4,@K5,@F4,@K6,@K7,@Li,@Lj,@Lk,@F5,@F6,@Ll⟩
theorem EV3:type_of% (@F7)∧type_of% (@Bg)∧type_of% (@F8)∧type_of% (@K8)∧type_of% (@K9)∧type_of% (@F9)∧type_of% (@Rz)∧type_of% (@R0)∧type_of% (@Bh)∧type_of% (@Bi)∧type_of% (@Bj)∧type_of% (@Ga)∧type_of% (@Gb)∧type_of% (@Gc)∧type_of% (@ym)∧type_of% (@Ge)∧type_of% (@Gf)∧type_of% (@Lm)∧type_of% (@Gh)∧type_of% (@Gg)∧type_of% (@R1)∧type_of% (@R3)∧type_of% (@Ln)∧type_of% (@Gi)∧type_of% (@La)∧type_of% (@Lb)∧type_of% (@Lc)∧type_of% (@Ld)∧type_of% (@Res.ba)∧type_of% (@me)∧type_of% (@yn)∧type_of% (@lb):=⟨@F7,@Bg,@F8,@K8,@K9,@F9,@Rz,@R0,@Bh,@Bi,@Bj,@Ga,@Gb,@Gc,@ym,@Ge,@Gf,@Lm,@Gh,@Gg,@R1,@R3,@Ln,@Gi,@La,@Lb,@Lc,@Ld,@Res.ba,@me,@yn,@lb⟩
theorem EV4:type_of% (@F1)∧type_of% (@F2)∧type_of% (@F3)∧type_of% (@Ac)∧type_of% (@op_add)∧type_of% (@op_sub)∧type_of% (@R4)∧type_of% (@R5)∧type_of% (@R6)∧type_of% (@R7)∧type_of% (@Le)∧type_of% (@Lg)∧type_of% (@Lh)∧type_of% (@bt_min)∧type_of% (@bt_max)∧type_of% (@pe)∧type_of% (@Fu)∧type_of% (@Fv)∧type_of% (@AR.{0,0})∧type_of% (@DC.{0,0})∧type_of% (@Bl)∧type_of% (@Bm)∧type_of% (@DV.{0})∧type_of% (@FU.{0})∧type_of% (@DY.{0})∧type_of% (@DZ.{0})∧type_of% (@EC.{0})∧type_of% (@ED.{0})∧type_of% (@DX.{0})∧type_of% (@om):=⟨@F1,@F2,@F3,@Ac,@op_add,@op_sub,@R4,@R5,@R6,@R7,@Le,@Lg,@Lh,@bt_min,@bt_max,@pe,@Fu,@Fv,@AR.{0,0},@DC.{0,0},@Bl,@Bm,@DV.{0},@FU.{0},@DY.{0},@DZ.{0},@EC.{0},@ED.{0},@DX.{0},@om⟩
theorem EV5:type_of% (@Sa)∧type_of% (@Gj)∧type_of% (@Lo)∧type_of% (@Gk)∧type_of% (@Gm)∧type_of% (@Gn)∧type_of% (@Bn)∧type_of% (@Bo)∧type_of% (@Gp):=⟨@Sa,@Gj,@Lo,@Gk,@Gm,@Gn,@Bn,@Bo,@Gp⟩
end Lr
local macro_rules | `(tactic| simp! only [$ls,*]) => do
  let mut a := ls.getElems
  for s in "Lr.Q8 Lr.Q9 Lr.Ra Lr.Rb Lr.Rc Lr.Rf Lr.Vq Lr.Rg Lr.Rh Lr.Ri Lr.Kn Lr.Ko Lr.Rj Lr.Rk Lr.Kp Lr.Vr Lr.Vs Lr.Rl Lr.Rm Lr.Rn Lr.Kq Lr.Kr Lr.Fw Lr.Vt Lr.Vu Lr.Ks Lr.Fx Lr.Ro Lr.Rp Lr.Kt Lr.Rq Lr.Ku Lr.Kv Lr.Rr Lr.Rt Lr.Kw Lr.Vv Lr.Ru Lr.Kx Lr.Rv Lr.Kz Lr.Rw Lr.K0 Lr.K1 Lr.Fy Lr.yl Lr.Bf Lr.F0 Lr.K2 Lr.K3 Lr.Rx Lr.Ry Lr.K4 Lr.K5 Lr.K6 Lr.K7 Lr.Rz Lr.R0 Lr.K8 Lr.K9 Lr.Bg Lr.R1 Lr.R3 Lr.La Lr.Lb Lr.Lc Lr.Ld Lr.ym Lr.Bh Lr.Bi Lr.yn Lr.R4 Lr.R5 Lr.R6 Lr.R7 Lr.Le Lr.Lg Lr.Lh Lr.bt_min Lr.bt_max Lr.pe Lr.lb Lr.F1 Lr.F2 Lr.F3 Lr.R9 Lr.F4 Lr.Li Lr.Lj Lr.F5 Lr.Lk Lr.F6 Lr.F7 Lr.Ll Lr.F8 Lr.F9 Lr.Bj Lr.Ga Lr.Gb Lr.Gc Lr.Ge Lr.Gf Lr.Gg Lr.Gh Lr.Lm Lr.Ln Lr.Gi Lr.Bl Lr.Bm Lr.Sa Lr.Gj Lr.Lo Lr.Gk Lr.Gm Lr.Gn Lr.Bn Lr.Bo Lr.Gp Lr.Vy Lr.Vz Lr.Yb Lr.Yc Lr.Yd Lr.Ye Lr.Yf Lr.Yg Lr.Yh Lr.Yi Lr.Yj Lr.Yk Lr.Yl Lr.Ym Lr.Yn Lr.Yo Lr.Yp Nat.reduceSub decide_true decide_false Bool.not_true Bool.not_false".splitOn " " do
    a := a.push ⟨(← `(Lean.Parser.Tactic.simpLemma| $(Lean.mkIdent ((s.splitOn ".").foldl Lean.Name.mkStr .anonymous)):ident)).raw⟩
  `(tactic| simp only [$a,*])
namespace Lr
open Lp
open PySem
noncomputable def gi (c:Int):Int:=((c % 10 ^ 60+1)*69621 % 2147483647)*((c % 10 ^ 60+1)*69621 % 2147483647) % 1000000007 / 7
noncomputable def rp (c most:Int):Int:=if gi c % 8<6 then min most (gi c / 8 % 13)else if gi c % 8=6 then most-gi c / 8 % 2 else c % (most+1)
noncomputable def Lf (cs:List Int):O:=.l (cs.reverse.map D.int)
@[simp] theorem V0 (cs:List Int):noR (Lf cs)=true:=rfl
section
variable {n : Nat} {μ ρ : Sto}
theorem N3 (cs:List Int):ar GL (n+1) cb [.loc 0] (Lf cs::ρ)=.ok (.int (cs.headD 0)) (Lf cs.tail::ρ):=by
 rw[ao C4,run_eq rfl]
 cases cs with
 | nil=>simp[D_law_next,n4,evS,evE,evC,gw,btD,seq1,de,Lf,cpD]
 | cons c r=>simp[D_law_next,n4,evS,evE,evC,gw,btD,seq1,de,Lf,cpD,iy,Lp.listOf,mtD,um,mtL,iu,putL]
theorem lg (hr:∀cs,ly (Lf cs::ρ)) (cs:List Int):rm (ar GL (n+1)) false cb [.loc 0] (Lf cs::ρ)=.ok (.int (cs.headD 0)) (Lf cs.tail::ρ) :=
 bb (N3 cs) rfl rfl (hr _)
theorem N4 (c:Int):ar GL (n+1) dm [.int c] μ=.ok (.int (gi c)) μ:=by
 rw[ao C5,run_eq rfl]
 have h1:(0:Int)≤(c % 10 ^ 60+1)*69621 % 2147483647:=BX _ (by decide)
 have h2:(c % 10 ^ 60+1)*69621 % 2147483647<2147483647:=BO _ (by decide)
 have hm:CMul ((c % 10 ^ 60+1)*69621 % 2147483647) ((c % 10 ^ 60+1)*69621 % 2147483647):=.left (by lia) (by lia)
 have hm0:CMul (c % 10 ^ 60+1) 69621:=.right (by decide) (by decide)
 have e1:opI .Pow 10 60 μ=.ok (.int (10 ^ 60)) μ:=op_pow (by decide)
 simp! only[D_law_turn,e1,op_mod (show(0:Int)<10 ^ 60 by decide),op_mul hm0,op_mod (show(0:Int)<2147483647 by decide),op_mul hm,op_mod (show(0:Int)<1000000007 by decide),j6 (show(0:Int)<7 by decide) (by decide),gi]
theorem p8 (c:Int):0≤gi c:=Int.ediv_nonneg (BX _ (by decide)) (by decide)
theorem lh (hr:ly μ) (c:Int):rm (ar GL (n+1)) false dm [.int c] μ=.ok (.int (gi c)) μ:=bb (N4 c) rfl rfl hr
theorem N5 (hr:ly μ) (c most:Int) (hm:0≤most):ar GL (n+2) gn [.int c,.int most] μ=.ok (.int (rp c most)) μ:=by
 rw[ao C6,run_eq rfl]
 have f8:∀x:Int,opI .Mod x 8 μ=.ok (.int (x % 8)) μ:=fun x=>op_mod (by decide)
 by_cases h1:gi c % 8<6
 ·simp! only[D_law_size,lh hr,f8,h1,j6 (show(0:Int)<8 by decide) (by decide),op_mod (show(0:Int)<13 by decide),rp,if_true]
 ·by_cases h2:gi c % 8=6
  ·simp! only[D_law_size,lh hr,f8,h1,h2,j6 (show(0:Int)<8 by decide) (by decide),op_mod (show(0:Int)<2 by decide),rp,if_true,if_false,Int.reduceLT]
  ·simp! only[D_law_size,lh hr,f8,h1,h2,op_mod (show(0:Int)<most+1 by lia),rp,if_false]
theorem Af (hr:ly μ) (c most:Int) (hm:0≤most):rm (ar GL (n+2)) false gn [.int c,.int most] μ=.ok (.int (rp c most)) μ :=
 bb (N5 hr c most hm) rfl rfl hr
theorem Ja {c most:Int} (hm:1≤most):0≤rp c most∧rp c most≤most:=by
 have h1:=p8 c
 have h3:0≤c % (most+1):=BX _ (by lia)
 have h4:c % (most+1)<most+1:=BO _ (by lia)
 unfold rp
 split
 ·lia
 ·split<;>lia
end
end Lr
namespace Lr
open Lp
open PySem
structure Lamp where
 tank:Int
 oil:Int
 away:List Int
structure Day where
 boat:Int
 most:Int
 price:Int
 length:Int
 wanted:Int
structure Book where
 store:Int
 oil:Int
 lamps:List Lamp
 days:List Day
noncomputable def cj (ns:List Int):D:=.tup (ns.map D.int)
noncomputable def d7 (l:Lamp):D:=.tup [.int l.tank,.int l.oil,cj l.away]
noncomputable def jk (d:Day):D:=.tup [.int d.boat,.int d.most,.int d.price,.int d.length,.int d.wanted]
noncomputable def bc (b:Book):D:=.tup [.int b.store,.int b.oil,.tup (b.lamps.map d7),.tup (b.days.map jk)]
theorem dk {k:Nat} (ns:List Int):D.pureN (k+1) (cj ns)=true:=by
 simp only[cj,cq,EE,AM]
 exact fun x _=>cy
theorem nr {k:Nat} (l:Lamp):D.pureN (k+2) (d7 l)=true:=by
 simp only[d7,cq,BB,DD,DR,EI,cy,dk]
theorem Bp {k:Nat} (l:Day):D.pureN (k+1) (jk l)=true:=by
 simp only[jk,cq,BB,DD,DR,EI,cy]
theorem Gq (b:Book):(bc b).pure=true:=by
 simp only[D.pure,bc,cq,BB,DD,DR,EI,cy,EE,BA,AM]
 exact⟨fun l _=>nr l,fun l _=>Bp l⟩
theorem yp {b:Book} {μ:Sto}:ixD (bc b) (.int 2) μ=.ok (.tup (b.lamps.map d7)) μ:=rfl
theorem Gr {b:Book} {μ:Sto}:ixD (bc b) (.int 3) μ=.ok (.tup (b.days.map jk)) μ:=rfl
theorem U3 {b:Lamp} {μ:Sto}:ixD (d7 b) (.int 2) μ=.ok (cj b.away) μ:=rfl
theorem Sb {b:Day} {μ:Sto}:ixD (jk b) (.int 2) μ=.ok (.int b.price) μ:=rfl
section
variable {n : Nat} {μ ρ : Sto}
theorem p30:opI .Pow 10 30 μ=.ok (.int (10 ^ 30)) μ:=op_pow (by decide)
theorem p15:opI .Pow 10 15 μ=.ok (.int (10 ^ 15)) μ:=op_pow (by decide)
end
section
variable {n : Nat} {μ : Sto}
theorem yq (ns:List Int):(ns.map D.int).all flat=true:=by
 rw[EE,AM]
 exact fun _ _=>rfl
theorem any_ints (ns:List Int) (k:Int):((ns.map D.int).any fun y=>deq y (.int k))=decide (k∈ns):=by
 rw[ID]
 induction ns with
 | nil=>rfl
 | cons a r ih =>
  simp only[CK,ih,Function.comp,deq,AO]
  by_cases h:a=k
  ·simp[h]
  ·simp[h,Ne.symm h]
theorem vi {ns:List Int} {k:Int}:cpD .notin (.int k) (cj ns) μ=.ok (.bl (!decide (k∈ns))) μ:=by
 simp only[cpD,cj,gg,flat,yq,and_self,if_true,any_ints]
theorem Dg {b:Book} {k:Nat} {l:Lamp} (hl:b.lamps[k]? = some l) (y:Int):ar GL (n+1) lr [bc b,.int k,.int y] μ=.ok (.bl (!decide (y∈l.away))) μ:=by
 rw[ao C3,run_eq rfl]
 simp! only[D_can_burn,yp,rn hl,d7,vi]
end
end Lr
namespace Lr
open Lp
open PySem
theorem Gs (ns:List Int):mkL .l (ns.map D.int).reverse []=.ok (.loc 0) [Lf ns]:=by
 have hall:(ns.map D.int).reverse.all (D.pureN 8)=true:=by
  rw[←List.map_reverse,EE,AM]
  exact fun _ _=>rfl
 simp only[mkL,hall,if_true,Lf,List.map_reverse,CF,FU]
theorem Dh {μ:Sto} {ds:List D}:listOf μ (.lst ds)=some ds:=rfl
theorem rq {k:Nat} (ih:∀d:D,D.pureN k d=true→deq d d=true):∀ds:List D,ds.all (D.pureN k)=true→Dr ds ds=true
 | [],_=>by rw[Dr]
 | d::r,h=>by
  simp only[BB,BA]at h
  rw[Dr,ih d h.1,rq ih r h.2];rfl
theorem p9:∀(k:Nat) (d:D),D.pureN k d=true→deq d d=true
 | 0,d,h=>by cases d<;>simp_all[D.pureN,deq]
 | k+1,d,h=>by
  cases d with
  | tup ds=>rw[deq];exact rq (p9 k) ds h
  | lst ds=>rw[deq];exact rq (p9 k) ds h
  | loc n=>simp[D.pureN]at h
  | _=>simp[deq]
theorem Jb (xs:List D) (k:Nat):cut xs none (some (k:Int))=xs.take k:=by
 simp only[cut,sIx]
 rw[if_neg (by lia)]
 simp[List.take_eq_take_iff]
theorem Bq (xs:List D) (k:Nat):cut xs (some (k:Int)) none=xs.drop k:=by
 simp only[cut,sIx]
 rw[if_neg (by lia)]
 by_cases h:k≤xs.length
 ·rw[Do,Nat.min_eq_left h,BF (by simp)]
 ·rw[Do,Nat.min_eq_right (by lia),List.drop_eq_nil_of_le (show xs.length≤k by lia)];simp
section
variable {n : Nat} {μ ρ : Sto} {m : Mk} {φ : Phi} {σ : Sl} {es : Exs}
theorem N6 {xs:List D} {k:Nat}:slD m (.tup xs) none (some (k:Int)) μ=.ok (.tup (xs.take k)) μ:=by rw[slD,Jb]
theorem Ag {xs:List D} {k:Nat}:slD m (.tup xs) (some (k:Int)) none μ=.ok (.tup (xs.drop k)) μ:=by rw[slD,Bq]
theorem Sd {xs:List D}:slD m (.tup xs) (some 1) none μ=.ok (.tup (xs.drop 1)) μ:=Ag (k:=1)
theorem c6 {f:Nat} {ds:List D} {d:D} (h:φ f ds μ=.ok d (μ++ρ)) (hd:d.pure=true) (hr:ly μ):rm φ false f ds μ=.ok d μ:=by
 rw[rm,h]
 have e:(μ++ρ).take μ.length=μ:=by simp
 have hr':μ.all (iz μ.length)=true:=hr
 simp only[o6,BD,if_false,e,j5 _ 8 d hd,hr',and_self,if_true]
theorem jz {o:O}:(μ++[o])[μ.length]? = some o:=by simp
theorem nu {o o':O}:(μ++[o]).set μ.length o'=μ++[o']:=by simp
theorem Gu {ds:List D} (h:ds.all (D.pureN 8)=true):mkL .l ds μ=.ok (.loc μ.length) (μ++[.l ds]):=by simp only[mkL,h,if_true]
theorem qa {ds:List D}:de (μ++[.l ds]) (.loc μ.length)=some ds:=by simp only[de,jz]
theorem Gv {mt:Mt} {ds:List D} (h:∀d μ,iy mt d μ=(Lp.listOf μ d).isSome):kM φ mt es σ (.loc μ.length) (μ++[.l ds])=(gw φ es σ (μ++[.l ds])).bind (mtD mt (.loc μ.length)):=by
 refine Fz ?_
 rw[h]
 simp only[Lp.listOf,jz];rfl
theorem oz {ds:List D}:kM φ .append es σ (.loc μ.length) (μ++[.l ds])=(gw φ es σ (μ++[.l ds])).bind (mtD .append (.loc μ.length)):=Gv fun _ _=>rfl
theorem t8 {ds:List D} {d:D} (hd:d.pure=true) (hl:ds.length<1000000):mtD .append (.loc μ.length) [d] (μ++[.l ds])=.ok .non (μ++[.l (ds++[d])]):=by
 have:=k6
 simp only[mtD,um,jz,iu,mtL,jg,fits,hd,putL,nu]
 rw[if_pos ⟨trivial,by lia⟩]
theorem fj {α:Type} {tg:Tg} {b:Sms} {xs:List α} {en:α→D} (I:Nat→Sl→Sto→Prop) (h0:I 0 σ μ) (st:∀(k:Nat) a σ μ,xs[k]? = some a→I k σ μ→∃σ' μ',fLp φ tg b (en a) σ μ=.ok (.nx σ') μ'∧I (k+1) σ' μ') :
  ∃σ' μ',Dd φ tg b σ (xs.map en,none) μ=.ok (.nx σ') μ'∧I xs.length σ' μ':=by
 obtain⟨σ',μ',e,i⟩:=vh (f:=fLp φ tg b) I (ds:=xs.map en) (σ:=σ) (μ:=μ) 0 h0 fun j d σ μ' e i=>by
  rw[AX]at e
  cases ex:xs[j]? with
  | none=>rw[ex]at e;cases e
  | some a =>
   rw[ex]at e
   cases e
   obtain⟨σ',μ'',e',i'⟩:=st j a σ μ' ex (by simpa using i)
   exact⟨σ',μ'',e',by simpa using i'⟩
 exact⟨σ',μ',e,by simpa using i⟩
end
end Lr
namespace Lr
open Lp
open PySem
noncomputable def sq (b:Bool) (ds:List D):D:=match b with
 | true=>.lst ds
 | false=>.tup ds
end Lr
namespace Lr
open Lp
open PySem
section
variable {n : Nat} {μ ρ : Sto}
structure Span where
 lamp:Int
 start:Int
 fin:Int
noncomputable def eSpan (s:Span):D:=.tup [.int s.lamp,.int s.start,.int s.fin]
noncomputable def c7 (k st much L:Int):List Span:=if much=0 then []else if st+much≤L then [⟨k,st,st+much⟩]else [⟨k,0,st+much-L⟩,⟨k,st,L⟩]
theorem nv {k:Nat} (s:Span):D.pureN (k+1) (eSpan s)=true:=by simp only[eSpan,cq,BB,DD,DR,cy]
structure Fit (L:Int) (ts:List Int) (w:Int):Prop where
 each:∀t∈ts,0≤t∧t≤L
 all:ts.sum=w*L
end
end Lr
namespace Lr
open Lp
open PySem
noncomputable def o3 (L:Int):List Int→Int→Int→List Span
 | [],_,_=>[]
 | t::r,k,st=>c7 k st t L++o3 L r (k+1) ((st+t) % L)
noncomputable def vj (L:Int):List Int→Int→Int
 | [],st=>st
 | t::r,st=>vj L r ((st+t) % L)
theorem qc {b c:Nat} (h:b≤c):∀(k:Nat) (d:D),D.belowN b k d=true→D.belowN c k d=true
 | 0,d,e=>by cases d<;>simp_all[D.belowN];lia
 | k+1,d,e=>by
  cases d with
  | tup ds =>
   simp only[D.belowN,AM]at e ⊢
   exact fun x hx=>qc h k x (e x hx)
  | lst ds =>
   simp only[D.belowN,AM]at e ⊢
   exact fun x hx=>qc h k x (e x hx)
  | loc n=>simp_all[D.belowN];lia
  | _=>rfl
section
variable {n : Nat} {μ ρ : Sto} {φ : Phi} {es : Exs} {σ : Sl}
theorem Gw (hr:ly μ) (ds:List D):ly (μ++[.l ds]):=by
 unfold ly at hr ⊢
 rw[AM]at hr ⊢
 intro o ho
 rcases DM.mp ho with h | h
 ·have:=hr o h
  cases o with
  | r xs =>
   simp only[iz,AM]at this ⊢
   exact fun x hx=>qc (by simp) 8 x (this x hx)
  | _=>rfl
 ·simp only[CO]at h
  subst h;rfl
end
end Lr
namespace Lr
open Lp
open PySem
noncomputable def cov (ss:List Span) (t:Int):Nat:=ss.countP fun s=>decide (s.start≤t∧t<s.fin)
theorem Jc {L st x:Int} (h0:0≤st) (h1:st<L) (hx:0≤x) (hx2:x≤L):(st+x<L∧(st+x) % L=st+x)∨(L≤st+x∧(st+x) % L=st+x-L):=by
 by_cases h:st+x<L
 ·exact .inl ⟨h,FH (by lia) h⟩
 ·refine .inr ⟨by lia,?_⟩
  have e:(st+x) % L=(st+x-L) % L:=by rw[Int.sub_emod_right]
  rw[e]
  exact FH (by lia) (by lia)
theorem Jd {L k st x t:Int} (h0:0≤st) (h1:st<L) (hx:0≤x) (hx2:x≤L) (t0:0≤t) (t1:t<L) :
  ((cov (c7 k st x L) t:Nat):Int)=if x=0 then 0 else if st+x≤L then(if st≤t∧t<st+x then 1 else 0)else(if t<st+x-L then 1 else 0)+(if st≤t then 1 else 0):=by
 unfold c7
 by_cases hz:x=0
 ·simp[hz,cov]
 ·rw[if_neg hz,if_neg hz]
  by_cases hl:st+x≤L
  ·rw[if_pos hl,if_pos hl]
   simp only[cov,DI,List.countP_nil,decide_eq_true_eq]
   split<;>simp
  ·rw[if_neg hl,if_neg hl]
   simp only[cov,DI,List.countP_nil,decide_eq_true_eq]
   by_cases a:t<st+x-L<;>by_cases b:st≤t<;>simp[a,b,t0,t1]
theorem vk (a b:List Span) (t:Int):cov (a++b) t=cov a t+cov b t:=by simp[cov,List.countP_append]
theorem Gx {L t:Int} (t0:0≤t) (t1:t<L):∀(ts:List Int) (k st q:Int),0≤st→st<L→(∀x∈ts,0≤x∧x≤L) →
  ∃q',q'*L+vj L ts st=q*L+st+ts.sum∧0≤vj L ts st∧vj L ts st<L∧(cov (o3 L ts k st) t:Int)+q+(if t<st then 1 else 0)=q'+(if t<vj L ts st then 1 else 0)
 | [],k,st,q,h0,h1,_=>⟨q,by simp[vj],h0,h1,by by_cases h:t<st<;>simp[o3,cov,vj,h]⟩
 | x::r,k,st,q,h0,h1,hb=>by
  have hx:=hb x AS
  have c:=Jd (k:=k) h0 h1 hx.1 hx.2 t0 t1
  have hr:∀y∈r,0≤y∧y≤L:=fun y hy=>hb y (AJ _ hy)
  rcases Jc h0 h1 hx.1 hx.2 with⟨hl,e⟩ | ⟨hl,e⟩
  ·obtain⟨q',a1,a2,a3,a4⟩:=Gx t0 t1 r (k+1) (st+x) q (by lia) hl hr
   refine⟨q',?_,?_,?_,?_⟩
   ·simp only[vj,e,DG];lia
   ·simp only[vj,e];exact a2
   ·simp only[vj,e];exact a3
   ·simp only[vj,o3,e,vk,Int.natCast_add]
    rw[c]
    split at a4<;>split at a4<;>(repeat' split)<;>lia
  ·obtain⟨q',a1,a2,a3,a4⟩:=Gx t0 t1 r (k+1) (st+x-L) (q+1) (by lia) (by lia) hr
   refine⟨q',?_,?_,?_,?_⟩
   ·simp only[vj,e,DG]
    rw[Int.add_mul]at a1;lia
   ·simp only[vj,e];exact a2
   ·simp only[vj,e];exact a3
   ·simp only[vj,o3,e,vk,Int.natCast_add]
    rw[c]
    split at a4<;>split at a4<;>(repeat' split)<;>lia
theorem Je {L w t:Int} {ts:List Int} (hf:Fit L ts w) (t0:0≤t) (t1:t<L):(cov (o3 L ts 0 0) t:Int)=w:=by
 obtain⟨q',a1,a2,a3,a4⟩:=Gx t0 t1 ts 0 0 0 (by lia) (by lia) hf.each
 have hL:L≠0:=by lia
 rw[hf.all]at a1
 have e0:vj L ts 0=0:=by
  have e1:vj L ts 0=(w-q')*L:=by rw[Int.sub_mul];lia
  have e2:vj L ts 0 % L=vj L ts 0:=FH a2 a3
  rw[e1,Int.mul_emod_left]at e2
  rw[e1];exact e2.symm
 have e3:q'=w:=by
  rw[e0]at a1
  have:q'*L=w*L:=by omega
  exact Int.eq_of_mul_eq_mul_right hL this
 rw[e0]at a4
 have z:¬t<0:=by lia
 rw[if_neg z]at a4
 lia
end Lr
namespace Lr
open Lp
open PySem
noncomputable def encM (m:List (Int×Int)):List (D×D):=m.map fun p=>(D.int p.1,D.int p.2)
noncomputable def cm:List (Int×Int)→Int→Option Int
 | [],_=>none
 | p::r,k=>if p.1=k then some p.2 else cm r k
noncomputable def zf (m:List (Int×Int)) (k v:Int):List (Int×Int):=if(m.any fun p=>decide (p.1=k))=true then m.map (fun p=>if p.1=k then(p.1,v)else p)else m++[(k,v)]
theorem Br (k:Int):∀m:List (Int×Int),Ei (.int k) (encM m)=(cm m k).map D.int
 | []=>rfl
 | p::r=>by
  have ih:=Br k r
  simp only[encM,AR]at ih ⊢
  rw[Ei,cm,deq]
  by_cases h:p.1=k
  ·simp[h]
  ·simp only[h,decide_false,if_false,BD];exact ih
theorem N7 (k:Int) (m:List (Int×Int)):((encM m).any fun p=>deq p.1 (.int k))=m.any fun p=>decide (p.1=k):=by
 simp only[encM,ID]
 congr 1
theorem Bs (m:List (Int×Int)) (k v:Int):dput (.int k) (.int v) (encM m)=encM (zf m k v):=by
 unfold dput zf
 rw[N7]
 split
 ·simp only[encM,BC]
  refine DT fun p _=>?_
  simp only[Function.comp,deq]
  by_cases h:p.1=k
  ·simp[h]
  ·simp[h]
 ·simp[encM]
theorem Bu:∀(m:List (Int×Int)) (k:Int),(m.any fun p=>decide (p.1=k))=(cm m k).isSome
 | [],_=>rfl
 | p::r,k=>by
  rw[CK,cm,Bu r k]
  by_cases h:p.1=k<;>simp[h]
theorem Bv (k v k':Int):∀m:List (Int×Int),cm (m.map fun p=>if p.1=k then(p.1,v)else p) k'=if k'=k then(cm m k).map fun _=>v else cm m k'
 | []=>by simp[cm]
 | p::r=>by
  have ih:=Bv k v k' r
  simp only[AR,cm]
  by_cases h:p.1=k
  ·by_cases h':k'=k
   ·subst h';simp[h]
   ·have:¬p.1=k':=fun z=>h' (z.symm.trans h)
    simp only[h,if_true,ih,h',if_false]
    have h2:¬k=k':=fun z=>h' z.symm
    simp[h2]
  ·by_cases h':k'=k
   ·subst h';simp only[h,if_false,ih,if_true]
   ·simp only[h,if_false,ih,h']
theorem yr (k v k':Int):∀m:List (Int×Int),cm (m++[(k,v)]) k'=match cm m k' with
  | some x=>some x
  | none=>if k=k' then some v else none
 | []=>by simp[cm]
 | p::r=>by
  have ih:=yr k v k' r
  simp only[DV,cm]
  by_cases h:p.1=k'
  ·simp[h]
  ·simp only[h,if_false,ih]
theorem kl (m:List (Int×Int)) (k v k':Int):cm (zf m k v) k'=if k'=k then some v else cm m k':=by
 unfold zf
 rw[Bu]
 split
 ·rename_i h
  rw[Bv]
  obtain⟨x,hx⟩:=DQ.mp h
  simp[hx]
 ·rename_i h
  have hn:cm m k=none:=by simpa using h
  rw[yr]
  by_cases h':k'=k
  ·subst h';simp[hn]
  ·have h2:¬k=k':=fun z=>h' z.symm
   simp only[h',h2,if_false]
   cases cm m k'<;>rfl
theorem qd (m:List (Int×Int)) (k v:Int):(zf m k v).length≤m.length+1:=by
 unfold zf
 split<;>simp
section
variable {n : Nat} {μ ρ : Sto} {φ : Phi} {σ : Sl}
theorem vm {m:List (Int×Int)} {k x:Int}:mtD .get (.loc μ.length) [.int k,.int x] (μ++[.d (encM m)])=.ok (.int ((cm m k).getD x)) (μ++[.d (encM m)]):=by
 simp only[mtD,Mp,dictAt,jz,Ht,if_true,Br]
 cases cm m k<;>rfl
theorem Gy {es:Exs} {m:List (Int×Int)}:kM φ .get es σ (.loc μ.length) (μ++[.d (encM m)])=(gw φ es σ (μ++[.d (encM m)])).bind (mtD .get (.loc μ.length)):=Fz (by simp only[iy,jz])
theorem set_dict {m:List (Int×Int)} {k v:Int} (h:m.length<1000000):Az (.loc μ.length) (.int k) (.int v) (μ++[.d (encM m)])=.ok () (μ++[.d (encM (zf m k v))]):=by
 have:=k6
 have hl:(encM m).length<lim:=by simp only[encM,AG];lia
 simp only[Az,jz,Ht,p7,hl,and_self,if_true,Bs,nu]
noncomputable def ai (ss:List Span) (k:Int):Int:=(ss.map fun s=>if s.lamp=k then s.fin-s.start else 0).sum
theorem r6 (F:D) (lamps:Nat) (ss:List Span) (hF:∀ν:Sto,kSeq F ν=.ok (ss.map eSpan,none) ν) (hn:ss.length≤1000) (hl:lamps≤1000):∃ρ,ar GL (n+1) bp [.int lamps,F] μ=.ok (cj ((List.range lamps).map fun(k:Nat)=>ai ss k)) (μ++ρ):=by
 rw[ao o8,run_eq rfl]
 obtain⟨σ',μ',el,m,⟨v3,v4,v5,rfl⟩,rfl,hm,hk⟩:=fj (φ:=ar GL n) (μ:=μ++[.d []]) (tg:=.many [3,4,5]) (b:=eu) (xs:=ss) (en:=eSpan)
  (σ:=[some (.int lamps),some (F),some (.loc μ.length),none,none,none])
  (fun j σ μ'=>∃m,(∃v3 v4 v5,σ=[some (.int lamps),some (F),some (.loc μ.length),v3,v4,v5])∧μ'=μ++[.d (encM m)]∧m.length≤j∧∀k,(cm m k).getD 0=ai (ss.take j) k)
  ⟨[],⟨none,none,none,rfl⟩,rfl,by simp,fun k=>by simp[cm,ai]⟩ (by
   rintro j s σ μ' hs ⟨m,⟨v3,v4,v5,rfl⟩,rfl,hm,hk⟩
   have hj:j<ss.length:=(AE.mp hs).1
   refine⟨[some (.int lamps),some (F),some (.loc μ.length),some (.int s.lamp),some (.int s.start),some (.int s.fin)],μ++[.d (encM (zf m s.lamp ((cm m s.lamp).getD 0+s.fin-s.start)))],?_,zf m s.lamp ((cm m s.lamp).getD 0+s.fin-s.start),⟨_,_,_,rfl⟩,rfl,?_,fun k=>?_⟩
   ·simp! only[fLp,eu,eSpan,Gy,vm,set_dict (show m.length<1000000 by lia)]
   ·have:=qd m s.lamp ((cm m s.lamp).getD 0+s.fin-s.start);lia
   ·have et:ai (ss.take (j+1)) k=ai (ss.take j) k+if s.lamp=k then s.fin-s.start else 0:=by
     rw[BZ,hs]
     simp[ai,CS]
    rw[kl,et]
    by_cases h:k=s.lamp
    ·subst h
     have:=hk s.lamp
     simp only[if_true,DX]
     lia
    ·have h2:¬s.lamp=k:=fun z=>h z.symm
     simp only[h,h2,if_false,hk k];lia)
 rw[BF (AF _)]at hk
 have hc:nq (ar GL n) .z (.one 1) .nil fb [some (.loc μ.length),none] ((List.range lamps).map fun(k:Nat)=>D.int k,none) (μ++[.d (encM m)])=.ok (.lst (((List.range lamps).map fun(k:Nat)=>ai ss k).map D.int)) (μ++[.d (encM m)]):=by
  rw[comp_map (en:=fun(k:Nat)=>D.int k) (g:=fun(k:Nat)=>D.int (ai ss k)) fun k _=>by
   simp! only[j8,fb,Gy,vm,hk]]
  rw[pe,BC];rfl
 refine⟨[.d (encM m)],?_⟩
 have d0:J7 false [] μ=.ok (.loc μ.length) (μ++[.d []]):=rfl
 simp! only[D_ticks_of_spans,d0,hF,el,dq (show lamps≤1000000 by lia),hc,bt_tuple ax,cj]
theorem t9 (lamps:Nat) (ss:List Span) (hn:ss.length≤1000) (hl:lamps≤1000):∃ρ,ar GL (n+1) bp [.int lamps,.tup (ss.map eSpan)] μ=.ok (cj ((List.range lamps).map fun(k:Nat)=>ai ss k)) (μ++ρ):=r6 _ lamps ss (fun _=>rfl) hn hl
end
end Lr
namespace Lr
open Lp
open PySem
noncomputable def Nb (a b:Span):Prop:=a.lamp<b.lamp∨(a.lamp=b.lamp∧a.start<b.start∧a.fin≤b.start)
structure Good (L:Int) (lo hi:Int) (s:Span):Prop where
 lamp:lo≤s.lamp∧s.lamp<hi
 start:0≤s.start
 run:s.start<s.fin
 fin:s.fin≤L
theorem Ah {L k st x:Int} (h0:0≤st) (h1:st<L) (hx:0≤x) (hx2:x≤L):(c7 k st x L).Pairwise Nb∧∀s∈c7 k st x L,Good L k (k+1) s:=by
 unfold c7
 split
 ·exact⟨.nil,fun s h=>by simp at h⟩
 ·split
  ·refine⟨by simp,fun s h=>?_⟩
   simp only[CO]at h
   subst h
   exact⟨⟨EZ _,by show k<k+1;lia⟩,h0,by show st<st+x;lia,by show st+x≤L;lia⟩
  ·refine⟨?_,fun s h=>?_⟩
   ·simp only[DL,CO,BJ,false_implies,implies_true,List.Pairwise.nil,and_true]
    rintro s rfl
    exact .inr ⟨rfl,by show(0:Int)<st;lia,by show st+x-L≤st;lia⟩
   ·simp only[AO,BJ,or_false]at h
    rcases h with rfl | rfl
    ·exact⟨⟨EZ _,by show k<k+1;lia⟩,EZ _,by show(0:Int)<st+x-L;lia,by show st+x-L≤L;lia⟩
    ·exact⟨⟨EZ _,by show k<k+1;lia⟩,h0,by show st<L;lia,EZ _⟩
theorem Ai:∀{ss:List Span},ss.Pairwise Nb→∀p∈ss.zip (ss.drop 1),Nb p.1 p.2
 | [],_,p,hp=>by simp at hp
 | [a],_,p,hp=>by simp at hp
 | a::c::r,h,p,hp=>by
  rcases AO.mp hp with rfl | hp
  ·exact(DL.mp h).1 c AS
  ·exact Ai (DL.mp h).2 p hp
theorem yt (a b:List Span) (k:Int):ai (a++b) k=ai a k+ai b k:=by simp[ai,CS]
theorem Di {L k st x:Int} (k':Int) (hx:0≤x):ai (c7 k st x L) k'=if k=k' then x else 0:=by
 unfold c7
 by_cases hz:x=0
 ·subst hz;simp[ai]
 ·rw[if_neg hz]
  by_cases hl:st+x≤L
  ·rw[if_pos hl]
   by_cases hk:k=k'<;>simp[ai,hk]
   lia
  ·rw[if_neg hl]
   by_cases hk:k=k'<;>simp[ai,hk]
   lia
end Lr
namespace Lr
open Lp
open PySem
section
variable {n : Nat} {μ ρ : Sto} {φ : Phi} {σ : Sl}
theorem Se (a b:Span):cpD .lt (eSpan a) (eSpan b) μ=.ok (.bl (lexLt [a.lamp,a.start,a.fin] [b.lamp,b.start,b.fin])) μ:=by
 have e:∀s:Span,eh [D.int s.lamp,.int s.start,.int s.fin]=some [s.lamp,s.start,s.fin]:=fun s=>jf [s.lamp,s.start,s.fin]
 simp only[cpD,eSpan,e]
theorem Sf {a b:Span} (h:Nb a b):lexLt [a.lamp,a.start,a.fin] [b.lamp,b.start,b.fin]=true:=by
 rcases h with h | ⟨h1,h2,h3⟩
 ·have:¬a.lamp=b.lamp:=by lia
  simp[Lp.lexLt,this,h]
 ·have:¬a.start=b.start:=by lia
  simp[Lp.lexLt,h1,this,h2]
theorem yu (ss:List Span):(((ss.map eSpan).zip ((ss.map eSpan).drop 1)).map fun p=>D.tup [p.1,p.2])=(ss.zip (ss.drop 1)).map fun p:Span×Span=>D.tup [eSpan p.1,eSpan p.2]:=by
 rw[←FO,List.zip_map,BC];rfl
theorem Gz {ss:List Span} (h:ss.Pairwise Nb):ar GL (n+1) vc [.tup (ss.map eSpan)] μ=.ok (.bl true) μ:=by
 rw[ao Nz,run_eq rfl]
 have hz:sj (.tup (ss.map eSpan)) (.tup ((ss.map eSpan).drop 1)) μ=.ok (((ss.map eSpan).zip ((ss.map eSpan).drop 1)).map fun p=>.tup [p.1,p.2],none) μ:=rfl
 have hc:nq (ar GL n) .z (.many [0,1]) .nil oi [none,none] ((ss.zip (ss.drop 1)).map fun p:Span×Span=>D.tup [eSpan p.1,eSpan p.2],none) μ=.ok (.lst (((ss.zip (ss.drop 1)).map fun _=>true).map D.bl)) μ:=by
  rw[comp_map (g:=fun _=>D.bl true) fun p hp=>by
   have hlt:=Sf (Ai h p hp)
   simp! only[j8,oi,Se,hlt]]
  rw[pe,BC];rfl
 have ha:((ss.zip (ss.drop 1)).map fun _=>true).all id=true:=by simp
 simp! only[D_rises,Sd,hz,yu,hc,bt_all ax (lz _),ha]
theorem Sg {s:Span}:ixD (eSpan s) (.int 0) μ=.ok (.int s.lamp) μ:=rfl
theorem Sh {s:Span}:ixD (eSpan s) (.int 1) μ=.ok (.int s.start) μ:=rfl
theorem Si {s:Span}:ixD (eSpan s) (.int 2) μ=.ok (.int s.fin) μ:=rfl
theorem Jf {a b:Span} (h:Nb a b):ar GL (n+1) cg [eSpan a,eSpan b] μ=.ok (.bl false) μ:=by
 rw[ao la,run_eq rfl]
 rcases h with h | ⟨h1,h2,h3⟩
 ·have:¬a.lamp=b.lamp:=by lia
  simp! only[D_have_tick_in_common,Sg,this]
 ·have:¬b.start<a.fin:=by lia
  simp! only[D_have_tick_in_common,Sg,Sh,Si,h1,this]
theorem yw (hr:ly μ) {L:Int} {lamps:Nat} {ss:List Span} (h:ss.Pairwise Nb) (hg:∀s∈ss,Good L 0 lamps s):ar GL (n+2) d8 [.int L,.int lamps,.tup (ss.map eSpan)] μ=.ok (.bl false) μ:=by
 rw[ao o9,run_eq rfl]
 obtain⟨σ',el,v3,v4,v5,rfl⟩:=Ae (φ:=ar GL (n+1)) (μ:=μ) (tg:=.many [3,4,5]) (b:=fc) (xs:=ss) (en:=eSpan) (σ:=[some (.int L),some (.int lamps),some (.tup (ss.map eSpan)),none,none,none])
  (fun _ σ=>∃v3 v4 v5,σ=[some (.int L),some (.int lamps),some (.tup (ss.map eSpan)),v3,v4,v5]) ⟨none,none,none,rfl⟩ (by
   rintro j s σ hs ⟨v3,v4,v5,rfl⟩
   obtain⟨⟨a1,a2⟩,b,c,d⟩:=hg s (CB hs)
   refine⟨[some (.int L),some (.int lamps),some (.tup (ss.map eSpan)),some (.int s.lamp),some (.int s.start),some (.int s.fin)],?_,_,_,_,rfl⟩
   simp! only[fLp,fc,eSpan,a1,a2,b,c,d])
 have hz:sj (.tup (ss.map eSpan)) (.tup ((ss.map eSpan).drop 1)) μ=.ok (((ss.map eSpan).zip ((ss.map eSpan).drop 1)).map fun p=>.tup [p.1,p.2],none) μ:=rfl
 have hc:nq (ar GL (n+1)) .z (.many [0,1]) .nil ff [none,none] ((ss.zip (ss.drop 1)).map fun p:Span×Span=>D.tup [eSpan p.1,eSpan p.2],none) μ=.ok (.lst (((ss.zip (ss.drop 1)).map fun _=>false).map D.bl)) μ:=by
  rw[comp_map (g:=fun _=>D.bl false) fun p hp=>by
   simp! only[j8,ff,bb (Jf (n:=n) (μ:=μ) (Ai h p hp)) rfl rfl hr]]
  rw[pe,BC];rfl
 have ha:((ss.zip (ss.drop 1)).map fun _=>false).any id=false:=by
  rw[List.any_eq_false]
  intro x hx
  obtain⟨_,_,rfl⟩:=AZ.mp hx
  simp
 simp! only[D_has_span_fault,el,bb (Gz (n:=n) (μ:=μ) h) rfl rfl hr,Sd,hz,yu,hc,bt_any ax (lz _),ha]
end
noncomputable def dlt (ss:List Span) (x:Int):Int:=(ss.map fun s=>(if s.start=x then 1 else 0)-(if s.fin=x then 1 else 0)).sum
theorem Lq {L lo hi:Int}:∀(ss:List Span) (x:Int),(∀s∈ss,Good L lo hi s)→dlt ss x=(cov ss x:Int)-(cov ss (x-1):Int)
 | [],x,_=>by simp[dlt,cov]
 | s::r,x,h=>by
  have ih:=Lq r x fun y hy=>h y (AJ _ hy)
  have g:=(h s AS).run
  have e1:(cov (s::r) x:Int)=cov r x+if s.start≤x∧x<s.fin then 1 else 0:=by
   simp only[cov,DI,decide_eq_true_eq];split<;>simp
  have e2:(cov (s::r) (x-1):Int)=cov r (x-1)+if s.start≤x-1∧x-1<s.fin then 1 else 0:=by
   simp only[cov,DI,decide_eq_true_eq];split<;>simp
  have e3:dlt (s::r) x=((if s.start=x then 1 else 0)-(if s.fin=x then 1 else 0))+dlt r x:=by simp[dlt]
  rw[e1,e2,e3,ih]
  clear e1 e2 e3 ih
  split<;>split<;>split<;>split<;>lia
end Lr
namespace Lr
open Lp
open PySem
theorem vn (m:List (Int×Int)) (k v:Int) (h:(m.map (·.1)).Nodup):((zf m k v).map (·.1)).Nodup:=by
 unfold zf
 split
 ·have e:(m.map fun p=>if p.1=k then(p.1,v)else p).map (·.1)=m.map (·.1):=by
   rw[BC]
   refine DT fun p _=>?_
   simp only[Function.comp]
   split<;>rfl
  rw[e];exact h
 ·rename_i hn
  rw[BR,List.nodup_append]
  refine⟨h,by simp,fun a ha b hb z=>hn ?_⟩
  simp only[AR,DC,CO]at hb
  obtain⟨p,hp,rfl⟩:=AZ.mp ha
  rw[FM]
  exact⟨p,hp,by simp[z,hb]⟩
theorem Bw:∀{m:List (Int×Int)},(m.map (·.1)).Nodup→∀p∈m,cm m p.1=some p.2
 | [],_,p,hp=>by simp at hp
 | q::r,h,p,hp=>by
  simp only[AR,EF]at h
  rw[cm]
  rcases AO.mp hp with rfl | hp
  ·simp
  ·have:¬q.1=p.1:=fun z=>h.1 (by rw[z];exact AZ.mpr ⟨p,hp,rfl⟩)
   rw[if_neg this]
   exact Bw h.2 p hp
theorem Bx:∀{m:List (Int×Int)} {k v:Int},cm m k=some v→(k,v)∈m
 | [],_,_,h=>by simp[cm]at h
 | q::r,k,v,h=>by
  rw[cm]at h
  by_cases e:q.1=k
  ·rw[if_pos e]at h
   cases h
   subst e
   exact AS
  ·rw[if_neg e]at h
   exact AJ _ (Bx h)
theorem oo {L lo hi x:Int}:∀{ss:List Span},(∀s∈ss,Good L lo hi s)→(x<0∨L≤x)→cov ss x=0:=fun {ss} h hx=>by
 unfold cov
 rw[List.countP_eq_zero]
 intro s hs
 obtain⟨_,b,c,d⟩:=h s hs
 simp only[decide_eq_true_eq]
 lia
theorem Sj {L lo hi c:Int} {ss:List Span} (h:∀s∈ss,Good L lo hi s) (hL:0<L) (hc:∀t,0≤t→t<L→(cov ss t:Int)=c) (x:Int):dlt ss x=if x=0 then c else if x=L then -c else 0:=by
 rw[Lq ss x h]
 by_cases h0:x=0
 ·subst h0
  rw[if_pos rfl,hc 0 (by lia) hL,oo h (.inl (by lia))];simp
 ·rw[if_neg h0]
  by_cases h1:x=L
  ·subst h1
   rw[if_pos rfl,oo h (.inr (EZ _)),hc (x-1) (by lia) (by lia)];simp
  ·rw[if_neg h1]
   by_cases h2:x<0
   ·rw[oo h (.inl h2),oo h (.inl (by lia))];simp
   ·by_cases h3:L<x
    ·rw[oo h (.inr (by lia)),oo h (.inr (by lia))];simp
    ·rw[hc x (by lia) (by lia),hc (x-1) (by lia) (by lia)];simp
section
variable {n : Nat} {μ ρ : Sto} {φ : Phi} {σ : Sl}
theorem Jg {L lo hi w:Int} {ss:List Span} (h:∀s∈ss,Good L lo hi s) (hL:0<L) (hn:ss.length≤1000) :
  ∃(m:List (Int×Int)) (ρ:Sto),(m.map (·.1)).Nodup∧(cm m 0).isSome=true∧(∀x,(cm m x).getD 0=(if x=L then w else if x=0 then -w else 0)+dlt ss x) ∧
   ar GL (n+1) dh [.int L,.int w,.tup (ss.map eSpan)] μ=.ok (.bl ((m.map fun p=>!decide (p.2=0)).any id)) (μ++ρ):=by
 rw[ao pd,run_eq rfl]
 have d0:J7 false [.int 0,.int (-w),.int L,.int w] μ=.ok (.loc μ.length) (μ++[.d (encM (zf [(0,-w)] L w))]):=by
  have:=Bs [(0,-w)] L w
  simp only[J7,p7,and_self,if_true]
  rw[←this];rfl
 obtain⟨σ',μ',el,m,⟨v4,v5,v6,rfl⟩,rfl,hm,hk,hs0,hv⟩:=fj (φ:=ar GL n) (μ:=μ++[.d (encM (zf [(0,-w)] L w))]) (tg:=.many [4,5,6]) (b:=fg) (xs:=ss) (en:=eSpan)
  (σ:=[some (.int L),some (.int w),some (.tup (ss.map eSpan)),some (.loc μ.length),none,none,none])
  (fun j σ μ'=>∃m,(∃v4 v5 v6,σ=[some (.int L),some (.int w),some (.tup (ss.map eSpan)),some (.loc μ.length),v4,v5,v6])∧μ'=μ++[.d (encM m)]∧m.length≤2+2*j∧(m.map (·.1)).Nodup∧(cm m 0).isSome=true ∧
   ∀x,(cm m x).getD 0=(if x=L then w else if x=0 then -w else 0)+dlt (ss.take j) x)
  ⟨zf [(0,-w)] L w,⟨none,none,none,rfl⟩,rfl,by have:=qd [(0,-w)] L w;simpa using this,vn _ _ _ (by simp),by
   rw[kl,if_neg (by lia)];simp[cm],fun x=>by
   rw[kl]
   by_cases hx:x=L
   ·simp[hx,dlt]
   ·by_cases h0:x=0
    ·subst h0;simp[hx,cm,dlt]
    ·have:¬(0:Int)=x:=fun z=>h0 z.symm
     simp[hx,h0,cm,dlt,this]⟩ (by
   rintro j s σ μ' hs ⟨m,⟨v4,v5,v6,rfl⟩,rfl,hm,hk,hs0,hv⟩
   have hj:j<ss.length:=(AE.mp hs).1
   have g:=(h s (CB hs)).run
   generalize e1:zf m s.start ((cm m s.start).getD 0+1)=m1
   have l1:m1.length≤m.length+1:=by rw[←e1];exact qd _ _ _
   generalize e2:zf m1 s.fin ((cm m1 s.fin).getD 0-1)=m2
   have l2:m2.length≤m1.length+1:=by rw[←e2];exact qd _ _ _
   refine⟨[some (.int L),some (.int w),some (.tup (ss.map eSpan)),some (.loc μ.length),some (.int s.lamp),some (.int s.start),some (.int s.fin)],μ++[.d (encM m2)],?_,m2,⟨_,_,_,rfl⟩,rfl,by lia,?_,?_,fun x=>?_⟩
   ·simp! only[fLp,fg,eSpan,Gy,vm,set_dict (show m.length<1000000 by lia),e1,set_dict (show m1.length<1000000 by lia),e2]
   ·rw[←e2];refine vn _ _ _ ?_
    rw[←e1];exact vn _ _ _ hk
   ·rw[←e2,kl]
    split
    ·rfl
    ·rw[←e1,kl]
     split
     ·rfl
     ·exact hs0
   ·have et:dlt (ss.take (j+1)) x=dlt (ss.take j) x+((if s.start=x then 1 else 0)-(if s.fin=x then 1 else 0)):=by
     rw[BZ,hs]
     simp[dlt,CS]
    have q:∀y,(cm m1 y).getD 0=(cm m y).getD 0+if s.start=y then 1 else 0:=fun y=>by
     rw[←e1,kl]
     by_cases hy:y=s.start
     ·subst hy;simp
     ·have:¬s.start=y:=fun z=>hy z.symm
      simp[hy,this]
    have q2:(cm m2 x).getD 0=(cm m1 x).getD 0-if s.fin=x then 1 else 0:=by
     rw[←e2,kl]
     by_cases hy:x=s.fin
     ·subst hy;simp
     ·have:¬s.fin=x:=fun z=>hy z.symm
      simp[hy,this]
    rw[q2,q,hv x,et]
    lia)
 rw[BF (AF _)]at hv
 have kv:kVals (.loc μ.length) (μ++[.d (encM m)])=.ok (m.map (fun p=>D.int p.2),none) (μ++[.dead]):=by
  simp only[kVals,jz,nu,encM,BC];rfl
 have hcmp:nq (ar GL n) .z (.one 0) .nil fh [none] (m.map (fun p=>D.int p.2),none) (μ++[.dead])=.ok (.lst ((m.map fun p=>!decide (p.2=0)).map D.bl)) (μ++[.dead]):=by
  rw[comp_map (en:=fun p:Int×Int=>D.int p.2) (g:=fun p=>D.bl (!decide (p.2=0))) fun p _=>by simp! only[j8,fh]]
  rw[pe,BC];rfl
 refine⟨m,[.dead],hk,hs0,hv,?_⟩
 simp! only[D_has_dark_fault,d0,el,kv,hcmp,bt_any ax (lz _)]
theorem N8 {L lo hi c w:Int} {ss:List Span} (h:∀s∈ss,Good L lo hi s) (hL:0<L) (hc:∀t,0≤t→t<L→(cov ss t:Int)=c) (hn:ss.length≤1000) :
  ∃ρ,ar GL (n+1) dh [.int L,.int w,.tup (ss.map eSpan)] μ=.ok (.bl (!decide (w=c))) (μ++ρ):=by
 obtain⟨m,ρ,hk,hs0,hv,ed⟩:=Jg (n:=n) (μ:=μ) (w:=w) h hL hn
 have hd:=Sj h hL hc
 have hany:(m.map fun p=>!decide (p.2=0)).any id=!decide (w=c):=by
  by_cases e:w=c
  ·have:∀p∈m,p.2=0:=fun p hp=>by
    have a:=Bw hk p hp
    have b:=hv p.1
    rw[a,hd]at b
    simp only[DX]at b
    rw[b]
    split<;>split<;>(try split)<;>lia
   simp only[e,decide_true,GX]
   rw[List.any_eq_false]
   intro x hx
   obtain⟨p,hp,rfl⟩:=AZ.mp hx
   simp[this p hp]
  ·simp only[e,decide_false,GF]
   rw[FM]
   obtain⟨v,hv0⟩:=DQ.mp hs0
   have b:=hv 0
   rw[hv0,hd]at b
   simp only[DX,if_true]at b
   rw[if_neg (by lia)]at b
   refine⟨true,AZ.mpr ⟨(0,v),Bx hv0,?_⟩,rfl⟩
   have:¬v=0:=by lia
   simp[this]
 exact⟨ρ,by rw[ed,hany]⟩
end
end Lr
namespace Lr
open Lp
open PySem
noncomputable def gk (c:Int):Int:=if gi c % 3<2 then 0 else gi c / 3 % 7
theorem ny (c:Int):0≤gk c∧gk c≤6:=by
 unfold gk
 split<;>lia
noncomputable def eP (p:Int×Int):D:=.tup [.int p.1,.int p.2]
theorem N9 (ts:List (Int×Int)):(D.lst (ts.map eP)).pure=true:=by
 rw[D.pure,lx,AM];intro x hx;obtain⟨i,_,rfl⟩:=AZ.mp hx;rfl
theorem o4 {N k a:Nat} (h:(List.range N)[k]? = some a):a=k∧k<N:=by
 obtain⟨h1,h2⟩:=AE.mp h
 simp at h1 h2
 lia
section
variable {n : Nat} {μ ρ : Sto} {φ : Phi}
theorem r8 {f:Nat} {ds:List D} {d:D} {μ':Sto} (h:φ f ds μ=.ok d (μ'++ρ)) (hl:μ'.length=μ.length) (hd:d.pure=true) (hr:ly μ'):rm φ false f ds μ=.ok d μ':=by
 rw[rm,h]
 have e:(μ'++ρ).take μ.length=μ':=by rw[←hl];simp
 have hr':μ'.all (iz μ.length)=true:=by rw[←hl];exact hr
 simp only[o6,BD,if_false,e,j5 _ 8 d hd,hr',and_self,if_true]
theorem Aj {cs cs':List Int} (h:ly (Lf cs::ρ)):ly (Lf cs'::ρ):=h
theorem Jh (hr:ly (Lf []::ρ)) (cs:List Int):ar GL (n+2) bx [.loc 0] (Lf cs::ρ)=.ok (.int (gk (cs.headD 0))) (Lf cs.tail::ρ):=by
 rw[ao z9,run_eq rfl]
 have k1:=lg (n:=n) (ρ:=ρ) (fun cs=>Aj hr) cs
 have k2:=lh (n:=n) (Aj (cs':=cs.tail) hr) (cs.headD 0)
 unfold gk
 by_cases h:gi (cs.headD 0) % 3<2
 ·simp! only[D_law_slack,k1,k2,op_mod (show(0:Int)<3 by decide),h,if_true]
 ·simp! only[D_law_slack,k1,k2,op_mod (show(0:Int)<3 by decide),h,j6 (show(0:Int)<3 by decide) (by decide),op_mod (show(0:Int)<7 by decide),if_false]
theorem ko (hr:ly (Lf []::ρ)) (cs:List Int):rm (ar GL (n+2)) false bx [.loc 0] (Lf cs::ρ)=.ok (.int (gk (cs.headD 0))) (Lf cs.tail::ρ):=bb (Jh hr cs) rfl rfl (Aj hr)
theorem Sk {a b i:Int} (h0:0≤i) (h1:i<2):∃v,(v=a∨v=b)∧∀μ,ixD (.lst [.int a,.int b]) (.int i) μ=.ok (.int v) μ:=by
 have:i=0∨i=1:=by lia
 rcases this with rfl | rfl
 ·exact⟨a,.inl rfl,fun _=>rfl⟩
 ·exact⟨b,.inr rfl,fun _=>rfl⟩
theorem By (t lo hi:Int) (h:lo≤hi):∃v,lo≤v∧v≤hi∧∀μ,ar GL (n+1) i4 [.int t,.int lo,.int hi] μ=.ok (.int v) μ:=by
 have hm:CMul (t / 4) 1000003:=.right (by decide) (by decide)
 by_cases h1:t % 4<2
 ·have z0:0≤t / 4*1000003 % (hi-lo+1):=BX _ (by lia)
  have z1:t / 4*1000003 % (hi-lo+1)<hi-lo+1:=BO _ (by lia)
  refine⟨lo+t / 4*1000003 % (hi-lo+1),by lia,by lia,fun μ=>?_⟩
  rw[ao rh,run_eq rfl]
  simp! only[D_law_share,op_mod (show(0:Int)<4 by decide),h1,j6 (show(0:Int)<4 by decide) (by decide),op_mul hm,op_mod (show(0:Int)<hi-lo+1 by lia)]
 ·obtain⟨v,hv,ev⟩:=Sk (a:=lo) (b:=hi) (i:=t % 2) (by lia) (by lia)
  refine⟨v,by rcases hv with rfl | rfl<;>lia,by rcases hv with rfl | rfl<;>lia,fun μ=>?_⟩
  rw[ao rh,run_eq rfl]
  simp! only[D_law_share,op_mod (show(0:Int)<4 by decide),h1,op_mod (show(0:Int)<2 by decide),ev]
noncomputable def vo (s:Span):List Int:=[s.lamp,s.start,s.fin]
noncomputable def unS (r:List Int):Span:=⟨r.getD 0 0,r.getD 1 0,r.getD 2 0⟩
theorem ua:∀ss:List Span,rowsOf (ss.map eSpan)=some (ss.map vo)
 | []=>rfl
 | s::r=>by simp[eSpan,rowsOf,eh,ua r,vo]
end
end Lr
namespace Lr
open Lp
open PySem
noncomputable def eIl (xs:List Int):D:=.lst (xs.map D.int)
noncomputable def dr (L N:Nat) (aw:List (List Int)):D:=.tup [.int L,.int N,.lst (aw.map eIl)]
theorem Bz {k:Nat} (xs:List Int):D.pureN (k+1) (eIl xs)=true:=by
 rw[eIl,lx,AM];intro x hx;obtain⟨i,_,rfl⟩:=AZ.mp hx;exact cy
theorem Dj (L N:Nat) (aw:List (List Int)):(dr L N aw).pure=true:=by
 rw[D.pure,dr,cq]
 simp only[BB,cy,EI,lx,DD,DR]
 rw[AM];intro x hx;obtain⟨i,_,rfl⟩:=AZ.mp hx;exact Bz i
structure Ngt where
 length:Int
 wanted:Int
 ticks:List (Int×Int)
 spans:List Span
noncomputable def l5 (g:Ngt):D:=.tup [.int g.length,.int g.wanted,.lst (g.ticks.map eP),.tup (g.spans.map eSpan)]
theorem B0 {k:Nat} (g:Ngt):D.pureN (k+3) (l5 g)=true:=by
 rw[l5,cq]
 simp only[BB,cy,EI,lx,cq,DD,DR,BA]
 constructor
 ·rw[AM];intro x hx;obtain⟨i,_,rfl⟩:=AZ.mp hx
  rw[eP,cq];simp[cy]
 ·rw[AM];intro x hx;obtain⟨i,_,rfl⟩:=AZ.mp hx
  exact nv i
section
variable {n : Nat} {μ ρ : Sto} {φ : Phi}
theorem vp {cs:List Int} {xs:List D}:ly [Lf cs,.l xs]:=rfl
theorem yx {cs:List Int}:ly [Lf cs]:=rfl
theorem Ji (cs:List Int):∃(L N:Nat) (aw:List (List Int)) (cs':List Int),(1≤L∧L≤8)∧(1≤N∧N≤16)∧aw.length=L∧ar GL (n+3) ic [.loc 0] [Lf cs]=.ok (dr L N aw) [Lf cs',.dead]:=by
 have k1:=lg (n:=n+1) (ρ:=[]) (fun cs=>yx) cs
 have k2:=lh (n:=n+1) (yx (cs:=cs.tail)) (cs.headD 0)
 obtain⟨hd,hhd⟩:∃hd,hd=gi (cs.headD 0):=⟨_,rfl⟩
 have h0:0≤hd:=by rw[hhd];exact p8 _
 rw[←hhd]at k2
 have loop:∀(L N:Nat),L≤8→N≤16→∃(aw:List (List Int)) (cs':List Int) (v5 v6:Option D),aw.length=L∧Dd (ar GL (n+2)) (.one 5) d9 [some (.loc 0),some (.int hd),some (.int L),some (.int N),some (.loc 1),none,none] ((List.range L).map (fun(j:Nat)=>D.int j),none) [Lf cs.tail,.l []] =
   .ok (.nx [some (.loc 0),some (.int hd),some (.int L),some (.int N),some (.loc 1),v5,v6]) [Lf cs',.l (aw.map eIl)]:=by
  intro L N hL hN
  obtain⟨σ',μ',e,aw,cs',v5,v6,hl,rfl,rfl⟩:=fj (φ:=ar GL (n+2)) (μ:=[Lf cs.tail,.l []]) (tg:=.one 5) (b:=d9) (xs:=List.range L) (en:=fun(j:Nat)=>D.int j)
   (σ:=[some (.loc 0),some (.int hd),some (.int L),some (.int N),some (.loc 1),none,none])
   (fun j σ μ'=>∃(aw:List (List Int)) (cs':List Int) (v5 v6:Option D),aw.length=j∧σ=[some (.loc 0),some (.int hd),some (.int L),some (.int N),some (.loc 1),v5,v6]∧μ'=[Lf cs',.l (aw.map eIl)])
   ⟨[],cs.tail,none,none,rfl,rfl,rfl⟩ (by
    rintro j a σ μ' ha ⟨aw,cs',v5,v6,hl,rfl,rfl⟩
    obtain⟨rfl,hk⟩:=o4 ha
    have k1:=lg (n:=n+1) (ρ:=[.l (aw.map eIl)]) (fun cs=>vp) cs'
    have k2:=lh (n:=n+1) (vp (cs:=cs'.tail) (xs:=aw.map eIl)) (cs'.headD 0)
    have tn:=p8 (cs'.headD 0)
    have c1:=mv (m:=.z) (μ:=[Lf cs'.tail,.l (aw.map eIl)]) (φ:=ar GL (n+2)) (tg:=.one 1) (cs:=di) (elt:=dj) (σ0:=[some (.int (gi (cs'.headD 0))),none]) (xs:=List.range N) (en:=fun(k:Nat)=>D.int k) (g:=fun k=>D.int k)
     (p:=fun k=>decide (gi (cs'.headD 0) % 3=1)&&decide (gi (cs'.headD 0) / 2 ^ (k+2) % 2=1)) (by
      intro k hk
      have e1:opI .RShift (gi (cs'.headD 0)) ((k:Int)+2) [Lf cs'.tail,.l (aw.map eIl)]=.ok (.int (gi (cs'.headD 0) / 2 ^ (k+2))) [Lf cs'.tail,.l (aw.map eIl)]:=by
       rw[op_shr (by lia)]
       rfl
      cases q1:decide (gi (cs'.headD 0) % 3=1)with
      | false=>simp! only[j8,di,dj,op_mod (show(0:Int)<3 by decide),q1,Bool.false_and,BD,if_false]
      | true =>
       cases q2:decide (gi (cs'.headD 0) / 2 ^ (k+2) % 2=1)with
       | false=>simp! only[j8,di,dj,op_mod (show(0:Int)<3 by decide),q1,e1,op_mod (show(0:Int)<2 by decide),q2,If,BD,if_false]
       | true=>simp! only[j8,di,dj,op_mod (show(0:Int)<3 by decide),q1,e1,op_mod (show(0:Int)<2 by decide),q2,GR,if_true])
    obtain⟨as,eas⟩:∃as:List Int,((List.range N).filter fun k=>decide (gi (cs'.headD 0) % 3=1)&&decide (gi (cs'.headD 0) / 2 ^ (k+2) % 2=1)).map (fun(k:Nat)=>D.int k)=as.map D.int:=⟨((List.range N).filter fun k=>decide (gi (cs'.headD 0) % 3=1)&&decide (gi (cs'.headD 0) / 2 ^ (k+2) % 2=1)).map fun(k:Nat)=>(k:Int),by rw[BC];rfl⟩
    rw[eas]at c1
    have km:∀es σ,kM (ar GL (n+2)) .append es σ (.loc 1) [Lf cs'.tail,.l (aw.map eIl)]=(gw (ar GL (n+2)) es σ [Lf cs'.tail,.l (aw.map eIl)]).bind (mtD .append (.loc 1)):=fun es σ=>oz (μ:=[Lf cs'.tail])
    have ap:mtD .append (.loc 1) [.lst (as.map D.int)] [Lf cs'.tail,.l (aw.map eIl)]=.ok .non [Lf cs'.tail,.l ((aw++[as]).map eIl)]:=by
     have:=t8 (μ:=[Lf cs'.tail]) (ds:=aw.map eIl) (d:=eIl as) (Bz as) (by rw[AG];lia)
     rw[BR]
     exact this
    refine⟨_,_,?_,aw++[as],cs'.tail,some (.int a),some (.int (gi (cs'.headD 0))),by simp[hl],rfl,rfl⟩
    simp! only[fLp,d9,k1,k2,dq (show N≤1000000 by lia),c1,km,ap])
  exact⟨aw,cs',v5,v6,by simpa using hl,e⟩
 have e0:mkL .l [] [Lf cs.tail]=.ok (.loc 1) [Lf cs.tail,.l []]:=Gu rfl
 have fz:∀(L N:Nat) (aw:List (List Int)) (cs':List Int) (v5 v6:Option D),evE (ar GL (n+2)) (.frz 4) [some (.loc 0),some (.int hd),some (.int L),some (.int N),some (.loc 1),v5,v6] [Lf cs',.l (aw.map eIl)]=.ok (.lst (aw.map eIl)) [Lf cs',.dead]:=fun L N aw cs' v5 v6=>by simp[evE]
 by_cases h7:hd / 12 % 7=1
 ·obtain⟨L,hL⟩:∃L:Nat,(L:Int)=1+hd / 84 % 8:=⟨(1+hd / 84 % 8).toNat,by lia⟩
  obtain⟨N,hN⟩:∃N:Nat,(N:Int)=1+hd / 672 % 16:=⟨(1+hd / 672 % 16).toNat,by lia⟩
  obtain⟨aw,cs',v5,v6,hl,e⟩:=loop L N (by lia) (by lia)
  refine⟨L,N,aw,cs',by lia,by lia,hl,?_⟩
  rw[ao nk,run_eq rfl]
  simp! only[D_law_frame_2,k1,k2,op_mod (show(0:Int)<3 by decide),j6 (show(0:Int)<3 by decide) (by decide),op_mod (show(0:Int)<4 by decide),j6 (show(0:Int)<12 by decide) (by decide),op_mod (show(0:Int)<7 by decide),h7,
   j6 (show(0:Int)<84 by decide) (by decide),op_mod (show(0:Int)<8 by decide),j6 (show(0:Int)<672 by decide) (by decide),op_mod (show(0:Int)<16 by decide),←hL,←hN,e0,dq (show L≤1000000 by lia),e,fz,dr]
 ·obtain⟨L,hL⟩:∃L:Nat,(L:Int)=1+hd % 3:=⟨(1+hd % 3).toNat,by lia⟩
  obtain⟨N,hN⟩:∃N:Nat,(N:Int)=1+hd / 3 % 4:=⟨(1+hd / 3 % 4).toNat,by lia⟩
  obtain⟨aw,cs',v5,v6,hl,e⟩:=loop L N (by lia) (by lia)
  refine⟨L,N,aw,cs',by lia,by lia,hl,?_⟩
  rw[ao nk,run_eq rfl]
  simp! only[D_law_frame_2,k1,k2,op_mod (show(0:Int)<3 by decide),j6 (show(0:Int)<3 by decide) (by decide),op_mod (show(0:Int)<4 by decide),j6 (show(0:Int)<12 by decide) (by decide),op_mod (show(0:Int)<7 by decide),h7,
   ←hL,←hN,e0,dq (show L≤1000000 by lia),e,fz,dr]
theorem Oa {L N:Nat} {aw:List (List Int)}:ixD (dr L N aw) (.int 0) μ=.ok (.int L) μ:=rfl
theorem U4 {L N:Nat} {aw:List (List Int)}:ixD (dr L N aw) (.int 1) μ=.ok (.int N) μ:=rfl
theorem Ob {L N:Nat} {aw:List (List Int)}:ixD (dr L N aw) (.int 2) μ=.ok (.lst (aw.map eIl)) μ:=rfl
theorem B1 (d:Int) (xs:List Int):cpD .notin (.int d) (eIl xs) μ=.ok (.bl (!(xs.map D.int).any fun y=>deq y (.int d))) μ:=by
 simp only[cpD,eIl,de,flat,yq,and_self,if_true]
end
end Lr
namespace Lr
open Lp
open PySem
structure Tn where
 taken:Int
 bought:Int
 poured:List Int
 spans:List Span
noncomputable def eTn (t:Tn):D:=.tup [.int t.taken,.int t.bought,.tup (t.poured.map D.int),.tup (t.spans.map eSpan)]
theorem G0 {k:Nat} (t:Tn):D.pureN (k+3) (eTn t)=true:=by
 rw[eTn,cq]
 simp only[BB,cy,EI,cq,DD,DR,BA]
 constructor
 ·rw[AM];intro x hx;obtain⟨i,_,rfl⟩:=AZ.mp hx;exact cy
 ·rw[AM];intro x hx;obtain⟨i,_,rfl⟩:=AZ.mp hx
  exact nv i
section
variable {n : Nat} {μ ρ : Sto} {φ : Phi}
theorem yy {S:Type} {f:D→Sto→Res (List D)} {enS:S→Sto}:∀{ds:List D},(∀d∈ds,∀s,∃v s',f d (enS s)=.ok [D.int v] (enS s'))→∀s,∃(vs:List Int) (s':S),vs.length=ds.length∧mapR none f ds (enS s)=.ok (vs.map D.int) (enS s')
 | [],_,s=>⟨[],s,rfl,by simp[mapR]⟩
 | d::ds,h,s=>by
  obtain⟨v,s1,e1⟩:=h d AS s
  obtain⟨vs,s2,hl,e2⟩:=yy (ds:=ds) (fun x hx=>h x (AJ _ hx)) s1
  refine⟨v::vs,s2,by simp[hl],?_⟩
  simp only[mapR,qi,if_true,e1,Res.ba,e2]
  rfl
theorem G1 {S α:Type} {m:Mk} {tg:Tg} {cs:Exs} {elt:Ex} {σ0:Sl} {en:α→D} {enS:S→Sto} {xs:List α} (h:∀a∈xs,∀s,∃v s',j8 φ tg cs elt σ0 (en a) (enS s)=.ok [D.int v] (enS s')) (s:S) :
  ∃(vs:List Int) (s':S),vs.length=xs.length∧nq φ m tg cs elt σ0 (xs.map en,none) (enS s)=mkL m (vs.map D.int) (enS s'):=by
 obtain⟨vs,s',hl,e⟩:=yy (f:=j8 φ tg cs elt σ0) (enS:=enS) (ds:=xs.map en) (fun d hd s=>by obtain⟨a,ha,rfl⟩:=AZ.mp hd;exact h a ha s) s
 refine⟨vs,s',by simpa using hl,?_⟩
 rw[nq]
 show(mapR none _ (xs.map en) (enS s)).bind _=_
 rw[e];rfl
theorem sk {cs:List Int} {ds rs:List D} (h:ρ.all noR=true):ly (Lf cs::.l ds::.l rs::ρ):=by
 unfold ly
 rw[AM]
 intro o ho
 refine C9 _ o ?_
 rcases AO.mp ho with rfl | ho
 ·rfl
 rcases AO.mp ho with rfl | ho
 ·rfl
 rcases AO.mp ho with rfl | ho
 ·rfl
 exact AM.mp h o ho
theorem Sn (h:ρ.all noR=true) (xs:List D):(ρ++[O.l xs]).all noR=true:=by rw[List.all_append,h];rfl
theorem at3 {cs:List Int} {ds rs:List D} {o:O}:(Lf cs::.l ds::.l rs::(ρ++[o]))[ρ.length+3]? = some o:=by simp
theorem V1 {cs:List Int} {ds rs:List D} {o o':O}:(Lf cs::.l ds::.l rs::(ρ++[o])).set (ρ.length+3) o'=Lf cs::.l ds::.l rs::(ρ++[o']):=by simp
theorem V2 {cs:List Int} {ds rs xs:List D}:de (Lf cs::.l ds::.l rs::(ρ++[.l xs])) (.loc (ρ.length+3))=some xs:=by simp only[de,at3]
theorem Ls {xs:List D} {k:Nat} (h:k<xs.length):ixN xs.length (k:Int)=some k:=by simp[ixN,h]
theorem o5 {x:D} {ns:List Int} {k:Nat} (h:de μ x=some (ns.map D.int)) (hk:k<ns.length):ixD x (.int k) μ=.ok (.int (ns.getD k 0)) μ:=by
 refine yo h ?_
 rw[AX,AA hk]
 simp[hk]
theorem U5 {cs:List Int} {ds rs:List D} {xs:List Int} {k:Nat} {v:Int} (hk:k<xs.length):Az (.loc (ρ.length+3)) (.int k) (.int v) (Lf cs::.l ds::.l rs::(ρ++[.l (xs.map D.int)]))=.ok () (Lf cs::.l ds::.l rs::(ρ++[.l ((xs.set k v).map D.int)])):=by
 have e1:ixN (xs.map D.int).length (k:Int)=some k:=Ls (by rw[AG];exact hk)
 simp only[Az,at3,iu,e1,fits,p7,if_true,putL,Res.ba,V1,List.map_set]
theorem W2 {cs:List Int} {ds:List D} {r:Sto} {d:D} (hd:d.pure=true) (hl:ds.length<1000000):mtD .append (.loc 1) [d] (Lf cs::.l ds::r)=.ok .non (Lf cs::.l (ds++[d])::r):=by
 have:=k6
 simp only[mtD,um,DZ,DY,iu,mtL,jg,fits,hd,putL,ED,EC]
 rw[if_pos ⟨trivial,by lia⟩]
theorem W3 {cs:List Int} {ds rs:List D} {r:Sto} {d:D} (hd:d.pure=true) (hl:rs.length<1000000):mtD .append (.loc 2) [d] (Lf cs::.l ds::.l rs::r)=.ok .non (Lf cs::.l ds::.l (rs++[d])::r):=by
 have:=k6
 simp only[mtD,um,DZ,DY,iu,mtL,jg,fits,hd,putL,ED,EC]
 rw[if_pos ⟨trivial,by lia⟩]
theorem W4 {cs:List Int} {ds rs xs:List D} {d:D} (hd:d.pure=true) (hl:xs.length<1000000):mtD .append (.loc (ρ.length+3)) [d] (Lf cs::.l ds::.l rs::(ρ++[.l xs]))=.ok .non (Lf cs::.l ds::.l rs::(ρ++[.l (xs++[d])])):=by
 have:=k6
 simp only[mtD,um,at3,iu,mtL,jg,fits,hd,putL,V1]
 rw[if_pos ⟨trivial,by lia⟩]
theorem km1 {es:Exs} {σ:Sl} {cs:List Int} {ds:List D} {r:Sto}:kM φ .append es σ (.loc 1) (Lf cs::.l ds::r)=(gw φ es σ (Lf cs::.l ds::r)).bind (mtD .append (.loc 1)):=Fz rfl
theorem km2 {es:Exs} {σ:Sl} {cs:List Int} {ds rs:List D} {r:Sto}:kM φ .append es σ (.loc 2) (Lf cs::.l ds::.l rs::r)=(gw φ es σ (Lf cs::.l ds::.l rs::r)).bind (mtD .append (.loc 2)):=Fz rfl
theorem km3 {es:Exs} {σ:Sl} {cs:List Int} {ds rs xs:List D}:kM φ .append es σ (.loc (ρ.length+3)) (Lf cs::.l ds::.l rs::(ρ++[.l xs]))=(gw φ es σ (Lf cs::.l ds::.l rs::(ρ++[.l xs]))).bind (mtD .append (.loc (ρ.length+3))):=Fz (by simp only[iy,Lp.listOf,at3];rfl)
theorem mk3 {cs:List Int} {ds rs xs:List D} (h:xs.all (D.pureN 8)=true):mkL .l xs (Lf cs::.l ds::.l rs::ρ)=.ok (.loc (ρ.length+3)) (Lf cs::.l ds::.l rs::(ρ++[.l xs])):=by
 rw[Gu h];rfl
theorem G2 (xs:List Int):(xs.map D.int).all (D.pureN 8)=true:=by
 rw[AM];intro x hx;obtain⟨i,_,rfl⟩:=AZ.mp hx;rfl
end
end Lr
namespace Lr
open Lp
open PySem
section
variable {n : Nat} {μ ρ : Sto} {φ : Phi}
theorem Lu {t:Tn}:ixD (eTn t) (.int 1) μ=.ok (.int t.bought) μ:=rfl
theorem So {t:Tn}:ixD (eTn t) (.int 3) μ=.ok (.tup (t.spans.map eSpan)) μ:=rfl
theorem yz {α β:Type} {f:α→D} {g:β→D}:∀(xs:List α) (ys:List β),((xs.map f).zip (ys.map g)).map (fun p=>D.tup [p.1,p.2])=(xs.zip ys).map fun p=>D.tup [f p.1,g p.2]
 | [],_=>by simp
 | _::_,[]=>by simp
 | x::xs,y::ys=>by simp[yz xs ys]
theorem r9 {α β:Type} {f:α→D} {g:β→D} {xs:List α} {ys:List β}:sj (.tup (xs.map f)) (.tup (ys.map g)) μ=.ok ((xs.zip ys).map (fun p=>D.tup [f p.1,g p.2]),none) μ:=by
 simp only[sj,cu,de,yz]
noncomputable def Ak (rs:List Tn) (ds:List Day):Int:=((rs.zip ds).map fun p=>p.1.bought*p.2.price).sum
theorem G3 (b:Book) (rs:List Tn) (hd:∀d∈b.days,0≤d.price∧d.price≤10 ^ 15):ar GL (n+1) yi [bc b,.tup (rs.map eTn)] μ=.ok (.int (Ak rs b.days)) μ:=by
 rw[ao Q6,run_eq rfl]
 have c:=comp_map (m:=.z) (μ:=μ) (φ:=ar GL n) (tg:=.many [0,1]) (cs:=.nil) (elt:=rg) (σ0:=[none,none]) (xs:=rs.zip b.days) (en:=fun p=>D.tup [eTn p.1,jk p.2]) (g:=fun p=>D.int (p.1.bought*p.2.price)) (by
  rintro⟨t,d⟩ hp
  have o:=hd d (FT hp).2
  have hm:CMul t.bought d.price:=.right (by lia) (by lia)
  simp! only[j8,rg,lb,Lu,Sb,op_mul hm])
 have e:(rs.zip b.days).map (fun p=>D.int (p.1.bought*p.2.price))=((rs.zip b.days).map fun p=>p.1.bought*p.2.price).map D.int:=by rw[BC];rfl
 rw[e]at c
 simp! only[D_cost,Gr,r9,c,bt_sum ax (jf _),Ak]
theorem W5 {xs ys:List D} (hy:ys.all D.pure=true) (hl:xs.length+ys.length≤1000000):mtD .extendT (.loc μ.length) [.tup ys] (μ++[.l xs])=.ok .non (μ++[.l (xs++ys)]):=by
 have:=k6
 have hf:ys.all (fits (.l xs))=true:=hy
 simp only[mtD,um,jz,iu,mtL,jg,hf,putL,nu]
 rw[if_pos ⟨trivial,by lia⟩]
theorem Oc {es:Exs} {σ:Sl} {ds:List D}:kM φ .extendT es σ (.loc μ.length) (μ++[.l ds])=(gw φ es σ (μ++[.l ds])).bind (mtD .extendT (.loc μ.length)):=Gv fun _ _=>rfl
noncomputable def ir (rs:List Tn):List Span:=rs.flatMap (·.spans)
theorem vq:∀rs:List Tn,(∀t∈rs,t.spans.length≤16)→(ir rs).length≤16*rs.length
 | [],_=>by simp[ir]
 | t::r,h=>by
  have ih:=vq r fun x hx=>h x (AJ _ hx)
  have:=h t AS
  simp only[ir,List.flatMap_cons,CC,BH]at ih ⊢
  lia
theorem y0 (rs:List Tn) (t:Tn):ir (rs++[t])=ir rs++t.spans:=by simp[ir]
theorem Dk (ss:List Span):(ss.map eSpan).all D.pure=true:=by
 rw[AM];intro x hx;obtain⟨i,_,rfl⟩:=AZ.mp hx;exact nv i
theorem B2 (hr:ly μ) (b:Book) (rs:List Tn) (hl:b.lamps.length≤8) (h16:rs.length≤16) (hf:∀t∈rs,t.spans.length≤16):∃ρ,ar GL (n+2) k8 [bc b,.tup (rs.map eTn)] μ=.ok (cj ((List.range b.lamps.length).map fun(k:Nat)=>ai (ir rs) k)) (μ++ρ):=by
 rw[ao Ft,run_eq rfl]
 have hall:=vq rs hf
 obtain⟨σ',μ',e,v3,v4,v5,v6,rfl,rfl⟩:=fj (φ:=ar GL (n+1)) (μ:=μ++[.l []]) (tg:=.many [3,4,5,6]) (b:=k9) (xs:=rs) (en:=eTn)
  (σ:=[some (bc b),some (.tup (rs.map eTn)),some (.loc μ.length),none,none,none,none])
  (fun j σ μ'=>∃v3 v4 v5 v6,σ=[some (bc b),some (.tup (rs.map eTn)),some (.loc μ.length),v3,v4,v5,v6]∧μ'=μ++[.l ((ir (rs.take j)).map eSpan)])
  ⟨none,none,none,none,rfl,rfl⟩ (by
   rintro j t σ μ' ht ⟨v3,v4,v5,v6,rfl,rfl⟩
   have hj:j<rs.length:=(AE.mp ht).1
   have e1:ir (rs.take (j+1))=ir (rs.take j)++t.spans:=by
    rw[BZ,ht]
    exact y0 _ _
   have l1:=vq (rs.take j) fun x hx=>hf x (List.mem_of_mem_take hx)
   have l2:=hf t (CB ht)
   have l3:(rs.take j).length≤16:=by rw[CT];lia
   have ex:=W5 (μ:=μ) (xs:=(ir (rs.take j)).map eSpan) (ys:=t.spans.map eSpan) (Dk _) (by rw[AG,AG];lia)
   have bt:∀σ:Sl,d6 (.many [3,4,5,6]) (eTn t) σ=some ((((σ.set 3 (some (.int t.taken))).set 4 (some (.int t.bought))).set 5 (some (.tup (t.poured.map D.int)))).set 6 (some (.tup (t.spans.map eSpan)))):=fun σ=>rfl
   refine⟨_,_,?_,some (.int t.taken),some (.int t.bought),some (.tup (t.poured.map D.int)),some (.tup (t.spans.map eSpan)),rfl,rfl⟩
   rw[e1,BR]
   simp! only[fLp,k9,bt,Oc,ex])
 rw[BF (AF _)]at e
 have e0:mkL .l [] μ=.ok (.loc μ.length) (μ++[.l []]):=Gu rfl
 have fz:evE (ar GL (n+1)) (.frz 2) [some (bc b),some (.tup (rs.map eTn)),some (.loc μ.length),v3,v4,v5,v6] (μ++[.l ((ir rs).map eSpan)])=.ok (.lst ((ir rs).map eSpan)) (μ++[.dead]):=by simp[evE]
 have hrd:ly (μ++[.dead]):=by
  unfold ly at hr ⊢
  rw[AM]at hr ⊢
  intro o ho
  rcases DM.mp ho with h | h
  ·have:=hr o h
   cases o with
   | r ds =>
    simp only[iz,AM]at this ⊢
    exact fun x hx=>qc (by simp) 8 x (this x hx)
   | _=>rfl
  ·rw[CO.mp h];rfl
 obtain⟨ρ1,et⟩:=r6 (n:=n) (μ:=μ++[.dead]) (.lst ((ir rs).map eSpan)) b.lamps.length (ir rs) (fun _=>rfl) (by lia) (by lia)
 have kt:=c6 et (dk _) hrd
 have ln:btD .len .z [.tup (b.lamps.map d7)] (μ++[.l ((ir rs).map eSpan)])=.ok (.int b.lamps.length) (μ++[.l ((ir rs).map eSpan)]):=by rw[bt_len gg,AG]
 refine⟨[.dead],?_⟩
 simp! only[D_burnt_3,e0,e,yp,ln,fz,kt]
noncomputable def TK (L:Nat) (ss:List Span):List Int:=(List.range L).map fun(k:Nat)=>ai ss k
theorem ub (L:Nat) (ss:List Span):(TK L ss).length=L:=by simp[TK]
theorem Sr (L:Nat) (ss:List Span) {k:Nat} (h:k<L):(TK L ss).getD k 0=ai ss k:=by simp[TK,h]
theorem uc (ss:List Span) (s:Span) (k:Int):ai (ss++[s]) k=ai ss k+if s.lamp=k then s.fin-s.start else 0:=by simp[ai,CS]
theorem Od (L:Nat) (ss:List Span) (s:Span) {K:Nat} (hK:(K:Int)=s.lamp) (hL:K<L):(TK L ss).set K ((TK L ss).getD K 0+s.fin-s.start)=TK L (ss++[s]):=by
 rw[Sr L ss hL]
 apply BI
 intro i
 by_cases hi:i<L
 ·by_cases h:K=i
  ·subst h
   simp[TK,hL,uc,hK]
   lia
  ·have h2:¬s.lamp=(i:Int):=by lia
   rw[CA h]
   simp[TK,hi,uc,h2]
 ·have l1:=ub L (ss++[s])
  rw[AQ (by rw[HQ,ub];lia),AQ (by lia)]
end
end Lr
namespace Lr
open Lp
open PySem
noncomputable def lj (k st x L:Int):List Span:=(if 0<x then [⟨k,st,min (st+x) L⟩]else [])++(if L<st+x then [⟨k,0,st+x-L⟩]else [])
noncomputable def g6 (L:Int):List (Int×Int)→Int→List Span
 | [],_=>[]
 | p::r,st=>lj p.1 st p.2 L++g6 L r ((st+p.2) % L)
noncomputable def stR (L:Int):List (Int×Int)→Int→Int
 | [],st=>st
 | p::r,st=>stR L r ((st+p.2) % L)
theorem ud (L:Int):∀(ts:List (Int×Int)) (p:Int×Int) (st:Int),g6 L (ts++[p]) st=g6 L ts st++lj p.1 (stR L ts st) p.2 L
 | [],p,st=>by simp[g6,stR]
 | q::r,p,st=>by rw[DV,g6,ud L r,g6,stR,FE]
theorem B3 (L:Int):∀(ts:List (Int×Int)) (p:Int×Int) (st:Int),stR L (ts++[p]) st=(stR L ts st+p.2) % L
 | [],p,st=>rfl
 | q::r,p,st=>by rw[DV,stR,B3 L r,stR]
theorem Al (k st x L:Int):(lj k st x L).length≤2:=by unfold lj;split<;>split<;>simp
theorem nz (L:Int):∀(ts:List (Int×Int)) (st:Int),(g6 L ts st).length≤2*ts.length
 | [],_=>by simp[g6]
 | p::r,st=>by
  have:=nz L r ((st+p.2) % L)
  have:=Al p.1 st p.2 L
  simp only[g6,CC,BH];lia
theorem n3 {k st x L:Int} (h0:0≤st) (h1:st<L) (hx:0≤x) (hx2:x≤L):(lj k st x L).Perm (c7 k st x L):=by
 unfold lj c7
 by_cases e:x=0
 ·subst e
  rw[if_neg (by lia),if_neg (by lia),if_pos rfl]
  exact .refl _
 ·rw[if_pos (by lia),if_neg e]
  by_cases h:st+x≤L
  ·rw[if_neg (by lia),if_pos h,Int.min_eq_left h]
   exact .refl _
  ·rw[if_pos (by lia),if_neg h,Int.min_eq_right (by lia)]
   exact .swap _ _ _
theorem B4 {a b:List Span} (h:a.Perm b) (t:Int):cov a t=cov b t:=h.countP_eq _
theorem W6 {a b:List Int} (h:a.Perm b):a.sum=b.sum:=by
 induction h with
 | nil=>rfl
 | cons x _ ih=>simp only[DG,ih]
 | swap x y l=>simp only[DG];lia
 | trans _ _ i1 i2=>rw[i1,i2]
theorem ue {a b:List Span} (h:a.Perm b) (k:Int):ai a k=ai b k:=by
 unfold ai
 exact W6 (h.map _)
theorem Jj {k k' st x L t:Int}:cov (c7 k st x L) t=cov (c7 k' st x L) t:=by
 unfold c7
 split
 ·rfl
 ·split<;>simp[cov,DI]
theorem G4 {L t:Int}:∀(ts:List (Int×Int)) (k st:Int),0≤st→st<L→(∀p∈ts,0≤p.2∧p.2≤L)→cov (g6 L ts st) t=cov (o3 L (ts.map (·.2)) k st) t
 | [],_,_,_,_,_=>rfl
 | p::r,k,st,h0,h1,h=>by
  have hp:=h p AS
  rw[g6,AR,o3,vk,vk,B4 (n3 h0 h1 hp.1 hp.2),Jj (k':=k),G4 r (k+1) ((st+p.2) % L) (BX _ (by lia)) (BO _ (by lia)) fun q hq=>h q (AJ _ hq)]
noncomputable def vt (ts:List (Int×Int)) (k:Int):Int:=(ts.map fun p=>if p.1=k then p.2 else 0).sum
theorem y6 {L:Int}:∀(ts:List (Int×Int)) (st k:Int),0≤st→st<L→(∀p∈ts,0≤p.2∧p.2≤L)→ai (g6 L ts st) k=vt ts k
 | [],_,_,_,_,_=>rfl
 | p::r,st,k,h0,h1,h=>by
  have hp:=h p AS
  rw[g6,yt,ue (n3 h0 h1 hp.1 hp.2),Di k hp.1,y6 r ((st+p.2) % L) k (BX _ (by lia)) (BO _ (by lia)) fun q hq=>h q (AJ _ hq)]
  simp[vt]
noncomputable def NbS (a b:Span):Prop:=Nb a b∨Nb b a
theorem NbS.symm {a b:Span} (h:NbS a b):NbS b a:=Or.symm h
theorem vx {L:Int} {lo hi:Int}:∀(ts:List (Int×Int)) (st:Int),0≤st→st<L→(∀p∈ts,0≤p.2∧p.2≤L)→(∀p∈ts,lo≤p.1∧p.1<hi)→∀s∈g6 L ts st,Good L lo hi s∧∃p∈ts,s.lamp=p.1
 | [],_,_,_,_,_,s,hs=>by simp[g6]at hs
 | p::r,st,h0,h1,h,hl,s,hs=>by
  have hp:=h p AS
  have hq:=hl p AS
  rcases DM.mp hs with q | q
  ·have g:=(Ah (k:=p.1) h0 h1 hp.1 hp.2).2 s ((n3 h0 h1 hp.1 hp.2).mem_iff.mp q)
   have e:s.lamp=p.1:=by have:=g.lamp;lia
   exact⟨⟨by lia,g.start,g.run,g.fin⟩,p,AS,e⟩
  ·obtain⟨g,p',hp',e⟩:=vx r ((st+p.2) % L) (BX _ (by lia)) (BO _ (by lia)) (fun q hq=>h q (AJ _ hq)) (fun q hq=>hl q (AJ _ hq)) s q
   exact⟨g,p',AJ _ hp',e⟩
theorem Lv {L:Int}:∀(ts:List (Int×Int)) (st:Int),0≤st→st<L→(∀p∈ts,0≤p.2∧p.2≤L)→(ts.map (·.1)).Nodup→(g6 L ts st).Pairwise NbS
 | [],_,_,_,_,_=>.nil
 | p::r,st,h0,h1,h,hn=>by
  have hp:=h p AS
  rw[AR,EF]at hn
  have hr:∀q∈r,0≤q.2∧q.2≤L:=fun q hq=>h q (AJ _ hq)
  have s0:0≤(st+p.2) % L:=BX _ (by lia)
  have s1:(st+p.2) % L<L:=BO _ (by lia)
  rw[g6,List.pairwise_append]
  refine⟨?_,Lv r _ s0 s1 hr hn.2,fun a ha b hb=>?_⟩
  ·exact((Ah (k:=p.1) h0 h1 hp.1 hp.2).1.imp fun h=>Or.inl h).perm (n3 h0 h1 hp.1 hp.2).symm fun h=>NbS.symm h
  ·have g:=(Ah (k:=p.1) h0 h1 hp.1 hp.2).2 a ((n3 h0 h1 hp.1 hp.2).mem_iff.mp ha)
   have e:a.lamp=p.1:=by have:=g.lamp;lia
   obtain⟨q,hq,eq⟩:=(vx (lo := -1-(r.map fun p=>(p.1.natAbs:Int)).sum) (hi:=1+(r.map fun p=>(p.1.natAbs:Int)).sum) r _ s0 s1 hr (by
    intro p hp
    have:(p.1.natAbs:Int)≤(r.map fun p=>(p.1.natAbs:Int)).sum:=by
     have gen:∀(l:List (Int×Int)),p∈l→(p.1.natAbs:Int)≤(l.map fun p=>(p.1.natAbs:Int)).sum∧0≤(l.map fun p=>(p.1.natAbs:Int)).sum:=by
      intro l
      induction l with
      | nil=>intro h;simp at h
      | cons q l ih =>
       intro h
       have pos:∀l:List (Int×Int),0≤(l.map fun p=>(p.1.natAbs:Int)).sum:=by
        intro l
        induction l with
        | nil=>simp
        | cons q l ih=>simp only[AR,DG];lia
       have:=pos l
       simp only[AR,DG]
       rcases AO.mp h with rfl | h
       ·lia
       ·have:=ih h;lia
     exact(gen r hp).1
    lia) b hb).2
   have ne:a.lamp≠b.lamp:=by
    rw[e,eq]
    intro z
    exact hn.1 (AZ.mpr ⟨q,hq,z.symm⟩)
   unfold NbS Nb
   lia
theorem Oe {ss:List Span} (h1:ss.Pairwise NbS) (h2:ss.Pairwise fun a b=>Lp.lexLt (vo b) (vo a)=false):ss.Pairwise Nb:=by
 refine(h1.and h2).imp ?_
 rintro a b ⟨h,g⟩
 rcases h with h | h
 ·exact h
 ·have q:Lp.lexLt (vo b) (vo a)=true:=Sf h
  rw[q]at g;cases g
end Lr
namespace Lr
open Lp
open PySem
section
variable {n : Nat} {μ ρ : Sto} {φ : Phi}
theorem B5 {l:List Int} (h:l.Nodup) {a b:Nat} (ha:a<l.length) (hb:b<l.length) (hab:a≠b):l[a]≠l[b]:=by
 have p:=EN.mp h
 rcases Nat.lt_or_gt_of_ne hab with q | q
 ·exact p a b ha hb q
 ·exact(p b a hb ha q).symm
theorem G5 {ls:List Int} (h:ls.Nodup) (h1:1≤ls.length) (t:Int):((List.range ls.length).map fun(k:Nat)=>ls.getD (((k:Int)+t) % ls.length).toNat 0).Nodup:=by
 refine EN.mpr fun i j hi hj hij=>?_
 simp only[AG,DN]at hi hj
 simp only[HH,List.getElem_range]
 have a0:0≤((i:Int)+t) % ls.length:=BX _ (by lia)
 have a1:((i:Int)+t) % ls.length<ls.length:=BO _ (by lia)
 have b0:0≤((j:Int)+t) % ls.length:=BX _ (by lia)
 have b1:((j:Int)+t) % ls.length<ls.length:=BO _ (by lia)
 have ne:((i:Int)+t) % ls.length≠((j:Int)+t) % ls.length:=fun z=>by
  have:=Int.emod_emod_of_dvd
  have q:=Int.emod_eq_emod_iff_emod_sub_eq_zero.mp z.symm
  rw[show(j:Int)+t-(i+t)=(j:Int)-i by lia,FH (by lia) (by lia)]at q
  lia
 rw[AT,AT,AA (show(((i:Int)+t) % ls.length).toNat<ls.length by lia),AA (show(((j:Int)+t) % ls.length).toNat<ls.length by lia)]
 exact B5 h _ _ (by lia)
theorem G6 (hr:ly μ) (t:Int) (ls:List Int) (hnd:ls.Nodup) (L w:Int) (h1:1≤ls.length) (h8:ls.length≤8) (hL:1≤L) (hw:0≤w∧w≤ls.length):∃ts:List (Int×Int),(∀p∈ts,p.1∈ls)∧ts.length≤8∧(ts.map (·.1)).Nodup∧Fit L (ts.map (·.2)) w∧ar GL (n+2) i5 [.int t,.lst (ls.map D.int),.int L,.int w] μ=.ok (.lst (ts.map eP)) (μ++[.dead]):=by
 rw[ao z7,run_eq rfl]
 have hlen:∀(xs:List Int) (ν:Sto),btD .len .z [.lst (xs.map D.int)] ν=.ok (.int xs.length) ν:=fun xs ν=>by rw[bt_len ax,AG]
 obtain⟨N,hN⟩:∃N,N=ls.length:=⟨_,rfl⟩
 have c1:=comp_map (m:=.z) (μ:=μ) (φ:=ar GL (n+1)) (tg:=.one 2) (cs:=.nil) (elt:=jr) (σ0:=[some (.lst (ls.map D.int)),some (.int t),none]) (xs:=List.range ls.length) (en:=fun(k:Nat)=>D.int k) (g:=fun(k:Nat)=>D.int (ls.getD (((k:Int)+t) % ls.length).toNat 0)) (by
  intro k hk
  have z0:0≤((k:Int)+t) % ls.length:=BX _ (by lia)
  have z1:((k:Int)+t) % ls.length<ls.length:=BO _ (by lia)
  have i0:ixD (.lst (ls.map D.int)) (.int (((k:Int)+t) % ls.length)) μ=.ok (.int (ls.getD (((k:Int)+t) % ls.length).toNat 0)) μ:=R8 ax z0 (by rw[AX,AA (by lia)];simp[show(((k:Int)+t) % ls.length).toNat<ls.length by lia])
  simp only[j8,jr,EV1,EV2,EV3,EV4,EV5,Nat.reduceSub,decide_true,decide_false,GX,GF,hlen,op_mod (show(0:Int)<(ls.length:Nat)by lia),i0])
 obtain⟨os,ho,hom,hon,eos⟩:∃os:List Int,os.length=ls.length∧(∀x∈os,x∈ls)∧os.Nodup∧(List.range ls.length).map (fun(k:Nat)=>D.int (ls.getD (((k:Int)+t) % ls.length).toNat 0))=os.map D.int:=by
  refine⟨(List.range ls.length).map fun(k:Nat)=>ls.getD (((k:Int)+t) % ls.length).toNat 0,by simp,fun x hx=>?_,G5 hnd h1 t,by rw[BC];rfl⟩
  obtain⟨k,_,rfl⟩:=AZ.mp hx
  have z0:0≤((k:Int)+t) % ls.length:=BX _ (by lia)
  have z1:((k:Int)+t) % ls.length<ls.length:=BO _ (by lia)
  rw[AT,AA (show(((k:Int)+t) % ls.length).toNat<ls.length by lia)]
  exact CH _
 rw[eos]at c1
 obtain⟨σ',μ',e,ts,left,v7,v8,v9,hl,hm,hf1,hf2,hf3,hleft,rfl,rfl⟩:=fj (φ:=ar GL (n+1)) (μ:=μ++[.l []]) (tg:=.one 7) (b:=jt) (xs:=List.range os.length) (en:=fun(j:Nat)=>D.int j)
  (σ:=[some (.int t),some (.lst (ls.map D.int)),some (.int L),some (.int w),some (.lst (os.map D.int)),some (.int (w*L)),some (.loc μ.length),none,none,none])
  (fun j σ μ'=>∃(ts:List (Int×Int)) (left:Int) (v7 v8 v9:Option D),ts.length=j∧(∀p∈ts,p.1∈ls)∧ts.map (·.1)=os.take j∧(∀p∈ts,0≤p.2∧p.2≤L)∧(ts.map (·.2)).sum+left=w*L∧(0≤left∧left≤L*((os.length:Int)-j))∧σ=[some (.int t),some (.lst (ls.map D.int)),some (.int L),some (.int w),some (.lst (os.map D.int)),some (.int left),some (.loc μ.length),v7,v8,v9]∧μ'=μ++[.l (ts.map eP)])
  ⟨[],w*L,none,none,none,rfl,by simp,by simp,by simp,by simp,⟨Int.mul_nonneg hw.1 (by lia),by
   rw[Int.mul_comm w L]
   exact Int.mul_le_mul_of_nonneg_left (by have:=hw.2;lia) (by lia)⟩,rfl,rfl⟩ (by
   rintro j a σ μ' ha ⟨ts,left,v7,v8,v9,hl,hm,hf1,hf2,hf3,⟨l0,l1⟩,rfl,rfl⟩
   obtain⟨rfl,hk⟩:=o4 ha
   have H:ly (μ++[.l (ts.map eP)]):=Gw hr _
   have eM:L*((os.length:Int)-a)=L*((os.length:Int)-a-1)+L:=by
    rw[show(os.length:Int)-a=((os.length:Int)-a-1)+1 by lia,Int.mul_add,Int.mul_one]
    congr 2
    lia
   have M0:0≤L*((os.length:Int)-a-1):=Int.mul_nonneg (by lia) (by lia)
   obtain⟨sh,s0,s1,es⟩:=By (n:=n) (t / 8+7919*a*a+a) (max 0 (left-L*((os.length:Int)-a-1))) (min L left) (by lia)
   have ks:=bb (es (μ++[.l (ts.map eP)])) rfl rfl H
   have eo:os[a]? = some os[a]:=AA hk
   have mm:CMul L ((os.length:Int)-a-1):=.right (by lia) (by lia)
   have m1:CMul 7919 (a:Int):=.left (by decide) (by decide)
   have m2:CMul (7919*(a:Int)) (a:Int):=.right (by lia) (by lia)
   have ap:mtD .append (.loc μ.length) [.tup [.int os[a],.int sh]] (μ++[.l (ts.map eP)])=.ok .non (μ++[.l ((ts++[(os[a],sh)]).map eP)]):=by
    rw[t8 rfl (by rw[AG];lia),BR];rfl
   refine⟨_,_,?_,ts++[(os[a],sh)],left-sh,some (.int a),some (.int (max 0 (left-L*((os.length:Int)-a-1)))),some (.int sh),by simp[hl],?_,?_,?_,?_,?_,rfl,rfl⟩
   ·simp only[fLp,jt,EV1,EV2,EV3,EV4,EV5,Nat.reduceSub,decide_true,decide_false,GX,GF,hlen,op_mul mm,j6 (show(0:Int)<8 by decide) (by decide),op_mul m1,op_mul m2,ks,oz,Ad eo,ap]
   ·intro p hp
    rcases DM.mp hp with h | h
    ·exact hm p h
    ·rw[CO.mp h];exact hom _ (CH hk)
   ·rw[BR,hf1,BZ,eo];rfl
   ·intro p hp
    rcases DM.mp hp with h | h
    ·exact hf2 p h
    ·rw[CO.mp h]
     show 0≤sh∧sh≤L
     lia
   ·rw[BR,CS]
    simp only[AR,DC,DG,List.sum_nil]
    lia
   ·constructor
    ·lia
    ·rw[show(os.length:Int)-((a+1:Nat):Int)=(os.length:Int)-a-1 by lia]
     lia)
 rw[DN]at hf1 hleft
 have h0:left=0:=by
  rw[Int.sub_self,Int.mul_zero]at hleft
  lia
 refine⟨ts,hm,by simp at hl;lia,by rw[hf1,BF (AF _)];exact hon,⟨fun x hx=>?_,by lia⟩,?_⟩
 ·obtain⟨p,hp,rfl⟩:=AZ.mp hx
  exact hf2 p hp
 have e0:mkL .l [] μ=.ok (.loc μ.length) (μ++[.l []]):=Gu rfl
 have mw:CMul w L:=.left (by lia) (by lia)
 have fz:evE (ar GL (n+1)) (.frz 6) [some (.int t),some (.lst (ls.map D.int)),some (.int L),some (.int w),some (.lst (os.map D.int)),some (.int left),some (.loc μ.length),v7,v8,v9] (μ++[.l (ts.map eP)])=.ok (.lst (ts.map eP)) (μ++[.dead]):=by
  simp[evE]
 simp only[D_law_ticks,EV1,EV2,EV3,EV4,EV5,Nat.reduceSub,decide_true,decide_false,GX,GF,hlen,dq (show ls.length≤1000000 by lia),c1,op_mul mw,e0,dq (show os.length≤1000000 by lia),e,fz]
theorem vy (ss:List Span) (hl:ss.length<64):∃ss':List Span,ss'.Perm ss∧(ss'.Pairwise fun a b=>Lp.lexLt (vo b) (vo a)=false)∧∀μ,btD .sorted .z [.loc (List.length μ)] (μ++[.l (ss.map eSpan)])=.ok (.lst (ss'.map eSpan)) (μ++[.l (ss.map eSpan)]):=by
 refine⟨(si (ss.map vo)).map unS,?_,?_,fun μ=>?_⟩
 ·have:=(Srt.iq (ss.map vo)).map unS
  rw[BC,show(unS∘vo)=id from rfl,List.map_id]at this
  exact this
 ·rw[List.pairwise_map]
  refine(Srt.u7 (ss.map vo)).imp_of_mem ?_
  intro a b ha hb h
  obtain⟨s,_,rfl⟩:=AZ.mp ((Srt.iq _).mem_iff.mp ha)
  obtain⟨s',_,rfl⟩:=AZ.mp ((Srt.iq _).mem_iff.mp hb)
  exact h
 ·have hne:((ss.map vo).all fun r=>!r.isEmpty)=true:=by rw[EE,AM];intro x _;rfl
  have e:((si (ss.map vo)).map fun r=>D.tup (r.map D.int))=((si (ss.map vo)).map unS).map eSpan:=by
   rw[BC]
   refine DT fun r hr=>?_
   obtain⟨s,_,rfl⟩:=AZ.mp ((Srt.iq _).mem_iff.mp hr)
   rfl
  simp only[btD,jg,Ek,Lp.listOf,jz,AG,hl,if_true,zo,ua,hne,e,pe]
theorem G7 (L:Int) (hL:1≤L) (ts:List (Int×Int)) (h8:ts.length≤8):∃(ss:List Span) (ρ:Sto),ss.Perm (g6 L ts 0)∧(ss.Pairwise fun a b=>Lp.lexLt (vo b) (vo a)=false)∧ar GL (n+1) kg [.int L,.lst (ts.map eP)] μ=.ok (.tup (ss.map eSpan)) (μ++ρ):=by
 rw[ao z8,run_eq rfl]
 obtain⟨σ',μ',e,v4,v5,v6,rfl,rfl⟩:=fj (φ:=ar GL n) (μ:=μ++[.l []]) (tg:=.many [4,5]) (b:=dn) (xs:=ts) (en:=eP)
  (σ:=[some (.int L),some (.lst (ts.map eP)),some (.loc μ.length),some (.int 0),none,none,none])
  (fun j σ μ'=>∃(v4 v5 v6:Option D),σ=[some (.int L),some (.lst (ts.map eP)),some (.loc μ.length),some (.int (stR L (ts.take j) 0)),v4,v5,v6]∧μ'=μ++[.l ((g6 L (ts.take j) 0).map eSpan)])
  ⟨none,none,none,rfl,rfl⟩ (by
   rintro j ⟨k,sh⟩ σ μ' ha ⟨v4,v5,v6,rfl,rfl⟩
   have hj:j<ts.length:=(AE.mp ha).1
   have hl:=nz L (ts.take j) 0
   have hl2:(ts.take j).length≤8:=by rw[CT];lia
   have e1:g6 L (ts.take (j+1)) 0=g6 L (ts.take j) 0++lj k (stR L (ts.take j) 0) sh L:=by
    rw[BZ,ha]
    exact ud L _ (k,sh) 0
   have e2:stR L (ts.take (j+1)) 0=(stR L (ts.take j) 0+sh) % L:=by
    rw[BZ,ha]
    exact B3 L _ (k,sh) 0
   generalize stR L (ts.take j) 0=at_ at e1 e2
   generalize g6 L (ts.take j) 0=ss at e1 hl
   have ap:∀(ss:List Span) (a b:Int),ss.length≤100→mtD .append (.loc μ.length) [.tup [.int k,.int a,.int b]] (μ++[.l (ss.map eSpan)])=.ok .non (μ++[.l ((ss++[(⟨k,a,b⟩:Span)]).map eSpan)]):=fun ss a b h=>by
    rw[t8 rfl (by rw[AG];lia),BR];rfl
   have bt:d6 (.many [4,5]) (eP (k,sh)) [some (.int L),some (.lst (ts.map eP)),some (.loc μ.length),some (.int at_),v4,v5,v6]=some [some (.int L),some (.lst (ts.map eP)),some (.loc μ.length),some (.int at_),some (.int k),some (.int sh),v6]:=rfl
   refine⟨_,_,?_,some (.int k),some (.int sh),some (.int (at_+sh)),rfl,rfl⟩
   rw[e1,e2]
   unfold lj
   by_cases h1:0<sh
   ·by_cases h2:L<at_+sh
    ·rw[if_pos h1,if_pos h2,←FE]
     simp! only[fLp,dn,bt,h1,h2,oz,ap ss _ _ (by lia),ap (ss++[⟨k,at_,min (at_+sh) L⟩]) _ _ (by simp;lia),op_mod (show(0:Int)<L by lia)]
    ·rw[if_pos h1,if_neg h2,EU]
     simp! only[fLp,dn,bt,h1,h2,oz,ap ss _ _ (by lia),op_mod (show(0:Int)<L by lia)]
   ·by_cases h2:L<at_+sh
    ·rw[if_neg h1,if_pos h2]
     simp! only[fLp,dn,bt,h1,h2,oz,ap ss _ _ (by lia),op_mod (show(0:Int)<L by lia)]
    ·rw[if_neg h1,if_neg h2,EU,EU]
     simp! only[fLp,dn,bt,h1,h2,op_mod (show(0:Int)<L by lia)])
 rw[BF (AF _)]at e
 have hl:=nz L ts 0
 obtain⟨ss',hp,hup,es⟩:=vy (g6 L ts 0) (by lia)
 refine⟨ss',[.l ((g6 L ts 0).map eSpan)],hp,hup,?_⟩
 have e0:mkL .l [] μ=.ok (.loc μ.length) (μ++[.l []]):=Gu rfl
 simp! only[D_law_spans,e0,e,es μ,bt_tuple ax]
end
structure NgtS (L:Nat) (aw:List (List Int)) (i:Nat) (g:Ngt):Prop where
 len:1≤g.length
 tk:∀p∈g.ticks,0≤p.1∧p.1<L∧(i:Int)∉aw.getD p.1.toNat []
 few:g.ticks.length≤8
 nd:(g.ticks.map (·.1)).Nodup
 fit:Fit g.length (g.ticks.map (·.2)) g.wanted
 raw:g.spans.Perm (g6 g.length g.ticks 0)
 up:g.spans.Pairwise fun a b=>Lp.lexLt (vo b) (vo a)=false
theorem NgtS.each {L:Nat} {aw:List (List Int)} {i:Nat} {g:Ngt} (h:NgtS L aw i g):∀p∈g.ticks,0≤p.2∧p.2≤g.length:=fun p hp=>h.fit.each p.2 (AZ.mpr ⟨p,hp,rfl⟩)
theorem NgtS.good {L:Nat} {aw:List (List Int)} {i:Nat} {g:Ngt} (h:NgtS L aw i g):∀s∈g.spans,Good g.length 0 L s∧(i:Int)∉aw.getD s.lamp.toNat []:=fun s hs=>by
 have:=h.len
 obtain⟨q,p,hp,e⟩:=vx (lo:=0) (hi:=L) g.ticks 0 (by lia) (by lia) h.each (fun p hp=>⟨(h.tk p hp).1,(h.tk p hp).2.1⟩) s (h.raw.mem_iff.mp hs)
 exact⟨q,by rw[e];exact(h.tk p hp).2.2⟩
theorem NgtS.nb {L:Nat} {aw:List (List Int)} {i:Nat} {g:Ngt} (h:NgtS L aw i g):g.spans.Pairwise Nb:=by
 have:=h.len
 exact Oe ((Lv g.ticks 0 (by lia) (by lia) h.each h.nd).perm h.raw.symm fun z=>NbS.symm z) h.up
theorem NgtS.cov {L:Nat} {aw:List (List Int)} {i:Nat} {g:Ngt} (h:NgtS L aw i g) (t:Int) (t0:0≤t) (t1:t<g.length):(cov g.spans t:Int)=g.wanted:=by
 have:=h.len
 rw[B4 h.raw,G4 g.ticks 0 0 (by lia) (by lia) h.each]
 exact Je h.fit t0 t1
theorem NgtS.ticks {L:Nat} {aw:List (List Int)} {i:Nat} {g:Ngt} (h:NgtS L aw i g) (k:Int):ai g.spans k=vt g.ticks k:=by
 have:=h.len
 rw[ue h.raw,y6 g.ticks 0 k (by lia) (by lia) h.each]
theorem NgtS.cnt {L:Nat} {aw:List (List Int)} {i:Nat} {g:Ngt} (h:NgtS L aw i g):g.spans.length≤16:=by
 rw[h.raw.length_eq]
 have:=nz g.length g.ticks 0
 have:=h.few
 lia
section
variable {n : Nat} {μ ρ : Sto} {φ : Phi}
theorem Dl (cs:List Int) (L N:Nat) (aw:List (List Int)) (hL:1≤L∧L≤8) (hN:N≤16) (haw:aw.length=L):∃(ns:List Ngt) (cs':List Int),ns.length=N∧(∀(i:Nat) g,ns[i]? = some g→NgtS L aw i g)∧ar GL (n+3) jh [.loc 0,dr L N aw] [Lf cs]=.ok (.lst (ns.map l5)) [Lf cs',.dead]:=by
 rw[ao yj,run_eq rfl]
 obtain⟨σ',μ',e,ns,cs',v3,v4,v5,v6,v7,v8,hl,hok,rfl,rfl⟩:=fj (φ:=ar GL (n+2)) (μ:=[Lf cs,.l []]) (tg:=.one 3) (b:=i6) (xs:=List.range N) (en:=fun(j:Nat)=>D.int j)
  (σ:=[some (.loc 0),some (dr L N aw),some (.loc 1),none,none,none,none,none,none])
  (fun j σ μ'=>∃(ns:List Ngt) (cs':List Int) (v3 v4 v5 v6 v7 v8:Option D),ns.length=j∧(∀(i:Nat) g,ns[i]? = some g→NgtS L aw i g)∧σ=[some (.loc 0),some (dr L N aw),some (.loc 1),v3,v4,v5,v6,v7,v8]∧μ'=[Lf cs',.l (ns.map l5)])
  ⟨[],cs,none,none,none,none,none,none,rfl,by simp,rfl,rfl⟩ (by
   rintro j a σ μ' ha ⟨ns,cs',v3,v4,v5,v6,v7,v8,hl,hok,rfl,rfl⟩
   obtain⟨rfl,hk⟩:=o4 ha
   have c1:=mv (m:=.z) (μ:=[Lf cs',.l (ns.map l5)]) (φ:=ar GL (n+2)) (tg:=.one 2) (cs:=fu) (elt:=fw) (σ0:=[some (.int a),some (dr L N aw),none]) (xs:=List.range L) (en:=fun(k:Nat)=>D.int k) (g:=fun k=>D.int k)
    (p:=fun k=>!((aw.getD k []).map D.int).any fun y=>deq y (.int a)) (by
     intro k hk
     have hk:k<aw.length:=by rw[haw];simpa using hk
     have i0:ixD (.lst (aw.map eIl)) (.int k) [Lf cs',.l (ns.map l5)]=.ok (eIl (aw.getD k [])) [Lf cs',.l (ns.map l5)]:=yo ax (by rw[AX,AA hk];simp[hk])
     cases q:(!((aw.getD k []).map D.int).any fun y=>deq y (.int a))with
     | true=>simp! only[j8,fu,fw,Ob,i0,B1,q,if_true]
     | false=>simp! only[j8,fu,fw,Ob,i0,B1,q,BD,if_false])
   obtain⟨fr,hfr,hfl,hfn,efr⟩:∃fr:List Int,(∀x∈fr,0≤x∧x<L∧(a:Int)∉aw.getD x.toNat [])∧fr.length≤8∧fr.Nodup∧((List.range L).filter fun k=>!((aw.getD k []).map D.int).any fun y=>deq y (.int a)).map (fun(k:Nat)=>D.int k)=fr.map D.int:=by
    refine⟨((List.range L).filter fun k=>!((aw.getD k []).map D.int).any fun y=>deq y (.int a)).map fun(k:Nat)=>(k:Int),fun x hx=>?_,?_,?_,by rw[BC];rfl⟩
    ·obtain⟨k,hk,rfl⟩:=AZ.mp hx
     have q1:=(ES.mp hk).1
     have q2:=(ES.mp hk).2
     simp at q1
     refine⟨by lia,by lia,fun z=>?_⟩
     rw[Do]at z
     have:((aw.getD k []).map D.int).any (fun y=>deq y (.int (a:Int)))=true:=FM.mpr ⟨.int a,AZ.mpr ⟨_,z,rfl⟩,by simp[deq]⟩
     rw[this]at q2
     cases q2
    ·rw[AG]
     have:=List.length_filter_le (fun k=>!((aw.getD k []).map D.int).any fun y=>deq y (.int (a:Int))) (List.range L)
     rw[DN]at this
     lia
    ·refine List.Pairwise.map _ (fun x y h=>?_) (List.nodup_range.filter _)
     intro z
     exact h (by lia)
   rw[efr]at c1
   have hlen:∀ν:Sto,btD .len .z [.lst (fr.map D.int)] ν=.ok (.int fr.length) ν:=fun ν=>by rw[bt_len ax,AG]
   have k1:=lg (n:=n+1) (ρ:=[.l (ns.map l5)]) (fun cs=>vp) cs'
   have k2:=Af (n:=n) (vp (cs:=cs'.tail) (xs:=ns.map l5)) (cs'.headD 0) (10 ^ 15) (by decide)
   have k3:=lg (n:=n+1) (ρ:=[.l (ns.map l5)]) (fun cs=>vp) cs'.tail
   have k4:=lh (n:=n+1) (vp (cs:=cs'.tail.tail) (xs:=ns.map l5)) (cs'.tail.headD 0)
   have tn:=p8 (cs'.tail.headD 0)
   generalize gi (cs'.tail.headD 0)=T at k4 tn
   have w0:0≤T % ((fr.length:Int)+1):=BX _ (by lia)
   have w1:T % ((fr.length:Int)+1)<(fr.length:Int)+1:=BO _ (by lia)
   obtain⟨W,hW⟩:∃W,W=T % ((fr.length:Int)+1):=⟨_,rfl⟩
   have mW:∀ν:Sto,opI .Mod T ((fr.length:Int)+1) ν=.ok (.int W) ν:=fun ν=>by rw[op_mod (by lia),hW]
   obtain⟨K,hK⟩:∃K,K=max 1 (rp (cs'.headD 0) (10 ^ 15)):=⟨_,rfl⟩
   have hK1:1≤K:=by lia
   obtain⟨ts,ht1,ht2,ht3,ht4,stp⟩:∃ts:List (Int×Int),(∀p∈ts,p.1∈fr)∧ts.length≤8∧(ts.map (·.1)).Nodup∧Fit K (ts.map (·.2)) W∧evS (ar GL (n+2)) (.ite (.cmp (.blt .len .z (.cons (.var 4) .nil)) (.cons .gt (.cst (.int 0)) .nil)) (.cons (.set 8 (.call false i5 (.cons (.bin .FloorDiv .z (.var 6) (.cst (.int 16))) (.cons (.var 4) (.cons (.var 5) (.cons (.var 7) .nil)))))) .nil) .nil)
     [some (.loc 0),some (dr L N aw),some (.loc 1),some (.int a),some (.lst (fr.map D.int)),some (.int K),some (.int T),some (.int W),some (.lst [])] [Lf cs'.tail.tail,.l (ns.map l5)] =
     .ok (.nx [some (.loc 0),some (dr L N aw),some (.loc 1),some (.int a),some (.lst (fr.map D.int)),some (.int K),some (.int T),some (.int W),some (.lst (ts.map eP))]) [Lf cs'.tail.tail,.l (ns.map l5)]:=by
    by_cases h0:(0:Int)<fr.length
    ·obtain⟨ts,t1,t2,t3,t4,et⟩:=G6 (n:=n) (vp (cs:=cs'.tail.tail) (xs:=ns.map l5)) (T / 16) fr hfn K W (by lia) hfl hK1 (by lia)
     refine⟨ts,t1,t2,t3,t4,?_⟩
     have kt:=c6 et (N9 ts) vp
     simp! only[hlen,h0,j6 (show(0:Int)<16 by decide) (by decide),kt]
    ·have w00:W=0:=by
      rw[hW,show(fr.length:Int)+1=1 by lia,Int.emod_one]
     refine⟨[],by simp,by simp,by simp,⟨by simp,by rw[w00];simp⟩,?_⟩
     simp! only[hlen,h0]
   obtain⟨ss,ρs,hs1,hs2,es⟩:=G7 (n:=n+1) (μ:=[Lf cs'.tail.tail,.l (ns.map l5)]) K hK1 ts ht2
   have pss:(D.tup (ss.map eSpan)).pure=true:=by
    rw[D.pure,cq,AM];intro x hx;obtain⟨i,_,rfl⟩:=AZ.mp hx;exact nv i
   have ks:=c6 es pss vp
   have km:∀es σ,kM (ar GL (n+2)) .append es σ (.loc 1) [Lf cs'.tail.tail,.l (ns.map l5)]=(gw (ar GL (n+2)) es σ [Lf cs'.tail.tail,.l (ns.map l5)]).bind (mtD .append (.loc 1)):=fun es σ=>oz (μ:=[Lf cs'.tail.tail])
   have ap:mtD .append (.loc 1) [.tup [.int K,.int W,.lst (ts.map eP),.tup (ss.map eSpan)]] [Lf cs'.tail.tail,.l (ns.map l5)]=.ok .non [Lf cs'.tail.tail,.l ((ns++[(⟨K,W,ts,ss⟩:Ngt)]).map l5)]:=by
    have:=t8 (μ:=[Lf cs'.tail.tail]) (ds:=ns.map l5) (d:=l5 ⟨K,W,ts,ss⟩) (B0 _) (by rw[AG];lia)
    rw[BR]
    exact this
   have p15:opI .Pow 10 15 [Lf cs'.tail,.l (ns.map l5)]=.ok (.int (10 ^ 15)) [Lf cs'.tail,.l (ns.map l5)]:=op_pow (by decide)
   refine⟨_,_,?_,ns++[⟨K,W,ts,ss⟩],cs'.tail.tail,some (.int a),some (.lst (fr.map D.int)),some (.int K),some (.int T),some (.int W),some (.lst (ts.map eP)),by simp[hl],?_,rfl,rfl⟩
   ·simp! only[fLp,i6,Oa,dq (show L≤1000000 by lia),c1,k1,p15,k2,←hK,k3,k4,hlen,mW,stp,ks,km,ap]
   ·intro i g hg
    by_cases hi:i<ns.length
    ·rw[AV hi]at hg
     exact hok i g hg
    ·have hi2:i=ns.length:=by
      have:=(AE.mp hg).1
      simp at this
      lia
     subst hi2
     have eg:g=⟨K,W,ts,ss⟩:=by
      rw[BM (AF _),HP]at hg
      simpa using hg.symm
     subst eg
     rw[hl]
     exact⟨hK1,fun p hp=>hfr _ (ht1 p hp),ht2,ht3,ht4,hs1,hs2⟩)
 refine⟨ns,cs',by simpa using hl,hok,?_⟩
 have e0:mkL .l [] [Lf cs]=.ok (.loc 1) [Lf cs,.l []]:=Gu rfl
 have fz:evE (ar GL (n+2)) (.frz 2) [some (.loc 0),some (dr L N aw),some (.loc 1),v3,v4,v5,v6,v7,v8] [Lf cs',.l (ns.map l5)]=.ok (.lst (ns.map l5)) [Lf cs',.dead]:=by simp[evE]
 simp! only[D_law_nights,e0,U4,dq (show N≤1000000 by lia),e,fz]
end
end Lr
namespace Lr
open Lp
open PySem
noncomputable def gp (st:Int) (L:Nat) (H:Int×List Int) (t:Tn):Int×List Int:=(min (H.1+t.taken+t.bought-t.poured.sum) st,(List.range L).map fun(k:Nat)=>H.2.getD k 0+t.poured.getD k 0-ai t.spans k)
structure DayS (L:Nat) (mst:List Int) (aw:List (List Int)) (i:Nat) (H:Int×List Int) (t:Tn) (d:Day):Prop where
 tk:0≤t.taken∧t.taken≤d.boat
 bt:0≤t.bought∧t.bought≤d.most
 pl:t.poured.length=L
 p0:∀x∈t.poured,0≤x
 ps:t.poured.sum≤H.1+t.taken+t.bought
 tank:∀k:Nat,k<L→H.2.getD k 0+t.poured.getD k 0≤mst.getD k 0
 len:1≤d.length
 good:∀s∈t.spans,Good d.length 0 L s∧(i:Int)∉aw.getD s.lamp.toNat []
 nb:t.spans.Pairwise Nb
 few:t.spans.length≤16
 cov:∀x,0≤x→x<d.length→(cov t.spans x:Int)=d.wanted
 oil:∀k:Nat,k<L→ai t.spans k≤H.2.getD k 0+t.poured.getD k 0
 price:0≤d.price∧d.price≤10 ^ 15
theorem DayS.mono {L:Nat} {m m':List Int} {aw:List (List Int)} {i:Nat} {H:Int×List Int} {t:Tn} {d:Day} (h:DayS L m aw i H t d) (hm:∀k:Nat,k<L→m.getD k 0≤m'.getD k 0):DayS L m' aw i H t d :=
 ⟨h.tk,h.bt,h.pl,h.p0,h.ps,fun k hk=>Int.le_trans (h.tank k hk) (hm k hk),h.len,h.good,h.nb,h.few,h.cov,h.oil,h.price⟩
theorem Am {L:Nat} {f:Nat→Int} {k:Nat} (h:k<L):((List.range L).map f).getD k 0=f k:=by simp[h]
theorem B6 (ts:List (Int×Int)) (p:Int×Int) (k:Int):vt (ts++[p]) k=vt ts k+if p.1=k then p.2 else 0:=by simp[vt,CS]
theorem B7:∀(ts:List (Int×Int)) (k:Int),k∉ts.map (·.1)→vt ts k=0
 | [],_,_=>rfl
 | p::r,k,h=>by
  rw[AR,AO,not_or]at h
  have:=B7 r k h.2
  simp only[vt,AR,DG]at this ⊢
  rw[this,if_neg (fun z=>h.1 z.symm)];rfl
noncomputable def AK (L:Nat) (ts:List (Int×Int)):List Int:=(List.range L).map fun(k:Nat)=>vt ts k
theorem y8 (L:Nat) (ts:List (Int×Int)):(AK L ts).length=L:=by simp[AK]
theorem Of (L:Nat) (ts:List (Int×Int)) (sh:Int) {K:Nat} (hn:(K:Int)∉ts.map (·.1)):(AK L ts).set K sh=AK L (ts++[((K:Int),sh)]):=by
 apply BI
 intro i
 by_cases hi:i<L
 ·by_cases h:K=i
  ·subst h
   rw[CQ (by rw[y8];exact hi)]
   simp[AK,hi,B6,B7 ts K hn]
  ·have h2:¬(K:Int)=(i:Int):=by lia
   rw[CA h]
   simp[AK,hi,B6,h2]
 ·rw[AQ (by rw[HQ,y8];lia),AQ (by rw[y8];lia)]
section
variable {n : Nat} {μ ρ : Sto} {φ : Phi}
theorem uf {S α:Type} {f:D→Sto→Res (List D)} {enS:S→Sto} {en:α→D} {P:α→Int→Prop}:∀{xs:List α},(∀a∈xs,∀s,∃v s',P a v∧f (en a) (enS s)=.ok [D.int v] (enS s'))→∀s,∃(vs:List Int) (s':S),vs.length=xs.length∧(∀(i:Nat) a,xs[i]? = some a→P a (vs.getD i 0))∧mapR none f (xs.map en) (enS s)=.ok (vs.map D.int) (enS s')
 | [],_,s=>⟨[],s,rfl,by simp,by simp[mapR]⟩
 | d::ds,h,s=>by
  obtain⟨v,s1,p1,e1⟩:=h d AS s
  obtain⟨vs,s2,hl,hp,e2⟩:=uf (xs:=ds) (fun x hx=>h x (AJ _ hx)) s1
  refine⟨v::vs,s2,by simp[hl],fun i a ha=>?_,?_⟩
  ·cases i with
   | zero=>simp at ha;subst ha;simpa using p1
   | succ i=>simpa using hp i a (by simpa using ha)
  ·simp only[AR,mapR,qi,if_true,e1,Res.ba,e2]
   rfl
theorem Dm {S:Type} {m:Mk} {tg:Tg} {cs:Exs} {elt:Ex} {σ0:Sl} {enS:S→Sto} {L:Nat} {P:Nat→Int→Prop} (h:∀k,k<L→∀s,∃v s',P k v∧j8 φ tg cs elt σ0 (.int k) (enS s)=.ok [D.int v] (enS s')) (s:S) :
  ∃(vs:List Int) (s':S),vs.length=L∧(∀k,k<L→P k (vs.getD k 0))∧nq φ m tg cs elt σ0 ((List.range L).map (fun(k:Nat)=>D.int k),none) (enS s)=mkL m (vs.map D.int) (enS s'):=by
 obtain⟨vs,s',hl,hp,e⟩:=uf (f:=j8 φ tg cs elt σ0) (enS:=enS) (en:=fun(k:Nat)=>D.int k) (P:=P) (xs:=List.range L) (fun a ha s=>h a (by simpa using ha) s) s
 refine⟨vs,s',by simpa using hl,fun k hk=>hp k k (by rw[DU hk]),?_⟩
 rw[nq]
 show(mapR none _ _ (enS s)).bind _=_
 rw[e];rfl
theorem ll {tg:Tg} {cs:Exs} {elt:Ex} {σ0:Sl} {L:Nat} {f:Nat→Int} (h:∀k,k<L→j8 φ tg cs elt σ0 (.int k) μ=.ok [D.int (f k)] μ) :
  nq φ .z tg cs elt σ0 ((List.range L).map (fun(k:Nat)=>D.int k),none) μ=.ok (.lst (((List.range L).map f).map D.int)) μ:=by
 rw[comp_map (en:=fun(k:Nat)=>D.int k) (g:=fun k=>D.int (f k)) fun a ha=>h a (by simpa using ha),pe,BC];rfl
theorem Dp {L N:Nat} {aw:List (List Int)} {g:Ngt} {i0:Nat} (hg:NgtS L aw i0 g) (hL:L≤8) {ngs:D} {st oil here:Int} {fi tanks most:List Int} (h1:fi.length=L) (h2:tanks.length=L) (h3:most.length=L) {ds:List Day} {rs:List Tn} (hd:ds.length≤100) (hrl:rs.length≤100) (cs:List Int) (hρ:ρ.all noR=true) (v11 v12 v13 v14 v15 v16 v17 v18 v19 v20 v21:Option D) :
  ∃(σ':Sl) (cs':List Int) (most':List Int) (d:Day) (t:Tn) (ρ':Sto) (w:Nat→Option D),most'.length=L∧(∀k:Nat,k<L→most.getD k 0≤most'.getD k 0)∧DayS L most' aw i0 (here,tanks) t d∧ρ'.all noR=true ∧
   σ'=[some (.loc 0),some (dr L N aw),some ngs,some (.int st),some (.int oil),some (.lst (fi.map D.int)),some (.lst ((gp st L (here,tanks) t).2.map D.int)),some (.lst (most'.map D.int)),some (.loc 1),some (.loc 2),some (.int (gp st L (here,tanks) t).1),some (.int g.length),some (.int g.wanted),some (.lst (g.ticks.map eP)),some (.tup (g.spans.map eSpan)),w 15,w 16,w 17,w 18,w 19,w 20,w 21,none] ∧
   fLp (ar GL (n+3)) (.many [11,12,13,14]) gf (l5 g) [some (.loc 0),some (dr L N aw),some ngs,some (.int st),some (.int oil),some (.lst (fi.map D.int)),some (.lst (tanks.map D.int)),some (.lst (most.map D.int)),some (.loc 1),some (.loc 2),some (.int here),v11,v12,v13,v14,v15,v16,v17,v18,v19,v20,v21,none] (Lf cs::.l (ds.map jk)::.l (rs.map eTn)::ρ) =
    .ok (.nx σ') (Lf cs'::.l ((ds++[d]).map jk)::.l ((rs++[t]).map eTn)::ρ'):=by
 have c0:=comp_map (m:=.l) (μ:=Lf cs::.l (ds.map jk)::.l (rs.map eTn)::ρ) (φ:=ar GL (n+3)) (tg:=.one 0) (cs:=.nil) (elt:=i8) (σ0:=[none]) (xs:=List.range L) (en:=fun(k:Nat)=>D.int k) (g:=fun _=>D.int 0) (by
  intro k _
  simp! only[j8,i8])
 have ez:(List.range L).map (fun _=>D.int 0)=(AK L []).map D.int:=by rw[AK,BC];rfl
 rw[ez,mk3 (G2 _)]at c0
 obtain⟨σ1,μ1,e1,w16,w17,rfl,rfl⟩:=fj (φ:=ar GL (n+3)) (μ:=Lf cs::.l (ds.map jk)::.l (rs.map eTn)::(ρ++[.l ((AK L []).map D.int)])) (tg:=.many [16,17]) (b:=i9) (xs:=g.ticks) (en:=eP)
  (σ:=[some (.loc 0),some (dr L N aw),some ngs,some (.int st),some (.int oil),some (.lst (fi.map D.int)),some (.lst (tanks.map D.int)),some (.lst (most.map D.int)),some (.loc 1),some (.loc 2),some (.int here),some (.int g.length),some (.int g.wanted),some (.lst (g.ticks.map eP)),some (.tup (g.spans.map eSpan)),some (.loc (ρ.length+3)),v16,v17,v18,v19,v20,v21,none])
  (fun j σ μ'=>∃(w16 w17:Option D),σ=[some (.loc 0),some (dr L N aw),some ngs,some (.int st),some (.int oil),some (.lst (fi.map D.int)),some (.lst (tanks.map D.int)),some (.lst (most.map D.int)),some (.loc 1),some (.loc 2),some (.int here),some (.int g.length),some (.int g.wanted),some (.lst (g.ticks.map eP)),some (.tup (g.spans.map eSpan)),some (.loc (ρ.length+3)),w16,w17,v18,v19,v20,v21,none]∧μ'=Lf cs::.l (ds.map jk)::.l (rs.map eTn)::(ρ++[.l ((AK L (g.ticks.take j)).map D.int)]))
  ⟨v16,v17,rfl,rfl⟩ (by
   rintro j ⟨k,sh⟩ σ μ' hj ⟨w16,w17,rfl,rfl⟩
   have hk:=hg.tk _ (CB hj)
   obtain⟨K,hK⟩:∃K:Nat,(K:Int)=k:=⟨k.toNat,by have:=hk.1;simp at this;lia⟩
   have hK2:K<(AK L (g.ticks.take j)).length:=by rw[y8];have:=hk.2.1;simp at this;lia
   have hKn:(K:Int)∉(g.ticks.take j).map (·.1):=fun z=>by
    rw[hK,List.map_take]at z
    obtain⟨q,hq,e⟩:=CJ.mp z
    have hj2:j<g.ticks.length:=(AE.mp hj).1
    rw[CT,AG]at hq
    rw[List.getElem_take]at e
    have e2:(g.ticks.map (·.1))[j]'(by rw[AG];exact hj2)=k:=by
     rw[HH,(AE.mp hj).2]
    exact B5 hg.nd (show q<_ by rw[AG];lia) (show j<_ by rw[AG];exact hj2) (by lia) (by rw[e,e2])
   have e1:g.ticks.take (j+1)=g.ticks.take j++[((K:Int),sh)]:=by rw[BZ,hj,hK];rfl
   have bt:∀σ:Sl,d6 (.many [16,17]) (eP (k,sh)) σ=some ((σ.set 16 (some (.int K))).set 17 (some (.int sh))):=fun σ=>by rw[hK];rfl
   refine⟨_,_,?_,some (.int K),some (.int sh),rfl,rfl⟩
   rw[e1,←Of L _ sh hKn]
   simp! only[fLp,i9,bt,U5 hK2])
 rw[BF (AF _)]at e1
 obtain⟨as,has⟩:∃as,as=AK L g.ticks:=⟨_,rfl⟩
 rw[←has]at e1
 have ha:as.length=L:=by rw[has,y8]
 have hask:∀k:Nat,k<L→as.getD k 0=ai g.spans k:=fun k hk=>by rw[has,AK,Am hk,hg.ticks]
 have hρ2:=Sn hρ (as.map D.int)
 have ia:∀(cs:List Int) (k:Nat),k<L→ixD (.loc (ρ.length+3)) (.int k) (Lf cs::.l (ds.map jk)::.l (rs.map eTn)::(ρ++[.l (as.map D.int)]))=.ok (.int (as.getD k 0)) (Lf cs::.l (ds.map jk)::.l (rs.map eTn)::(ρ++[.l (as.map D.int)])):=fun cs k hk=>o5 V2 (by lia)
 have il:∀(xs:List Int) (ν:Sto) (k:Nat),k<xs.length→ixD (.lst (xs.map D.int)) (.int k) ν=.ok (.int (xs.getD k 0)) ν:=fun xs ν k hk=>o5 ax hk
 obtain⟨po,cs1,hpo,hpP,ep⟩:=Dm (S:=List Int) (m:=.z) (P:=fun k v=>0≤v∧as.getD k 0≤tanks.getD k 0+v) (L:=L) (φ:=ar GL (n+3)) (tg:=.one 3) (cs:=.nil) (elt:=ja) (σ0:=[some (.loc (ρ.length+3)),some (.lst (tanks.map D.int)),some (.loc 0),none])
  (enS:=fun cs=>Lf cs::.l (ds.map jk)::.l (rs.map eTn)::(ρ++[.l (as.map D.int)])) (by
   intro k hk cs
   have sb:=ny (cs.headD 0)
   have ks:=ko (n:=n+1) (ρ:=.l (ds.map jk)::.l (rs.map eTn)::(ρ++[.l (as.map D.int)])) (sk hρ2) cs
   refine⟨max 0 (as.getD k 0-tanks.getD k 0)+gk (cs.headD 0),cs.tail,by lia,?_⟩
   simp! only[j8,ja,ia cs k hk,il tanks _ k (by lia),ks]) cs
 rw[pe]at ep
 have ks1:=ko (n:=n+1) (ρ:=.l (ds.map jk)::.l (rs.map eTn)::(ρ++[.l (as.map D.int)])) (sk hρ2) cs1
 have sb1:=ny (cs1.headD 0)
 obtain⟨lack,hlack⟩:∃lack,lack=max 0 (po.sum-here)+gk (cs1.headD 0):=⟨_,rfl⟩
 have kn2:=lg (n:=n+2) (ρ:=.l (ds.map jk)::.l (rs.map eTn)::(ρ++[.l (as.map D.int)])) (fun cs=>sk hρ2) cs1.tail
 have kt2:=lh (n:=n+2) (sk (cs:=cs1.tail.tail) (ds:=ds.map jk) (rs:=rs.map eTn) hρ2) (cs1.tail.headD 0)
 obtain⟨tk,t0,t1,es⟩:=By (n:=n+2) (gi (cs1.tail.headD 0)) 0 lack (by lia)
 have ksh:=bb (es (Lf cs1.tail.tail::.l (ds.map jk)::.l (rs.map eTn)::(ρ++[.l (as.map D.int)]))) rfl rfl (sk hρ2)
 have e4:=ll (L:=L) (f:=fun k=>tanks.getD k 0+po.getD k 0) (μ:=Lf cs1.tail.tail::.l (ds.map jk)::.l (rs.map eTn)::(ρ++[.l (as.map D.int)])) (φ:=ar GL (n+3)) (tg:=.one 2) (cs:=.nil) (elt:=jb) (σ0:=[some (.lst (tanks.map D.int)),some (.lst (po.map D.int)),none]) (by
  intro k hk
  simp! only[j8,jb,il tanks _ k (by lia),il po _ k (by lia)])
 obtain⟨ta,dta⟩:∃ta,ta=(List.range L).map fun k=>tanks.getD k 0+po.getD k 0:=⟨_,rfl⟩
 rw[←dta]at e4
 have hta:ta.length=L:=by rw[dta];simp
 have e5:=ll (L:=L) (f:=fun k=>max (most.getD k 0) (ta.getD k 0)) (μ:=Lf cs1.tail.tail::.l (ds.map jk)::.l (rs.map eTn)::(ρ++[.l (as.map D.int)])) (φ:=ar GL (n+3)) (tg:=.one 2) (cs:=.nil) (elt:=jc) (σ0:=[some (.lst (most.map D.int)),some (.lst (ta.map D.int)),none]) (by
  intro k hk
  simp! only[j8,jc,il most _ k (by lia),il ta _ k (by lia)])
 obtain⟨mo,dmo⟩:∃mo,mo=(List.range L).map fun k=>max (most.getD k 0) (ta.getD k 0):=⟨_,rfl⟩
 rw[←dmo]at e5
 have hmo:mo.length=L:=by rw[dmo];simp
 have e6:=ll (L:=L) (f:=fun k=>ta.getD k 0-as.getD k 0) (μ:=Lf cs1.tail.tail::.l (ds.map jk)::.l (rs.map eTn)::(ρ++[.l (as.map D.int)])) (φ:=ar GL (n+3)) (tg:=.one 2) (cs:=.nil) (elt:=jd) (σ0:=[some (.lst (ta.map D.int)),some (.loc (ρ.length+3)),none]) (by
  intro k hk
  simp! only[j8,jd,il ta _ k (by lia),ia _ k hk])
 obtain⟨tb,dtb⟩:∃tb,tb=(List.range L).map fun k=>ta.getD k 0-as.getD k 0:=⟨_,rfl⟩
 rw[←dtb]at e6
 have htb:tb.length=L:=by rw[dtb];simp
 have hsum:∀ν:Sto,btD .sum .z [.lst (po.map D.int)] ν=.ok (.int po.sum) ν:=fun ν=>bt_sum ax (jf _)
 have kn3:=lg (n:=n+2) (ρ:=.l (ds.map jk)::.l (rs.map eTn)::(ρ++[.l (as.map D.int)])) (fun cs=>sk hρ2) cs1.tail.tail
 have p15:opI .Pow 10 15 (Lf cs1.tail.tail.tail::.l (ds.map jk)::.l (rs.map eTn)::(ρ++[.l (as.map D.int)]))=.ok (.int (10 ^ 15)) (Lf cs1.tail.tail.tail::.l (ds.map jk)::.l (rs.map eTn)::(ρ++[.l (as.map D.int)])):=op_pow (by decide)
 have ksz:=Af (n:=n+1) (sk (cs:=cs1.tail.tail.tail) (ds:=ds.map jk) (rs:=rs.map eTn) hρ2) (cs1.tail.tail.headD 0) (10 ^ 15) (by decide)
 have hpr:=Ja (c:=cs1.tail.tail.headD 0) (most:=10 ^ 15) (by decide)
 generalize rp (cs1.tail.tail.headD 0) (10 ^ 15)=pr at ksz hpr
 have ks4:=ko (n:=n+1) (ρ:=.l (ds.map jk)::.l (rs.map eTn)::(ρ++[.l (as.map D.int)])) (sk hρ2) cs1.tail.tail.tail
 have ks5:=ko (n:=n+1) (ρ:=.l (ds.map jk)::.l (rs.map eTn)::(ρ++[.l (as.map D.int)])) (sk hρ2) cs1.tail.tail.tail.tail
 have sb4:=ny (cs1.tail.tail.tail.headD 0)
 have sb5:=ny (cs1.tail.tail.tail.tail.headD 0)
 generalize gk (cs1.tail.tail.tail.headD 0)=s4 at ks4 sb4
 generalize gk (cs1.tail.tail.tail.tail.headD 0)=s5 at ks5 sb5
 have a1:∀(cs:List Int),mtD .append (.loc 1) [.tup [.int (tk+s4),.int (lack-tk+s5),.int pr,.int g.length,.int g.wanted]] (Lf cs::.l (ds.map jk)::.l (rs.map eTn)::(ρ++[.l (as.map D.int)]))=.ok .non (Lf cs::.l ((ds++[(⟨tk+s4,lack-tk+s5,pr,g.length,g.wanted⟩:Day)]).map jk)::.l (rs.map eTn)::(ρ++[.l (as.map D.int)])):=fun cs=>by
  rw[W2 rfl (by rw[AG];lia),BR];rfl
 have a2:∀(cs:List Int) (xs:List D),mtD .append (.loc 2) [.tup [.int tk,.int (lack-tk),.tup (po.map D.int),.tup (g.spans.map eSpan)]] (Lf cs::.l xs::.l (rs.map eTn)::(ρ++[.l (as.map D.int)]))=.ok .non (Lf cs::.l xs::.l ((rs++[(⟨tk,lack-tk,po,g.spans⟩:Tn)]).map eTn)::(ρ++[.l (as.map D.int)])):=fun cs xs=>by
  rw[BR]
  exact W3 (d:=eTn ⟨tk,lack-tk,po,g.spans⟩) (G0 _) (by rw[AG];lia)
 have bt:∀σ:Sl,d6 (.many [11,12,13,14]) (l5 g) σ=some ((((σ.set 11 (some (.int g.length))).set 12 (some (.int g.wanted))).set 13 (some (.lst (g.ticks.map eP)))).set 14 (some (.tup (g.spans.map eSpan)))):=fun σ=>rfl
 have t1:(gp st L (here,tanks) ⟨tk,lack-tk,po,g.spans⟩).1=min st (here+lack-po.sum):=by
  show min (here+tk+(lack-tk)-po.sum) st=_
  rw[Int.min_comm]
  congr 1
  lia
 have t2:(gp st L (here,tanks) ⟨tk,lack-tk,po,g.spans⟩).2=tb:=by
  rw[dtb]
  refine DT fun k hk=>?_
  have hk:k<L:=by simpa using hk
  rw[dta,Am hk,hask k hk]
 have lev:∀k:Nat,k<L→ta.getD k 0=tanks.getD k 0+po.getD k 0:=fun k hk=>by rw[dta,Am hk]
 have mol:∀k:Nat,k<L→mo.getD k 0=max (most.getD k 0) (ta.getD k 0):=fun k hk=>by rw[dmo,Am hk]
 refine⟨[some (.loc 0),some (dr L N aw),some ngs,some (.int st),some (.int oil),some (.lst (fi.map D.int)),some (.lst ((gp st L (here,tanks) ⟨tk,lack-tk,po,g.spans⟩).2.map D.int)),some (.lst (mo.map D.int)),some (.loc 1),some (.loc 2),some (.int (gp st L (here,tanks) ⟨tk,lack-tk,po,g.spans⟩).1),some (.int g.length),some (.int g.wanted),some (.lst (g.ticks.map eP)),some (.tup (g.spans.map eSpan)),some (.loc (ρ.length+3)),w16,w17,some (.lst (po.map D.int)),some (.int lack),some (.int tk),some (.int pr),none],cs1.tail.tail.tail.tail.tail,mo,⟨tk+s4,lack-tk+s5,pr,g.length,g.wanted⟩,⟨tk,lack-tk,po,g.spans⟩,ρ++[.l (as.map D.int)],fun i=>[some (.loc (ρ.length+3)),w16,w17,some (.lst (po.map D.int)),some (.int lack),some (.int tk),some (.int pr)].getD (i-15) none,hmo,fun k hk=>by rw[mol k hk];lia,?_,hρ2,rfl,?_⟩
 ·refine⟨⟨t0,by show tk≤tk+s4;lia⟩,⟨by show 0≤lack-tk;lia,by show lack-tk≤lack-tk+s5;lia⟩,hpo,fun x hx=>?_,by show po.sum≤here+tk+(lack-tk);lia,fun k hk=>?_,hg.len,hg.good,hg.nb,hg.cnt,hg.cov,fun k hk=>?_,hpr⟩
  ·obtain⟨q,hq,rfl⟩:=CJ.mp hx
   have:=(hpP q (by rw[←hpo];exact hq)).1
   simpa[hq]using this
  ·show tanks.getD k 0+po.getD k 0≤mo.getD k 0
   rw[mol k hk,lev k hk];lia
  ·show ai g.spans k≤tanks.getD k 0+po.getD k 0
   rw[←hask k hk]
   exact(hpP k hk).2
 rw[t1,t2]
 simp! only[fLp,gf,bt,Oa,dq (show L≤1000000 by lia),c0,e1,ep,hsum,ks1,←hlack,kn2,kt2,ksh,e4,e5,e6,kn3,p15,ksz,ks4,ks5,km1,a1,bt_tuple ax,km2,a2]
end
end Lr
namespace Lr
open Lp
open PySem
noncomputable def held (b:Book) (rs:List Tn) (i:Nat):Int×List Int:=(rs.take i).foldl (gp b.store b.lamps.length) (b.oil,b.lamps.map (·.oil))
noncomputable abbrev U6 (b:Book) (i:Nat) (H:Int×List Int) (t:Tn) (d:Day):Prop:=DayS b.lamps.length (b.lamps.map (·.tank)) (b.lamps.map (·.away)) i H t d
structure Kept (b:Book) (rs:List Tn):Prop where
 lamps:1≤b.lamps.length∧b.lamps.length≤8
 same:rs.length=b.days.length
 some:1≤rs.length
 few:rs.length≤16
 day:∀(i:Nat) t d,rs[i]? = Option.some t→b.days[i]? = Option.some d→U6 b i (held b rs i) t d
theorem B8 {st oil:Int} {L:Nat} {fi:List Int} (h:fi.length=L) (rs:List Tn):(rs.foldl (gp st L) (oil,fi)).2.length=L:=by
 have gen:∀(rs:List Tn) (H:Int×List Int),H.2.length=L→(rs.foldl (gp st L) H).2.length=L:=by
  intro rs
  induction rs with
  | nil=>intro H h;exact h
  | cons t r ih=>intro H _;exact ih _ (by simp[gp])
 exact gen rs _ h
section
variable {n : Nat} {μ ρ : Sto} {φ : Phi}
theorem Jk (cs:List Int):∃(b:Book) (rs:List Tn) (cs':List Int) (ρ:Sto),Kept b rs ∧
  ar GL (n+4) ji [.loc 0] [Lf cs]=.ok (.tup [bc b,.tup (rs.map eTn)]) ([Lf cs']++ρ):=by
 rw[ao yk,run_eq rfl]
 obtain⟨L,N,aw,cs1,hL,hN,haw,ef⟩:=Ji (n:=n) cs
 have kf:=r8 (μ':=[Lf cs1]) (ρ:=[.dead]) ef rfl (Dj L N aw) rfl
 obtain⟨ns,cs2,hnl,hok,en⟩:=Dl (n:=n) cs1 L N aw hL hN.2 haw
 have pns:(D.lst (ns.map l5)).pure=true:=by
  rw[D.pure,lx,AM];intro x hx;obtain⟨i,_,rfl⟩:=AZ.mp hx;exact B0 i
 have kn:=r8 (μ':=[Lf cs2]) (ρ:=[.dead]) en rfl pns rfl
 have k3:=lg (n:=n+2) (ρ:=[]) (fun cs=>yx) cs2
 have p30:opI .Pow 10 30 [Lf cs2.tail]=.ok (.int (10 ^ 30)) [Lf cs2.tail]:=op_pow (by decide)
 have k4:=Af (n:=n+1) (yx (cs:=cs2.tail)) (cs2.headD 0) (10 ^ 30) (by decide)
 generalize rp (cs2.headD 0) (10 ^ 30)=st at k4
 have k5:=ko (n:=n+1) (ρ:=[]) rfl cs2.tail
 generalize gk (cs2.tail.headD 0)=oil at k5
 obtain⟨fi,cs3,hfi,e5⟩:=G1 (S:=List Int) (m:=.z) (φ:=ar GL (n+3)) (tg:=.one 1) (cs:=.nil) (elt:=i7) (σ0:=[some (.loc 0),none]) (xs:=List.range L) (en:=fun(k:Nat)=>D.int k) (enS:=fun cs=>[Lf cs]) (by
  intro k _ cs
  have ks:=ko (n:=n+1) (ρ:=[]) rfl cs
  refine⟨gk (cs.headD 0),cs.tail,?_⟩
  simp! only[j8,i7,ks]) cs2.tail.tail
 rw[pe]at e5
 rw[DN]at hfi
 have li:∀ν:Sto,btD .list .z [.lst (fi.map D.int)] ν=.ok (.lst (fi.map D.int)) ν:=fun ν=>by rw[bt_list ax,pe]
 have m1:mkL .l [] [Lf cs3]=.ok (.loc 1) [Lf cs3,.l []]:=Gu rfl
 have m2:mkL .l [] [Lf cs3,.l []]=.ok (.loc 2) [Lf cs3,.l [],.l []]:=Gu rfl
 obtain⟨σ',μ',e,cs4,most,ds,rs,ρ,v,hm,hdl,hrl,hdo,hρ,rfl,rfl⟩:=fj (φ:=ar GL (n+3)) (μ:=[Lf cs3,.l [],.l []]) (tg:=.many [11,12,13,14]) (b:=gf) (xs:=ns) (en:=l5)
  (σ:=[some (.loc 0),some (dr L N aw),some (.lst (ns.map l5)),some (.int st),some (.int oil),some (.lst (fi.map D.int)),some (.lst (fi.map D.int)),some (.lst (fi.map D.int)),some (.loc 1),some (.loc 2),some (.int oil),none,none,none,none,none,none,none,none,none,none,none,none])
  (fun j σ μ'=>∃(cs4:List Int) (most:List Int) (ds:List Day) (rs:List Tn) (ρ:Sto) (v:Nat→Option D),most.length=L∧ds.length=j∧rs.length=j∧(∀(i:Nat) t d,rs[i]? = some t→ds[i]? = some d→DayS L most aw i ((rs.take i).foldl (gp st L) (oil,fi)) t d)∧ρ.all noR=true ∧
   σ=[some (.loc 0),some (dr L N aw),some (.lst (ns.map l5)),some (.int st),some (.int oil),some (.lst (fi.map D.int)),some (.lst ((rs.foldl (gp st L) (oil,fi)).2.map D.int)),some (.lst (most.map D.int)),some (.loc 1),some (.loc 2),some (.int (rs.foldl (gp st L) (oil,fi)).1),v 11,v 12,v 13,v 14,v 15,v 16,v 17,v 18,v 19,v 20,v 21,none]∧μ'=Lf cs4::.l (ds.map jk)::.l (rs.map eTn)::ρ)
  ⟨cs3,fi,[],[],[],fun _=>none,hfi,rfl,rfl,by simp,rfl,rfl,rfl⟩ (by
   rintro j g σ μ' hj ⟨cs4,most,ds,rs,ρ,v,hm,hdl,hrl,hdo,hρ,rfl,rfl⟩
   have hg:=hok j g hj
   have hj2:j<ns.length:=(AE.mp hj).1
   obtain⟨σ',cs',most',d,t,ρ',w,q2,q3,q4,q5,rfl,q7⟩:=Dp (n:=n) (N:=N) (aw:=aw) hg hL.2 (ngs:=.lst (ns.map l5)) (st:=st) (oil:=oil) (here:=(rs.foldl (gp st L) (oil,fi)).1) hfi (B8 hfi rs) hm (ds:=ds) (rs:=rs) (by lia) (by lia) cs4 hρ (v 11) (v 12) (v 13) (v 14) (v 15) (v 16) (v 17) (v 18) (v 19) (v 20) (v 21)
   have ef:(rs++[t]).foldl (gp st L) (oil,fi)=gp st L ((rs.foldl (gp st L) (oil,fi)).1,(rs.foldl (gp st L) (oil,fi)).2) t:=by rw[GP];rfl
   refine⟨_,_,q7,cs',most',ds++[d],rs++[t],ρ',fun i=>[some (.int g.length),some (.int g.wanted),some (.lst (g.ticks.map eP)),some (.tup (g.spans.map eSpan)),w 15,w 16,w 17,w 18,w 19,w 20,w 21].getD (i-11) none,q2,by simp[hdl],by simp[hrl],fun i t' d' ht' hd'=>?_,q5,by rw[ef];rfl,rfl⟩
   by_cases hi:i<j
   ·rw[AV (by lia)]at ht' hd'
    rw[FS (by lia)]
    exact(hdo i t' d' ht' hd').mono q3
   ·have hi2:i=j:=by
     have:=(AE.mp ht').1
     simp at this
     lia
    subst hi2
    have e1:t'=t:=by
     rw[BM (by lia),hrl,HP]at ht'
     simpa using ht'.symm
    have e2:d'=d:=by
     rw[BM (by lia),hdl,HP]at hd'
     simpa using hd'.symm
    subst e1 e2
    rw[FS (by lia),BF (by lia)]
    exact q4)
 have m3:=mk3 (ρ:=ρ) (cs:=cs4) (ds:=ds.map jk) (rs:=rs.map eTn) (xs:=[]) rfl
 obtain⟨σ2,μ2,e2,cs5,ls,w16,hll,hla,rfl,rfl⟩:=fj (φ:=ar GL (n+3)) (μ:=Lf cs4::.l (ds.map jk)::.l (rs.map eTn)::(ρ++[.l []])) (tg:=.one 16) (b:=je) (xs:=List.range L) (en:=fun(k:Nat)=>D.int k)
  (σ:=[some (.loc 0),some (dr L N aw),some (.lst (ns.map l5)),some (.int st),some (.int oil),some (.lst (fi.map D.int)),some (.lst ((rs.foldl (gp st L) (oil,fi)).2.map D.int)),some (.lst (most.map D.int)),some (.loc 1),some (.loc 2),some (.int (rs.foldl (gp st L) (oil,fi)).1),v 11,v 12,v 13,v 14,v 15,v 16,v 17,v 18,v 19,v 20,v 21,some (.loc (ρ.length+3))])
  (fun j σ μ'=>∃(cs5:List Int) (ls:List Lamp) (w16:Option D),ls.length=j∧(∀(i:Nat) l,ls[i]? = some l→l.oil=fi.getD i 0∧l.away=aw.getD i []∧most.getD i 0≤l.tank)∧σ=[some (.loc 0),some (dr L N aw),some (.lst (ns.map l5)),some (.int st),some (.int oil),some (.lst (fi.map D.int)),some (.lst ((rs.foldl (gp st L) (oil,fi)).2.map D.int)),some (.lst (most.map D.int)),some (.loc 1),some (.loc 2),some (.int (rs.foldl (gp st L) (oil,fi)).1),v 11,v 12,v 13,v 14,v 15,w16,v 17,v 18,v 19,v 20,v 21,some (.loc (ρ.length+3))] ∧
   μ'=Lf cs5::.l (ds.map jk)::.l (rs.map eTn)::(ρ++[.l (ls.map d7)]))
  ⟨cs4,[],v 16,rfl,by simp,rfl,rfl⟩ (by
   rintro j a σ μ' ha ⟨cs5,ls,w16,hll,hla,rfl,rfl⟩
   obtain⟨rfl,hk⟩:=o4 ha
   have ks:=ko (n:=n+1) (ρ:=.l (ds.map jk)::.l (rs.map eTn)::(ρ++[.l (ls.map d7)])) (sk (Sn hρ _)) cs5
   have i1:∀ν:Sto,ixD (.lst (most.map D.int)) (.int a) ν=.ok (.int (most.getD a 0)) ν:=fun ν=>o5 ax (by lia)
   have i2:∀ν:Sto,ixD (.lst (fi.map D.int)) (.int a) ν=.ok (.int (fi.getD a 0)) ν:=fun ν=>o5 ax (by lia)
   have i3:∀ν:Sto,ixD (.lst (aw.map eIl)) (.int a) ν=.ok (.lst ((aw.getD a []).map D.int)) ν:=fun ν=>yo ax (by rw[AX,AA (by lia)];simp[show a<aw.length by lia,eIl])
   have ap:∀cs:List Int,mtD .append (.loc (ρ.length+3)) [.tup [.int (most.getD a 0+gk (cs5.headD 0)),.int (fi.getD a 0),.tup ((aw.getD a []).map D.int)]] (Lf cs::.l (ds.map jk)::.l (rs.map eTn)::(ρ++[.l (ls.map d7)]))=.ok .non (Lf cs::.l (ds.map jk)::.l (rs.map eTn)::(ρ++[.l ((ls++[(⟨most.getD a 0+gk (cs5.headD 0),fi.getD a 0,aw.getD a []⟩:Lamp)]).map d7)])):=fun cs=>by
    rw[BR]
    exact W4 (d:=d7 ⟨most.getD a 0+gk (cs5.headD 0),fi.getD a 0,aw.getD a []⟩) (nr _) (by rw[AG];lia)
   refine⟨_,_,?_,cs5.tail,ls++[⟨most.getD a 0+gk (cs5.headD 0),fi.getD a 0,aw.getD a []⟩],some (.int a),by simp[hll],fun i l hl=>?_,rfl,rfl⟩
   ·simp! only[fLp,je,i1,ks,i2,Ob,i3,bt_tuple ax,km3,ap]
   ·by_cases hi:i<ls.length
    ·rw[AV hi]at hl
     exact hla i l hl
    ·have hi2:i=ls.length:=by
      have:=(AE.mp hl).1
      simp at this
      lia
     subst hi2
     rw[BM (AF _),HP]at hl
     have el:l=⟨most.getD a 0+gk (cs5.headD 0),fi.getD a 0,aw.getD a []⟩:=by simpa using hl.symm
     rw[el,hll]
     exact⟨rfl,rfl,by show most.getD a 0≤most.getD a 0+gk (cs5.headD 0);have:=ny (cs5.headD 0);lia⟩)
 have s1:de (Lf cs5::.l (ds.map jk)::.l (rs.map eTn)::(ρ++[.l (ls.map d7)])) (.loc 1)=some (ds.map jk):=rfl
 have s2:de (Lf cs5::.l (ds.map jk)::.l (rs.map eTn)::(ρ++[.l (ls.map d7)])) (.loc 2)=some (rs.map eTn):=rfl
 rw[DN]at hll
 have eoil:ls.map (·.oil)=fi:=by
  apply BI
  intro i
  by_cases hi:i<L
  ·have q:=hla i ls[i] (AA (by lia))
   rw[AX,AA (show i<ls.length by lia),AA (show i<fi.length by lia)]
   have:fi.getD i 0=fi[i]:=by simp[show i<fi.length by lia]
   show Option.some ls[i].oil=Option.some fi[i]
   rw[q.1,this]
  ·rw[AQ (by rw[AG];lia),AQ (by lia)]
 have eaw:ls.map (·.away)=aw:=by
  apply BI
  intro i
  by_cases hi:i<L
  ·have q:=hla i ls[i] (AA (by lia))
   rw[AX,AA (show i<ls.length by lia),AA (show i<aw.length by lia)]
   have:aw.getD i []=aw[i]:=by simp[show i<aw.length by lia]
   show Option.some ls[i].away=Option.some aw[i]
   rw[q.2.1,this]
  ·rw[AQ (by rw[AG];lia),AQ (by lia)]
 refine⟨⟨st,oil,ls,ds⟩,rs,cs5,.l (ds.map jk)::.l (rs.map eTn)::(ρ++[.l (ls.map d7)]),⟨by show 1≤ls.length∧ls.length≤8;lia,by show rs.length=ds.length;lia,by lia,by lia,fun i t d ht hd=>?_⟩,?_⟩
 ·show DayS ls.length (ls.map (·.tank)) (ls.map (·.away)) i ((rs.take i).foldl (gp st ls.length) (oil,ls.map (·.oil))) t d
  rw[eoil,eaw,hll]
  refine(hdo i t d ht hd).mono fun k hk=>?_
  have q:=hla k ls[k] (AA (by lia))
  have:(ls.map (·.tank)).getD k 0=ls[k].tank:=by simp[show k<ls.length by lia]
  rw[this]
  exact q.2.2
 simp! only[D_law_kept_3,kf,kn,k3,p30,k4,k5,Oa,dq (show L≤1000000 by lia),e5,li,m1,m2,e,m3,e2,bt_tuple V2,bt_tuple s1,bt_tuple s2,bc]
end
end Lr
namespace Lr
open Lp
open PySem
noncomputable def bf (H:Int×List Int):D:=.tup [.int H.1,cj H.2]
theorem j7 {k:Nat} (H:Int×List Int):D.pureN (k+2) (bf H)=true:=by
 rw[bf,cq]
 simp only[BB,cy,dk,DD,GR]
theorem An {L:Nat} {a c:List Int} {f:Int×Int→Int} (ha:a.length=L) (hc:c.length=L):(a.zip c).map f=(List.range L).map fun(k:Nat)=>f (a.getD k 0,c.getD k 0):=by
 apply BI
 intro i
 by_cases hi:i<L
 ·have hz:(a.zip c)[i]? = some (a.getD i 0,c.getD i 0):=by
   rw[CN]
   exact⟨by simp[show i<a.length by lia],by simp[show i<c.length by lia]⟩
  simp[hz,hi]
 ·rw[AQ (by simp;lia),AQ (by simp;lia)]
section
variable {n : Nat} {μ ρ : Sto} {φ : Phi}
theorem B9 (b:Book):ar GL (n+1) dz [bc b] μ=.ok (bf (b.oil,b.lamps.map (·.oil))) μ:=by
 rw[ao rj,run_eq rfl]
 have c:=comp_map (m:=.z) (μ:=μ) (φ:=ar GL n) (tg:=.many [0,1,2]) (cs:=.nil) (elt:=f6) (σ0:=[none,none,none]) (xs:=b.lamps) (en:=d7) (g:=fun l=>D.int l.oil) (by
  intro l _
  have bt:d6 (.many [0,1,2]) (d7 l) [none,none,none]=some [some (.int l.tank),some (.int l.oil),some (cj l.away)]:=rfl
  simp! only[j8,bt,f6])
 have e:b.lamps.map (fun l=>D.int l.oil)=(b.lamps.map (·.oil)).map D.int:=by rw[BC];rfl
 rw[e]at c
 have i1:ixD (bc b) (.int 1) μ=.ok (.int b.oil) μ:=rfl
 simp! only[D_held_at_first,i1,yp,c,bt_tuple ax,bf,cj]
theorem y9 (a c:List Int):ar GL (n+1) nj [cj a,cj c] μ=.ok (cj ((a.zip c).map fun p=>p.1+p.2)) μ:=by
 rw[ao Iy,run_eq rfl]
 have cc:=comp_map (m:=.z) (μ:=μ) (φ:=ar GL n) (tg:=.many [0,1]) (cs:=.nil) (elt:=mr) (σ0:=[none,none]) (xs:=a.zip c) (en:=fun p=>D.tup [.int p.1,.int p.2]) (g:=fun p=>D.int (p.1+p.2)) (by
  rintro⟨x,y⟩ _
  simp! only[j8,mr,lb])
 have e:(a.zip c).map (fun p=>D.int (p.1+p.2))=((a.zip c).map fun p=>p.1+p.2).map D.int:=by rw[BC];rfl
 rw[e]at cc
 have kz:sj (cj a) (cj c) μ=.ok ((a.zip c).map (fun p=>D.tup [.int p.1,.int p.2]),none) μ:=r9 (f:=D.int) (g:=D.int)
 simp! only[D_filled,kz,cc,bt_tuple ax]
 rfl
theorem Ca {i j:Nat} {H:Int×List Int} {σ:Sl}:d6 (.many [i,j]) (bf H) σ=some ((σ.set i (some (.int H.1))).set j (some (cj H.2))):=rfl
theorem G8 {i j k l:Nat} {t:Tn} {σ:Sl}:d6 (.many [i,j,k,l]) (eTn t) σ=some ((((σ.set i (some (.int t.taken))).set j (some (.int t.bought))).set k (some (cj t.poured))).set l (some (.tup (t.spans.map eSpan)))):=rfl
theorem Cb {i j k l m:Nat} {d:Day} {σ:Sl}:d6 (.many [i,j,k,l,m]) (jk d) σ=some (((((σ.set i (some (.int d.boat))).set j (some (.int d.most))).set k (some (.int d.price))).set l (some (.int d.length))).set m (some (.int d.wanted))):=rfl
theorem sum_ints (xs:List Int):btD .sum .z [cj xs] μ=.ok (.int xs.sum) μ:=bt_sum gg (jf _)
theorem Cc (xs:List Int):btD .len .z [cj xs] μ=.ok (.int xs.length) μ:=by rw[cj,bt_len gg,AG]
theorem za (hr:ly μ) (b:Book) {H:Int×List Int} {t:Tn} (hH:H.2.length=b.lamps.length) (hp:t.poured.length=b.lamps.length) (hL:b.lamps.length≤8) (hs:t.spans.length≤1000):ar GL (n+2) fm [bc b,bf H,eTn t] μ=.ok (bf (gp b.store b.lamps.length H t)) μ:=by
 rw[ao vf,run_eq rfl]
 obtain⟨ρ1,et⟩:=t9 (n:=n) (μ:=μ) b.lamps.length t.spans (by lia) (by lia)
 have kt:=c6 et (dk _) hr
 have kf:=bb (y9 (n:=n) (μ:=μ) H.2 t.poured) (dk _) rfl hr
 rw[An hH hp]at kf
 have cc:=comp_map (m:=.z) (μ:=μ) (φ:=ar GL (n+1)) (tg:=.many [0,1]) (cs:=.nil) (elt:=gy) (σ0:=[none,none]) (xs:=((List.range b.lamps.length).map fun(k:Nat)=>H.2.getD k 0+t.poured.getD k 0).zip ((List.range b.lamps.length).map fun(k:Nat)=>ai t.spans k)) (en:=fun p=>D.tup [.int p.1,.int p.2]) (g:=fun p=>D.int (p.1-p.2)) (by
  rintro⟨x,y⟩ _
  simp! only[j8,gy,lb])
 have e:(((List.range b.lamps.length).map fun(k:Nat)=>H.2.getD k 0+t.poured.getD k 0).zip ((List.range b.lamps.length).map fun(k:Nat)=>ai t.spans k)).map (fun p=>D.int (p.1-p.2))=(gp b.store b.lamps.length H t).2.map D.int:=by
  rw[show(fun p:Int×Int=>D.int (p.1-p.2))=D.int∘(fun p:Int×Int=>p.1-p.2)from rfl,←BC,An (L:=b.lamps.length) (by simp) (by simp)]
  congr 1
  refine DT fun k hk=>?_
  have hk:k<b.lamps.length:=by simpa using hk
  show((List.range b.lamps.length).map fun(k:Nat)=>H.2.getD k 0+t.poured.getD k 0).getD k 0-((List.range b.lamps.length).map fun(k:Nat)=>ai t.spans k).getD k 0=_
  rw[Am hk,Am hk]
 rw[e]at cc
 have kz:sj (cj ((List.range b.lamps.length).map fun(k:Nat)=>H.2.getD k 0+t.poured.getD k 0)) (cj ((List.range b.lamps.length).map fun(k:Nat)=>ai t.spans k)) μ=.ok (_,none) μ:=r9 (f:=D.int) (g:=D.int)
 have i0:ixD (bc b) (.int 0) μ=.ok (.int b.store) μ:=rfl
 have ln:btD .len .z [cj H.2] μ=.ok (.int b.lamps.length) μ:=by rw[Cc,hH]
 simp! only[D_held_behind,Ca,G8,sum_ints,ln,kt,kf,kz,cc,bt_tuple ax,i0]
 rfl
theorem Ss {α:Type} (xs:List α):btD .any .z [.lst ((xs.map fun _=>false).map D.bl)] μ=.ok (.bl false) μ:=by
 rw[bt_any ax (lz _)]
 congr 2
 induction xs with
 | nil=>rfl
 | cons x r ih=>simpa using ih
theorem Og {α:Type} (xs:List α):xs.map (fun _=>D.bl false)=(xs.map fun _=>false).map D.bl:=by rw[BC];rfl
theorem Jl (hr:ly μ) {b:Book} {i:Nat} {H:Int×List Int} {t:Tn} {d:Day} (hd:b.days[i]? = some d) (h:U6 b i H t d) (hL:b.lamps.length≤8):ar GL (n+3) ib [bc b,.int i,cj ((List.range b.lamps.length).map fun(k:Nat)=>H.2.getD k 0+t.poured.getD k 0),.tup (t.spans.map eSpan)] μ=.ok .non μ:=by
 rw[ao vg,run_eq rfl]
 have few:=h.few
 have ln:btD .len .z [cj ((List.range b.lamps.length).map fun(k:Nat)=>H.2.getD k 0+t.poured.getD k 0)] μ=.ok (.int b.lamps.length) μ:=by rw[Cc];simp
 have k1:=bb (yw (n:=n) hr (L:=d.length) (lamps:=b.lamps.length) h.nb fun s hs=>(h.good s hs).1) rfl rfl hr
 have c1:=comp_map (m:=.z) (μ:=μ) (φ:=ar GL (n+2)) (tg:=.many [2,3,4]) (cs:=.nil) (elt:=gz) (σ0:=[some (bc b),some (.int i),none,none,none]) (xs:=t.spans) (en:=eSpan) (g:=fun _=>D.bl false) (by
  intro s hs
  have g:=h.good s hs
  have gl:=g.1.lamp
  obtain⟨K,hK⟩:∃K:Nat,(K:Int)=s.lamp:=⟨s.lamp.toNat,by lia⟩
  have hK2:K<b.lamps.length:=by lia
  have kb:=bb (Dg (n:=n+1) (μ:=μ) (b:=b) (k:=K) (l:=b.lamps[K]) (AA hK2) (i:Int)) rfl rfl hr
  have na:(i:Int)∉b.lamps[K].away:=by
   have g2:=g.2
   rw[←hK,Do]at g2
   have:(b.lamps.map (·.away)).getD K []=b.lamps[K].away:=by simp[hK2]
   rw[this]at g2
   exact g2
  have bt:d6 (.many [2,3,4]) (eSpan s) [some (bc b),some (.int i),none,none,none]=some [some (bc b),some (.int i),some (.int K),some (.int s.start),some (.int s.fin)]:=by rw[hK];rfl
  simp! only[j8,bt,gz,kb,na])
 rw[Og]at c1
 obtain⟨ρ1,et⟩:=t9 (n:=n+1) (μ:=μ) b.lamps.length t.spans (by lia) (by lia)
 have kt:=c6 et (dk _) hr
 have c2:=comp_map (m:=.z) (μ:=μ) (φ:=ar GL (n+2)) (tg:=.many [0,1]) (cs:=.nil) (elt:=g0) (σ0:=[none,none]) (xs:=((List.range b.lamps.length).map fun(k:Nat)=>ai t.spans k).zip ((List.range b.lamps.length).map fun(k:Nat)=>H.2.getD k 0+t.poured.getD k 0)) (en:=fun p=>D.tup [.int p.1,.int p.2]) (g:=fun _=>D.bl false) (by
  rintro⟨x,y⟩ hp
  obtain⟨k,hk,e⟩:=CJ.mp hp
  have hk2:k<b.lamps.length:=by simpa using hk
  rw[List.getElem_zip]at e
  have e1:ai t.spans k=x:=by have:=congrArg Prod.fst e;simpa using this
  have e2:H.2.getD k 0+t.poured.getD k 0=y:=by have:=congrArg Prod.snd e;simpa using this
  have:=h.oil k hk2
  have nl:¬y<x:=by lia
  simp! only[j8,g0,lb,nl])
 rw[Og]at c2
 have kz:sj (cj ((List.range b.lamps.length).map fun(k:Nat)=>ai t.spans k)) (cj ((List.range b.lamps.length).map fun(k:Nat)=>H.2.getD k 0+t.poured.getD k 0)) μ=.ok (_,none) μ:=r9 (f:=D.int) (g:=D.int)
 obtain⟨ρ2,ed⟩:=N8 (n:=n+1) (μ:=μ) (L:=d.length) (lo:=0) (hi:=b.lamps.length) (c:=d.wanted) (w:=d.wanted) (fun s hs=>(h.good s hs).1) (by have:=h.len;lia) h.cov (by lia)
 have kd:=c6 ed rfl hr
 rw[decide_eq_true rfl]at kd
 have sq:kSeq (.tup (t.spans.map eSpan)) μ=.ok (t.spans.map eSpan,none) μ:=rfl
 simp! only[D_night_fault,Gr,rn hd,Cb,ln,k1,c1,Ss,kt,kz,c2,kd]
theorem Oh (hr:ly μ) {b:Book} {i:Nat} {H:Int×List Int} {t:Tn} {d:Day} (hd:b.days[i]? = some d) (h:U6 b i H t d) (hH:H.2.length=b.lamps.length) (hL1:1≤b.lamps.length) (hL:b.lamps.length≤8):ar GL (n+4) kh [bc b,.int i,bf H,eTn t] μ=.ok .non μ:=by
 rw[ao Aa,run_eq rfl]
 have kn:=bb (Jl (n:=n) hr hd h hL) rfl rfl hr
 have kf:=bb (y9 (n:=n+2) (μ:=μ) H.2 t.poured) (dk _) rfl hr
 rw[An hH h.pl]at kf
 obtain⟨mn,hmn,em⟩:∃mn:Int,0≤mn∧btD .min1 .z [cj t.poured] μ=.ok (.int mn) μ:=by
  have hpl:=h.pl
  have p0:=h.p0
  cases e:t.poured with
  | nil=>rw[e]at hpl;simp at hpl;lia
  | cons x r =>
   rw[e]at p0
   refine⟨Ej x r,?_,?_⟩
   ·rcases(zz r x).2.2 with q | q
    ·rw[q];exact p0 x AS
    ·exact p0 _ (AJ _ q)
   ·simp only[btD,jg,Pw,Mo,cj,de,HE,jf]
 have nm:¬mn<0:=by lia
 have ps:=h.ps
 have nps:¬H.1+t.taken+t.bought<t.poured.sum:=by lia
 have c1:=comp_map (m:=.z) (μ:=μ) (φ:=ar GL (n+3)) (tg:=.many [0,1]) (cs:=.nil) (elt:=ju) (σ0:=[none,none]) (xs:=((List.range b.lamps.length).map fun(k:Nat)=>H.2.getD k 0+t.poured.getD k 0).zip b.lamps) (en:=fun p=>D.tup [.int p.1,d7 p.2]) (g:=fun _=>D.bl false) (by
  rintro⟨x,l⟩ hp
  obtain⟨k,hk,e⟩:=CJ.mp hp
  have hk2:k<b.lamps.length:=by simpa using hk
  rw[List.getElem_zip]at e
  have e1:H.2.getD k 0+t.poured.getD k 0=x:=by have:=congrArg Prod.fst e;simpa using this
  have e2:b.lamps[k]=l:=congrArg Prod.snd e
  have ht:=h.tank k hk2
  have e3:(b.lamps.map (·.tank)).getD k 0=l.tank:=by rw[←e2];simp[hk2]
  rw[e3,e1]at ht
  have nl:¬l.tank<x:=by lia
  have il:∀ν:Sto,ixD (d7 l) (.int 0) ν=.ok (.int l.tank) ν:=fun _=>rfl
  simp! only[j8,ju,lb,il,nl])
 rw[Og]at c1
 have kz:sj (cj ((List.range b.lamps.length).map fun(k:Nat)=>H.2.getD k 0+t.poured.getD k 0)) (.tup (b.lamps.map d7)) μ=.ok (_,none) μ:=r9 (f:=D.int) (g:=d7)
 simp! only[D_day_fault,Gr,rn hd,Cb,Ca,G8,h.tk.1,h.tk.2,h.bt.1,h.bt.2,em,nm,sum_ints,nps,kf,yp,kz,c1,Ss,kn]
theorem sa (b:Book) (rs:List Tn) {i:Nat} {t:Tn} (ht:rs[i]? = some t):held b rs (i+1)=gp b.store b.lamps.length (held b rs i) t:=by
 unfold held
 rw[BZ,ht,GP]
 rfl
theorem oq (b:Book) (rs:List Tn) (i:Nat):(held b rs i).2.length=b.lamps.length:=B8 (by simp) _
theorem Jm (hr:ly μ) {b:Book} {rs:List Tn} (hk:Kept b rs):ar GL (n+5) vd [bc b,.tup (rs.map eTn)] μ=.ok .non μ:=by
 rw[ao N0,run_eq rfl]
 have k0:=bb (B9 (n:=n+3) (μ:=μ) b) (j7 _) rfl hr
 have ke:kEnum (.tup (rs.map eTn)) μ=.ok (((List.range rs.length).zip rs).map (fun p:Nat×Tn=>D.tup [.int p.1,eTn p.2]),none) μ:=by
  simp only[kEnum,cu,AG]
  congr 2
  apply BI
  intro i
  by_cases hi:i<rs.length
  ·simp[CN,hi]
  ·simp[hi]
 obtain⟨σ',e,v3,v4,v5,rfl⟩:=Ae (φ:=ar GL (n+4)) (μ:=μ) (tg:=.many [3,4]) (b:=oj) (xs:=(List.range rs.length).zip rs) (en:=fun p:Nat×Tn=>D.tup [.int p.1,eTn p.2])
  (σ:=[some (bc b),some (.tup (rs.map eTn)),some (bf (held b rs 0)),none,none,none])
  (fun j σ=>∃v3 v4 v5,σ=[some (bc b),some (.tup (rs.map eTn)),some (bf (held b rs j)),v3,v4,v5]) ⟨none,none,none,rfl⟩ (by
   rintro j ⟨k,t⟩ σ hj ⟨v3,v4,v5,rfl⟩
   rw[CN]at hj
   obtain⟨h1,h2⟩:=hj
   have hk2:=o4 h1
   obtain⟨rfl,hk3⟩:=hk2
   have h2:rs[k]? = some t:=h2
   have hdl:k<b.days.length:=by rw[←hk.same];exact hk3
   have hd:b.days[k]? = some b.days[k]:=AA hdl
   have D1:=hk.day k t _ h2 hd
   have kd:=bb (Oh (n:=n) hr hd D1 (oq b rs k) hk.lamps.1 hk.lamps.2) rfl rfl hr
   have kb:=bb (za (n:=n+2) hr b (oq b rs k) D1.pl hk.lamps.2 (CL D1.few (by decide))) (j7 _) rfl hr
   rw[←sa b rs h2]at kb
   have nn:cpD .isnot .non .non μ=.ok (.bl false) μ:=rfl
   refine⟨_,?_,some (.int k),some (eTn t),some .non,rfl⟩
   simp! only[fLp,oj,lb,kd,nn,kb])
 have e0:bf (b.oil,b.lamps.map (·.oil))=bf (held b rs 0):=rfl
 rw[e0]at k0
 simp! only[D_fault,k0,ke,e]
theorem Jn (hr:ly μ) {b:Book} {rs:List Tn} (hk:Kept b rs):ar GL (n+6) ve [bc b,.tup (rs.map eTn)] μ=.ok (.bl true) μ:=by
 rw[ao N1,run_eq rfl]
 have k0:=bb (Jm (n:=n) hr hk) rfl rfl hr
 have nn:cpD .is .non .non μ=.ok (.bl true) μ:=rfl
 simp! only[D_keeps,k0,nn]
noncomputable def evs (b:Book) (rs:List Tn):List (Int×List Int):=(List.range rs.length).map fun i=>held b rs (i+1)
theorem se (hr:ly μ) {b:Book} {rs:List Tn} (hk:Kept b rs):ar GL (n+3) j4 [bc b,.tup (rs.map eTn)] μ=.ok (.lst ((evs b rs).map bf)) (μ++[.dead]):=by
 rw[ao C7,run_eq rfl]
 have k0:=bb (B9 (n:=n+1) (μ:=μ) b) (j7 _) rfl hr
 have e0:bf (b.oil,b.lamps.map (·.oil))=bf (held b rs 0):=rfl
 rw[e0]at k0
 obtain⟨σ',μ',e,v4,rfl,rfl⟩:=fj (φ:=ar GL (n+2)) (μ:=μ++[.l []]) (tg:=.one 4) (b:=ki) (xs:=rs) (en:=eTn)
  (σ:=[some (bc b),some (.tup (rs.map eTn)),some (bf (held b rs 0)),some (.loc μ.length),none])
  (fun j σ μ'=>∃v4,σ=[some (bc b),some (.tup (rs.map eTn)),some (bf (held b rs j)),some (.loc μ.length),v4]∧μ'=μ++[.l (((List.range j).map fun i=>held b rs (i+1)).map bf)]) ⟨none,rfl,rfl⟩ (by
   rintro j t σ μ' hj ⟨v4,rfl,rfl⟩
   have hk3:j<rs.length:=(AE.mp hj).1
   have hdl:j<b.days.length:=by rw[←hk.same];exact hk3
   have hd:b.days[j]? = some b.days[j]:=AA hdl
   have D1:=hk.day j t _ hj hd
   have H:ly (μ++[.l (((List.range j).map fun i=>held b rs (i+1)).map bf)]):=Gw hr _
   have kb:=bb (za (n:=n) H b (oq b rs j) D1.pl hk.lamps.2 (CL D1.few (by decide))) (j7 _) rfl H
   rw[←sa b rs hj]at kb
   have few:=hk.few
   have ap:mtD .append (.loc μ.length) [bf (held b rs (j+1))] (μ++[.l (((List.range j).map fun i=>held b rs (i+1)).map bf)])=.ok .non (μ++[.l (((List.range (j+1)).map fun i=>held b rs (i+1)).map bf)]):=by
    rw[t8 (j7 _) (by simp;lia),List.range_succ,BR,BR];rfl
   refine⟨_,_,?_,some (eTn t),rfl,rfl⟩
   simp! only[fLp,ki,kb,oz,ap])
 have m0:mkL .l [] μ=.ok (.loc μ.length) (μ++[.l []]):=Gu rfl
 have fz:evE (ar GL (n+2)) (.frz 3) [some (bc b),some (.tup (rs.map eTn)),some (bf (held b rs rs.length)),some (.loc μ.length),v4] (μ++[.l (((List.range rs.length).map fun i=>held b rs (i+1)).map bf)])=.ok (.lst ((evs b rs).map bf)) (μ++[.dead]):=by simp[evE,evs]
 simp! only[D_evenings,k0,m0,e,fz]
end
end Lr
namespace Lr
open Lp
open PySem
noncomputable def zb (L:Nat) (f:Nat→Int):Int:=((List.range L).map f).sum
theorem gh (L:Nat) (f:Nat→Int):zb (L+1) f=zb L f+f L:=by simp[zb,List.range_succ,CS]
theorem Cd:∀(L:Nat) (f g h:Nat→Int),zb L (fun k=>f k+g k-h k)=zb L f+zb L g-zb L h
 | 0,_,_,_=>rfl
 | L+1,f,g,h=>by rw[gh,gh,gh,gh,Cd L];lia
theorem Ce:∀(L:Nat) (f g:Nat→Int),zb L (fun k=>f k+g k)=zb L f+zb L g
 | 0,_,_=>rfl
 | L+1,f,g=>by rw[gh,gh,gh,Ce L];lia
theorem zc:∀(L:Nat),zb L (fun _=>0)=0
 | 0=>rfl
 | L+1=>by rw[gh,zc L];rfl
theorem Cf (x a:Int):∀(L:Nat),0≤a→zb L (fun k=>if a=(k:Int)then x else 0)=if a<L then x else 0
 | 0,h=>by rw[if_neg (by lia)];rfl
 | L+1,h=>by
  rw[gh,Cf x a L h]
  by_cases h1:a<L
  ·rw[if_pos h1,if_neg (by lia),if_pos (by lia)];lia
  ·by_cases h2:a=(L:Int)
   ·rw[if_neg h1,if_pos h2,if_pos (by lia)];lia
   ·rw[if_neg h1,if_neg h2,if_neg (by lia)];lia
theorem Cg {L:Nat} {xs:List Int} (h:xs.length=L):xs.sum=zb L fun k=>xs.getD k 0:=by
 unfold zb
 congr 1
 apply BI
 intro i
 by_cases hi:i<L
 ·simp[hi,show i<xs.length by lia]
 ·rw[AQ (by lia),AQ (by simp;lia)]
theorem sf {L:Nat}:∀(ss:List Span),(∀s∈ss,0≤s.lamp∧s.lamp<L)→zb L (fun k=>ai ss k)=(ss.map fun s=>s.fin-s.start).sum
 | [],_=>zc L
 | s::r,h=>by
  have hs:=h s AS
  have e:(fun k:Nat=>ai (s::r) k)=fun k:Nat=>(if s.lamp=(k:Int)then s.fin-s.start else 0)+ai r k:=by funext k;simp[ai]
  rw[e,Ce,Cf _ _ L hs.1,if_pos hs.2,sf r fun x hx=>h x (AJ _ hx),AR,DG]
noncomputable def ij (b:Book) (H:Int×List Int) (m:Nat):List Lamp:=(List.range b.lamps.length).map fun k=>⟨(b.lamps.getD k ⟨0,0,[]⟩).tank,H.2.getD k 0,((b.lamps.getD k ⟨0,0,[]⟩).away.filter fun x=>decide ((m:Int)≤x)).map fun(x:Int)=>x-(m:Int)⟩
noncomputable def Ao (b:Book) (H:Int×List Int) (m:Nat):Book:=⟨b.store,H.1,ij b H m,b.days.drop m⟩
theorem lp (b:Book) (H:Int×List Int) (m:Nat):(ij b H m).length=b.lamps.length:=by simp[ij]
theorem Jo {b:Book} {H:Int×List Int} {m:Nat} (h:H.2.length=b.lamps.length):(ij b H m).map (·.oil)=H.2:=by
 unfold ij
 rw[BC]
 apply BI
 intro i
 by_cases hi:i<b.lamps.length
 ·simp[hi,show i<H.2.length by lia]
 ·rw[AQ (by simp;lia),AQ (by lia)]
theorem G9 (b:Book) (H:Int×List Int) (m:Nat):(ij b H m).map (·.tank)=b.lamps.map (·.tank):=by
 unfold ij
 rw[BC]
 apply BI
 intro i
 by_cases hi:i<b.lamps.length
 ·simp[hi]
 ·rw[AQ (by simp;lia),AQ (by simp;lia)]
theorem zd (b:Book) (rs:List Tn) (m i:Nat):held (Ao b (held b rs m) m) (rs.drop m) i=held b rs (m+i):=by
 unfold held
 show((rs.drop m).take i).foldl (gp b.store (ij b (held b rs m) m).length) ((held b rs m).1,(ij b (held b rs m) m).map (·.oil))=_
 rw[lp,Jo (oq b rs m),List.take_add,GP]
 rfl
theorem Ha {b:Book} {rs:List Tn} (hk:Kept b rs) {m:Nat} (hm:m<rs.length):Kept (Ao b (held b rs m) m) (rs.drop m):=by
 refine⟨by show 1≤(ij b (held b rs m) m).length∧(ij b (held b rs m) m).length≤8;rw[lp];exact hk.lamps,?_,?_,?_,fun i t d ht hd=>?_⟩
 ·show(rs.drop m).length=(b.days.drop m).length
  rw[DH,DH,hk.same]
 ·rw[DH];lia
 ·rw[DH];have:=hk.few;lia
 ·rw[GG]at ht
  have hd:b.days[m+i]? = some d:=by
   have:(b.days.drop m)[i]? = some d:=hd
   rwa [GG]at this
  have q:=hk.day (m+i) t d ht hd
  rw[zd]
  show DayS (ij b (held b rs m) m).length ((ij b (held b rs m) m).map (·.tank)) ((ij b (held b rs m) m).map (·.away)) i (held b rs (m+i)) t d
  rw[lp,G9]
  refine⟨q.tk,q.bt,q.pl,q.p0,q.ps,q.tank,q.len,fun s hs=>⟨(q.good s hs).1,fun z=>?_⟩,q.nb,q.few,q.cov,q.oil,q.price⟩
  have gl:=(q.good s hs).1.lamp
  have hK:s.lamp.toNat<b.lamps.length:=by lia
  have e1:((ij b (held b rs m) m).map (·.away)).getD s.lamp.toNat []=((b.lamps.getD s.lamp.toNat ⟨0,0,[]⟩).away.filter fun x=>decide ((m:Int)≤x)).map fun(x:Int)=>x-(m:Int):=by
   simp[ij,hK]
  rw[e1]at z
  obtain⟨x,hx,e⟩:=AZ.mp z
  have hx1:=(ES.mp hx).1
  apply(q.good s hs).2
  have e2:(b.lamps.map (·.away)).getD s.lamp.toNat []=(b.lamps.getD s.lamp.toNat ⟨0,0,[]⟩).away:=by simp[hK]
  rw[e2,show((m+i:Nat):Int)=x by lia]
  exact hx1
theorem Jp {b:Book} {rs:List Tn} {m:Nat} (hm:m<rs.length):evs (Ao b (held b rs m) m) (rs.drop m)=(evs b rs).drop m:=by
 unfold evs
 apply BI
 intro i
 rw[GG]
 by_cases hi:m+i<rs.length
 ·have h1:i<(rs.drop m).length:=by rw[DH];lia
  rw[AX,AX,DU h1,DU hi]
  show some (held _ _ (i+1))=some (held b rs (m+i+1))
  rw[zd];rfl
 ·rw[AQ (by simp;lia),AQ (by simp;lia)]
theorem ze {α β:Type}:∀(m:Nat) (xs:List α) (ys:List β),(xs.drop m).zip (ys.drop m)=(xs.zip ys).drop m
 | 0,_,_=>rfl
 | _+1,[],_=>by simp
 | _+1,_::_,[]=>by simp
 | m+1,_::xs,_::ys=>by simpa using ze m xs ys
theorem Dq (rs:List Tn) (ds:List Day) (m:Nat):Ak (rs.drop m) (ds.drop m)+(((rs.zip ds).map fun p=>p.1.bought*p.2.price).take m).sum=Ak rs ds:=by
 unfold Ak
 rw[ze,FO,Int.add_comm,←CS,HY]
theorem Jq (a c:List Tn):ir (a++c)=ir a++ir c:=by simp[ir]
section
variable {n : Nat} {μ ρ : Sto} {φ : Phi}
theorem Oi {b:Book} {H:Int×List Int} (m:Nat) (hH:H.2.length=b.lamps.length) (hL:b.lamps.length≤8):∃ρ,ar GL (n+1) lu [bc b,bf H,.int m] μ=.ok (bc (Ao b H m)) (μ++ρ):=by
 rw[ao C8,run_eq rfl]
 obtain⟨σ',μ',e,v4,v5,rfl,rfl⟩:=fj (φ:=ar GL n) (μ:=μ++[.l []]) (tg:=.one 4) (b:=kj) (xs:=List.range b.lamps.length) (en:=fun(k:Nat)=>D.int k)
  (σ:=[some (bc b),some (bf H),some (.int m),some (.loc μ.length),none,none])
  (fun j σ μ'=>∃v4 v5,σ=[some (bc b),some (bf H),some (.int m),some (.loc μ.length),v4,v5]∧μ'=μ++[.l (((ij b H m).take j).map d7)]) ⟨none,none,rfl,rfl⟩ (by
   rintro j a σ μ' ha ⟨v4,v5,rfl,rfl⟩
   obtain⟨rfl,hk⟩:=o4 ha
   have el:b.lamps[a]? = some (b.lamps.getD a ⟨0,0,[]⟩):=by simp[hk]
   have e1:(ij b H m).take (a+1)=(ij b H m).take a++[⟨(b.lamps.getD a ⟨0,0,[]⟩).tank,H.2.getD a 0,((b.lamps.getD a ⟨0,0,[]⟩).away.filter fun x=>decide ((m:Int)≤x)).map fun(x:Int)=>x-(m:Int)⟩]:=by
    rw[BZ]
    congr 1
    simp[ij,hk]
   generalize b.lamps.getD a ⟨0,0,[]⟩=l at el e1
   have c1:=mv (m:=.z) (μ:=μ++[.l (((ij b H m).take a).map d7)]) (φ:=ar GL n) (tg:=.one 1) (cs:=ie) (elt:=ig) (σ0:=[some (.int m),none]) (xs:=l.away) (en:=D.int) (g:=fun x=>D.int (x-m)) (p:=fun x=>decide ((m:Int)≤x)) (by
    intro x _
    cases q:decide ((m:Int)≤x)with
    | true=>simp! only[j8,ie,ig,q,if_true]
    | false=>simp! only[j8,ie,ig,q,BD,if_false])
   have e2:(l.away.filter fun x=>decide ((m:Int)≤x)).map (fun x=>D.int (x-m))=((l.away.filter fun x=>decide ((m:Int)≤x)).map fun(x:Int)=>x-(m:Int)).map D.int:=by rw[BC];rfl
   rw[e2]at c1
   generalize ((l.away.filter fun x=>decide ((m:Int)≤x)).map fun(x:Int)=>x-(m:Int))=aw at c1 e1
   have i1:∀ν:Sto,ixD (bf H) (.int 1) ν=.ok (cj H.2) ν:=fun _=>rfl
   have i2:∀ν:Sto,ixD (cj H.2) (.int a) ν=.ok (.int (H.2.getD a 0)) ν:=fun ν=>o5 gg (by lia)
   have i3:∀ν:Sto,ixD (d7 l) (.int 0) ν=.ok (.int l.tank) ν:=fun _=>rfl
   have sq:∀ν:Sto,kSeq (cj l.away) ν=.ok (l.away.map D.int,none) ν:=fun _=>rfl
   have ap:mtD .append (.loc μ.length) [.tup [.int l.tank,.int (H.2.getD a 0),.tup (aw.map D.int)]] (μ++[.l (((ij b H m).take a).map d7)])=.ok .non (μ++[.l (((ij b H m).take (a+1)).map d7)]):=by
    rw[e1,BR]
    exact t8 (d:=d7 ⟨l.tank,H.2.getD a 0,aw⟩) (nr _) (by rw[AG,CT];lia)
   refine⟨_,_,?_,some (.int a),some (.tup (aw.map D.int)),rfl,rfl⟩
   simp! only[fLp,kj,yp,rn el,U3,sq,c1,bt_tuple ax,i1,i2,i3,oz,ap])
 rw[DN,BF (by rw[lp];exact AF _)]at e
 have m0:mkL .l [] μ=.ok (.loc μ.length) (μ++[.l []]):=Gu rfl
 have ln:∀ν:Sto,btD .len .z [.tup (b.lamps.map d7)] ν=.ok (.int b.lamps.length) ν:=fun ν=>by rw[bt_len gg,AG]
 have i0:∀ν:Sto,ixD (bc b) (.int 0) ν=.ok (.int b.store) ν:=fun _=>rfl
 have h0:∀ν:Sto,ixD (bf H) (.int 0) ν=.ok (.int H.1) ν:=fun _=>rfl
 have sd:∀ν:Sto,slD .z (.tup (b.days.map jk)) (some (m:Int)) none ν=.ok (.tup ((b.days.drop m).map jk)) ν:=fun ν=>by rw[Ag,FO]
 refine⟨[.l ((ij b H m).map d7)],?_⟩
 simp! only[D_law_rest,m0,yp,ln,dq (show b.lamps.length≤1000000 by lia),e,i0,h0,bt_tuple qa,Gr,sd]
 rfl
theorem Oj {b:Book} {rs:List Tn} (hk:Kept b rs):ar GL (n+1) ft [bc b,.tup (rs.map eTn),.lst ((evs b rs).map bf)] μ=.ok (.bl true) μ:=by
 rw[ao rl,run_eq rfl]
 have c0:=comp_map (m:=.z) (μ:=μ) (φ:=ar GL n) (tg:=.one 0) (cs:=.nil) (elt:=f9) (σ0:=[none]) (xs:=b.lamps) (en:=d7) (g:=fun l=>D.int l.oil) (by
  intro l _
  have i1:∀ν:Sto,ixD (d7 l) (.int 1) ν=.ok (.int l.oil) ν:=fun _=>rfl
  simp! only[j8,f9,i1])
 have e0:b.lamps.map (fun l=>D.int l.oil)=(b.lamps.map (·.oil)).map D.int:=by rw[BC];rfl
 rw[e0]at c0
 have i1:∀ν:Sto,ixD (bc b) (.int 1) ν=.ok (.int b.oil) ν:=fun _=>rfl
 have ib0:∀ν:Sto,ixD (bc b) (.int 0) ν=.ok (.int b.store) ν:=fun _=>rfl
 have hlr:∀ν:Sto,btD .len .z [.tup (rs.map eTn)] ν=.ok (.int rs.length) ν:=fun ν=>by rw[bt_len gg,AG]
 have sl:∀(xs:List Int) (ν:Sto),btD .sum .z [.lst (xs.map D.int)] ν=.ok (.int xs.sum) ν:=fun xs ν=>bt_sum ax (jf _)
 obtain⟨σ',e,v5,v6,v7,v8,v9,v10,v11,v12,v13,rfl⟩:=Ae (φ:=ar GL n) (μ:=μ) (tg:=.one 5) (b:=gc) (xs:=List.range rs.length) (en:=fun(k:Nat)=>D.int k)
  (σ:=[some (bc b),some (.tup (rs.map eTn)),some (.lst ((evs b rs).map bf)),some (.int ((held b rs 0).1+(held b rs 0).2.sum)),some (.int (held b rs 0).1),none,none,none,none,none,none,none,none,none])
  (fun j σ=>∃v5 v6 v7 v8 v9 v10 v11 v12 v13,σ=[some (bc b),some (.tup (rs.map eTn)),some (.lst ((evs b rs).map bf)),some (.int ((held b rs j).1+(held b rs j).2.sum)),some (.int (held b rs j).1),v5,v6,v7,v8,v9,v10,v11,v12,v13]) ⟨none,none,none,none,none,none,none,none,none,rfl⟩ (by
   rintro j a σ ha ⟨v5,v6,v7,v8,v9,v10,v11,v12,v13,rfl⟩
   obtain⟨rfl,hk3⟩:=o4 ha
   have et:rs[a]? = some rs[a]:=AA hk3
   have hdl:a<b.days.length:=by rw[←hk.same];exact hk3
   have D1:=hk.day a rs[a] b.days[a] et (AA hdl)
   have hs:=sa b rs et
   have hlen:=oq b rs a
   generalize rs[a]=t at et D1 hs
   have ee:∀ν:Sto,ixD (.lst ((evs b rs).map bf)) (.int a) ν=.ok (bf (held b rs (a+1))) ν:=fun ν=>Ad (by unfold evs;rw[AX,DU hk3];rfl)
   have h0:∀(H:Int×List Int) (ν:Sto),ixD (bf H) (.int 0) ν=.ok (.int H.1) ν:=fun _ _=>rfl
   have h1:∀(H:Int×List Int) (ν:Sto),ixD (bf H) (.int 1) ν=.ok (cj H.2) ν:=fun _ _=>rfl
   have c1:=comp_map (m:=.z) (μ:=μ) (φ:=ar GL n) (tg:=.one 0) (cs:=.nil) (elt:=gb) (σ0:=[none]) (xs:=t.spans) (en:=eSpan) (g:=fun s=>D.int (s.fin-s.start)) (by
    intro s _
    simp! only[j8,gb,Si,Sh])
   have e1:t.spans.map (fun s=>D.int (s.fin-s.start))=(t.spans.map fun s=>s.fin-s.start).map D.int:=by rw[BC];rfl
   rw[e1]at c1
   have tot:zb b.lamps.length (fun k=>ai t.spans k)=(t.spans.map fun s=>s.fin-s.start).sum:=sf t.spans fun s q=>(D1.good s q).1.lamp
   have sums:(held b rs (a+1)).2.sum=(held b rs a).2.sum+t.poured.sum-(t.spans.map fun s=>s.fin-s.start).sum:=by
    rw[hs,←tot,Cg hlen,Cg D1.pl]
    show zb b.lamps.length (fun k=>(held b rs a).2.getD k 0+t.poured.getD k 0-ai t.spans k)=_
    rw[Cd]
   have fst:(held b rs (a+1)).1=min ((held b rs a).1+t.taken+t.bought-t.poured.sum) b.store:=by rw[hs];rfl
   have eq:decide ((held b rs a).1+(held b rs a).2.sum+t.taken+t.bought=(held b rs (a+1)).1+(held b rs (a+1)).2.sum+(t.spans.map fun s=>s.fin-s.start).sum+max 0 ((held b rs a).1+t.taken+t.bought-t.poured.sum-b.store))=true:=by
    rw[sums,fst]
    exact decide_eq_true (by lia)
   refine⟨_,?_,some (.int a),some (.int t.taken),some (.int t.bought),some (cj t.poured),some (.tup (t.spans.map eSpan)),some (.int (t.spans.map fun s=>s.fin-s.start).sum),some (.int ((held b rs a).1+t.taken+t.bought-t.poured.sum)),some (.int (max 0 ((held b rs a).1+t.taken+t.bought-t.poured.sum-b.store))),some (.int ((held b rs (a+1)).1+(held b rs (a+1)).2.sum)),rfl⟩
   simp! only[fLp,gc,rn et,G8,c1,sl,sum_ints,ib0,ee,h0,h1,eq])
 have z0:held b rs 0=(b.oil,b.lamps.map (·.oil)):=rfl
 rw[z0]at e
 simp! only[D_law_days_even,i1,yp,c0,sl,hlr,dq (show rs.length≤1000000 by have:=hk.few;lia),e]
end
end Lr
namespace Lr
open Lp
open PySem
section
variable {n : Nat} {μ ρ : Sto} {φ : Phi}
theorem Ol {o:List Int} {k:Nat} {v:Int} (hk:k<o.length):Az (.loc μ.length) (.int k) (.int v) (μ++[.l (o.map D.int)])=.ok () (μ++[.l ((o.set k v).map D.int)]):=by
 have e1:ixN (o.map D.int).length (k:Int)=some k:=Ls (by rw[AG];exact hk)
 simp only[Az,jz,iu,e1,fits,p7,if_true,putL,Res.ba,nu,List.map_set]
noncomputable def l9 (rs:List Tn) (ds:List Day):List Int:=(rs.zip ds).map fun p=>p.1.bought*p.2.price
theorem Jr {rs:List Tn} {ds:List Day} {k:Nat} (h1:k<rs.length) (h2:k<ds.length):(l9 rs ds).getD k 0=rs[k].bought*ds[k].price:=by
 have hz:(rs.zip ds)[k]? = some (rs[k],ds[k]):=by
  rw[CN]
  exact⟨AA h1,AA h2⟩
 simp[l9,hz]
theorem Js {xs:List Int} {m:Nat} (h:m≤xs.length):(List.range m).map (fun k=>xs.getD k 0)=xs.take m:=by
 apply BI
 intro i
 by_cases hi:i<m
 ·simp[hi,show i<xs.length by lia]
 ·rw[AQ (by simp;lia),AQ (by simp;lia)]
theorem Hb {N:Nat} (h:N≤1000000):Be (.int 1) (.int N) μ=.ok ((List.range (N-1)).map (fun(k:Nat)=>D.int (1+k)),none) μ:=by
 have:=k6
 simp only[Be]
 rw[if_pos ⟨by lia,by lia,by lia,by lia,by lia⟩,show((N:Int)-1).toNat=N-1 by lia]
theorem U7 (ns:List Int):∃μ',ar GL 8 mq [.lst (ns.map D.int)] []=.ok (.bl true) μ':=by
 rw[ao Ab,run_eq rfl]
 obtain⟨b,rs,cs,ρ,hk,ek⟩:=Jk (n:=3) ns
 have pk:(D.tup [bc b,.tup (rs.map eTn)]).pure=true:=by
  have p1:D.pureN 7 (bc b)=true:=by
   simp only[bc,cq,BB,DD,DR,EI,cy,EE,BA,AM]
   exact⟨fun l _=>nr l,fun l _=>Bp l⟩
  have p2:D.pureN 7 (.tup (rs.map eTn))=true:=by
   rw[cq,AM];intro x hx;obtain⟨i,_,rfl⟩:=AZ.mp hx;exact G0 i
  rw[D.pure,cq]
  simp only[BB,p1,p2,DD,GR]
 have kk:=r8 (μ':=[Lf cs]) ek rfl pk rfl
 have phs:∀es:List (Int×List Int),(D.lst (es.map bf)).pure=true:=fun es=>by
  rw[D.pure,lx,AM];intro x hx;obtain⟨i,_,rfl⟩:=AZ.mp hx;exact j7 i
 have ke:=c6 (se (n:=4) (yx (cs:=cs)) hk) (phs _) yx
 have kd:=bb (Oj (n:=6) (μ:=[Lf cs]) hk) rfl rfl yx
 have hsame:=hk.same
 have hfew:=hk.few
 have hL:=hk.lamps
 have hpl:(l9 rs b.days).length=rs.length:=by simp[l9,hsame]
 have hdo:∀d∈b.days,0≤d.price∧d.price≤10 ^ 15:=fun d hd=>by
  obtain⟨i,hi,rfl⟩:=CJ.mp hd
  have hi2:i<rs.length:=by lia
  exact(hk.day i rs[i] b.days[i] (AA hi2) (AA hi)).price
 have hsp:∀t∈rs,(∀s∈t.spans,0≤s.lamp∧s.lamp<b.lamps.length)∧t.spans.length≤16:=fun t ht=>by
  obtain⟨i,hi,rfl⟩:=CJ.mp ht
  have hi2:i<b.days.length:=by lia
  have q:=hk.day i rs[i] b.days[i] (AA hi) (AA hi2)
  exact⟨fun s hs=>(q.good s hs).1.lamp,q.few⟩
 have inner:∀(μ:Sto) (ss0:List Span) (t:Tn) (v4 v5 v6 v8 v9 v10 v11 v12:Option D),t∈rs→∃w9 w10 w11,Dd (ar GL 7) (.many [9,10,11]) gr [some (.lst (ns.map D.int)),some (bc b),some (.tup (rs.map eTn)),some (.lst ((evs b rs).map bf)),v4,v5,v6,some (.loc μ.length),v8,v9,v10,v11,v12] (t.spans.map eSpan,none) (μ++[.l ((TK b.lamps.length ss0).map D.int)]) =
   .ok (.nx [some (.lst (ns.map D.int)),some (bc b),some (.tup (rs.map eTn)),some (.lst ((evs b rs).map bf)),v4,v5,v6,some (.loc μ.length),v8,w9,w10,w11,v12]) (μ++[.l ((TK b.lamps.length (ss0++t.spans)).map D.int)]):=by
  intro μ ss0 t v4 v5 v6 v8 v9 v10 v11 v12 ht
  obtain⟨σ',μ',e,w9,w10,w11,rfl,rfl⟩:=fj (φ:=ar GL 7) (μ:=μ++[.l ((TK b.lamps.length ss0).map D.int)]) (tg:=.many [9,10,11]) (b:=gr) (xs:=t.spans) (en:=eSpan)
   (σ:=[some (.lst (ns.map D.int)),some (bc b),some (.tup (rs.map eTn)),some (.lst ((evs b rs).map bf)),v4,v5,v6,some (.loc μ.length),v8,v9,v10,v11,v12])
   (fun j σ μ'=>∃w9 w10 w11,σ=[some (.lst (ns.map D.int)),some (bc b),some (.tup (rs.map eTn)),some (.lst ((evs b rs).map bf)),v4,v5,v6,some (.loc μ.length),v8,w9,w10,w11,v12]∧μ'=μ++[.l ((TK b.lamps.length (ss0++t.spans.take j)).map D.int)])
   ⟨v9,v10,v11,rfl,by simp⟩ (by
    rintro j s σ μ' hs ⟨w9,w10,w11,rfl,rfl⟩
    have hs2:=(hsp t ht).1 s (CB hs)
    obtain⟨K,hK⟩:∃K:Nat,(K:Int)=s.lamp:=⟨s.lamp.toNat,by lia⟩
    have hK2:K<b.lamps.length:=by lia
    have i0:ixD (.loc μ.length) (.int K) (μ++[.l ((TK b.lamps.length (ss0++t.spans.take j)).map D.int)])=.ok (.int ((TK b.lamps.length (ss0++t.spans.take j)).getD K 0)) (μ++[.l ((TK b.lamps.length (ss0++t.spans.take j)).map D.int)]):=o5 qa (by rw[ub];exact hK2)
    have e1:ss0++t.spans.take (j+1)=ss0++t.spans.take j++[s]:=by rw[BZ,hs,FE];rfl
    have bt:∀σ:Sl,d6 (.many [9,10,11]) (eSpan s) σ=some (((σ.set 9 (some (.int K))).set 10 (some (.int s.start))).set 11 (some (.int s.fin))):=fun σ=>by rw[hK];rfl
    refine⟨_,_,?_,some (.int K),some (.int s.start),some (.int s.fin),rfl,rfl⟩
    rw[e1,←Od b.lamps.length (ss0++t.spans.take j) s hK hK2]
    simp! only[fLp,gr,bt,i0,Ol (show K<(TK b.lamps.length (ss0++t.spans.take j)).length by rw[ub];exact hK2)])
  rw[BF (AF _)]at e
  exact⟨w9,w10,w11,e⟩
 have parts:∀(μ:Sto) (m:Nat) (v4 v5 v6 v8 v9 v10 v11 v12:Option D),∃w8 w9 w10 w11,Dd (ar GL 7) (.one 8) gs [some (.lst (ns.map D.int)),some (bc b),some (.tup (rs.map eTn)),some (.lst ((evs b rs).map bf)),v4,v5,v6,some (.loc μ.length),v8,v9,v10,v11,v12] ((rs.take m).map eTn,none) (μ++[.l ((TK b.lamps.length []).map D.int)]) =
   .ok (.nx [some (.lst (ns.map D.int)),some (bc b),some (.tup (rs.map eTn)),some (.lst ((evs b rs).map bf)),v4,v5,v6,some (.loc μ.length),w8,w9,w10,w11,v12]) (μ++[.l ((TK b.lamps.length (ir (rs.take m))).map D.int)]):=by
  intro μ m v4 v5 v6 v8 v9 v10 v11 v12
  obtain⟨σ',μ',e,w8,w9,w10,w11,rfl,rfl⟩:=fj (φ:=ar GL 7) (μ:=μ++[.l ((TK b.lamps.length []).map D.int)]) (tg:=.one 8) (b:=gs) (xs:=rs.take m) (en:=eTn)
   (σ:=[some (.lst (ns.map D.int)),some (bc b),some (.tup (rs.map eTn)),some (.lst ((evs b rs).map bf)),v4,v5,v6,some (.loc μ.length),v8,v9,v10,v11,v12])
   (fun j σ μ'=>∃w8 w9 w10 w11,σ=[some (.lst (ns.map D.int)),some (bc b),some (.tup (rs.map eTn)),some (.lst ((evs b rs).map bf)),v4,v5,v6,some (.loc μ.length),w8,w9,w10,w11,v12]∧μ'=μ++[.l ((TK b.lamps.length (ir ((rs.take m).take j))).map D.int)])
   ⟨v8,v9,v10,v11,rfl,rfl⟩ (by
    rintro j t σ μ' ht ⟨w8,w9,w10,w11,rfl,rfl⟩
    have htm:t∈rs:=List.mem_of_mem_take (CB ht)
    have e1:ir ((rs.take m).take (j+1))=ir ((rs.take m).take j)++t.spans:=by
     rw[BZ,ht]
     exact y0 _ _
    obtain⟨x9,x10,x11,ei⟩:=inner μ (ir ((rs.take m).take j)) t v4 v5 v6 (some (eTn t)) w9 w10 w11 v12 htm
    refine⟨_,_,?_,some (eTn t),x9,x10,x11,rfl,rfl⟩
    rw[e1]
    simp! only[fLp,gs,So,ei])
  rw[BF (AF _)]at e
  exact⟨w8,w9,w10,w11,e⟩
 obtain⟨σ',μ',e,v4,v5,v6,v7,v8,v9,v10,v11,v12,rfl,hsh⟩:=fj (φ:=ar GL 7) (μ:=[Lf cs]) (tg:=.one 4) (b:=jy) (xs:=List.range (rs.length-1)) (en:=fun(k:Nat)=>D.int (1+k))
  (σ:=[some (.lst (ns.map D.int)),some (bc b),some (.tup (rs.map eTn)),some (.lst ((evs b rs).map bf)),none,none,none,none,none,none,none,none,none])
  (fun _ σ μ'=>∃v4 v5 v6 v7 v8 v9 v10 v11 v12,σ=[some (.lst (ns.map D.int)),some (bc b),some (.tup (rs.map eTn)),some (.lst ((evs b rs).map bf)),v4,v5,v6,v7,v8,v9,v10,v11,v12]∧ly μ') ⟨none,none,none,none,none,none,none,none,none,rfl,yx⟩ (by
   rintro j a σ μ ha ⟨v4,v5,v6,v7,v8,v9,v10,v11,v12,rfl,hr⟩
   obtain⟨rfl,hj⟩:=o4 ha
   obtain⟨m,hm⟩:∃m,m=a+1:=⟨_,rfl⟩
   have hml:m<rs.length:=by lia
   have em:(1+(a:Int))=(m:Int):=by lia
   rw[em]
   have hx:∀ν:Sto,ixD (.lst ((evs b rs).map bf)) (.int ((m:Int)-1)) ν=.ok (bf (held b rs m)) ν:=fun ν=>by
    rw[show(m:Int)-1=(a:Int)by lia,hm]
    exact Ad (by unfold evs;rw[AX,DU (by lia)];rfl)
   obtain⟨ρ1,er⟩:=Oi (n:=6) (μ:=μ) (b:=b) (H:=held b rs m) m (oq b rs m) hL.2
   have kr:=c6 er (Gq _) hr
   have hkr:=Ha hk hml
   have hes:=Jp (b:=b) hml
   have hrl:(Ao b (held b rs m) m).lamps.length=b.lamps.length:=lp b _ m
   have hrd:(Ao b (held b rs m) m).days=b.days.drop m:=rfl
   generalize Ao b (held b rs m) m=rb at kr hkr hes hrl hrd
   have k1:=bb (Jn (n:=1) hr hkr) rfl rfl hr
   have k2:=c6 (se (n:=4) hr hkr) (phs _) hr
   rw[hes]at k2
   have s1:∀ν:Sto,slD .z (.tup (rs.map eTn)) (some (m:Int)) none ν=.ok (.tup ((rs.drop m).map eTn)) ν:=fun ν=>by rw[Ag,FO]
   have s2:∀ν:Sto,slD .z (.lst ((evs b rs).map bf)) (some (m:Int)) none ν=.ok (.lst (((evs b rs).drop m).map bf)) ν:=fun ν=>by
    simp only[slD,Lp.listOf,pe,Bq,FO]
   have s3:∀ν:Sto,slD .z (.tup (rs.map eTn)) none (some (m:Int)) ν=.ok (.tup ((rs.take m).map eTn)) ν:=fun ν=>by rw[N6,List.map_take]
   have ne1:∀ν:Sto,cpD .ne (.lst (((evs b rs).drop m).map bf)) (.lst (((evs b rs).drop m).map bf)) ν=.ok (.bl false) ν:=fun ν=>by
    rw[I0 (phs _) (phs _),p9 8 _ (phs _)];rfl
   have nt:∀ν:Sto,cpD .isnot (.bl true) (.bl true) ν=.ok (.bl false) ν:=fun _=>rfl
   have c1:=ll (μ:=μ) (φ:=ar GL 7) (tg:=.one 2) (cs:=.nil) (elt:=jv) (σ0:=[some (.tup (rs.map eTn)),some (bc b),none]) (L:=m) (f:=fun k=>(l9 rs b.days).getD k 0) (by
    intro k hkm
    have h1:k<rs.length:=by lia
    have h2:k<b.days.length:=by lia
    have et:rs[k]? = some rs[k]:=AA h1
    have ed:b.days[k]? = some b.days[k]:=AA h2
    have o:=hdo b.days[k] (CH h2)
    have hmm:CMul rs[k].bought b.days[k].price:=.right (by lia) (by lia)
    rw[Jr h1 h2]
    simp! only[j8,jv,rn et,Lu,Gr,rn ed,Sb,op_mul hmm])
   rw[Js (by lia)]at c1
   have sm:∀ν:Sto,btD .sum .z [.lst (((l9 rs b.days).take m).map D.int)] ν=.ok (.int ((l9 rs b.days).take m).sum) ν:=fun ν=>bt_sum ax (jf _)
   have kc1:=bb (G3 (n:=6) (μ:=μ) rb (rs.drop m) (by rw[hrd];exact fun d hd=>hdo d (List.mem_of_mem_drop hd))) rfl rfl hr
   rw[hrd]at kc1
   have kc2:=bb (G3 (n:=6) (μ:=μ) b rs hdo) rfl rfl hr
   have cs1:Ak (rs.drop m) (b.days.drop m)+((l9 rs b.days).take m).sum=Ak rs b.days:=Dq rs b.days m
   have cz:=comp_map (m:=.l) (μ:=μ) (φ:=ar GL 7) (tg:=.one 0) (cs:=.nil) (elt:=jw) (σ0:=[none]) (xs:=b.lamps) (en:=d7) (g:=fun _=>D.int 0) (by
    intro k _
    simp! only[j8,jw])
   have ez:b.lamps.map (fun _=>D.int 0)=(TK b.lamps.length []).map D.int:=by
    apply BI
    intro i
    by_cases hi:i<b.lamps.length
    ·simp[TK,ai,hi]
    ·simp[TK,hi]
   rw[ez,Gu (G2 _)]at cz
   obtain⟨w8,w9,w10,w11,ep⟩:=parts μ m (some (.int m)) (some (bc rb)) (some (.int ((l9 rs b.days).take m).sum)) v8 v9 v10 v11 v12
   have hr2:ly (μ++[.l ((TK b.lamps.length (ir (rs.take m))).map D.int)]):=Gw hr _
   obtain⟨ρ2,eb1⟩:=B2 (n:=5) hr2 rb (rs.drop m) hkr.lamps.2 hkr.few fun t ht=>(hsp t (List.mem_of_mem_drop ht)).2
   rw[hrl]at eb1
   have kb1:=c6 eb1 (dk _) hr2
   obtain⟨ρ3,eb2⟩:=B2 (n:=5) hr2 b rs hL.2 hfew fun t ht=>(hsp t ht).2
   have kb2:=c6 eb2 (dk _) hr2
   have ln:btD .len .z [.loc μ.length] (μ++[.l ((TK b.lamps.length (ir (rs.take m))).map D.int)])=.ok (.int b.lamps.length) (μ++[.l ((TK b.lamps.length (ir (rs.take m))).map D.int)]):=by rw[bt_len qa,AG,ub]
   have c3:=ll (μ:=μ++[.l ((TK b.lamps.length (ir (rs.take m))).map D.int)]) (φ:=ar GL 7) (tg:=.one 2) (cs:=.nil) (elt:=jx) (σ0:=[some (.loc μ.length),some (cj ((List.range b.lamps.length).map fun(k:Nat)=>ai (ir (rs.drop m)) k)),none]) (L:=b.lamps.length) (f:=fun k=>ai (ir rs) k) (by
    intro k hkl
    have i0:ixD (.loc μ.length) (.int k) (μ++[.l ((TK b.lamps.length (ir (rs.take m))).map D.int)])=.ok (.int (ai (ir (rs.take m)) k)) (μ++[.l ((TK b.lamps.length (ir (rs.take m))).map D.int)]):=by
     rw[←Sr b.lamps.length (ir (rs.take m)) hkl]
     exact o5 qa (by rw[ub];exact hkl)
    have i1:∀ν:Sto,ixD (cj ((List.range b.lamps.length).map fun(k:Nat)=>ai (ir (rs.drop m)) k)) (.int k) ν=.ok (.int (ai (ir (rs.drop m)) k)) ν:=fun ν=>by
     have:=o5 (μ:=ν) (x:=cj ((List.range b.lamps.length).map fun(k:Nat)=>ai (ir (rs.drop m)) k)) (ns:=(List.range b.lamps.length).map fun(k:Nat)=>ai (ir (rs.drop m)) k) (k:=k) rfl (by simpa using hkl)
     rwa [Am hkl]at this
    have et:ai (ir (rs.take m)) k+ai (ir (rs.drop m)) k=ai (ir rs) k:=by
     rw[←yt,←Jq,HY]
    simp! only[j8,jx,i0,i1,et])
   have ne2:∀ν:Sto,cpD .ne (cj ((List.range b.lamps.length).map fun(k:Nat)=>ai (ir rs) k)) (.tup (((List.range b.lamps.length).map fun(k:Nat)=>ai (ir rs) k).map D.int)) ν=.ok (.bl false) ν:=fun ν=>by
    rw[show(D.tup (((List.range b.lamps.length).map fun(k:Nat)=>ai (ir rs) k).map D.int))=cj ((List.range b.lamps.length).map fun(k:Nat)=>ai (ir rs) k)from rfl,I0 (dk _) (dk _),p9 8 _ (dk _)]
    rfl
   refine⟨_,_,?_,some (.int m),some (bc rb),some (.int ((l9 rs b.days).take m).sum),some (.loc μ.length),w8,w9,w10,w11,some (cj ((List.range b.lamps.length).map fun(k:Nat)=>ai (ir (rs.drop m)) k)),rfl,hr2⟩
   simp! only[fLp,jy,hx,kr,s1,k1,nt,k2,s2,ne1,dq (show m≤1000000 by lia),c1,sm,kc1,kc2,cs1,yp,cz,s3,ep,kb1,kb2,ln,dq (show b.lamps.length≤1000000 by lia),c3,bt_tuple ax,ne2,decide_true])
 have hle:∀ν:Sto,btD .len .z [.lst ((evs b rs).map bf)] ν=.ok (.int rs.length) ν:=fun ν=>by rw[bt_len ax,AG];simp[evs]
 have hlr:∀ν:Sto,btD .len .z [.tup (rs.map eTn)] ν=.ok (.int rs.length) ν:=fun ν=>by rw[bt_len gg,AG]
 have isl:∀ν:Sto,Py .list (.lst ((evs b rs).map bf)) ν=.ok (.bl true) ν:=fun _=>rfl
 have unp:∀σ:Sl,d6 (.many [1,2]) (.tup [bc b,.tup (rs.map eTn)]) σ=some ((σ.set 1 (some (bc b))).set 2 (some (.tup (rs.map eTn)))):=fun σ=>rfl
 refine⟨μ',?_⟩
 simp! only[D_law_k12_4,De Dh,Gs,kk,unp,ke,isl,hle,hlr,kd,Hb (show rs.length≤1000000 by lia),e,decide_true]
end
end Lr
namespace Lp.Law
open PySem PySem.Spec PyProof.Rows L2 Lp
noncomputable def top (i:Nat):Stmt:=PySem.Challenge.pw_lamprota_k12_whole_walks_go_on.main.body.getD i (.Pass ⟨0,0,0,0⟩)
noncomputable def e0:Ent:=⟨vc,"rises",top 1,["things"],["things"],D_rises⟩
noncomputable def e1:Ent:=⟨lr,"can_burn",top 2,["book","lamp","day","tank","oil","away"],["book","lamp","day"],D_can_burn⟩
noncomputable def e2:Ent:=⟨bp,"ticks_of_spans",top 4,["lamps","spans","ticks","lamp","start","end"],["lamps","spans"],D_ticks_of_spans⟩
noncomputable def e3:Ent:=⟨cg,"have_tick_in_common",top 5,["one","other"],["one","other"],D_have_tick_in_common⟩
noncomputable def e4:Ent:=⟨d8,"has_span_fault",top 6,["length","lamps","spans","lamp","start","end"],["length","lamps","spans"],D_has_span_fault⟩
noncomputable def e5:Ent:=⟨dh,"has_dark_fault",top 7,["length","wanted","spans","changes","lamp","start","end"],["length","wanted","spans"],D_has_dark_fault⟩
noncomputable def e6:Ent:=⟨dz,"held_at_first",top 8,["book"],["book"],D_held_at_first⟩
noncomputable def e7:Ent:=⟨nj,"filled",top 9,["tanks","poured"],["tanks","poured"],D_filled⟩
noncomputable def e8:Ent:=⟨fm,"held_behind",top 10,["book","held","turn","store","tanks","taken","bought","poured","spans","left","ticks"],["book","held","turn"],D_held_behind⟩
noncomputable def e9:Ent:=⟨kh,"day_fault",top 11,["book","day","held","turn","boat","most","price","length","wanted","store","tanks","taken","bought","poured","spans","levels"],["book","day","held","turn"],D_day_fault⟩
noncomputable def e10:Ent:=⟨ib,"night_fault",top 12,["book","day","levels","spans","boat","most","price","length","wanted","ticks"],["book","day","levels","spans"],D_night_fault⟩
noncomputable def e11:Ent:=⟨vd,"fault",top 13,["book","rota","held","day","turn","word"],["book","rota"],D_fault⟩
noncomputable def e12:Ent:=⟨ve,"keeps",top 14,["book","rota"],["book","rota"],D_keeps⟩
noncomputable def e13:Ent:=⟨j4,"evenings",top 15,["book","rota","held","behind","turn"],["book","rota"],D_evenings⟩
noncomputable def e14:Ent:=⟨yi,"cost",top 16,["book","rota"],["book","rota"],D_cost⟩
noncomputable def e15:Ent:=⟨k8,"burnt",top 17,["book","rota","all_spans","taken","bought","poured","spans"],["book","rota"],D_burnt_3⟩
noncomputable def e16:Ent:=⟨cb,"_law_next",top 20,["left"],["left"],D_law_next⟩
noncomputable def e17:Ent:=⟨dm,"_law_turn",top 21,["cell","stir"],["cell"],D_law_turn⟩
noncomputable def e18:Ent:=⟨gn,"_law_size",top 22,["cell","most","turn"],["cell","most"],D_law_size⟩
noncomputable def e19:Ent:=⟨i4,"_law_share",top 23,["turn","low","high"],["turn","low","high"],D_law_share⟩
noncomputable def e20:Ent:=⟨i5,"_law_ticks",top 24,["turn","lamps","length","wanted","order","left","ticks","k","low","share"],["turn","lamps","length","wanted"],D_law_ticks⟩
noncomputable def e21:Ent:=⟨kg,"_law_spans",top 25,["length","ticks","spans","at","lamp","share","end"],["length","ticks"],D_law_spans⟩
noncomputable def e22:Ent:=⟨ic,"_law_frame",top 26,["left","head","lamps","days","away","lamp","turn"],["left"],D_law_frame_2⟩
noncomputable def e23:Ent:=⟨jh,"_law_nights",top 27,["left","frame","nights","day","free","length","turn","wanted","ticks"],["left","frame"],D_law_nights⟩
noncomputable def e24:Ent:=⟨bx,"_law_slack",top 28,["left","turn"],["left"],D_law_slack⟩
noncomputable def e25:Ent:=⟨ji,"_law_kept",top 29,["left","frame","nights","store","oil","first","tanks","most","days","rota","here","length","wanted","ticks","spans","asked","lamp","share","poured","lack","taken","price","lamps"],["left"],D_law_kept_3⟩
noncomputable def e26:Ent:=⟨lu,"_law_rest",top 30,["book","evening","many","lamps","lamp","away"],["book","evening","many"],D_law_rest⟩
noncomputable def e27:Ent:=⟨ft,"_law_days_even",top 31,["book","rota","heard","here","store","day","taken","bought","poured","spans","burning_ticks","left","spilt","behind"],["book","rota","heard"],D_law_days_even⟩
noncomputable def e28:Ent:=⟨mq,"law",top 32,["script","book","rota","heard","many","rest","ahead","ticks","part","lamp","start","end","later"],["script"],D_law_k12_4⟩
noncomputable def ents:List Ent:=[e0,e1,e2,e3,e4,e5,e6,e7,e8,e9,e10,e11,e12,e13,e14,e15,e16,e17,e18,e19,e20,e21,e22,e23,e24,e25,e26,e27,e28]
noncomputable def mx:List Str:=["zip","all","range","tuple","any","sum","len","min","enumerate","max","sorted","list","reversed","isinstance"]
theorem arS {k:Nat} {Q:List Value→Prop} (h:∀a us,us.length=k→Q (a::us)):∀us:List Value,us.length=k+1→Q us
 | [],e=>nomatch e
 | a::us,e=>h a us (Nat.succ.inj e)
theorem ar0 {Q:List Value→Prop} (h:∀(_:Unit),Q []):∀us:List Value,us.length=0→Q us
 | [],_=>h ()
theorem ar1 {Q:List Value→Prop} (h:∀(a0:Value),Q [a0]):∀us:List Value,us.length=1→Q us:=arS fun a0=>ar0 (Q:=fun us=>Q (a0::us)) (fun _=>h a0)
theorem ar2 {Q:List Value→Prop} (h:∀(a0 a1:Value),Q [a0,a1]):∀us:List Value,us.length=2→Q us:=arS fun a0=>ar1 (Q:=fun us=>Q (a0::us)) (h a0)
theorem ar3 {Q:List Value→Prop} (h:∀(a0 a1 a2:Value),Q [a0,a1,a2]):∀us:List Value,us.length=3→Q us:=arS fun a0=>ar2 (Q:=fun us=>Q (a0::us)) (h a0)
theorem ar4 {Q:List Value→Prop} (h:∀(a0 a1 a2 a3:Value),Q [a0,a1,a2,a3]):∀us:List Value,us.length=4→Q us:=arS fun a0=>ar3 (Q:=fun us=>Q (a0::us)) (h a0)
section
variable {P : Program} {w : World} {K : PySem.W.Frag} {mg : Str → Option Value} {base : Heap}
theorem dv0 (B:∀(j:Nat) x,mx[j]? = some x→mg x=none):Derived GL P w K mg base ents e0:=⟨⟨rfl,rfl,rfl,by decide +kernel,rfl,by decide +kernel,by decide +kernel⟩,rfl,rfl,rfl,fun n fa cdv A outer s H E hu C =>
 (au (br (M9 (B 1 _ rfl) (ae (dy ["one","other"] (rf (B 0 _ rfl) (aa 0) (Il (aa 0) (Ik ah) Ij)) (fun _ _ _ _=>⟨(cx (ag 0 (ag 1 cw))),bo,(x8 (aa 0) (x6 hu .lt (aa 1)))⟩)) af))) bw)⟩
theorem dv1 (B:∀(j:Nat) x,mx[j]? = some x→mg x=none):Derived GL P w K mg base ents e1:=⟨⟨rfl,rfl,rfl,by decide +kernel,rfl,by decide +kernel,by decide +kernel⟩,rfl,rfl,rfl,fun n fa cdv A outer s H E hu C =>
 (au (ux (cx (ag 3 (ag 4 (ag 5 cw)))) (c8 (c8 (aa 0) ah) (aa 1))) (au (br (x8 (aa 2) (x6 hu .notin (aa 5)))) bw))⟩
theorem dv2 (B:∀(j:Nat) x,mx[j]? = some x→mg x=none):Derived GL P w K mg base ents e2:=⟨⟨rfl,rfl,rfl,by decide +kernel,rfl,by decide +kernel,by decide +kernel⟩,rfl,rfl,rfl,fun n fa cdv A outer s H E hu C =>
 (au (a7 2 (Qz false)) (au (ky (g8 (aa 1)) (cx (ag 3 (ag 4 (ag 5 cw)))) (au (yb hu (aa 2) (aa 3) (aq (aq (u0 hu (aa 2) (aa 3) ah) (aa 5)) (aa 4))) bw)) (au (br (cv (B 3 _ rfl) (ae (dy ["ticks","lamp"] (gj (B 2 _ rfl) (aa 0)) (fun _ _ _ _=>⟨(bh 1),bo,(u0 hu (aa 0) (aa 1) ah)⟩)) af))) bw)))⟩
theorem dv3 (B:∀(j:Nat) x,mx[j]? = some x→mg x=none):Derived GL P w K mg base ents e3:=⟨⟨rfl,rfl,rfl,by decide +kernel,rfl,by decide +kernel,by decide +kernel⟩,rfl,rfl,rfl,fun n fa cdv A outer s H E hu C =>
 (au (br (Ur (x8 (c8 (aa 0) ah) (x6 hu .eq (c8 (aa 1) ah))) (Qq (x8 (c8 (aa 1) ah) (x6 hu .lt (c8 (aa 0) ah)))))) bw)⟩
theorem dv4 (B:∀(j:Nat) x,mx[j]? = some x→mg x=none):Derived GL P w K mg base ents e4:=⟨⟨rfl,rfl,rfl,by decide +kernel,rfl,by decide +kernel,by decide +kernel⟩,rfl,rfl,rfl,fun n fa cdv A outer s H E hu C =>
 (au (ky (g8 (aa 2)) (cx (ag 3 (ag 4 (ag 5 cw)))) (au (p6 (ya (Qs (Kf (c9 ah (Qr hu .le (aa 3) (gu hu .lt (aa 1)))) (E5 (c9 ah (Qr hu .le (aa 4) (Qr hu .lt (aa 5) (gu hu .le (aa 0))))))))) (au (br Ih) bw) bw) bw)) (au (br (W1 (Qp (av (C 0 _ rfl) (ae (aa 2) af))) (Us (qy (B 4 _ rfl) (ae (dy ["one","other"] (rf (B 0 _ rfl) (aa 2) (Il (aa 2) (Ik ah) Ij)) (fun _ _ _ _=>⟨(cx (ag 0 (ag 1 cw))),bo,(av (C 3 _ rfl) (ae (aa 0) (ae (aa 1) af)))⟩)) af))))) bw))⟩
theorem dv5 (B:∀(j:Nat) x,mx[j]? = some x→mg x=none):Derived GL P w K mg base ents e5:=⟨⟨rfl,rfl,rfl,by decide +kernel,rfl,by decide +kernel,by decide +kernel⟩,rfl,rfl,rfl,fun n fa cdv A outer s H E hu C =>
 (au (a7 3 (Q0 1 0 1)) (au (ky (g8 (aa 2)) (cx (ag 4 (ag 5 (ag 6 cw)))) (au (yb hu (aa 3) (aa 5) (aq (u0 hu (aa 3) (aa 5) ah) ah)) (au (yb hu (aa 3) (aa 6) (aq (u0 hu (aa 3) (aa 6) ah) ah)) bw))) (au (br (qy (B 4 _ rfl) (ae (dy ["change"] (Nu (aa 3)) (fun _ _ _ _=>⟨(bh 0),bo,(x8 (aa 0) (x6 hu .ne ah))⟩)) af))) bw)))⟩
theorem dv6 (B:∀(j:Nat) x,mx[j]? = some x→mg x=none):Derived GL P w K mg base ents e6:=⟨⟨rfl,rfl,rfl,by decide +kernel,rfl,by decide +kernel,by decide +kernel⟩,rfl,rfl,rfl,fun n fa cdv A outer s H E hu C =>
 (au (br (mh (ae (c8 (aa 0) ah) (ae (cv (B 3 _ rfl) (ae (dy ["tank","oil","away"] (g8 (c8 (aa 0) ah)) (fun _ _ _ _=>⟨(cx (ag 0 (ag 1 (ag 2 cw)))),bo,(aa 1)⟩)) af)) af)))) bw)⟩
theorem dv7 (B:∀(j:Nat) x,mx[j]? = some x→mg x=none):Derived GL P w K mg base ents e7:=⟨⟨rfl,rfl,rfl,by decide +kernel,rfl,by decide +kernel,by decide +kernel⟩,rfl,rfl,rfl,fun n fa cdv A outer s H E hu C =>
 (au (br (cv (B 3 _ rfl) (ae (dy ["level","much"] (rf (B 0 _ rfl) (aa 0) (aa 1)) (fun _ _ _ _=>⟨(cx (ag 0 (ag 1 cw))),bo,(aq (aa 0) (aa 1))⟩)) af))) bw)⟩
theorem dv8 (B:∀(j:Nat) x,mx[j]? = some x→mg x=none):Derived GL P w K mg base ents e8:=⟨⟨rfl,rfl,rfl,by decide +kernel,rfl,by decide +kernel,by decide +kernel⟩,rfl,rfl,rfl,fun n fa cdv A outer s H E hu C =>
 (au (ux (cx (ag 3 (ag 4 cw))) (aa 1)) (au (ux (cx (ag 5 (ag 6 (ag 7 (ag 8 cw))))) (aa 2)) (au (a7 9 (aq (aq (aq (aa 3) (aa 5)) (aa 6)) (jq (B 5 _ rfl) (ae (aa 7) af)))) (au (a7 10 (av (C 2 _ rfl) (ae (du (B 6 _ rfl) (ae (aa 4) af)) (ae (aa 8) af)))) (au (br (mh (ae (qx (B 7 _ rfl) (ae (aa 9) (ae (c8 (aa 0) ah) af))) (ae (cv (B 3 _ rfl) (ae (dy ["level","burns"] (rf (B 0 _ rfl) (av (C 7 _ rfl) (ae (aa 4) (ae (aa 7) af))) (aa 10)) (fun _ _ _ _=>⟨(cx (ag 0 (ag 1 cw))),bo,(aq (aa 0) (aa 1))⟩)) af)) af)))) bw)))))⟩
theorem dv9 (B:∀(j:Nat) x,mx[j]? = some x→mg x=none):Derived GL P w K mg base ents e9:=⟨⟨rfl,rfl,rfl,by decide +kernel,rfl,by decide +kernel,by decide +kernel⟩,rfl,rfl,rfl,fun n fa cdv A outer s H E hu C =>
 (au (ux (cx (ag 4 (ag 5 (ag 6 (ag 7 (ag 8 cw)))))) (c8 (c8 (aa 0) ah) (aa 1))) (au (ux (cx (ag 9 (ag 10 cw))) (aa 2)) (au (ux (cx (ag 11 (ag 12 (ag 13 (ag 14 cw))))) (aa 3)) (au (p6 (ya (c9 ah (Qr hu .le (aa 11) (gu hu .le (aa 4))))) (au (br x5) bw) bw) (au (p6 (ya (c9 ah (Qr hu .le (aa 12) (gu hu .le (aa 5))))) (au (br x5) bw) bw) (au (p6 (Qs (Im (c9 (Iu (B 7 _ rfl) (ae (aa 13) af)) (gu hu .lt ah)) (E6 (c9 (jq (B 5 _ rfl) (ae (aa 13) af)) (gu hu .gt (aq (aq (aa 9) (aa 11)) (aa 12))))))) (au (br x5) bw) bw) (au (a7 15 (av (C 7 _ rfl) (ae (aa 10) (ae (aa 13) af)))) (au (p6 (mj (qy (B 4 _ rfl) (ae (dy ["level","lamp"] (rf (B 0 _ rfl) (aa 15) (c8 (aa 0) ah)) (fun _ _ _ _=>⟨(cx (ag 0 (ag 1 cw))),bo,(x8 (aa 0) (x6 hu .gt (c8 (aa 1) ah)))⟩)) af))) (au (br x5) bw) bw) (au (br (av (C 10 _ rfl) (ae (aa 0) (ae (aa 1) (ae (aa 15) (ae (aa 14) af)))))) bw)))))))))⟩
theorem W7 (B:∀(j:Nat) x,mx[j]? = some x→mg x=none):Derived GL P w K mg base ents e10:=⟨⟨rfl,rfl,rfl,by decide +kernel,rfl,by decide +kernel,by decide +kernel⟩,rfl,rfl,rfl,fun n fa cdv A outer s H E hu C =>
 (au (ux (cx (ag 4 (ag 5 (ag 6 (ag 7 (ag 8 cw)))))) (c8 (c8 (aa 0) ah) (aa 1))) (au (p6 (mj (av (C 4 _ rfl) (ae (aa 7) (ae (du (B 6 _ rfl) (ae (aa 2) af)) (ae (aa 3) af))))) (au (br x5) bw) bw) (au (p6 (mj (qy (B 4 _ rfl) (ae (dy ["book","day","lamp","start","end"] (g8 (aa 3)) (fun _ _ _ _=>⟨(cx (ag 2 (ag 3 (ag 4 cw)))),bo,(Qp (av (C 1 _ rfl) (ae (aa 0) (ae (aa 2) (ae (aa 1) af)))))⟩)) af))) (au (br x5) bw) bw) (au (a7 9 (av (C 2 _ rfl) (ae (du (B 6 _ rfl) (ae (aa 2) af)) (ae (aa 3) af)))) (au (p6 (mj (qy (B 4 _ rfl) (ae (dy ["burns","level"] (rf (B 0 _ rfl) (aa 9) (aa 2)) (fun _ _ _ _=>⟨(cx (ag 0 (ag 1 cw))),bo,(x8 (aa 0) (x6 hu .gt (aa 1)))⟩)) af))) (au (br x5) bw) bw) (au (p6 (mj (av (C 5 _ rfl) (ae (aa 7) (ae (aa 8) (ae (aa 3) af))))) (au (br x5) bw) bw) (au (br Ii) bw)))))))⟩
theorem W8 (B:∀(j:Nat) x,mx[j]? = some x→mg x=none):Derived GL P w K mg base ents e11:=⟨⟨rfl,rfl,rfl,by decide +kernel,rfl,by decide +kernel,by decide +kernel⟩,rfl,rfl,rfl,fun n fa cdv A outer s H E hu C =>
 (au (a7 2 (av (C 6 _ rfl) (ae (aa 0) af))) (au (ky (Nq (B 8 _ rfl) (aa 1)) (cx (ag 3 (ag 4 cw))) (au (a7 5 (av (C 9 _ rfl) (ae (aa 0) (ae (aa 3) (ae (aa 2) (ae (aa 4) af)))))) (au (p6 (c9 (aa 5) (gu hu .isnot Ii)) (au (br (mh (ae (aa 3) (ae (aa 5) af)))) bw) bw) (au (a7 2 (av (C 8 _ rfl) (ae (aa 0) (ae (aa 2) (ae (aa 4) af))))) bw)))) (au (br Ii) bw)))⟩
theorem W9 (B:∀(j:Nat) x,mx[j]? = some x→mg x=none):Derived GL P w K mg base ents e12:=⟨⟨rfl,rfl,rfl,by decide +kernel,rfl,by decide +kernel,by decide +kernel⟩,rfl,rfl,rfl,fun n fa cdv A outer s H E hu C =>
 (au (br (x8 (av (C 11 _ rfl) (ae (aa 0) (ae (aa 1) af))) (x6 hu .is Ii))) bw)⟩
theorem Xa (B:∀(j:Nat) x,mx[j]? = some x→mg x=none):Derived GL P w K mg base ents e13:=⟨⟨rfl,rfl,rfl,by decide +kernel,rfl,by decide +kernel,by decide +kernel⟩,rfl,rfl,rfl,fun n fa cdv A outer s H E hu C =>
 (au (a7 2 (av (C 6 _ rfl) (ae (aa 0) af))) (au (a7 3 (o7 af)) (au (ky (g8 (aa 1)) (bh 4) (au (a7 2 (av (C 8 _ rfl) (ae (aa 0) (ae (aa 2) (ae (aa 4) af))))) (au (E7 (ck (aa 3) (ae (aa 2) af))) bw))) (au (br (E4 3)) bw))))⟩
theorem Xb (B:∀(j:Nat) x,mx[j]? = some x→mg x=none):Derived GL P w K mg base ents e14:=⟨⟨rfl,rfl,rfl,by decide +kernel,rfl,by decide +kernel,by decide +kernel⟩,rfl,rfl,rfl,fun n fa cdv A outer s H E hu C =>
 (au (br (jq (B 5 _ rfl) (ae (dy ["turn","day"] (rf (B 0 _ rfl) (aa 1) (c8 (aa 0) ah)) (fun _ _ _ _=>⟨(cx (ag 0 (ag 1 cw))),bo,(aq (c8 (aa 0) ah) (c8 (aa 1) ah))⟩)) af))) bw)⟩
theorem Xc (B:∀(j:Nat) x,mx[j]? = some x→mg x=none):Derived GL P w K mg base ents e15:=⟨⟨rfl,rfl,rfl,by decide +kernel,rfl,by decide +kernel,by decide +kernel⟩,rfl,rfl,rfl,fun n fa cdv A outer s H E hu C =>
 (au (a7 2 (o7 af)) (au (ky (g8 (aa 1)) (cx (ag 3 (ag 4 (ag 5 (ag 6 cw))))) (au (E7 (yh (aa 2) (ae (aa 6) af))) bw)) (au (br (av (C 2 _ rfl) (ae (du (B 6 _ rfl) (ae (c8 (aa 0) ah) af)) (ae (E4 2) af)))) bw)))⟩
theorem Xd (B:∀(j:Nat) x,mx[j]? = some x→mg x=none):Derived GL P w K mg base ents e16:=⟨⟨rfl,rfl,rfl,by decide +kernel,rfl,by decide +kernel,by decide +kernel⟩,rfl,rfl,rfl,fun n fa cdv A outer s H E hu C =>
 (au (p6 (c9 (du (B 6 _ rfl) (ae (aa 0) af)) (gu hu .gt ah)) (au (br (Ip (aa 0))) bw) bw) (au (br ah) bw))⟩
theorem Xe (B:∀(j:Nat) x,mx[j]? = some x→mg x=none):Derived GL P w K mg base ents e17:=⟨⟨rfl,rfl,rfl,by decide +kernel,rfl,by decide +kernel,by decide +kernel⟩,rfl,rfl,rfl,fun n fa cdv A outer s H E hu C =>
 (au (a7 1 (aq (aq (aq (aq (aa 0) (aq ah ah)) ah) ah) ah)) (au (br (aq (aq (aq (aa 1) (aa 1)) ah) ah)) bw))⟩
theorem Xf (B:∀(j:Nat) x,mx[j]? = some x→mg x=none):Derived GL P w K mg base ents e18:=⟨⟨rfl,rfl,rfl,by decide +kernel,rfl,by decide +kernel,by decide +kernel⟩,rfl,rfl,rfl,fun n fa cdv A outer s H E hu C =>
 (au (a7 2 (av (C 17 _ rfl) (ae (aa 0) af))) (au (p6 (c9 (aq (aa 2) ah) (gu hu .lt ah)) (au (br (qx (B 7 _ rfl) (ae (aa 1) (ae (aq (aq (aa 2) ah) ah) af)))) bw) bw) (au (p6 (c9 (aq (aa 2) ah) (gu hu .eq ah)) (au (br (aq (aa 1) (aq (aq (aa 2) ah) ah))) bw) bw) (au (br (aq (aa 0) (aq (aa 1) ah))) bw))))⟩
theorem Xg (B:∀(j:Nat) x,mx[j]? = some x→mg x=none):Derived GL P w K mg base ents e19:=⟨⟨rfl,rfl,rfl,by decide +kernel,rfl,by decide +kernel,by decide +kernel⟩,rfl,rfl,rfl,fun n fa cdv A outer s H E hu C =>
 (au (p6 (c9 (aq (aa 0) ah) (gu hu .lt ah)) (au (br (aq (aa 1) (aq (aq (aq (aa 0) ah) ah) (aq (aq (aa 2) (aa 1)) ah)))) bw) bw) (au (br (c8 (o7 (ae (aa 1) (ae (aa 2) af))) (aq (aa 0) ah))) bw))⟩
theorem Xh (B:∀(j:Nat) x,mx[j]? = some x→mg x=none):Derived GL P w K mg base ents e20:=⟨⟨rfl,rfl,rfl,by decide +kernel,rfl,by decide +kernel,by decide +kernel⟩,rfl,rfl,rfl,fun n fa cdv A outer s H E hu C =>
 (au (qz 4 ["lamps","turn","k"] (gj (B 2 _ rfl) (du (B 6 _ rfl) (ae (aa 1) af))) (fun _ _ _ _=>⟨(bh 2),bo,(c8 (aa 0) (aq (aq (aa 2) (aa 1)) (du (B 6 _ rfl) (ae (aa 0) af))))⟩)) (au (a7 5 (aq (aa 3) (aa 2))) (au (a7 6 (o7 af)) (au (ky (gj (B 2 _ rfl) (du (B 6 _ rfl) (ae (aa 4) af))) (bh 7) (au (a7 8 (og (B 9 _ rfl) (ae ah (ae (aq (aa 5) (aq (aa 2) (aq (aq (du (B 6 _ rfl) (ae (aa 4) af)) (aa 7)) ah))) af)))) (au (a7 9 (av (C 19 _ rfl) (ae (aq (aq (aq (aa 0) ah) (aq (aq ah (aa 7)) (aa 7))) (aa 7)) (ae (aa 8) (ae (qx (B 7 _ rfl) (ae (aa 2) (ae (aa 5) af))) af))))) (au (E7 (ck (aa 6) (ae (mh (ae (c8 (aa 4) (aa 7)) (ae (aa 9) af))) af))) (au (a7 5 (aq (aa 5) (aa 9))) bw))))) (au (br (E4 6)) bw)))))⟩
theorem Xi (B:∀(j:Nat) x,mx[j]? = some x→mg x=none):Derived GL P w K mg base ents e21:=⟨⟨rfl,rfl,rfl,by decide +kernel,rfl,by decide +kernel,by decide +kernel⟩,rfl,rfl,rfl,fun n fa cdv A outer s H E hu C =>
 (au (a7 2 (o7 af)) (au (a7 3 ah) (au (ky (g8 (aa 1)) (cx (ag 4 (ag 5 cw))) (au (a7 6 (aq (aa 3) (aa 5))) (au (p6 (c9 (aa 5) (gu hu .gt ah)) (au (E7 (ck (aa 2) (ae (mh (ae (aa 4) (ae (aa 3) (ae (qx (B 7 _ rfl) (ae (aa 6) (ae (aa 0) af))) af)))) af))) bw) bw) (au (p6 (c9 (aa 6) (gu hu .gt (aa 0))) (au (E7 (ck (aa 2) (ae (mh (ae (aa 4) (ae ah (ae (aq (aa 6) (aa 0)) af)))) af))) bw) bw) (au (a7 3 (aq (aa 6) (aa 0))) bw))))) (au (br (cv (B 3 _ rfl) (ae (C2 (B 10 _ rfl) (ae (aa 2) af)) af))) bw))))⟩
theorem Xj (B:∀(j:Nat) x,mx[j]? = some x→mg x=none):Derived GL P w K mg base ents e22:=⟨⟨rfl,rfl,rfl,by decide +kernel,rfl,by decide +kernel,by decide +kernel⟩,rfl,rfl,rfl,fun n fa cdv A outer s H E hu C =>
 (au (a7 1 (av (C 17 _ rfl) (ae (av (C 16 _ rfl) (ae (aa 0) af)) af))) (au (a7 2 (aq ah (aq (aa 1) ah))) (au (a7 3 (aq ah (aq (aq (aa 1) ah) ah))) (au (p6 (c9 (aq (aq (aa 1) ah) ah) (gu hu .eq ah)) (au (a7 2 (aq ah (aq (aq (aa 1) ah) ah))) (au (a7 3 (aq ah (aq (aq (aa 1) ah) ah))) bw)) bw) (au (a7 4 (o7 af)) (au (ky (gj (B 2 _ rfl) (aa 2)) (bh 5) (au (a7 6 (av (C 17 _ rfl) (ae (av (C 16 _ rfl) (ae (aa 0) af)) af))) (au (E7 (ck (aa 4) (ae (dy ["turn","day"] (gj (B 2 _ rfl) (aa 3)) (fun _ _ _ _=>⟨(bh 1),(uw (Qs (Kf (c9 (aq (aa 0) ah) (gu hu .eq ah)) (E5 (c9 (aq (aq (aa 0) (aq (aa 1) ah)) ah) (gu hu .eq ah))))) bo),(aa 1)⟩)) af))) bw))) (au (br (mh (ae (aa 2) (ae (aa 3) (ae (E4 4) af))))) bw)))))))⟩
theorem Xk (B:∀(j:Nat) x,mx[j]? = some x→mg x=none):Derived GL P w K mg base ents e23:=⟨⟨rfl,rfl,rfl,by decide +kernel,rfl,by decide +kernel,by decide +kernel⟩,rfl,rfl,rfl,fun n fa cdv A outer s H E hu C =>
 (au (a7 2 (o7 af)) (au (ky (gj (B 2 _ rfl) (c8 (aa 1) ah)) (bh 3) (au (qz 4 ["day","frame","lamp"] (gj (B 2 _ rfl) (c8 (aa 1) ah)) (fun _ _ _ _=>⟨(bh 2),(uw (c9 (aa 0) (gu hu .notin (c8 (c8 (aa 1) ah) (aa 2)))) bo),(aa 2)⟩)) (au (a7 5 (og (B 9 _ rfl) (ae ah (ae (av (C 18 _ rfl) (ae (av (C 16 _ rfl) (ae (aa 0) af)) (ae (aq ah ah) af))) af)))) (au (a7 6 (av (C 17 _ rfl) (ae (av (C 16 _ rfl) (ae (aa 0) af)) af))) (au (a7 7 (aq (aa 6) (aq (du (B 6 _ rfl) (ae (aa 4) af)) ah))) (au (a7 8 (o7 af)) (au (p6 (c9 (du (B 6 _ rfl) (ae (aa 4) af)) (gu hu .gt ah)) (au (a7 8 (av (C 20 _ rfl) (ae (aq (aa 6) ah) (ae (aa 4) (ae (aa 5) (ae (aa 7) af)))))) bw) bw) (au (E7 (ck (aa 2) (ae (mh (ae (aa 5) (ae (aa 7) (ae (aa 8) (ae (av (C 21 _ rfl) (ae (aa 5) (ae (aa 8) af))) af))))) af))) bw)))))))) (au (br (E4 2)) bw)))⟩
theorem Xl (B:∀(j:Nat) x,mx[j]? = some x→mg x=none):Derived GL P w K mg base ents e24:=⟨⟨rfl,rfl,rfl,by decide +kernel,rfl,by decide +kernel,by decide +kernel⟩,rfl,rfl,rfl,fun n fa cdv A outer s H E hu C =>
 (au (a7 1 (av (C 17 _ rfl) (ae (av (C 16 _ rfl) (ae (aa 0) af)) af))) (au (p6 (c9 (aq (aa 1) ah) (gu hu .lt ah)) (au (br ah) bw) bw) (au (br (aq (aq (aa 1) ah) ah)) bw)))⟩
theorem Xm (B:∀(j:Nat) x,mx[j]? = some x→mg x=none):Derived GL P w K mg base ents e25:=⟨⟨rfl,rfl,rfl,by decide +kernel,rfl,by decide +kernel,by decide +kernel⟩,rfl,rfl,rfl,fun n fa cdv A outer s H E hu C =>
 (au (a7 1 (av (C 22 _ rfl) (ae (aa 0) af))) (au (a7 2 (av (C 23 _ rfl) (ae (aa 0) (ae (aa 1) af)))) (au (a7 3 (av (C 18 _ rfl) (ae (av (C 16 _ rfl) (ae (aa 0) af)) (ae (aq ah ah) af)))) (au (a7 4 (av (C 24 _ rfl) (ae (aa 0) af))) (au (qz 5 ["left","lamp"] (gj (B 2 _ rfl) (c8 (aa 1) ah)) (fun _ _ _ _=>⟨(bh 1),bo,(av (C 24 _ rfl) (ae (aa 0) af))⟩)) (au (a7 6 (A8 (B 11 _ rfl) (ae (aa 5) af))) (au (a7 7 (A8 (B 11 _ rfl) (ae (aa 5) af))) (au (a7 8 (o7 af)) (au (a7 9 (o7 af)) (au (a7 10 (aa 4)) (au (ky (g8 (aa 2)) (cx (ag 11 (ag 12 (ag 13 (ag 14 cw))))) (au (a7 15 (dy ["lamp"] (gj (B 2 _ rfl) (c8 (aa 1) ah)) (fun _ _ _ _=>⟨(bh 0),bo,ah⟩))) (au (ky (g8 (aa 13)) (cx (ag 16 (ag 17 cw))) (au (yb hu (aa 15) (aa 16) (aa 17)) bw)) (au (a7 18 (dy ["asked","tanks","left","k"] (gj (B 2 _ rfl) (c8 (aa 1) ah)) (fun _ _ _ _=>⟨(bh 3),bo,(aq (og (B 9 _ rfl) (ae ah (ae (aq (c8 (aa 0) (aa 3)) (c8 (aa 1) (aa 3))) af))) (av (C 24 _ rfl) (ae (aa 2) af)))⟩))) (au (a7 19 (aq (og (B 9 _ rfl) (ae ah (ae (aq (jq (B 5 _ rfl) (ae (aa 18) af)) (aa 10)) af))) (av (C 24 _ rfl) (ae (aa 0) af)))) (au (a7 20 (av (C 19 _ rfl) (ae (av (C 17 _ rfl) (ae (av (C 16 _ rfl) (ae (aa 0) af)) af)) (ae ah (ae (aa 19) af))))) (au (a7 6 (dy ["tanks","poured","k"] (gj (B 2 _ rfl) (c8 (aa 1) ah)) (fun _ _ _ _=>⟨(bh 2),bo,(aq (c8 (aa 0) (aa 2)) (c8 (aa 1) (aa 2)))⟩))) (au (a7 7 (dy ["most","tanks","k"] (gj (B 2 _ rfl) (c8 (aa 1) ah)) (fun _ _ _ _=>⟨(bh 2),bo,(og (B 9 _ rfl) (ae (c8 (aa 0) (aa 2)) (ae (c8 (aa 1) (aa 2)) af)))⟩))) (au (a7 6 (dy ["tanks","asked","k"] (gj (B 2 _ rfl) (c8 (aa 1) ah)) (fun _ _ _ _=>⟨(bh 2),bo,(aq (c8 (aa 0) (aa 2)) (c8 (aa 1) (aa 2)))⟩))) (au (a7 10 (qx (B 7 _ rfl) (ae (aa 3) (ae (aq (aq (aa 10) (aa 19)) (jq (B 5 _ rfl) (ae (aa 18) af))) af)))) (au (a7 21 (av (C 18 _ rfl) (ae (av (C 16 _ rfl) (ae (aa 0) af)) (ae (aq ah ah) af)))) (au (E7 (ck (aa 8) (ae (mh (ae (aq (aa 20) (av (C 24 _ rfl) (ae (aa 0) af))) (ae (aq (aq (aa 19) (aa 20)) (av (C 24 _ rfl) (ae (aa 0) af))) (ae (aa 21) (ae (aa 11) (ae (aa 12) af)))))) af))) (au (E7 (ck (aa 9) (ae (mh (ae (aa 20) (ae (aq (aa 19) (aa 20)) (ae (cv (B 3 _ rfl) (ae (aa 18) af)) (ae (aa 14) af))))) af))) bw))))))))))))) (au (a7 22 (o7 af)) (au (ky (gj (B 2 _ rfl) (c8 (aa 1) ah)) (bh 16) (au (E7 (ck (aa 22) (ae (mh (ae (aq (c8 (aa 7) (aa 16)) (av (C 24 _ rfl) (ae (aa 0) af))) (ae (c8 (aa 5) (aa 16)) (ae (cv (B 3 _ rfl) (ae (c8 (c8 (aa 1) ah) (aa 16)) af)) af)))) af))) bw)) (au (br (mh (ae (mh (ae (aa 3) (ae (aa 4) (ae (cv (B 3 _ rfl) (ae (aa 22) af)) (ae (cv (B 3 _ rfl) (ae (aa 8) af)) af))))) (ae (cv (B 3 _ rfl) (ae (aa 9) af)) af)))) bw))))))))))))))⟩
theorem Xn (B:∀(j:Nat) x,mx[j]? = some x→mg x=none):Derived GL P w K mg base ents e26:=⟨⟨rfl,rfl,rfl,by decide +kernel,rfl,by decide +kernel,by decide +kernel⟩,rfl,rfl,rfl,fun n fa cdv A outer s H E hu C =>
 (au (a7 3 (o7 af)) (au (ky (gj (B 2 _ rfl) (du (B 6 _ rfl) (ae (c8 (aa 0) ah) af))) (bh 4) (au (a7 5 (cv (B 3 _ rfl) (ae (dy ["many","day"] (g8 (c8 (c8 (c8 (aa 0) ah) (aa 4)) ah)) (fun _ _ _ _=>⟨(bh 1),(uw (c9 (aa 1) (gu hu .ge (aa 0))) bo),(aq (aa 1) (aa 0))⟩)) af))) (au (E7 (ck (aa 3) (ae (mh (ae (c8 (c8 (c8 (aa 0) ah) (aa 4)) ah) (ae (c8 (c8 (aa 1) ah) (aa 4)) (ae (aa 5) af)))) af))) bw))) (au (br (mh (ae (c8 (aa 0) ah) (ae (c8 (aa 1) ah) (ae (cv (B 3 _ rfl) (ae (aa 3) af)) (ae (Il (c8 (aa 0) ah) (Ik (aa 2)) Ij) af)))))) bw)))⟩
theorem Xo (B:∀(j:Nat) x,mx[j]? = some x→mg x=none):Derived GL P w K mg base ents e27:=⟨⟨rfl,rfl,rfl,by decide +kernel,rfl,by decide +kernel,by decide +kernel⟩,rfl,rfl,rfl,fun n fa cdv A outer s H E hu C =>
 (au (a7 3 (aq (c8 (aa 0) ah) (jq (B 5 _ rfl) (ae (dy ["lamp"] (g8 (c8 (aa 0) ah)) (fun _ _ _ _=>⟨(bh 0),bo,(c8 (aa 0) ah)⟩)) af)))) (au (a7 4 (c8 (aa 0) ah)) (au (ky (gj (B 2 _ rfl) (du (B 6 _ rfl) (ae (aa 1) af))) (bh 5) (au (ux (cx (ag 6 (ag 7 (ag 8 (ag 9 cw))))) (c8 (aa 1) (aa 5))) (au (a7 10 (jq (B 5 _ rfl) (ae (dy ["span"] (g8 (aa 9)) (fun _ _ _ _=>⟨(bh 0),bo,(aq (c8 (aa 0) ah) (c8 (aa 0) ah))⟩)) af))) (au (a7 11 (aq (aq (aq (aa 4) (aa 6)) (aa 7)) (jq (B 5 _ rfl) (ae (aa 8) af)))) (au (a7 12 (og (B 9 _ rfl) (ae ah (ae (aq (aa 11) (c8 (aa 0) ah)) af)))) (au (a7 13 (aq (c8 (c8 (aa 2) (aa 5)) ah) (jq (B 5 _ rfl) (ae (c8 (c8 (aa 2) (aa 5)) ah) af)))) (au (p6 (c9 (aq (aq (aa 3) (aa 6)) (aa 7)) (gu hu .ne (aq (aq (aa 13) (aa 10)) (aa 12)))) (au (br Ih) bw) bw) (au (a7 3 (aa 13)) (au (a7 4 (c8 (c8 (aa 2) (aa 5)) ah)) bw))))))))) (au (br Ih) bw))))⟩
theorem Xp (B:∀(j:Nat) x,mx[j]? = some x→mg x=none):Derived GL P w K mg base ents e28:=⟨⟨rfl,rfl,rfl,by decide +kernel,rfl,by decide +kernel,by decide +kernel⟩,rfl,rfl,rfl,fun n fa cdv A outer s H E hu C =>
 (au (ux (cx (ag 1 (ag 2 cw))) (av (C 25 _ rfl) (ae (Fc (B 11 _ rfl) (B 12 _ rfl) (aa 0)) af))) (au (a7 3 (av (C 13 _ rfl) (ae (aa 1) (ae (aa 2) af)))) (au (p6 (Qs (Im (ya (mj (Ut (aa 3) (B 13 _ rfl) (B 11 _ rfl)))) (Im (c9 (du (B 6 _ rfl) (ae (aa 3) af)) (gu hu .ne (du (B 6 _ rfl) (ae (aa 2) af)))) (E6 (ya (mj (av (C 27 _ rfl) (ae (aa 1) (ae (aa 2) (ae (aa 3) af)))))))))) (au (br Ih) bw) bw) (au (ky (Nh (B 2 _ rfl) ah (du (B 6 _ rfl) (ae (aa 2) af))) (bh 4) (au (a7 5 (av (C 26 _ rfl) (ae (aa 1) (ae (c8 (aa 3) (aq (aa 4) ah)) (ae (aa 4) af))))) (au (p6 (Qs (Im (c9 (av (C 12 _ rfl) (ae (aa 5) (ae (Il (aa 2) (Ik (aa 4)) Ij) af))) (gu hu .isnot Ih)) (E6 (c9 (av (C 13 _ rfl) (ae (aa 5) (ae (Il (aa 2) (Ik (aa 4)) Ij) af))) (gu hu .ne (Il (aa 3) (Ik (aa 4)) Ij)))))) (au (br Ih) bw) bw) (au (a7 6 (jq (B 5 _ rfl) (ae (dy ["rota","book","day"] (gj (B 2 _ rfl) (aa 4)) (fun _ _ _ _=>⟨(bh 2),bo,(aq (c8 (c8 (aa 0) (aa 2)) ah) (c8 (c8 (c8 (aa 1) ah) (aa 2)) ah))⟩)) af))) (au (p6 (c9 (aq (av (C 14 _ rfl) (ae (aa 5) (ae (Il (aa 2) (Ik (aa 4)) Ij) af))) (aa 6)) (gu hu .ne (av (C 14 _ rfl) (ae (aa 1) (ae (aa 2) af))))) (au (br Ih) bw) bw) (au (a7 7 (dy ["lamp"] (g8 (c8 (aa 1) ah)) (fun _ _ _ _=>⟨(bh 0),bo,ah⟩))) (au (ky (g8 (Il (aa 2) Ij (Ik (aa 4)))) (bh 8) (au (ky (g8 (c8 (aa 8) ah)) (cx (ag 9 (ag 10 (ag 11 cw)))) (au (yb hu (aa 7) (aa 9) (aq (aq (c8 (aa 7) (aa 9)) (aa 11)) (aa 10))) bw)) bw)) (au (a7 12 (av (C 15 _ rfl) (ae (aa 5) (ae (Il (aa 2) (Ik (aa 4)) Ij) af)))) (au (p6 (c9 (av (C 15 _ rfl) (ae (aa 1) (ae (aa 2) af))) (gu hu .ne (cv (B 3 _ rfl) (ae (dy ["ticks","later","k"] (gj (B 2 _ rfl) (du (B 6 _ rfl) (ae (aa 7) af))) (fun _ _ _ _=>⟨(bh 2),bo,(aq (c8 (aa 0) (aa 2)) (c8 (aa 1) (aa 2)))⟩)) af)))) (au (br Ih) bw) bw) bw))))))))) (au (br Ih) bw)))))⟩
theorem dvs (B:∀(j:Nat) x,mx[j]? = some x→mg x=none):∀(j:Nat) e,ents[j]? = some e→Derived GL P w K mg base ents e
 | 0,_,h=>by
  have h':some e0=some _:=h
  cases h'
  exact dv0 B
 | 1,_,h=>by
  have h':some e1=some _:=h
  cases h'
  exact dv1 B
 | 2,_,h=>by
  have h':some e2=some _:=h
  cases h'
  exact dv2 B
 | 3,_,h=>by
  have h':some e3=some _:=h
  cases h'
  exact dv3 B
 | 4,_,h=>by
  have h':some e4=some _:=h
  cases h'
  exact dv4 B
 | 5,_,h=>by
  have h':some e5=some _:=h
  cases h'
  exact dv5 B
 | 6,_,h=>by
  have h':some e6=some _:=h
  cases h'
  exact dv6 B
 | 7,_,h=>by
  have h':some e7=some _:=h
  cases h'
  exact dv7 B
 | 8,_,h=>by
  have h':some e8=some _:=h
  cases h'
  exact dv8 B
 | 9,_,h=>by
  have h':some e9=some _:=h
  cases h'
  exact dv9 B
 | 10,_,h=>by
  have h':some e10=some _:=h
  cases h'
  exact W7 B
 | 11,_,h=>by
  have h':some e11=some _:=h
  cases h'
  exact W8 B
 | 12,_,h=>by
  have h':some e12=some _:=h
  cases h'
  exact W9 B
 | 13,_,h=>by
  have h':some e13=some _:=h
  cases h'
  exact Xa B
 | 14,_,h=>by
  have h':some e14=some _:=h
  cases h'
  exact Xb B
 | 15,_,h=>by
  have h':some e15=some _:=h
  cases h'
  exact Xc B
 | 16,_,h=>by
  have h':some e16=some _:=h
  cases h'
  exact Xd B
 | 17,_,h=>by
  have h':some e17=some _:=h
  cases h'
  exact Xe B
 | 18,_,h=>by
  have h':some e18=some _:=h
  cases h'
  exact Xf B
 | 19,_,h=>by
  have h':some e19=some _:=h
  cases h'
  exact Xg B
 | 20,_,h=>by
  have h':some e20=some _:=h
  cases h'
  exact Xh B
 | 21,_,h=>by
  have h':some e21=some _:=h
  cases h'
  exact Xi B
 | 22,_,h=>by
  have h':some e22=some _:=h
  cases h'
  exact Xj B
 | 23,_,h=>by
  have h':some e23=some _:=h
  cases h'
  exact Xk B
 | 24,_,h=>by
  have h':some e24=some _:=h
  cases h'
  exact Xl B
 | 25,_,h=>by
  have h':some e25=some _:=h
  cases h'
  exact Xm B
 | 26,_,h=>by
  have h':some e26=some _:=h
  cases h'
  exact Xn B
 | 27,_,h=>by
  have h':some e27=some _:=h
  cases h'
  exact Xo B
 | 28,_,h=>by
  have h':some e28=some _:=h
  cases h'
  exact Xp B
 | n+29,_,h=>by
  have h':(none:Option Ent)=some _:=h
  cases h'
theorem mk0 {h:Heap} {f:Addr} {oc:Value} {od an:Option Addr} {sl:Array (Option Value)} {kV dc pm cd ct:Value} (X:K.In h) (G:h.Ns mainGlobals mg) (a:PySem.W.nsIn K mainGlobals "rises"=some (some (.ref f))) (l:K.lookup f=some ⟨oc,od,.func (PySem.W.fnOf "rises" "rises" (a9 (top 1)) (az (top 1)) (ak (top 1)) .none kV dc pm an cd ct),sl⟩) (c:PySem.W.codeIn K cd "rises"=true) (k:PySem.W.keepIn K (.ref f)=true):ModOf K mg e0 :=
 cf (e:=e0) X G a l c k fun _ _ _ _ _ _=>ar1 fun _=>rfl
theorem mk1 {h:Heap} {f:Addr} {oc:Value} {od an:Option Addr} {sl:Array (Option Value)} {kV dc pm cd ct:Value} (X:K.In h) (G:h.Ns mainGlobals mg) (a:PySem.W.nsIn K mainGlobals "can_burn"=some (some (.ref f))) (l:K.lookup f=some ⟨oc,od,.func (PySem.W.fnOf "can_burn" "can_burn" (a9 (top 2)) (az (top 2)) (ak (top 2)) .none kV dc pm an cd ct),sl⟩) (c:PySem.W.codeIn K cd "can_burn"=true) (k:PySem.W.keepIn K (.ref f)=true):ModOf K mg e1 :=
 cf (e:=e1) X G a l c k fun _ _ _ _ _ _=>ar3 fun _ _ _=>rfl
theorem mk2 {h:Heap} {f:Addr} {oc:Value} {od an:Option Addr} {sl:Array (Option Value)} {kV dc pm cd ct:Value} (X:K.In h) (G:h.Ns mainGlobals mg) (a:PySem.W.nsIn K mainGlobals "ticks_of_spans"=some (some (.ref f))) (l:K.lookup f=some ⟨oc,od,.func (PySem.W.fnOf "ticks_of_spans" "ticks_of_spans" (a9 (top 4)) (az (top 4)) (ak (top 4)) .none kV dc pm an cd ct),sl⟩) (c:PySem.W.codeIn K cd "ticks_of_spans"=true) (k:PySem.W.keepIn K (.ref f)=true):ModOf K mg e2 :=
 cf (e:=e2) X G a l c k fun _ _ _ _ _ _=>ar2 fun _ _=>rfl
theorem mk3 {h:Heap} {f:Addr} {oc:Value} {od an:Option Addr} {sl:Array (Option Value)} {kV dc pm cd ct:Value} (X:K.In h) (G:h.Ns mainGlobals mg) (a:PySem.W.nsIn K mainGlobals "have_tick_in_common"=some (some (.ref f))) (l:K.lookup f=some ⟨oc,od,.func (PySem.W.fnOf "have_tick_in_common" "have_tick_in_common" (a9 (top 5)) (az (top 5)) (ak (top 5)) .none kV dc pm an cd ct),sl⟩) (c:PySem.W.codeIn K cd "have_tick_in_common"=true) (k:PySem.W.keepIn K (.ref f)=true):ModOf K mg e3 :=
 cf (e:=e3) X G a l c k fun _ _ _ _ _ _=>ar2 fun _ _=>rfl
theorem mk4 {h:Heap} {f:Addr} {oc:Value} {od an:Option Addr} {sl:Array (Option Value)} {kV dc pm cd ct:Value} (X:K.In h) (G:h.Ns mainGlobals mg) (a:PySem.W.nsIn K mainGlobals "has_span_fault"=some (some (.ref f))) (l:K.lookup f=some ⟨oc,od,.func (PySem.W.fnOf "has_span_fault" "has_span_fault" (a9 (top 6)) (az (top 6)) (ak (top 6)) .none kV dc pm an cd ct),sl⟩) (c:PySem.W.codeIn K cd "has_span_fault"=true) (k:PySem.W.keepIn K (.ref f)=true):ModOf K mg e4 :=
 cf (e:=e4) X G a l c k fun _ _ _ _ _ _=>ar3 fun _ _ _=>rfl
theorem mk5 {h:Heap} {f:Addr} {oc:Value} {od an:Option Addr} {sl:Array (Option Value)} {kV dc pm cd ct:Value} (X:K.In h) (G:h.Ns mainGlobals mg) (a:PySem.W.nsIn K mainGlobals "has_dark_fault"=some (some (.ref f))) (l:K.lookup f=some ⟨oc,od,.func (PySem.W.fnOf "has_dark_fault" "has_dark_fault" (a9 (top 7)) (az (top 7)) (ak (top 7)) .none kV dc pm an cd ct),sl⟩) (c:PySem.W.codeIn K cd "has_dark_fault"=true) (k:PySem.W.keepIn K (.ref f)=true):ModOf K mg e5 :=
 cf (e:=e5) X G a l c k fun _ _ _ _ _ _=>ar3 fun _ _ _=>rfl
theorem mk6 {h:Heap} {f:Addr} {oc:Value} {od an:Option Addr} {sl:Array (Option Value)} {kV dc pm cd ct:Value} (X:K.In h) (G:h.Ns mainGlobals mg) (a:PySem.W.nsIn K mainGlobals "held_at_first"=some (some (.ref f))) (l:K.lookup f=some ⟨oc,od,.func (PySem.W.fnOf "held_at_first" "held_at_first" (a9 (top 8)) (az (top 8)) (ak (top 8)) .none kV dc pm an cd ct),sl⟩) (c:PySem.W.codeIn K cd "held_at_first"=true) (k:PySem.W.keepIn K (.ref f)=true):ModOf K mg e6 :=
 cf (e:=e6) X G a l c k fun _ _ _ _ _ _=>ar1 fun _=>rfl
theorem mk7 {h:Heap} {f:Addr} {oc:Value} {od an:Option Addr} {sl:Array (Option Value)} {kV dc pm cd ct:Value} (X:K.In h) (G:h.Ns mainGlobals mg) (a:PySem.W.nsIn K mainGlobals "filled"=some (some (.ref f))) (l:K.lookup f=some ⟨oc,od,.func (PySem.W.fnOf "filled" "filled" (a9 (top 9)) (az (top 9)) (ak (top 9)) .none kV dc pm an cd ct),sl⟩) (c:PySem.W.codeIn K cd "filled"=true) (k:PySem.W.keepIn K (.ref f)=true):ModOf K mg e7 :=
 cf (e:=e7) X G a l c k fun _ _ _ _ _ _=>ar2 fun _ _=>rfl
theorem mk8 {h:Heap} {f:Addr} {oc:Value} {od an:Option Addr} {sl:Array (Option Value)} {kV dc pm cd ct:Value} (X:K.In h) (G:h.Ns mainGlobals mg) (a:PySem.W.nsIn K mainGlobals "held_behind"=some (some (.ref f))) (l:K.lookup f=some ⟨oc,od,.func (PySem.W.fnOf "held_behind" "held_behind" (a9 (top 10)) (az (top 10)) (ak (top 10)) .none kV dc pm an cd ct),sl⟩) (c:PySem.W.codeIn K cd "held_behind"=true) (k:PySem.W.keepIn K (.ref f)=true):ModOf K mg e8 :=
 cf (e:=e8) X G a l c k fun _ _ _ _ _ _=>ar3 fun _ _ _=>rfl
theorem mk9 {h:Heap} {f:Addr} {oc:Value} {od an:Option Addr} {sl:Array (Option Value)} {kV dc pm cd ct:Value} (X:K.In h) (G:h.Ns mainGlobals mg) (a:PySem.W.nsIn K mainGlobals "day_fault"=some (some (.ref f))) (l:K.lookup f=some ⟨oc,od,.func (PySem.W.fnOf "day_fault" "day_fault" (a9 (top 11)) (az (top 11)) (ak (top 11)) .none kV dc pm an cd ct),sl⟩) (c:PySem.W.codeIn K cd "day_fault"=true) (k:PySem.W.keepIn K (.ref f)=true):ModOf K mg e9 :=
 cf (e:=e9) X G a l c k fun _ _ _ _ _ _=>ar4 fun _ _ _ _=>rfl
theorem Xq {h:Heap} {f:Addr} {oc:Value} {od an:Option Addr} {sl:Array (Option Value)} {kV dc pm cd ct:Value} (X:K.In h) (G:h.Ns mainGlobals mg) (a:PySem.W.nsIn K mainGlobals "night_fault"=some (some (.ref f))) (l:K.lookup f=some ⟨oc,od,.func (PySem.W.fnOf "night_fault" "night_fault" (a9 (top 12)) (az (top 12)) (ak (top 12)) .none kV dc pm an cd ct),sl⟩) (c:PySem.W.codeIn K cd "night_fault"=true) (k:PySem.W.keepIn K (.ref f)=true):ModOf K mg e10 :=
 cf (e:=e10) X G a l c k fun _ _ _ _ _ _=>ar4 fun _ _ _ _=>rfl
theorem Xr {h:Heap} {f:Addr} {oc:Value} {od an:Option Addr} {sl:Array (Option Value)} {kV dc pm cd ct:Value} (X:K.In h) (G:h.Ns mainGlobals mg) (a:PySem.W.nsIn K mainGlobals "fault"=some (some (.ref f))) (l:K.lookup f=some ⟨oc,od,.func (PySem.W.fnOf "fault" "fault" (a9 (top 13)) (az (top 13)) (ak (top 13)) .none kV dc pm an cd ct),sl⟩) (c:PySem.W.codeIn K cd "fault"=true) (k:PySem.W.keepIn K (.ref f)=true):ModOf K mg e11 :=
 cf (e:=e11) X G a l c k fun _ _ _ _ _ _=>ar2 fun _ _=>rfl
theorem Xs {h:Heap} {f:Addr} {oc:Value} {od an:Option Addr} {sl:Array (Option Value)} {kV dc pm cd ct:Value} (X:K.In h) (G:h.Ns mainGlobals mg) (a:PySem.W.nsIn K mainGlobals "keeps"=some (some (.ref f))) (l:K.lookup f=some ⟨oc,od,.func (PySem.W.fnOf "keeps" "keeps" (a9 (top 14)) (az (top 14)) (ak (top 14)) .none kV dc pm an cd ct),sl⟩) (c:PySem.W.codeIn K cd "keeps"=true) (k:PySem.W.keepIn K (.ref f)=true):ModOf K mg e12 :=
 cf (e:=e12) X G a l c k fun _ _ _ _ _ _=>ar2 fun _ _=>rfl
theorem Xt {h:Heap} {f:Addr} {oc:Value} {od an:Option Addr} {sl:Array (Option Value)} {kV dc pm cd ct:Value} (X:K.In h) (G:h.Ns mainGlobals mg) (a:PySem.W.nsIn K mainGlobals "evenings"=some (some (.ref f))) (l:K.lookup f=some ⟨oc,od,.func (PySem.W.fnOf "evenings" "evenings" (a9 (top 15)) (az (top 15)) (ak (top 15)) .none kV dc pm an cd ct),sl⟩) (c:PySem.W.codeIn K cd "evenings"=true) (k:PySem.W.keepIn K (.ref f)=true):ModOf K mg e13 :=
 cf (e:=e13) X G a l c k fun _ _ _ _ _ _=>ar2 fun _ _=>rfl
theorem Xu {h:Heap} {f:Addr} {oc:Value} {od an:Option Addr} {sl:Array (Option Value)} {kV dc pm cd ct:Value} (X:K.In h) (G:h.Ns mainGlobals mg) (a:PySem.W.nsIn K mainGlobals "cost"=some (some (.ref f))) (l:K.lookup f=some ⟨oc,od,.func (PySem.W.fnOf "cost" "cost" (a9 (top 16)) (az (top 16)) (ak (top 16)) .none kV dc pm an cd ct),sl⟩) (c:PySem.W.codeIn K cd "cost"=true) (k:PySem.W.keepIn K (.ref f)=true):ModOf K mg e14 :=
 cf (e:=e14) X G a l c k fun _ _ _ _ _ _=>ar2 fun _ _=>rfl
theorem Xv {h:Heap} {f:Addr} {oc:Value} {od an:Option Addr} {sl:Array (Option Value)} {kV dc pm cd ct:Value} (X:K.In h) (G:h.Ns mainGlobals mg) (a:PySem.W.nsIn K mainGlobals "burnt"=some (some (.ref f))) (l:K.lookup f=some ⟨oc,od,.func (PySem.W.fnOf "burnt" "burnt" (a9 (top 17)) (az (top 17)) (ak (top 17)) .none kV dc pm an cd ct),sl⟩) (c:PySem.W.codeIn K cd "burnt"=true) (k:PySem.W.keepIn K (.ref f)=true):ModOf K mg e15 :=
 cf (e:=e15) X G a l c k fun _ _ _ _ _ _=>ar2 fun _ _=>rfl
theorem Xw {h:Heap} {f:Addr} {oc:Value} {od an:Option Addr} {sl:Array (Option Value)} {kV dc pm cd ct:Value} (X:K.In h) (G:h.Ns mainGlobals mg) (a:PySem.W.nsIn K mainGlobals "_law_next"=some (some (.ref f))) (l:K.lookup f=some ⟨oc,od,.func (PySem.W.fnOf "_law_next" "_law_next" (a9 (top 20)) (az (top 20)) (ak (top 20)) .none kV dc pm an cd ct),sl⟩) (c:PySem.W.codeIn K cd "_law_next"=true) (k:PySem.W.keepIn K (.ref f)=true):ModOf K mg e16 :=
 cf (e:=e16) X G a l c k fun _ _ _ _ _ _=>ar1 fun _=>rfl
theorem Xx {h:Heap} {f:Addr} {oc:Value} {od an:Option Addr} {sl:Array (Option Value)} {kV dc pm cd ct:Value} (X:K.In h) (G:h.Ns mainGlobals mg) (a:PySem.W.nsIn K mainGlobals "_law_turn"=some (some (.ref f))) (l:K.lookup f=some ⟨oc,od,.func (PySem.W.fnOf "_law_turn" "_law_turn" (a9 (top 21)) (az (top 21)) (ak (top 21)) .none kV dc pm an cd ct),sl⟩) (c:PySem.W.codeIn K cd "_law_turn"=true) (k:PySem.W.keepIn K (.ref f)=true):ModOf K mg e17 :=
 cf (e:=e17) X G a l c k fun _ _ _ _ _ _=>ar1 fun _=>rfl
theorem Xy {h:Heap} {f:Addr} {oc:Value} {od an:Option Addr} {sl:Array (Option Value)} {kV dc pm cd ct:Value} (X:K.In h) (G:h.Ns mainGlobals mg) (a:PySem.W.nsIn K mainGlobals "_law_size"=some (some (.ref f))) (l:K.lookup f=some ⟨oc,od,.func (PySem.W.fnOf "_law_size" "_law_size" (a9 (top 22)) (az (top 22)) (ak (top 22)) .none kV dc pm an cd ct),sl⟩) (c:PySem.W.codeIn K cd "_law_size"=true) (k:PySem.W.keepIn K (.ref f)=true):ModOf K mg e18 :=
 cf (e:=e18) X G a l c k fun _ _ _ _ _ _=>ar2 fun _ _=>rfl
theorem Xz {h:Heap} {f:Addr} {oc:Value} {od an:Option Addr} {sl:Array (Option Value)} {kV dc pm cd ct:Value} (X:K.In h) (G:h.Ns mainGlobals mg) (a:PySem.W.nsIn K mainGlobals "_law_share"=some (some (.ref f))) (l:K.lookup f=some ⟨oc,od,.func (PySem.W.fnOf "_law_share" "_law_share" (a9 (top 23)) (az (top 23)) (ak (top 23)) .none kV dc pm an cd ct),sl⟩) (c:PySem.W.codeIn K cd "_law_share"=true) (k:PySem.W.keepIn K (.ref f)=true):ModOf K mg e19 :=
 cf (e:=e19) X G a l c k fun _ _ _ _ _ _=>ar3 fun _ _ _=>rfl
theorem X0 {h:Heap} {f:Addr} {oc:Value} {od an:Option Addr} {sl:Array (Option Value)} {kV dc pm cd ct:Value} (X:K.In h) (G:h.Ns mainGlobals mg) (a:PySem.W.nsIn K mainGlobals "_law_ticks"=some (some (.ref f))) (l:K.lookup f=some ⟨oc,od,.func (PySem.W.fnOf "_law_ticks" "_law_ticks" (a9 (top 24)) (az (top 24)) (ak (top 24)) .none kV dc pm an cd ct),sl⟩) (c:PySem.W.codeIn K cd "_law_ticks"=true) (k:PySem.W.keepIn K (.ref f)=true):ModOf K mg e20 :=
 cf (e:=e20) X G a l c k fun _ _ _ _ _ _=>ar4 fun _ _ _ _=>rfl
theorem X3 {h:Heap} {f:Addr} {oc:Value} {od an:Option Addr} {sl:Array (Option Value)} {kV dc pm cd ct:Value} (X:K.In h) (G:h.Ns mainGlobals mg) (a:PySem.W.nsIn K mainGlobals "_law_spans"=some (some (.ref f))) (l:K.lookup f=some ⟨oc,od,.func (PySem.W.fnOf "_law_spans" "_law_spans" (a9 (top 25)) (az (top 25)) (ak (top 25)) .none kV dc pm an cd ct),sl⟩) (c:PySem.W.codeIn K cd "_law_spans"=true) (k:PySem.W.keepIn K (.ref f)=true):ModOf K mg e21 :=
 cf (e:=e21) X G a l c k fun _ _ _ _ _ _=>ar2 fun _ _=>rfl
theorem X4 {h:Heap} {f:Addr} {oc:Value} {od an:Option Addr} {sl:Array (Option Value)} {kV dc pm cd ct:Value} (X:K.In h) (G:h.Ns mainGlobals mg) (a:PySem.W.nsIn K mainGlobals "_law_frame"=some (some (.ref f))) (l:K.lookup f=some ⟨oc,od,.func (PySem.W.fnOf "_law_frame" "_law_frame" (a9 (top 26)) (az (top 26)) (ak (top 26)) .none kV dc pm an cd ct),sl⟩) (c:PySem.W.codeIn K cd "_law_frame"=true) (k:PySem.W.keepIn K (.ref f)=true):ModOf K mg e22 :=
 cf (e:=e22) X G a l c k fun _ _ _ _ _ _=>ar1 fun _=>rfl
theorem X5 {h:Heap} {f:Addr} {oc:Value} {od an:Option Addr} {sl:Array (Option Value)} {kV dc pm cd ct:Value} (X:K.In h) (G:h.Ns mainGlobals mg) (a:PySem.W.nsIn K mainGlobals "_law_nights"=some (some (.ref f))) (l:K.lookup f=some ⟨oc,od,.func (PySem.W.fnOf "_law_nights" "_law_nights" (a9 (top 27)) (az (top 27)) (ak (top 27)) .none kV dc pm an cd ct),sl⟩) (c:PySem.W.codeIn K cd "_law_nights"=true) (k:PySem.W.keepIn K (.ref f)=true):ModOf K mg e23 :=
 cf (e:=e23) X G a l c k fun _ _ _ _ _ _=>ar2 fun _ _=>rfl
theorem X6 {h:Heap} {f:Addr} {oc:Value} {od an:Option Addr} {sl:Array (Option Value)} {kV dc pm cd ct:Value} (X:K.In h) (G:h.Ns mainGlobals mg) (a:PySem.W.nsIn K mainGlobals "_law_slack"=some (some (.ref f))) (l:K.lookup f=some ⟨oc,od,.func (PySem.W.fnOf "_law_slack" "_law_slack" (a9 (top 28)) (az (top 28)) (ak (top 28)) .none kV dc pm an cd ct),sl⟩) (c:PySem.W.codeIn K cd "_law_slack"=true) (k:PySem.W.keepIn K (.ref f)=true):ModOf K mg e24 :=
 cf (e:=e24) X G a l c k fun _ _ _ _ _ _=>ar1 fun _=>rfl
theorem X7 {h:Heap} {f:Addr} {oc:Value} {od an:Option Addr} {sl:Array (Option Value)} {kV dc pm cd ct:Value} (X:K.In h) (G:h.Ns mainGlobals mg) (a:PySem.W.nsIn K mainGlobals "_law_kept"=some (some (.ref f))) (l:K.lookup f=some ⟨oc,od,.func (PySem.W.fnOf "_law_kept" "_law_kept" (a9 (top 29)) (az (top 29)) (ak (top 29)) .none kV dc pm an cd ct),sl⟩) (c:PySem.W.codeIn K cd "_law_kept"=true) (k:PySem.W.keepIn K (.ref f)=true):ModOf K mg e25 :=
 cf (e:=e25) X G a l c k fun _ _ _ _ _ _=>ar1 fun _=>rfl
theorem X8 {h:Heap} {f:Addr} {oc:Value} {od an:Option Addr} {sl:Array (Option Value)} {kV dc pm cd ct:Value} (X:K.In h) (G:h.Ns mainGlobals mg) (a:PySem.W.nsIn K mainGlobals "_law_rest"=some (some (.ref f))) (l:K.lookup f=some ⟨oc,od,.func (PySem.W.fnOf "_law_rest" "_law_rest" (a9 (top 30)) (az (top 30)) (ak (top 30)) .none kV dc pm an cd ct),sl⟩) (c:PySem.W.codeIn K cd "_law_rest"=true) (k:PySem.W.keepIn K (.ref f)=true):ModOf K mg e26 :=
 cf (e:=e26) X G a l c k fun _ _ _ _ _ _=>ar3 fun _ _ _=>rfl
theorem X9 {h:Heap} {f:Addr} {oc:Value} {od an:Option Addr} {sl:Array (Option Value)} {kV dc pm cd ct:Value} (X:K.In h) (G:h.Ns mainGlobals mg) (a:PySem.W.nsIn K mainGlobals "_law_days_even"=some (some (.ref f))) (l:K.lookup f=some ⟨oc,od,.func (PySem.W.fnOf "_law_days_even" "_law_days_even" (a9 (top 31)) (az (top 31)) (ak (top 31)) .none kV dc pm an cd ct),sl⟩) (c:PySem.W.codeIn K cd "_law_days_even"=true) (k:PySem.W.keepIn K (.ref f)=true):ModOf K mg e27 :=
 cf (e:=e27) X G a l c k fun _ _ _ _ _ _=>ar3 fun _ _ _=>rfl
theorem Ya {h:Heap} {f:Addr} {oc:Value} {od an:Option Addr} {sl:Array (Option Value)} {kV dc pm cd ct:Value} (X:K.In h) (G:h.Ns mainGlobals mg) (a:PySem.W.nsIn K mainGlobals "law"=some (some (.ref f))) (l:K.lookup f=some ⟨oc,od,.func (PySem.W.fnOf "law" "law" (a9 (top 32)) (az (top 32)) (ak (top 32)) .none kV dc pm an cd ct),sl⟩) (c:PySem.W.codeIn K cd "law"=true) (k:PySem.W.keepIn K (.ref f)=true):ModOf K mg e28 :=
 cf (e:=e28) X G a l c k fun _ _ _ _ _ _=>ar1 fun _=>rfl
end
theorem mods {K:PySem.W.Frag} {mg:Str→Option Value} (m0:ModOf K mg e0) (m1:ModOf K mg e1) (m2:ModOf K mg e2) (m3:ModOf K mg e3) (m4:ModOf K mg e4) (m5:ModOf K mg e5) (m6:ModOf K mg e6) (m7:ModOf K mg e7) (m8:ModOf K mg e8) (m9:ModOf K mg e9) (m10:ModOf K mg e10) (m11:ModOf K mg e11) (m12:ModOf K mg e12) (m13:ModOf K mg e13) (m14:ModOf K mg e14) (m15:ModOf K mg e15) (m16:ModOf K mg e16) (m17:ModOf K mg e17) (m18:ModOf K mg e18) (m19:ModOf K mg e19) (m20:ModOf K mg e20) (m21:ModOf K mg e21) (m22:ModOf K mg e22) (m23:ModOf K mg e23) (m24:ModOf K mg e24) (m25:ModOf K mg e25) (m26:ModOf K mg e26) (m27:ModOf K mg e27) (m28:ModOf K mg e28):∀(j:Nat) e,ents[j]? = some e→ModOf K mg e
 | 0,_,h=>by
  have h':some e0=some _:=h
  cases h'
  exact m0
 | 1,_,h=>by
  have h':some e1=some _:=h
  cases h'
  exact m1
 | 2,_,h=>by
  have h':some e2=some _:=h
  cases h'
  exact m2
 | 3,_,h=>by
  have h':some e3=some _:=h
  cases h'
  exact m3
 | 4,_,h=>by
  have h':some e4=some _:=h
  cases h'
  exact m4
 | 5,_,h=>by
  have h':some e5=some _:=h
  cases h'
  exact m5
 | 6,_,h=>by
  have h':some e6=some _:=h
  cases h'
  exact m6
 | 7,_,h=>by
  have h':some e7=some _:=h
  cases h'
  exact m7
 | 8,_,h=>by
  have h':some e8=some _:=h
  cases h'
  exact m8
 | 9,_,h=>by
  have h':some e9=some _:=h
  cases h'
  exact m9
 | 10,_,h=>by
  have h':some e10=some _:=h
  cases h'
  exact m10
 | 11,_,h=>by
  have h':some e11=some _:=h
  cases h'
  exact m11
 | 12,_,h=>by
  have h':some e12=some _:=h
  cases h'
  exact m12
 | 13,_,h=>by
  have h':some e13=some _:=h
  cases h'
  exact m13
 | 14,_,h=>by
  have h':some e14=some _:=h
  cases h'
  exact m14
 | 15,_,h=>by
  have h':some e15=some _:=h
  cases h'
  exact m15
 | 16,_,h=>by
  have h':some e16=some _:=h
  cases h'
  exact m16
 | 17,_,h=>by
  have h':some e17=some _:=h
  cases h'
  exact m17
 | 18,_,h=>by
  have h':some e18=some _:=h
  cases h'
  exact m18
 | 19,_,h=>by
  have h':some e19=some _:=h
  cases h'
  exact m19
 | 20,_,h=>by
  have h':some e20=some _:=h
  cases h'
  exact m20
 | 21,_,h=>by
  have h':some e21=some _:=h
  cases h'
  exact m21
 | 22,_,h=>by
  have h':some e22=some _:=h
  cases h'
  exact m22
 | 23,_,h=>by
  have h':some e23=some _:=h
  cases h'
  exact m23
 | 24,_,h=>by
  have h':some e24=some _:=h
  cases h'
  exact m24
 | 25,_,h=>by
  have h':some e25=some _:=h
  cases h'
  exact m25
 | 26,_,h=>by
  have h':some e26=some _:=h
  cases h'
  exact m26
 | 27,_,h=>by
  have h':some e27=some _:=h
  cases h'
  exact m27
 | 28,_,h=>by
  have h':some e28=some _:=h
  cases h'
  exact m28
 | n+29,_,h=>by
  have h':(none:Option Ent)=some _:=h
  cases h'
theorem nob {mg:Str→Option Value} (b0:mg "zip"=none) (b1:mg "all"=none) (b2:mg "range"=none) (b3:mg "tuple"=none) (b4:mg "any"=none) (b5:mg "sum"=none) (b6:mg "len"=none) (b7:mg "min"=none) (b8:mg "enumerate"=none) (b9:mg "max"=none) (b10:mg "sorted"=none) (b11:mg "list"=none) (b12:mg "reversed"=none) (b13:mg "isinstance"=none):∀(j:Nat) x,mx[j]? = some x→mg x=none
 | 0,_,h=>by
  have h':some ("zip":Str)=some _:=h
  cases h'
  exact b0
 | 1,_,h=>by
  have h':some ("all":Str)=some _:=h
  cases h'
  exact b1
 | 2,_,h=>by
  have h':some ("range":Str)=some _:=h
  cases h'
  exact b2
 | 3,_,h=>by
  have h':some ("tuple":Str)=some _:=h
  cases h'
  exact b3
 | 4,_,h=>by
  have h':some ("any":Str)=some _:=h
  cases h'
  exact b4
 | 5,_,h=>by
  have h':some ("sum":Str)=some _:=h
  cases h'
  exact b5
 | 6,_,h=>by
  have h':some ("len":Str)=some _:=h
  cases h'
  exact b6
 | 7,_,h=>by
  have h':some ("min":Str)=some _:=h
  cases h'
  exact b7
 | 8,_,h=>by
  have h':some ("enumerate":Str)=some _:=h
  cases h'
  exact b8
 | 9,_,h=>by
  have h':some ("max":Str)=some _:=h
  cases h'
  exact b9
 | 10,_,h=>by
  have h':some ("sorted":Str)=some _:=h
  cases h'
  exact b10
 | 11,_,h=>by
  have h':some ("list":Str)=some _:=h
  cases h'
  exact b11
 | 12,_,h=>by
  have h':some ("reversed":Str)=some _:=h
  cases h'
  exact b12
 | 13,_,h=>by
  have h':some ("isinstance":Str)=some _:=h
  cases h'
  exact b13
 | n+14,_,h=>by
  have h':(none:Option Str)=some _:=h
  cases h'
end Lp.Law
theorem PySem.W.Fast.tw9257162860171400568:True:=trivial
theorem PySem.W.Fast.tw1844441511737167486:True:=trivial
theorem PySem.W.Fast.tw15936807565083519419:True:=trivial
theorem PySem.W.Fast.tw13877243127640708287:True:=trivial
theorem PySem.W.Fast.tw17604527824806450413:True:=trivial
theorem PySem.W.Fast.tw11653220320757954049:True:=trivial
theorem PySem.W.Fast.tw12581331623837777655:True:=trivial
theorem PySem.W.Fast.tw2678663930889156718:True:=trivial
theorem PySem.W.Fast.tw3412950691480307220:True:=trivial
theorem PySem.W.Fast.tw11800060596590449413:True:=trivial
theorem PySem.W.Fast.tw13867232335898470722:True:=trivial
theorem PySem.W.Fast.tw17369507631093838717:True:=trivial
theorem PySem.W.Fast.tw9090239457957880612:True:=trivial
theorem PySem.W.Fast.tw12874928400293558153:True:=trivial
theorem PySem.W.Fast.tw6101123574468944820:True:=trivial
theorem PySem.W.Fast.tw10567138920735396830:True:=trivial
theorem PySem.W.Fast.tw4880638579554358279:True:=trivial
theorem PySem.W.Fast.tw17098092117706968649:True:=trivial
theorem PySem.W.Fast.tw10995452939890389453:True:=trivial
theorem PySem.W.Fast.tw16792799337324421567:True:=trivial
theorem PySem.W.Fast.tw12546738709725648163:True:=trivial
theorem PySem.W.Fast.tw14837073666934486008:True:=trivial
theorem PySem.W.Fast.tw16398577625115172475:True:=trivial
theorem PySem.W.Fast.tw4610234552406916545:True:=trivial
theorem PySem.W.Fast.tw4599288785299701078:True:=trivial
theorem PySem.W.Fast.tw11160342790941477003:True:=trivial
theorem PySem.W.Fast.tw13234352030156560359:True:=trivial
theorem PySem.W.Fast.tw9013437738169104427:True:=trivial
theorem PySem.W.Fast.tw18322454093314148367:True:=trivial
theorem PySem.W.Fast.tw957597897400704451:True:=trivial
theorem PySem.W.Fast.tw1908292673428993172:True:=trivial
theorem PySem.W.Fast.tw7053262117297137073:True:=trivial
theorem PySem.W.Fast.tw13171610918047069300:True:=trivial
theorem PySem.W.Fast.tw9041398168940593846:True:=trivial
theorem PySem.W.Fast.tw14271887297066889531:True:=trivial
theorem PySem.W.Fast.tw2268659881837793182:True:=trivial
theorem PySem.W.Fast.tw17084243104751276765:True:=trivial
theorem PySem.W.Fast.tw4867042423303066435:True:=trivial
theorem PySem.W.Fast.tw6517901286661229417:True:=trivial
theorem PySem.W.Fast.tw7577098992215565009:True:=trivial
theorem PySem.W.Fast.tw12640093349333160884:True:=trivial
theorem PySem.W.Fast.tw5660786005930841731:True:=trivial
theorem PySem.W.Fast.tw15737736747180356059:True:=trivial
theorem PySem.W.Fast.tw8121477748259546887:True:=trivial
theorem PySem.W.Fast.tw11720466089526746050:True:=trivial
theorem PySem.W.Fast.tw7504380213830836646:True:=trivial
theorem PySem.W.Fast.tw8984292266986231112:True:=trivial
theorem PySem.W.Fast.tw11588012827507038474:True:=trivial
theorem PySem.W.Fast.tw3946477616172356728:True:=trivial
theorem PySem.W.Fast.tw10144772081581641318:True:=trivial
theorem PySem.W.Fast.tw1078493372980612872:True:=trivial
theorem PySem.W.Fast.tw15137218264725641864:True:=trivial
theorem PySem.W.Fast.tw10586607627274158061:True:=trivial
theorem PySem.W.Fast.tw15693873344225563617:True:=trivial
theorem PySem.W.Fast.tw10426794253931914398:True:=trivial
open PySem PySem.W PyProof.Rows
set_option maxRecDepth 100000 in
set_option maxHeartbeats 0 in
theorem PySem.Challenge.cw_lamprota_k12_whole_walks_go_on_holds : PySem.Challenge.rw_lamprota_k12_whole_walks_go_on.Holds := by
 w_on;o_law;k_head;(case hw=>w_witness2)
 k_fill
 refine Lp.Ig (l:=PySem.Challenge.rw_lamprota_k12_whole_walks_go_on) (n:=8) ⟨rfl,by decide,by decide⟩ rfl rfl (fun w h Y=>PySem.W.kIn_of Y) ?F
 case F =>
  intro w mg fa h KX G hmg
  have m0:Lp.ModOf (L2.KOf KX) mg Lp.Law.e0:=by
   dsimp only[L2.KOf]
   refine' Lp.Law.mk0 KX G ?a ?l ?c ?k
   (case a=>k_is);(case l=>k_is);(case c=>k_is);(case k=>k_is)
  have m1:Lp.ModOf (L2.KOf KX) mg Lp.Law.e1:=by
   dsimp only[L2.KOf]
   refine' Lp.Law.mk1 KX G ?a ?l ?c ?k
   (case a=>k_is);(case l=>k_is);(case c=>k_is);(case k=>k_is)
  have m2:Lp.ModOf (L2.KOf KX) mg Lp.Law.e2:=by
   dsimp only[L2.KOf]
   refine' Lp.Law.mk2 KX G ?a ?l ?c ?k
   (case a=>k_is);(case l=>k_is);(case c=>k_is);(case k=>k_is)
  have m3:Lp.ModOf (L2.KOf KX) mg Lp.Law.e3:=by
   dsimp only[L2.KOf]
   refine' Lp.Law.mk3 KX G ?a ?l ?c ?k
   (case a=>k_is);(case l=>k_is);(case c=>k_is);(case k=>k_is)
  have m4:Lp.ModOf (L2.KOf KX) mg Lp.Law.e4:=by
   dsimp only[L2.KOf]
   refine' Lp.Law.mk4 KX G ?a ?l ?c ?k
   (case a=>k_is);(case l=>k_is);(case c=>k_is);(case k=>k_is)
  have m5:Lp.ModOf (L2.KOf KX) mg Lp.Law.e5:=by
   dsimp only[L2.KOf]
   refine' Lp.Law.mk5 KX G ?a ?l ?c ?k
   (case a=>k_is);(case l=>k_is);(case c=>k_is);(case k=>k_is)
  have m6:Lp.ModOf (L2.KOf KX) mg Lp.Law.e6:=by
   dsimp only[L2.KOf]
   refine' Lp.Law.mk6 KX G ?a ?l ?c ?k
   (case a=>k_is);(case l=>k_is);(case c=>k_is);(case k=>k_is)
  have m7:Lp.ModOf (L2.KOf KX) mg Lp.Law.e7:=by
   dsimp only[L2.KOf]
   refine' Lp.Law.mk7 KX G ?a ?l ?c ?k
   (case a=>k_is);(case l=>k_is);(case c=>k_is);(case k=>k_is)
  have m8:Lp.ModOf (L2.KOf KX) mg Lp.Law.e8:=by
   dsimp only[L2.KOf]
   refine' Lp.Law.mk8 KX G ?a ?l ?c ?k
   (case a=>k_is);(case l=>k_is);(case c=>k_is);(case k=>k_is)
  have m9:Lp.ModOf (L2.KOf KX) mg Lp.Law.e9:=by
   dsimp only[L2.KOf]
   refine' Lp.Law.mk9 KX G ?a ?l ?c ?k
   (case a=>k_is);(case l=>k_is);(case c=>k_is);(case k=>k_is)
  have m10:Lp.ModOf (L2.KOf KX) mg Lp.Law.e10:=by
   dsimp only[L2.KOf]
   refine' Lp.Law.Xq KX G ?a ?l ?c ?k
   (case a=>k_is);(case l=>k_is);(case c=>k_is);(case k=>k_is)
  have m11:Lp.ModOf (L2.KOf KX) mg Lp.Law.e11:=by
   dsimp only[L2.KOf]
   refine' Lp.Law.Xr KX G ?a ?l ?c ?k
   (case a=>k_is);(case l=>k_is);(case c=>k_is);(case k=>k_is)
  have m12:Lp.ModOf (L2.KOf KX) mg Lp.Law.e12:=by
   dsimp only[L2.KOf]
   refine' Lp.Law.Xs KX G ?a ?l ?c ?k
   (case a=>k_is);(case l=>k_is);(case c=>k_is);(case k=>k_is)
  have m13:Lp.ModOf (L2.KOf KX) mg Lp.Law.e13:=by
   dsimp only[L2.KOf]
   refine' Lp.Law.Xt KX G ?a ?l ?c ?k
   (case a=>k_is);(case l=>k_is);(case c=>k_is);(case k=>k_is)
  have m14:Lp.ModOf (L2.KOf KX) mg Lp.Law.e14:=by
   dsimp only[L2.KOf]
   refine' Lp.Law.Xu KX G ?a ?l ?c ?k
   (case a=>k_is);(case l=>k_is);(case c=>k_is);(case k=>k_is)
  have m15:Lp.ModOf (L2.KOf KX) mg Lp.Law.e15:=by
   dsimp only[L2.KOf]
   refine' Lp.Law.Xv KX G ?a ?l ?c ?k
   (case a=>k_is);(case l=>k_is);(case c=>k_is);(case k=>k_is)
  have m16:Lp.ModOf (L2.KOf KX) mg Lp.Law.e16:=by
   dsimp only[L2.KOf]
   refine' Lp.Law.Xw KX G ?a ?l ?c ?k
   (case a=>k_is);(case l=>k_is);(case c=>k_is);(case k=>k_is)
  have m17:Lp.ModOf (L2.KOf KX) mg Lp.Law.e17:=by
   dsimp only[L2.KOf]
   refine' Lp.Law.Xx KX G ?a ?l ?c ?k
   (case a=>k_is);(case l=>k_is);(case c=>k_is);(case k=>k_is)
  have m18:Lp.ModOf (L2.KOf KX) mg Lp.Law.e18:=by
   dsimp only[L2.KOf]
   refine' Lp.Law.Xy KX G ?a ?l ?c ?k
   (case a=>k_is);(case l=>k_is);(case c=>k_is);(case k=>k_is)
  have m19:Lp.ModOf (L2.KOf KX) mg Lp.Law.e19:=by
   dsimp only[L2.KOf]
   refine' Lp.Law.Xz KX G ?a ?l ?c ?k
   (case a=>k_is);(case l=>k_is);(case c=>k_is);(case k=>k_is)
  have m20:Lp.ModOf (L2.KOf KX) mg Lp.Law.e20:=by
   dsimp only[L2.KOf]
   refine' Lp.Law.X0 KX G ?a ?l ?c ?k
   (case a=>k_is);(case l=>k_is);(case c=>k_is);(case k=>k_is)
  have m21:Lp.ModOf (L2.KOf KX) mg Lp.Law.e21:=by
   dsimp only[L2.KOf]
   refine' Lp.Law.X3 KX G ?a ?l ?c ?k
   (case a=>k_is);(case l=>k_is);(case c=>k_is);(case k=>k_is)
  have m22:Lp.ModOf (L2.KOf KX) mg Lp.Law.e22:=by
   dsimp only[L2.KOf]
   refine' Lp.Law.X4 KX G ?a ?l ?c ?k
   (case a=>k_is);(case l=>k_is);(case c=>k_is);(case k=>k_is)
  have m23:Lp.ModOf (L2.KOf KX) mg Lp.Law.e23:=by
   dsimp only[L2.KOf]
   refine' Lp.Law.X5 KX G ?a ?l ?c ?k
   (case a=>k_is);(case l=>k_is);(case c=>k_is);(case k=>k_is)
  have m24:Lp.ModOf (L2.KOf KX) mg Lp.Law.e24:=by
   dsimp only[L2.KOf]
   refine' Lp.Law.X6 KX G ?a ?l ?c ?k
   (case a=>k_is);(case l=>k_is);(case c=>k_is);(case k=>k_is)
  have m25:Lp.ModOf (L2.KOf KX) mg Lp.Law.e25:=by
   dsimp only[L2.KOf]
   refine' Lp.Law.X7 KX G ?a ?l ?c ?k
   (case a=>k_is);(case l=>k_is);(case c=>k_is);(case k=>k_is)
  have m26:Lp.ModOf (L2.KOf KX) mg Lp.Law.e26:=by
   dsimp only[L2.KOf]
   refine' Lp.Law.X8 KX G ?a ?l ?c ?k
   (case a=>k_is);(case l=>k_is);(case c=>k_is);(case k=>k_is)
  have m27:Lp.ModOf (L2.KOf KX) mg Lp.Law.e27:=by
   dsimp only[L2.KOf]
   refine' Lp.Law.X9 KX G ?a ?l ?c ?k
   (case a=>k_is);(case l=>k_is);(case c=>k_is);(case k=>k_is)
  have m28:Lp.ModOf (L2.KOf KX) mg Lp.Law.e28:=by
   dsimp only[L2.KOf]
   refine' Lp.Law.Ya KX G ?a ?l ?c ?k
   (case a=>k_is);(case l=>k_is);(case c=>k_is);(case k=>k_is)
  have b0:mg "zip"=none:=by
   refine' BK KX G ?z
   (case z=>k_is)
  have b1:mg "all"=none:=by
   refine' BK KX G ?z
   (case z=>k_is)
  have b2:mg "range"=none:=by
   refine' BK KX G ?z
   (case z=>k_is)
  have b3:mg "tuple"=none:=by
   refine' BK KX G ?z
   (case z=>k_is)
  have b4:mg "any"=none:=by
   refine' BK KX G ?z
   (case z=>k_is)
  have b5:mg "sum"=none:=by
   refine' BK KX G ?z
   (case z=>k_is)
  have b6:mg "len"=none:=by
   refine' BK KX G ?z
   (case z=>k_is)
  have b7:mg "min"=none:=by
   refine' BK KX G ?z
   (case z=>k_is)
  have b8:mg "enumerate"=none:=by
   refine' BK KX G ?z
   (case z=>k_is)
  have b9:mg "max"=none:=by
   refine' BK KX G ?z
   (case z=>k_is)
  have b10:mg "sorted"=none:=by
   refine' BK KX G ?z
   (case z=>k_is)
  have b11:mg "list"=none:=by
   refine' BK KX G ?z
   (case z=>k_is)
  have b12:mg "reversed"=none:=by
   refine' BK KX G ?z
   (case z=>k_is)
  have b13:mg "isinstance"=none:=by
   refine' BK KX G ?z
   (case z=>k_is)
  exact Lp.M8 (T:=Lp.GL) (es:=Lp.Law.ents) (n:=8) (j:=28) (e:=Lp.Law.e28) (Lp.Law.mods m0 m1 m2 m3 m4 m5 m6 m7 m8 m9 m10 m11 m12 m13 m14 m15 m16 m17 m18 m19 m20 m21 m22 m23 m24 m25 m26 m27 m28) (fun base=>Lp.Law.dvs (Lp.Law.nob b0 b1 b2 b3 b4 b5 b6 b7 b8 b9 b10 b11 b12 b13)) rfl hmg rfl (fun ns hn=>Lr.U7 ns)
#print axioms PySem.Challenge.cw_lamprota_k12_whole_walks_go_on_holds
