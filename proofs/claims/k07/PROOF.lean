import PyProof.Rows.All
import Wide.All
import OpenK.AllK
import Wide.FinOn
import Lean
import PyProof.EqAt
import PyProof.EqKinds
import PyProof.TupleCall
import PySem.Syntax
import PyProof.Rows.ZipGen
import PyProof.EnumMake
import PyProof.EnumFor
import PyProof.Rows.EnumRows
import PyProof.DictValues
import KE.KSortTup
import PyProof.Rows.SetFrom
import PyProof.WalksMore
import PyProof.FactsAll.set
import PyProof.ForAny
import PyProof.CollectWalk
import PyProof.ListRange
import PyProof.Rows.SortShell
import PySem.Challenge.RW_lamprota_k07_rotas_that_keep
open PySem renaming wpAny_bind → AA, wpAny_pure → AD, wpAny_setField_rec → BH, wpAny_callSpecial?_slot → BJ, wpAny_call_entry → BK, wpAny_newObj_type → BS, wpAny_field → CB, wpAny_holding → CS, wpAny_seqItems → Da, wpAny_loadPart' → DA, wpAny_Call_Name_kw → DL, sizeLine_eq → DP, wpAny_truthy_bool → DQ, wpAny_mono → DZ, wpAny_pyIter_tuple → Ev, wpAny_setState_of → ED, wpAny_attempt → EG, mem_of_lookup → EH, wpAny_setEntries_of → EI, wpAny_isInstance → EM, wpAny_askSetting → EN, wpAny_ite_split → FB, codeAny_builtin → FC, builtinLookup_eq_fast → FE, isSubtype_type → FI, wpAny_passesOwn → FP, tupleKind_room_in1 → FV, wpAny_rule → FW, codeAny_mono → Gt, richCompare_meets_room → GA, wpAny_typeOf → GC, plainId_quiet → GU, wpAny_updateSeq_pair → GX, typeLookup_type → HB, call_meets → HK, wpAny_newTuple → HL, isSubtype_stop → HM, wpAny_fieldsOf → HQ, wpAny_pyIter_list → If, wpAny_letGo → Ix, wpAny_of_eq → IB, wpAny_pyIter_slot → IC, wpAny_onRaise → IE, wpAny_forIn_list → IH, noFill_tuple_add → II, wpAny_specialOf → IX, wpAny_updateSeq → IY
open List renaming getElem?_eq_getElem → AB, size_toArray → AE, length_map → AF, getElem?_eq_some_iff → AG, mem_cons_of_mem → AJ, mem_cons → AM, prefix_refl → AN, all_eq_true → AO, mem_cons_self → AQ, map_cons → AS, getD_eq_getElem?_getD → AV, getElem?_append_left → AW, getElem?_eq_none → AX, mem_map → AY, getElem?_map → BA, map_map → BB, all_cons → BD, not_mem_nil → BF, getElem_mem → BL, length_cons → BN, pairwise_cons → BO, getElem?_append_right → BQ, mem_of_getElem? → BR, ext_getElem? → BV, map_append → BW, take_of_length_le → BX, mem_iff_getElem → BY, mem_append_right → CA, mem_range → CI, getElem?_set_ne → CK, length_nil → CM, nil_prefix → CN, length_append → CP, any_cons → CT, map_nil → CU, getElem?_zip_eq_some → CW, pairwise_iff_getElem → CY, sum_cons → Db, getElem?_set_self → DD, length_range → DE, take_add_one → DF, map_congr_left → DG, mem_append → DH, zip_cons_cons → DM, any_eq_true → DN, mem_singleton → DO, getElem?_replicate → DR, replicate_succ → DT, all_nil → DV, cons_append → DX, countP_cons → DY, sum_append → EB, length_take → EJ, lookup_cons → EK, getElem?_cons_zero → EO, getElem?_cons_succ → ER, set_cons_zero → EV, set_cons_succ → EW, nodup_cons → EY, find?_cons → EZ, flatten_cons → FG, append_assoc → FH, all_map → FJ, mem_filter → FO, append_nil → FR, forIn_cons → FS, zip_nil_right → FU, length_eq_zero_iff → FY, range_succ_eq_map → GF, getElem_take → GH, any_eq_false → GJ, eraseIdxIfInBounds_toArray → GK, getElem?_toArray → GN, take_append_of_le_length → GY, of_mem_zip → GZ, nil_append → HA, filterMap_cons → HE, toList_toArray → HF, prefix_append → HN, drop_eq_getElem_cons → HU, zip_nil_left → HX, reverse_cons → HY, getElem?_take_of_lt → ID, eraseIdx_cons_succ → IJ, getElem_map → IN, pairwise_lt_range → IT, filter_eq_nil_iff → IU, length_replicate → JA, length_singleton → JB, dropLast_eq_take → JC, countP_mono_left → JE, any_map → JO
open PySem.Heap renaming get?_push_of_some → AC, get?_push_size → AH, lt_size → AL, size_push → CZ, get?_update_self → DI, get?_update_ne → DU, get?_update_other → GD
open Nat renaming le_refl → AI, ne_of_lt → AR, lt_of_lt_of_le → AU, ne_of_gt → CL, zero_le → CQ, le_trans → Do, lt_irrefl → DC, lt_succ_of_lt → DS, le_succ → ES, le_of_lt → ET, lt_succ_self → GP, le_add_right → IM, sub_self → IV
open Bool renaming false_eq_true → AT, false_ne_true → AZ, and_eq_true → BC, beq_eq_decide_eq → CO, and_true → FD, true_and → FN, and_self → GS, not_true → GW, not_false → HR, or_false → JJ
open PySem.W renaming mg_none_of → BI, kia_one → FA, cellsFrom_some → IQ
open Option.some renaming inj → BM, injEq → BU
open Array renaming length_toList → BP, getElem?_eq_getElem → CV, getElem?_toList → DJ, getElem?_eq_none → GG, perm_iff_toList_perm → HP, toArray_toList → JI
open Int renaming emod_lt_of_pos → BZ, toNat_natCast → CD, emod_nonneg → CH, le_refl → FZ, emod_eq_of_lt → GI, fdiv_eq_ediv_of_nonneg → HJ
open Classical renaming byContradiction → CC, not_not → CJ
open PyProof.Rows renaming callWith_type1 → CF, slot_tuple_getitem → CG, callWith_builtin1 → GO, boot_sorted → IG, boot_list → IS, get?_update_seq → IZ, boot_min → JD
open PySem.F renaming called_set → DB, slot_tuple_iterator_next → EA, slot_enumerate_next → FF, args_tuple_add_2 → FM, entry_tuple_add → FX, slot_tuple_add → GB, slot_dict_get → GM, slot_dict_valueiterator_iter → GR, args_tuple_iterator_next_1 → HC, slot_zip_next → HD, entry_tuple_iterator_next → HG, plain_extend_loop → HV, plainAttrs_list → IA, slot_dict_values → IF, args_dict_get_3 → IK, plainAttrs_dict → IL, plain_list_iadd → IP, entry_dict_get → IR, slot_list_pop → IW, plain_set_new → JF, slot_set_iter → JG
open PySem.Calls renaming spliced_cons → DK, spliced_nil → EC, callWith_builtin → EU, Name_function_global → HI, call_function_entry → HW, evalArgs_plain → JH
open PySem.Paired renaming length → DW
open PySem.Around renaming under_plainId → EE
open Option renaming isSome_iff_exists → EF, getD_some → EL, map_eq_some_iff → EX, map_some → FT, bind_some → GQ, ne_none_iff_exists' → HS, isSome_map → HZ
open PySem.Heap.SameBut renaming update → FK
open PySem.AutoSeq1 renaming sub_tuple_tuple → FL
open PyProof.Rows.F renaming plain_set_update_loop → Go
open Prod.mk renaming injEq → GV
open PySem.Moved renaming eq_with → JK
open PySem.SeqAt.EqAt renaming int_str → JL, str_int → JM, int_int → JN
set_option Elab.async false
set_option linter.all false
set_option maxRecDepth 100000
namespace L2
open PySem PySem.Spec PyProof.Rows
noncomputable abbrev Key:=Sum Int Str
noncomputable def E7:Key→Value→Bool
 | .inl k,v=>Value.isInt k v
 | .inr x,v=>Value.isStrOf x v
noncomputable def Zj (w:World):Key→Int
 | .inl k=>hashInt k
 | .inr x=>hashStr w x
theorem d8:∀{k:Key} {v:Value},E7 k v=true→(∃i t,k=Sum.inl i∧v=Value.int i t)∨(∃x t,k=Sum.inr x∧v=Value.str x t)
 | .inl i,v,h=>by
  obtain⟨t,e⟩:=Value.isInt_shape (k:=i) (v:=v) h
  exact .inl ⟨i,t,rfl,e⟩
 | .inr x,v,h=>by
  obtain⟨t,e⟩:=Value.isStrOf_shape (x:=x) (v:=v) h
  exact .inr ⟨x,t,rfl,e⟩
theorem Gq (i:Int) (t:Tok):E7 (.inl i) (.int i t)=true:=by simp[E7,Value.isInt]
theorem Gr (x:Str) (t:Tok):E7 (.inr x) (.str x t)=true:=by simp[E7,Value.isStrOf]
theorem Sk (a b:Int):decide ((Sum.inl a:Key)=Sum.inl b)=(a==b):=by
 by_cases e:a=b
 ·subst e;simp
 ·have h:¬(Sum.inl a:Key)=Sum.inl b:=fun q=>e (Sum.inl.inj q)
  rw[decide_eq_false h]
  exact(beq_eq_false_iff_ne.mpr e).symm
theorem Sn (a b:Str):decide ((Sum.inr a:Key)=Sum.inr b)=decide (a=b):=by
 by_cases e:a=b
 ·subst e;simp
 ·have h:¬(Sum.inr a:Key)=Sum.inr b:=fun q=>e (Sum.inr.inj q)
  rw[decide_eq_false h,decide_eq_false e]
theorem So (a:Int) (b:Str):decide ((Sum.inl a:Key)=Sum.inr b)=false:=decide_eq_false (fun q=>nomatch q)
theorem Sr (a:Str) (b:Int):decide ((Sum.inr a:Key)=Sum.inl b)=false:=decide_eq_false (fun q=>nomatch q)
noncomputable def c8 (prog:Program) (w:World):PySem.KeyKind prog w Key where
 is:=E7
 hash:=Zj w
 inj:=fun v a b ha hb=>by
  rcases d8 ha with⟨i,t,rfl,rfl⟩ | ⟨x,t,rfl,rfl⟩
  ·rcases d8 hb with⟨j,u,rfl,e⟩ | ⟨y,u,rfl,e⟩
   ·injection e with e1 _;rw[e1]
   ·exact nomatch e
  ·rcases d8 hb with⟨j,u,rfl,e⟩ | ⟨y,u,rfl,e⟩
   ·exact nomatch e
   ·injection e with e1 _;rw[e1]
 byValue:=fun k v h=>by
  rcases d8 h with⟨i,t,rfl,rfl⟩ | ⟨x,t,rfl,rfl⟩<;>rfl
 pyHash:=fun hv h=>by
  rcases d8 hv with⟨i,t,rfl,rfl⟩ | ⟨x,t,rfl,rfl⟩
  ·exact wpAny_pyHash_int h
  ·exact wpAny_pyHash_str h
 eqBool:=fun hu hv h=>by
  rcases d8 hu with⟨i,t,rfl,rfl⟩ | ⟨x,t,rfl,rfl⟩
  ·rcases d8 hv with⟨j,u,rfl,rfl⟩ | ⟨y,u,rfl,rfl⟩
   ·rw[Sk]at h;exact wpAny_eqBool_int h
   ·rw[So]at h;exact JL i t y u _ _ _ _ h
  ·rcases d8 hv with⟨j,u,rfl,rfl⟩ | ⟨y,u,rfl,rfl⟩
   ·rw[Sr]at h;exact JM x t j u _ _ _ _ h
   ·rw[Sn]at h;exact wpAny_eqBool_str h
 «strs»:=fun k x t v h=>by
  rcases d8 h with⟨i,u,rfl,e⟩ | ⟨y,u,rfl,e⟩
  ·exact nomatch e
  ·injection e with e1 _
   subst e1
   cases v<;>rfl
theorem Bq (prog:Program) (w:World) (i:Int) (t:Tok):(c8 prog w).is (.inl i) (.int i t)=true:=Gq i t
theorem Br (prog:Program) (w:World) (x:Str) (t:Tok):(c8 prog w).is (.inr x) (.str x t)=true:=Gr x t
end L2
namespace L2
open PySem PySem.Spec PyProof.Rows
inductive V where
 | non | bl (b:Bool) | int (i:Int) | str (x:Str) | byt (b:Array UInt8) | flt (b:UInt64) | ref (a:Addr) | ty (n:String)
 deriving DecidableEq
noncomputable def RelV:V→Value→Prop
 | .non,u=>u=Value.none
 | .bl b,u=>u=Value.bool b
 | .int i,u=>∃t,u=Value.int i t
 | .str x,u=>∃t,u=Value.str x t
 | .byt b,u=>∃t,u=Value.bytes b t
 | .flt b,u=>∃t,u=Value.float b t
 | .ref a,u=>u=Value.ref a
 | .ty n,u=>u=Value.type n
noncomputable abbrev cq:List V→List Value→Prop:=Paired RelV
theorem cq.length {xs:List V} {us:List Value} (r:cq xs us):xs.length=us.length:=DW r
theorem cq.get:∀{xs:List V} {us:List Value} {i:Nat} {x:V},cq xs us→xs[i]? = some x→∃u,us[i]? = some u∧RelV x u
 | _,_,_,_,.nil,e=>by simp at e
 | _,_,0,_,.cons r _,e=>by simp at e;subst e;exact⟨_,rfl,r⟩
 | _,_,i+1,x,.cons _ t,e=>by
  obtain⟨u,h1,h2⟩:=cq.get (i:=i) (x:=x) t (by simpa using e)
  exact⟨u,by simpa using h1,h2⟩
theorem cq.set {x:V} {u:Value} (r:RelV x u):∀{xs:List V} {us:List Value} (i:Nat),cq xs us→cq (xs.set i x) (us.set i u)
 | _,_,_,.nil=>.nil
 | _,_,0,.cons _ t=>.cons r t
 | _,_,i+1,.cons q t=>.cons q (cq.set r i t)
theorem cq.append:∀{xs ys:List V} {us ws:List Value},cq xs us→cq ys ws→cq (xs++ys) (us++ws)
 | _,_,_,_,.nil,s=>s
 | _,_,_,_,.cons r t,s=>.cons r (cq.append t s)
theorem cq.take:∀{xs:List V} {us:List Value} (n:Nat),cq xs us→cq (xs.take n) (us.take n)
 | _,_,0,_=>.nil
 | _,_,_+1,.nil=>.nil
 | _,_,n+1,.cons r t=>.cons r (cq.take n t)
theorem cq.drop:∀{xs:List V} {us:List Value} (n:Nat),cq xs us→cq (xs.drop n) (us.drop n)
 | _,_,0,r=>r
 | _,_,_+1,.nil=>.nil
 | _,_,n+1,.cons _ t=>cq.drop n t
noncomputable def Nd:Option V→Option Value→Prop
 | some v,some u=>RelV v u
 | none,none=>True
 | _,_=>False
noncomputable def KV {κ:Type}:List (κ×V)→List (κ×Value)→Prop:=Paired fun(p:κ×V) (q:κ×Value)=>p.1=q.1∧RelV p.2 q.2
noncomputable def kV:Key→V
 | .inl i=>.int i
 | .inr x=>.str x
inductive HO where
 /-- a list -/
 | lst (xs:List V)
 /-- a tuple (never changes) -/
 | tup (xs:List V)
 /-- a dict whose keys are ints and texts;one whose keys are tuples of ints and texts (the empty one is both) -/
 | dK (kvs:List (Key×V)) | dT (kvs:List (List Key×V))
 /-- a set of ints: its members,its size -/
 | set (S:Int→Bool) (n:Nat)
 /-- an instance of the class at C,its dict at dx,its attributes -/
 | ins (C dx:Addr) (fs:List (Str×V))
 /-- the dict of the instance at x -/
 | own (x:Addr)
 /-- the dict of an exception -/
 | xd (fs:List (Str×V))
 /-- a bound method,f of x -/
 | met (f x:Addr)
 /-- a range object lo,lo+1,.. below hi -/
 | rng (lo hi:Int)
 /-- a thing that is known to the object (the script;a dict while a loop walks it): read,never written while it is so -/
 | frz (o:Obj) (u:HO)
 /-- a code object's table -/
 | tbl (ps:Array Value)
 /-- any other thing,by what is true of its one object (a def of one's own: SetO a S n:=HO.ext fun h=>..) -/
 | ext (φ:Heap→Prop)
noncomputable abbrev Hp:=Addr→Option HO
noncomputable def upd (H:Hp) (a:Addr) (o:HO):Hp:=fun b=>if b=a then some o else H b
theorem bh {H:Hp} {a:Addr} {o:HO}:upd H a o a=some o:=by unfold upd;rw[if_pos rfl]
theorem a9 {H:Hp} {a b:Addr} {o:HO} (h:b≠a):upd H a o b=H b:=by unfold upd;rw[if_neg h]
theorem Gs {H:Hp} {a:Addr} {o u:HO}:upd (upd H a o) a u=upd H a u:=by
 funext b;unfold upd;split<;>rfl
theorem pd {H:Hp} {a b:Addr} {o u:HO} (h:H a=some o) (h':H b=some u) (d:o≠u):a≠b:=by
 intro e;subst e;rw[h]at h';exact d (BM h')
theorem cv {H:Hp} {a b:Addr} {o:HO} (h:H a=some o) (h':H b=none):a≠b:=by
 intro e;subst e;rw[h]at h';cases h'
noncomputable def r8 (h:Heap) (a:Addr) (items:Array Value):Prop:=∃o,h.get? a=some o∧o.cls=.type "tuple"∧o.dict=none∧∃n,o.data=.seq items n
theorem r8.tup {h:Heap} {a:Addr} {items:Array Value} (x:r8 h a items):IsTup h a items:=let ⟨o,e,c,_,d⟩:=x;⟨o,e,c,d⟩
theorem r8.new (h:Heap) (items:Array Value):r8 (h.push {cls:=.type "tuple",data:=.seq items}) h.objs.size items:=⟨_,AH _ rfl,rfl,rfl,_,rfl⟩
section
variable (P : Program) (w : World)
noncomputable def iz (H:Hp) (h:Heap) (a:Addr):HO→Prop
 | .lst xs=>xs.length≤sizeLine∧∃(its:List Value) (n:Nat),cq xs its∧h.get? a=some {cls:=.type "list",data:=.seq its.toArray n}
 | .tup xs=>xs.length≤sizeLine∧∃its:List Value,cq xs its∧r8 h a its.toArray
 | .dK kvs=>kvs.length≤sizeLine∧(a==sysModules)=false∧∃vs,KV kvs vs∧h.DictOf (c8 P w) a vs
 | .dT kvs=>kvs.length≤sizeLine∧(a==sysModules)=false∧∃xs:List (List Key×Addr×Value),
   Paired (fun(p:List Key×V) (q:List Key×Addr×Value)=>p.1=q.1∧H q.2.1=some (.tup (p.1.map kV))∧RelV p.2 q.2.2) kvs xs ∧
   ∃o es ep,h.get? a=some o∧o.ExactDict∧o.data=.dict es ep∧es.toList=xs.map (entryOfKey (tupleKind (c8 P w)))∧(xs.map (·.1)).Nodup
 | .set S n=>h.SetOf (intKind P w) a S n
 | .ins C dx fs=>H dx=some (.own a)∧fs.length≤1000∧dx≠a∧h.get? a=some (PySem.W.instObj C dx) ∧
   ∃mA,h.Ns1 dx mA∧(∀f,Nd (fs.lookup f) (mA f))∧PySem.Within mA (fs.map (·.1))
 | .own _=>∃o,h.get? a=some o
 | .xd fs=>∃mA,h.Ns1 a mA∧∀f,Nd (fs.lookup f) (mA f)
 | .rng lo hi=>∃t u v,h.get? a=some {cls:=.type "range",data:=.fields #[.int lo t,.int hi u,.int 1 v]}
 | .frz o u=>h.get? a=some o∧iz H h a u
 | .tbl ps=>h.get? a=some {cls:=.none,data:=.fields ps}
 | .met f x=>h.get? a=some (PySem.W.methodObj (.ref f) (.ref x))
 | .ext φ=>φ h∧(∃o,h.get? a=some o)∧∀h1 h2:Heap,φ h1→(∀o,h1.get? a=some o→h2.get? a=some o)→φ h2
noncomputable def HOk (H:Hp) (h:Heap):Prop:=∀a o,H a=some o→iz P w H h a o
end
section
variable {P : Program} {w : World} {H H' : Hp} {h h' : Heap} {a : Addr} {o : HO}
theorem iz.lt (x:iz P w H h a o):a<h.objs.size:=by
 cases o with
 | lst xs=>obtain⟨_,_,_,_,e⟩:=x;exact AL e
 | tup xs=>obtain⟨_,_,_,p⟩:=x;exact p.tup.lt
 | dK kvs=>obtain⟨_,_,_,_,o,_,_,e,_⟩:=x;exact AL e
 | dT kvs=>obtain⟨_,_,_,_,o,_,_,e,_⟩:=x;exact AL e
 | set S n=>obtain⟨o,_,_,_,e,_⟩:=x;exact AL e
 | ins C dx fs=>obtain⟨_,_,_,e,_⟩:=x;exact AL e
 | own y=>obtain⟨_,e⟩:=x;exact AL e
 | xd fs=>obtain⟨_,⟨_,_,_,e,_⟩,_⟩:=x;exact AL e
 | rng lo hi=>obtain⟨_,_,_,e⟩:=x;exact AL e
 | frz ob u=>obtain⟨e,_⟩:=x;exact AL e
 | tbl ps=>exact AL (show h.get? a=some _ from x)
 | met f y=>exact AL (show h.get? a=some _ from x)
 | ext φ=>obtain⟨_,⟨_,e⟩,_⟩:=x;exact AL e
theorem Paired.mapP {α β:Type} {F G:α→β→Prop}:∀{l₁:List α} {l₂:List β},Paired F l₁ l₂→(∀a b,F a b→G a b)→Paired G l₁ l₂
 | _,_,.nil,_=>.nil
 | _,_,.cons r t,f=>.cons (f _ _ r) (Paired.mapP t f)
theorem iz.stay (x:iz P w H h a o) (k:∀b u,(b=a∨H b=some (.own a))→h.get? b=some u→h'.get? b=some u)
  (ho:∀b,H b=some (.own a)→H' b=some (.own a)) (ht:∀b xs,H b=some (.tup xs)→H' b=some (.tup xs)):iz P w H' h' a o:=by
 induction o with
 | lst xs=>obtain⟨z,its,n,r,e⟩:=x;exact⟨z,its,n,r,k _ _ (.inl rfl) e⟩
 | tup xs=>obtain⟨z,its,r,ob,e,c⟩:=x;exact⟨z,its,r,ob,k _ _ (.inl rfl) e,c⟩
 | dK kvs=>obtain⟨z,y,vs,r,ob,es,ep,e,c⟩:=x;exact⟨z,y,vs,r,ob,es,ep,k _ _ (.inl rfl) e,c⟩
 | dT kvs =>
  obtain⟨z,y,xs,r,ob,es,ep,e,c⟩:=x
  exact⟨z,y,xs,Paired.mapP r fun p q z=>⟨z.1,ht _ _ z.2.1,z.2.2⟩,ob,es,ep,k _ _ (.inl rfl) e,c⟩
 | set S n=>obtain⟨ob,es,ep,t,e,c⟩:=x;exact⟨ob,es,ep,t,k _ _ (.inl rfl) e,c⟩
 | ins C dx fs =>
  obtain⟨d,z,ne,e,mA,⟨od,es,ep,e2,c⟩,r⟩:=x
  exact⟨ho _ d,z,ne,k _ _ (.inl rfl) e,mA,⟨od,es,ep,k _ _ (.inr d) e2,c⟩,r⟩
 | own y=>obtain⟨ob,e⟩:=x;exact⟨ob,k _ _ (.inl rfl) e⟩
 | xd fs=>obtain⟨mA,⟨od,es,ep,e,c⟩,r⟩:=x;exact⟨mA,⟨od,es,ep,k _ _ (.inl rfl) e,c⟩,r⟩
 | rng lo hi=>obtain⟨t,u,v,e⟩:=x;exact⟨t,u,v,k _ _ (.inl rfl) e⟩
 | frz ob u ih=>obtain⟨e,q⟩:=x;exact⟨k _ _ (.inl rfl) e,ih q⟩
 | tbl ps =>
  have e:h.get? a=some {cls:=.none,data:=.fields ps}:=x
  show h'.get? a=some {cls:=.none,data:=.fields ps}
  exact k a _ (.inl rfl) e
 | met f y =>
  have e:h.get? a=some (PySem.W.methodObj (.ref f) (.ref y)):=x
  show h'.get? a=some (PySem.W.methodObj (.ref f) (.ref y))
  exact k a _ (.inl rfl) e
 | ext φ=>obtain⟨p,⟨o,e⟩,st⟩:=x;exact⟨st _ _ p fun o q=>k _ _ (.inl rfl) q,⟨o,k _ _ (.inl rfl) e⟩,st⟩
theorem HOk.lt (x:HOk P w H h) (e:H a=some o):a<h.objs.size:=(x a o e).lt
theorem HOk.fresh (x:HOk P w H h) (e:h.objs.size≤a):H a=none:=by
 cases q:H a with
 | none=>rfl
 | some u=>exact absurd (AU (x.lt q) e) (DC _)
theorem HOk.kept (x:HOk P w H h) (k:∀b u,h.get? b=some u→h'.get? b=some u):HOk P w H h':=fun a o e =>
 (x a o e).stay (fun b u _ q=>k b u q) (fun _ q=>q) fun _ _ q=>q
theorem HOk.laid (x:HOk P w H h) (k:∀b u,h.get? b=some u→h'.get? b=some u) (hp:h.objs.size≤a) (new:iz P w (upd H a o) h' a o):HOk P w (upd H a o) h':=fun b u e=>by
 have hn:=x.fresh hp
 by_cases hb:b=a
 ·subst hb;rw[bh]at e;cases e;exact new
 ·rw[a9 hb]at e
  exact(x b u e).stay (fun c v _ q=>k c v q) (fun c q=>by rw[a9 (cv q hn)];exact q) fun c xs q=>by rw[a9 (cv q hn)];exact q
end
noncomputable def Rd (H:Hp) (a:Addr) (u:HO):Prop:=H a=some u∨∃o,H a=some (.frz o u)
theorem Rd.ok {P:Program} {w:World} {H:Hp} {h:Heap} {a:Addr} {u:HO} (r:Rd H a u) (x:HOk P w H h):iz P w H h a u:=by
 rcases r with r | ⟨o,r⟩
 ·exact x a u r
 ·obtain⟨_,q⟩:=x a _ r
  exact q
noncomputable def Mut:Option HO→Prop
 | some (.lst _)=>True
 | some (.dK _)=>True
 | some (.dT _)=>True
 | some (.set _ _)=>True
 | some (.ins _ _ _)=>True
 | some (.ext _)=>True
 | _=>False
section
variable {P : Program} {w : World} {H : Hp} {h h' : Heap} {x e : Addr} {o' : HO}
theorem HOk.write (ok:HOk P w H h) (mu:Mut (H x)) (he:e=x∨H e=some (.own x)) (k:∀b u,b≠e→h.get? b=some u→h'.get? b=some u) (heo:∃u,h'.get? e=some u)
  (new:iz P w (upd H x o') h' x o'):HOk P w (upd H x o') h':=fun b u q=>by
 have nown:∀c y,H c=some (.own y)→c≠x:=fun c y r z=>by subst z;rw[r]at mu;exact mu
 have ntup:∀c xs,H c=some (.tup xs)→c≠x:=fun c xs r z=>by subst z;rw[r]at mu;exact mu
 by_cases hb:b=x
 ·subst hb;rw[bh]at q;cases q;exact new
 ·rw[a9 hb]at q
  by_cases hbe:b=e
  ·have q':H b=some (.own x):=by
    rcases he with z | z
    ·exact absurd (hbe.trans z) hb
    ·rw[hbe];exact z
   rw[q]at q';cases q'
   obtain⟨v,hv⟩:=heo
   exact⟨v,by rw[hbe];exact hv⟩
  ·refine(ok b u q).stay (fun c v hc r=>k c v ?_ r) (fun c r=>by rw[a9 (nown c b r)];exact r) fun c xs r=>by rw[a9 (ntup c xs r)];exact r
   rcases hc with rfl | hc
   ·exact hbe
   ·rintro rfl
    rcases he with z | z
    ·exact nown c b hc z
    ·rw[hc]at z;cases z;exact hb rfl
end
structure Un (fs ex:List Addr) (H H':Hp) (h h':Heap):Prop where
 keep:∀b o,h.get? b=some o→H b=none→b∉fs→b∉ex→h'.get? b=some o
 slot:∀b o,h.get? b=some o→H b=none→b∈fs→b∉ex→∃sl,h'.get? b=some {o with slots:=sl}
 free:∀b o,h.get? b=some o→H b=none→b∉ex→H' b=none
 there:∀b o,h.get? b=some o→b∉ex→∃o',h'.get? b=some o'
 tups:∀b xs,H b=some (.tup xs)→H' b=some (.tup xs)
 frzs:∀b o u,H b=some (.frz o u)→H' b=some (.frz o u)
 tbls:∀b ps,H b=some (.tbl ps)→∃more,H' b=some (.tbl (ps++more))
section
variable {fs fs' ex ex' : List Addr} {H H1 H2 : Hp} {h h1 h2 h' : Heap} {a x e : Addr} {o : HO}
theorem Un.any (u:Un fs ex H H1 h h1) {b:Addr} {ob:Obj} (q:h.get? b=some ob) (n:H b=none) (hx:b∉ex):∃sl,h1.get? b=some {ob with slots:=sl}:=by
 by_cases hb:b∈fs
 ·exact u.slot b ob q n hb hx
 ·exact⟨ob.slots,u.keep b ob q n hb hx⟩
theorem Un.kept (k:∀b u,h.get? b=some u→h'.get? b=some u):Un fs ex H H h h' :=
 ⟨fun b ob q _ _ _=>k b ob q,fun b ob q _ _ _=>⟨ob.slots,k b ob q⟩,fun _ _ _ n _=>n,fun b ob q _=>⟨ob,k b ob q⟩,fun _ _ q=>q,fun _ _ _ q=>q,fun _ ps q=>⟨#[],by rw[q];simp⟩⟩
theorem Un.refl:Un fs ex H H h h:=Un.kept fun _ _ q=>q
theorem Un.laid (k:∀b u,h.get? b=some u→h'.get? b=some u) (hp:h.objs.size≤a) (hn:H a=none):Un fs ex H (upd H a o) h h' where
 keep:=fun b u q _ _ _=>k b u q
 slot:=fun b u q _ _ _=>⟨u.slots,k b u q⟩
 free:=fun b u q n _=>by rw[a9 (AR (AU (AL q) hp))];exact n
 there:=fun b u q _=>⟨u,k b u q⟩
 tups:=fun b xs q=>by rw[a9 (cv q hn)];exact q
 frzs:=fun b u xs q=>by rw[a9 (cv q hn)];exact q
 tbls:=fun b ps q=>⟨#[],by rw[a9 (cv q hn),q];simp⟩
theorem Un.write (mu:Mut (H x)) (he:e=x∨H e=some (.own x)) (k:∀b u,b≠e→h.get? b=some u→h'.get? b=some u) (heo:∃u,h'.get? e=some u):Un fs ex H (upd H x o) h h':=by
 have hx:∀b,H b=none→b≠x:=fun b n z=>by subst z;rw[n]at mu;exact mu
 have hb:∀b,H b=none→b≠e:=fun b n z=>by
  subst z
  rcases he with r | r
  ·exact hx b n r
  ·rw[n]at r;cases r
 have hm:∀b u,H b=some u→¬Mut (some u)→b≠x:=fun b u q nm z=>by subst z;rw[q]at mu;exact nm mu
 refine⟨fun b u q n _ _=>k b u (hb b n) q,fun b u q n _ _=>⟨u.slots,k b u (hb b n) q⟩,fun b u q n _=>by rw[a9 (hx b n)];exact n,fun b u q _=>?_,
  fun b xs q=>by rw[a9 (hm b _ q fun z=>z)];exact q,fun b u xs q=>by rw[a9 (hm b _ q fun z=>z)];exact q,fun b ps q=>⟨#[],by rw[a9 (hm b _ q fun z=>z),q];simp⟩⟩
 by_cases hbe:b=e
 ·subst hbe;exact heo
 ·exact⟨u,k b u hbe q⟩
end
noncomputable def trk (h:Heap) (H:Hp):List Addr:=(List.range h.objs.size).filter fun a=>(H a).isSome
noncomputable def K0 (h:Heap) (H:Hp):Heap:=PySem.W.hideAll h (trk h H)
theorem Gu (h:Heap) (H:Hp):(K0 h H).objs.size=h.objs.size:=PySem.W.hideAll_size _ _
theorem K1 {h:Heap} {H:Hp} {b:Addr} {o:Obj} (e:h.get? b=some o) (n:H b=none):(K0 h H).get? b=some o :=
 PySem.W.hideAll_get _ e fun hm=>by
  have q:(H b).isSome=true:=(FO.mp hm).2
  rw[n]at q;simp at q
theorem Po {h:Heap} {H:Hp} {b:Addr} {o:Obj} (e:(K0 h H).get? b=some o):h.get? b=some o∧H b=none:=by
 have e':h.get? b=some o:=PySem.W.of_hideAll (trk h H) e
 refine⟨e',?_⟩
 cases q:H b with
 | none=>rfl
 | some x =>
  have hm:b∈trk h H:=FO.mpr ⟨CI.mpr (AL e'),by simp[q]⟩
  have z:(K0 h H).get? b=none:=PySem.W.hideAll_none (trk h H) hm
  rw[z]at e;cases e
noncomputable def Pp (g h:Heap) (L:Addr):List (Addr×Obj):=(List.range h.objs.size).filterMap fun a=>if a=L∨(g.get? a).isSome=true then none else(h.get? a).map fun o=>(a,o)
noncomputable def rest (g h:Heap) (L d:Addr):List (Addr×Obj):=(Pp g h L).filter fun p=>decide (p.1≠d)
end L2
namespace L2
open PySem PySem.Spec PyProof.Rows
structure Mod (K:PySem.W.Frag) (mg:Str→Option Value) (base:Heap):Prop where
 kin:K.In base
 glob:base.Ns mainGlobals mg
 blt:∃mb,base.Ns builtinsNs mb∧∀x:Str,x≠"__name__"→mb x=bootBuiltins x
 nolimit:base.NoLimit
structure Cx where
 prog:Program
 w:World
 K:PySem.W.Frag
 mg:Str→Option Value
 base:Heap
 A:Around
 N:List Str
 s₀:Shared
 H₀:Hp
 env:Env
 outer:List Env
 stack:List Env
 ex:List Addr
 fn:Str→Bool
 calm:Bool
 pn:List (Addr×Obj)
 xe:Value→Shared→Prop
noncomputable def frs (l:List Env):List Addr:=l.filterMap (·.frame)
noncomputable abbrev Cx.fs (X:Cx):List Addr:=frs X.outer
noncomputable def Vis (sc:Scope) (x:Str):Prop:=sc.names.lookup x=some .local∨sc.names.lookup x=some .cell∨sc.names.lookup x=some .free
noncomputable def Loc (sc:Scope) (x:Str):Prop:=sc.names.lookup x=some .local∨sc.names.lookup x=some .cell
noncomputable def Look (env:Env) (h:Heap) (m:Str→Option Value) (x:Str) (u:Value):Prop :=
 (env.kindOf x=some .local∧m x=some u)∨((env.kindOf x=some .cell∨env.kindOf x=some .free)∧∃c,env.cells.lookup x=some c∧h.IsCell c (some u))
structure Cx.Ok (X:Cx):Prop where
 mod:Mod X.K X.mg X.base
 kind:X.env.scope.kind=.function
 glob:X.env.globals=mainGlobals
 blt:X.env.builtins=builtinsNs
 above:X.s₀.heap.objs.size≤X.env.locals
 inj:∀x y c,X.env.cells.lookup x=some c→X.env.cells.lookup y=some c→x=y
 has:∀x,(X.env.kindOf x=some .cell∨X.env.kindOf x=some .free)→∃c,X.env.cells.lookup x=some c
 cab:∀x c,X.fn x=true→X.env.cells.lookup x=some c→X.s₀.heap.objs.size≤c
 hd:X.calm=true→X.A.handled=none
 frames:X.A.frames=some X.stack
 stk:X.stack=X.outer∨(X.stack=X.env::X.outer∧X.env.frame=some X.env.locals)
 exf:∀b∈X.ex,b≠X.env.locals∧∀x c,X.env.cells.lookup x=some c→c≠b
 bs:∀b o,X.base.get? b=some o→X.s₀.heap.get? b=some o∧X.H₀ b=none
 bsz:X.base.objs.size≤X.s₀.heap.objs.size
 noex:∀b o,X.base.get? b=some o→b∉X.ex
 exfs:∀b∈X.ex,b∉X.fs
 funs:X.s₀.heap.FunFrames X.base X.outer
 frf:∀b∈X.fs,X.H₀ b=none
structure Inv (X:Cx) (pins:List (Addr×Obj)) (σ:List (Option V)) (H:Hp) (s:Shared):Prop where
 ok:X.Ok
 os:s.os=X.s₀.os
 bare:AllBare s.gens
 base:Un X.fs X.ex X.H₀ H X.s₀.heap s.heap
 loc:∃m,s.heap.Ns X.env.locals m∧∀(i:Nat) (x:Str) (v:V),X.N[i]? = some x→σ[i]? = some (some v)→Vis X.env.scope x→∃u,RelV v u∧Look X.env s.heap m x u
 cell:∀x c,X.env.cells.lookup x=some c→∃v,s.heap.IsCell c v
 free:H X.env.locals=none
 freeC:∀x c,X.env.cells.lookup x=some c→H c=none
 pin:∀p∈X.pn++pins,s.heap.get? p.1=some p.2∧H p.1=none∧p.1≠X.env.locals∧p.1∉X.fs∧∀v,p.2.data≠.cell v
 hok:HOk X.prog X.w H s.heap
 len:σ.length=X.N.length
section
variable {X : Cx} {pins : List (Addr × Obj)} {σ : List (Option V)} {H H' : Hp} {s : Shared} {h' : Heap}
theorem Cx.Ok.nofr (ok:X.Ok) {b:Addr} {o:Obj} (e:X.base.get? b=some o):b∉X.fs:=fun hb=>by
 have:=(ok.funs.mem hb).1
 rw[e]at this;cases this
theorem Inv.bs (I:Inv X pins σ H s):∀b o,X.base.get? b=some o→s.heap.get? b=some o∧H b=none:=fun b o e =>
 ⟨I.base.keep b o (I.ok.bs b o e).1 (I.ok.bs b o e).2 (I.ok.nofr e) (I.ok.noex b o e),I.base.free b o (I.ok.bs b o e).1 (I.ok.bs b o e).2 (I.ok.noex b o e)⟩
theorem Inv.bk (I:Inv X pins σ H s):∀b o,X.base.get? b=some o→s.heap.get? b=some o:=fun b o e=>(I.bs b o e).1
theorem Inv.mod (I:Inv X pins σ H s):Mod X.K X.mg X.base:=I.ok.mod
theorem Inv.kIn (I:Inv X pins σ H s):X.K.In s.heap:=I.ok.mod.kin.keeps I.bk
theorem Inv.fr (I:Inv X pins σ H s):∃m,Fr X.base X.env.locals s.heap m :=
 let ⟨m,hn,_⟩:=I.loc
 ⟨m,hn,I.bk,Do I.ok.bsz I.ok.above⟩
theorem Inv.lt (I:Inv X pins σ H s):X.env.locals<s.heap.objs.size:=let ⟨_,hn,_⟩:=I.loc;hn.lt
theorem Inv.sz (I:Inv X pins σ H s):X.s₀.heap.objs.size≤s.heap.objs.size:=Do I.ok.above (ET I.lt)
theorem Inv.nofs (I:Inv X pins σ H s) {a:Addr} (h:s.heap.objs.size≤a):a∉X.fs:=fun hb=>by
 obtain⟨_,o,ho,_⟩:=I.ok.funs.mem hb
 exact absurd (AU (AL ho) (Do I.sz h)) (DC _)
theorem Inv.cne (I:Inv X pins σ H s):∀x c,X.env.cells.lookup x=some c→c≠X.env.locals:=fun x c e z=>by
 obtain⟨v,o,ho,hd⟩:=I.cell x c e
 obtain⟨m,⟨o',es,ep,ho',hd',_⟩,_⟩:=I.loc
 rw[z,ho']at ho;cases ho;rw[hd']at hd;cases hd
theorem Inv.funs (I:Inv X pins σ H s):s.heap.FunFrames X.base X.outer:=by
 have all:∀(l:List Env),(∀b∈frs l,b∈X.fs)→X.s₀.heap.FunFrames X.base l→s.heap.FunFrames X.base l:=by
  intro l
  induction l with
  | nil=>intro _ _;trivial
  | cons env r ih =>
   intro hs hl
   obtain⟨hk,⟨L,o,hf,hn,ho,hd⟩,hr⟩:=hl
   have hL:L∈X.fs:=hs L (by unfold frs;rw[HE,hf];exact AQ)
   obtain⟨sl,e⟩:=I.base.slot L o ho (I.ok.frf L hL) hL fun z=>I.ok.exfs L z hL
   exact⟨hk,⟨L,_,hf,hn,e,hd⟩,ih (fun b hb=>hs b (by unfold frs;rw[HE,hf];exact AJ _ hb)) hr⟩
 exact all X.outer (fun _ hb=>hb) I.ok.funs
theorem Inv.stack (I:Inv X pins σ H s):s.heap.FunFrames X.base X.stack:=by
 rcases I.ok.stk with e | ⟨e,hf⟩
 ·rw[e];exact I.funs
 ·rw[e]
  obtain⟨m,hn,_⟩:=I.loc
  refine .cons (by rw[I.ok.kind];decide) hf hn ?_ I.funs
  exact Heap.get?_none_of_le (Do I.ok.bsz I.ok.above)
theorem Inv.stkSub (I:Inv X pins σ H s):∀b∈frs X.stack,b∈X.env.locals::X.fs:=fun b hb=>by
 rcases I.ok.stk with e | ⟨e,hf⟩
 ·rw[e]at hb;exact AJ _ hb
 ·rw[e]at hb
  unfold frs at hb
  rw[HE,hf]at hb
  exact hb
theorem Inv.stkFree (I:Inv X pins σ H s):∀b∈frs X.stack,H b=none:=fun b hb=>by
 rcases AM.mp (I.stkSub b hb)with e | hb
 ·rw[e];exact I.free
 ·obtain⟨_,o,ho,_⟩:=I.ok.funs.mem hb
  exact I.base.free b o ho (I.ok.frf b hb) fun z=>I.ok.exfs b z hb
theorem Inv.step {g':Array GenState} {t':Nat} {d':Drawn} {ch:List Addr} (I:Inv X pins σ H s)
  (hch:∀b∈ch,(b∈X.ex∨X.s₀.heap.objs.size≤b)∧b≠X.env.locals∧(∀x c,X.env.cells.lookup x=some c→c≠b)∧∀p∈X.pn++pins,p.1≠b)
  (keep:∀b o,b≠X.env.locals→b∉X.fs→b∉ch→s.heap.get? b=some o→H b=none→h'.get? b=some o)
  (slot:∀b o,b≠X.env.locals→b∈X.fs→b∉ch→s.heap.get? b=some o→H b=none→∃sl,h'.get? b=some {o with slots:=sl}) (free:∀b o,b∉ch→s.heap.get? b=some o→H b=none→H' b=none)
  (there:∀b o,b∉ch→s.heap.get? b=some o→∃o',h'.get? b=some o')
  (tups:∀b xs,H b=some (.tup xs)→H' b=some (.tup xs)) (frzs:∀b o u,H b=some (.frz o u)→H' b=some (.frz o u)) (tbls:∀b ps,H b=some (.tbl ps)→∃more,H' b=some (.tbl (ps++more)))
  (ns:∀m,s.heap.Ns X.env.locals m→h'.Ns X.env.locals m) (hok:HOk X.prog X.w H' h') (hg:AllBare g') :
  Inv X pins σ H' {s with heap:=h',gens:=g',drawn:=d',toks:=t'}:=by
 have neL:∀b o,X.s₀.heap.get? b=some o→b≠X.env.locals:=fun b o e=>AR (AU (AL e) I.ok.above)
 have neC:∀b o,X.s₀.heap.get? b=some o→b∉X.ex→b∉ch:=fun b o e hx hb=>by
  rcases(hch b hb).1 with z | z
  ·exact hx z
  ·exact absurd (AU (AL e) z) (DC _)
 have cellK:∀x c,X.env.cells.lookup x=some c→∀v,s.heap.IsCell c v→h'.IsCell c v:=fun x c e v ⟨o,ho,hd⟩=>by
  have nch:c∉ch:=fun z=>(hch c z).2.2.1 x c e rfl
  by_cases hc:c∈X.fs
  ·obtain⟨sl,q⟩:=slot c o (I.cne x c e) hc nch ho (I.freeC x c e)
   exact⟨_,q,hd⟩
  ·exact⟨o,keep c o (I.cne x c e) hc nch ho (I.freeC x c e),hd⟩
 refine⟨I.ok,I.os,hg,⟨fun b o e n hb hx=>?_,fun b o e n hb hx=>?_,fun b o e n hx=>?_,fun b o e hx=>?_,fun b xs e=>tups b xs (I.base.tups b xs e),fun b o xs e=>frzs b o xs (I.base.frzs b o xs e),fun b ps e=>?_⟩,?_,fun x c e=>?_,?_,fun x c e=>?_,fun p hp=>?_,hok,I.len⟩
 ·exact keep b o (neL b o e) hb (neC b o e hx) (I.base.keep b o e n hb hx) (I.base.free b o e n hx)
 ·obtain⟨sl,e1⟩:=I.base.slot b o e n hb hx
  obtain⟨sl',e2⟩:=slot b _ (neL b o e) hb (neC b o e hx) e1 (I.base.free b o e n hx)
  exact⟨sl',e2⟩
 ·obtain⟨o',e1⟩:=I.base.there b o e hx
  exact free b o' (neC b o e hx) e1 (I.base.free b o e n hx)
 ·obtain⟨o',e1⟩:=I.base.there b o e hx
  exact there b o' (neC b o e hx) e1
 ·obtain⟨m1,e1⟩:=I.base.tbls b ps e
  obtain⟨m2,e2⟩:=tbls b _ e1
  exact⟨m1++m2,by rw[e2,Array.append_assoc]⟩
 ·obtain⟨m,hn,hl⟩:=I.loc
  refine⟨m,ns m hn,fun i x v e1 e2 e3=>?_⟩
  obtain⟨u,r,l⟩:=hl i x v e1 e2 e3
  refine⟨u,r,?_⟩
  rcases l with l | ⟨k,c,e,z⟩
  ·exact .inl l
  ·exact .inr ⟨k,c,e,cellK x c e _ z⟩
 ·obtain⟨v,z⟩:=I.cell x c e
  exact⟨v,cellK x c e v z⟩
 ·obtain⟨m,⟨o,_,_,ho,_⟩,_⟩:=I.loc
  exact free _ o (fun z=>(hch _ z).2.1 rfl) ho I.free
 ·obtain⟨v,o,ho,hd⟩:=I.cell x c e
  exact free c o (fun z=>(hch c z).2.2.1 x c e rfl) ho (I.freeC x c e)
 ·obtain⟨e,n,ne,nf,d⟩:=I.pin p hp
  have nch:p.1∉ch:=fun z=>(hch p.1 z).2.2.2 p hp rfl
  exact⟨keep p.1 p.2 ne nf nch e n,free p.1 p.2 nch e n,ne,nf,d⟩
theorem Inv.un {t':Nat} (I:Inv X pins σ H s) (u:Un X.fs [] H H' s.heap h') (hok:HOk X.prog X.w H' h'):Inv X pins σ H' {s with heap:=h',toks:=t'}:=by
 obtain⟨m,⟨o,es,ep,ho,r⟩,_⟩:=id I.loc
 obtain⟨sl,hL⟩:=u.any ho I.free (by simp)
 exact I.step (g':=s.gens) (d':=s.drawn) (ch:=[]) (fun _ z=>nomatch z) (fun b o _ hb _ e n=>u.keep b o e n hb (by simp)) (fun b o _ hb _ e n=>u.slot b o e n hb (by simp)) (fun b o _ e n=>u.free b o e n (by simp)) (fun b o _ e=>u.there b o e (by simp)) u.tups u.frzs u.tbls (fun m' hm=>by
  obtain⟨o',es',ep',ho',r'⟩:=hm
  rw[ho]at ho';cases ho'
  exact⟨_,es',ep',hL,r'⟩) hok I.bare
theorem Inv.call {g':Array GenState} {t':Nat} {d':Drawn} {ch:List Addr} (I:Inv X pins σ H s) (u:Un (frs X.stack) ch H H' s.heap h') (hok:HOk X.prog X.w H' h') (hg:AllBare g')
  (hch:∀b∈ch,(b∈X.ex∨X.s₀.heap.objs.size≤b)∧b≠X.env.locals∧(∀x c,X.env.cells.lookup x=some c→c≠b)∧∀p∈X.pn++pins,p.1≠b) :
  Inv X pins σ H' {s with heap:=h',gens:=g',drawn:=d',toks:=t'}:=by
 obtain⟨m,⟨o,es,ep,ho,r⟩,_⟩:=id I.loc
 obtain⟨sl,hL⟩:=u.any ho I.free fun z=>(hch _ z).2.1 rfl
 exact I.step (ch:=ch) hch (fun b o hL hb hc e n=>u.keep b o e n (fun z=>(AM.mp (I.stkSub b z)).elim hL hb) hc) (fun b o _ _ hc e n=>u.any e n hc) (fun b o hc e n=>u.free b o e n hc) (fun b o hc e=>u.there b o e hc) u.tups u.frzs u.tbls (fun m' hm=>by
  obtain⟨o',es',ep',ho',r'⟩:=hm
  rw[ho]at ho';cases ho'
  exact⟨_,es',ep',hL,r'⟩) hok hg
theorem Inv.turned {t':Nat} {it:Addr} (I:Inv X pins σ H s) (k:∀b o,b≠it→s.heap.get? b=some o→h'.get? b=some o) (hn:H it=none) (hL:it≠X.env.locals)
  (h1:it∈X.ex∨X.s₀.heap.objs.size≤it) (h2:∀x c,X.env.cells.lookup x=some c→c≠it) (h3:∀p∈X.pn++pins,p.1≠it):Inv X pins σ H {s with heap:=h',toks:=t'}:=by
 have nit:∀b u,H b=some u→b≠it:=fun b u e z=>by rw[z,hn]at e;cases e
 refine I.step (g':=s.gens) (d':=s.drawn) (ch:=[it]) (fun b hb=>?_) (fun b o _ _ hc e _=>k b o (fun z=>hc (by simp[z])) e) (fun b o _ _ hc e _=>⟨o.slots,k b o (fun z=>hc (by simp[z])) e⟩) (fun _ _ _ _ n=>n)
  (fun b o hc e=>⟨o,k b o (fun z=>hc (by simp[z])) e⟩) (fun _ _ e=>e) (fun _ _ _ e=>e) (fun b ps e=>⟨#[],by rw[e];simp⟩) (fun m hm=>?_) (fun b u e=>?_) I.bare
 ·have e:b=it:=by simpa using hb
  subst e
  exact⟨h1,hL,h2,h3⟩
 ·obtain⟨o,es,ep,ho,r⟩:=hm
  exact⟨o,es,ep,k _ o (Ne.symm hL) ho,r⟩
 ·refine(I.hok b u e).stay (fun c v hc q=>k c v ?_ q) (fun _ q=>q) fun _ _ q=>q
  rcases hc with z | z
  ·rw[z];exact nit b u e
  ·exact nit c _ z
theorem Inv.tok (I:Inv X pins σ H s) (t:Nat):Inv X pins σ H {s with toks:=t}:=I.un (h':=s.heap) (t':=t) Un.refl I.hok
theorem Inv.kept {t':Nat} (I:Inv X pins σ H s) (k:∀b u,s.heap.get? b=some u→h'.get? b=some u):Inv X pins σ H {s with heap:=h',toks:=t'}:=I.un (Un.kept k) (I.hok.kept k)
theorem Inv.laid {a:Addr} {o:HO} {t':Nat} (I:Inv X pins σ H s) (k:∀b u,s.heap.get? b=some u→h'.get? b=some u) (hp:s.heap.objs.size≤a) (new:iz X.prog X.w (upd H a o) h' a o) :
  Inv X pins σ (upd H a o) {s with heap:=h',toks:=t'}:=I.un (Un.laid k hp (I.hok.fresh hp)) (I.hok.laid k hp new)
theorem Inv.write {x e:Addr} {o:HO} {t':Nat} (I:Inv X pins σ H s) (mu:Mut (H x)) (he:e=x∨H e=some (.own x)) (k:∀b u,b≠e→s.heap.get? b=some u→h'.get? b=some u) (heo:∃u,h'.get? e=some u)
  (new:iz X.prog X.w (upd H x o) h' x o):Inv X pins σ (upd H x o) {s with heap:=h',toks:=t'}:=I.un (Un.write mu he k heo) (I.hok.write mu he k heo new)
theorem Inv.weak {σ':List (Option V)} (I:Inv X pins σ H s) (hl:σ'.length=σ.length) (w:∀(i:Nat) v,σ'[i]? = some (some v)→σ[i]? = some (some v)):Inv X pins σ' H s :=
 ⟨I.ok,I.os,I.bare,I.base,let ⟨m,hn,hl'⟩:=I.loc;⟨m,hn,fun i x v e1 e2 e3=>hl' i x v e1 (w i v e2) e3⟩,I.cell,I.free,I.freeC,I.pin,I.hok,hl.trans I.len⟩
theorem Inv.pins_of {pins':List (Addr×Obj)} (I:Inv X pins σ H s) (h:∀p∈pins',s.heap.get? p.1=some p.2∧H p.1=none∧p.1≠X.env.locals∧p.1∉X.fs∧∀v,p.2.data≠.cell v):Inv X pins' σ H s :=
 ⟨I.ok,I.os,I.bare,I.base,I.loc,I.cell,I.free,I.freeC,fun p hp=>(DH.mp hp).elim (fun z=>I.pin p (List.mem_append_left _ z)) (h p),I.hok,I.len⟩
theorem Dd {N:List Str} (hN:N.Nodup) {i j:Nat} {x:Str} (a:N[i]? = some x) (b:N[j]? = some x):i=j:=by
 obtain⟨h1,e1⟩:=AG.mp a
 obtain⟨h2,e2⟩:=AG.mp b
 exact(List.getElem_inj hN).mp (e1.trans e2.symm)
theorem zq {M:Model} {A:Around} {E:Value→Shared→Prop} {i:Nat} {x:Str} {v:V} {u:Value} {Q:Unit→Shared→Prop} (I:Inv X pins σ H s) (hN:X.N.Nodup) (hi:X.N[i]? = some x) (hx:Loc X.env.scope x) (r:RelV v u)
  (h:∀s',Inv X pins (σ.set i (some v)) H s'→(∃a,Heap.SameBut a s.heap s'.heap∧(a=X.env.locals∨X.env.cells.lookup x=some a))→Q () s') (hf:X.fn x=true∨X.env.scope.names.lookup x=some .local:=by first | exact .inl rfl | exact .inr rfl | assumption):wpAny M A (storeName X.env x u) Q E s:=by
 obtain⟨m,hn,hl⟩:=id I.loc
 have hcls:(X.env.scope.kind==.class || (X.env.scope.kind==.module&&X.env.locals != X.env.globals))=false:=by rw[I.ok.kind];rfl
 have hiσ:i<σ.length:=by rw[I.len];exact(AG.mp hi).1
 have cne:=I.cne
 have tracked:∀{a:Addr} {h':Heap},(∃o,s.heap.get? a=some o∧H a=none)→Heap.SameBut a s.heap h'→HOk X.prog X.w H h':=fun {a h'} ha hs b ob e=>by
  obtain⟨_,_,hfree⟩:=ha
  refine(I.hok b ob e).stay (fun c w' hc q=>(hs.2 c ?_).trans q) (fun _ q=>q) fun _ _ q=>q
  rintro rfl
  rcases hc with rfl | hc
  ·rw[hfree]at e;cases e
  ·rw[hfree]at hc;cases hc
 rcases hx with hk | hk
 ·refine wpAny_storeName_local hk hn (fun h' hn' hs=>?_) hcls
  obtain⟨oL,_,_,hoL,_⟩:=id hn
  refine h _ ⟨I.ok,I.os,I.bare,⟨fun b o e n hb hx=>?_,fun b o e n hb hx=>?_,I.base.free,fun b o e hx=>?_,I.base.tups,I.base.frzs,I.base.tbls⟩,⟨_,hn',fun j y v' e1 e2 e3=>?_⟩,fun y c e=>?_,I.free,I.freeC,fun p hp=>?_,tracked ⟨oL,hoL,I.free⟩ hs,by simpa using I.len⟩ ⟨_,hs,.inl rfl⟩
  ·exact(hs.2 b (AR (AU (AL e) I.ok.above))).trans (I.base.keep b o e n hb hx)
  ·obtain⟨sl,e1⟩:=I.base.slot b o e n hb hx
   exact⟨sl,(hs.2 b (AR (AU (AL e) I.ok.above))).trans e1⟩
  ·obtain⟨o',e1⟩:=I.base.there b o e hx
   exact⟨o',(hs.2 b (AR (AU (AL e) I.ok.above))).trans e1⟩
  ·by_cases hj:j=i
   ·subst hj
    rw[hi]at e1;cases e1
    rw[DD hiσ]at e2
    cases e2
    exact⟨u,r,.inl ⟨hk,by simp⟩⟩
   ·rw[CK (Ne.symm hj)]at e2
    obtain⟨u',r',q⟩:=hl j y v' e1 e2 e3
    refine⟨u',r',?_⟩
    rcases q with⟨k,e⟩ | ⟨k,c,e,z⟩
    ·refine .inl ⟨k,?_⟩
     have:y≠x:=fun e=>hj (Dd hN e1 (e ▸ hi))
     simp[this,e]
    ·exact .inr ⟨k,c,e,z.sameBut hs (cne y c e)⟩
  ·obtain⟨w',z⟩:=I.cell y c e
   exact⟨w',z.sameBut hs (cne y c e)⟩
  ·obtain⟨e,n,ne,nf,d⟩:=I.pin p hp
   exact⟨(hs.2 p.1 ne).trans e,n,ne,nf,d⟩
 ·have hfn:X.fn x=true:=by
   rcases hf with z | z
   ·exact z
   ·rw[z]at hk;cases hk
  obtain⟨c,hc⟩:=I.ok.has x (.inl hk)
  obtain⟨w',z⟩:=I.cell x c hc
  refine wpAny_storeName_cell I.ok.kind hk hc z (fun h' hc' hs=>?_)
  obtain⟨oc,hoc,hocd⟩:=id z
  refine h {s with heap:=h'} ⟨I.ok,I.os,I.bare,⟨fun b o e n hb hx=>?_,fun b o e n hb hx=>?_,I.base.free,fun b o e hx=>?_,I.base.tups,I.base.frzs,I.base.tbls⟩,⟨m,hn.sameBut hs (Ne.symm (cne x c hc)),fun j y v' e1 e2 e3=>?_⟩,fun y c' e=>?_,I.free,I.freeC,fun p hp=>?_,tracked ⟨oc,hoc,I.freeC x c hc⟩ hs,by simpa using I.len⟩ ⟨c,hs,.inr hc⟩
  ·exact(hs.2 b (AR (AU (AL e) (I.ok.cab x c hfn hc)))).trans (I.base.keep b o e n hb hx)
  ·obtain⟨sl,e1⟩:=I.base.slot b o e n hb hx
   exact⟨sl,(hs.2 b (AR (AU (AL e) (I.ok.cab x c hfn hc)))).trans e1⟩
  ·obtain⟨o',e1⟩:=I.base.there b o e hx
   exact⟨o',(hs.2 b (AR (AU (AL e) (I.ok.cab x c hfn hc)))).trans e1⟩
  ·by_cases hj:j=i
   ·subst hj
    rw[hi]at e1;cases e1
    rw[DD hiσ]at e2
    cases e2
    exact⟨u,r,.inr ⟨.inl hk,c,hc,hc'⟩⟩
   ·rw[CK (Ne.symm hj)]at e2
    obtain⟨u',r',q⟩:=hl j y v' e1 e2 e3
    refine⟨u',r',?_⟩
    rcases q with q | ⟨k,c',e,z'⟩
    ·exact .inl q
    ·refine .inr ⟨k,c',e,z'.sameBut hs ?_⟩
     rintro rfl
     exact hj (Dd hN e1 (I.ok.inj _ _ _ e hc ▸ hi))
  ·by_cases hcc:c'=c
   ·subst hcc;exact⟨_,hc'⟩
   ·obtain⟨w2,z2⟩:=I.cell y c' e
    exact⟨w2,z2.sameBut hs hcc⟩
  ·obtain⟨e,n,ne,nf,d⟩:=I.pin p hp
   refine⟨(hs.2 p.1 ?_).trans e,n,ne,nf,d⟩
   intro q
   rw[q,hoc]at e
   have q':oc=p.2:=BM e
   exact d w' (by rw[←q'];exact hocd)
theorem De {M:Model} {A:Around} {E:Value→Shared→Prop} {i:Nat} {x:Str} {v:V} {u:Value} {Q:Unit→Shared→Prop} (I:Inv X pins σ H s) (hN:X.N.Nodup) (hi:X.N[i]? = some x) (hx:Loc X.env.scope x) (r:RelV v u)
  (h:∀s',Inv X pins (σ.set i (some v)) H s'→Q () s') (hf:X.fn x=true∨X.env.scope.names.lookup x=some .local:=by first | exact .inl rfl | exact .inr rfl | assumption):wpAny M A (storeName X.env x u) Q E s :=
 zq I hN hi hx r (fun s' I' _=>h s' I') hf
theorem Inv.call' {s':Shared} {ch:List Addr} (I:Inv X pins σ H s) (ho:s'.os=s.os) (u:Un (frs X.stack) ch H H' s.heap s'.heap) (hok:HOk X.prog X.w H' s'.heap) (hg:AllBare s'.gens)
  (hch:∀b∈ch,(b∈X.ex∨X.s₀.heap.objs.size≤b)∧b≠X.env.locals∧(∀x c,X.env.cells.lookup x=some c→c≠b)∧∀p∈X.pn++pins,p.1≠b):Inv X pins σ H' s':=by
 obtain⟨h',g',d',t',o'⟩:=s'
 have e:o'=s.os:=ho
 subst e
 exact I.call (g':=g') (t':=t') (d':=d') u hok hg hch
end
noncomputable abbrev XK:=Value→Option Addr→Hp→Prop
noncomputable abbrev St:=List (Option V)
noncomputable abbrev VK:=V→Hp→Prop
noncomputable abbrev TE:=St→Hp→VK→Prop
noncomputable abbrev TT:=St→Hp→(Bool→Hp→Prop)→Prop
noncomputable abbrev TA:=St→Hp→(List V→Hp→Prop)→Prop
structure Ends where
 nx:St→Hp→Prop
 rt:VK
 bk:St→Hp→Prop:=fun _ _=>False
 ct:St→Hp→Prop:=fun _ _=>False
noncomputable abbrev TS:=Ends→St→Hp→Prop
noncomputable def EP (X:Cx) (pins:List (Addr×Obj)) (σ:St) (Q:VK) (u:Value) (s':Shared):Prop:=∃v H',Inv X pins σ H' s'∧RelV v u∧Q v H'
noncomputable def TP (X:Cx) (pins:List (Addr×Obj)) (σ:St) (Q:Bool→Hp→Prop) (b:Bool) (s':Shared):Prop:=∃H',Inv X pins σ H' s'∧Q b H'
noncomputable def AP (X:Cx) (pins:List (Addr×Obj)) (σ:St) (Q:List V→Hp→Prop) (us:List Value) (s':Shared):Prop:=∃vs H',Inv X pins σ H' s'∧cq vs us∧Q vs H'
noncomputable def SP (X:Cx) (pins:List (Addr×Obj)) (D:Ends) (f:Flow) (s':Shared):Prop :=
 match f with
 | .next=>∃σ' H',Inv X pins σ' H' s'∧D.nx σ' H'
 | .brk=>∃σ' H',Inv X pins σ' H' s'∧D.bk σ' H'
 | .cont=>∃σ' H',Inv X pins σ' H' s'∧D.ct σ' H'
 | .ret u=>∃v σ' H',Inv X pins σ' H' s'∧RelV v u∧D.rt v H'
noncomputable def PE (X:Cx) (e:Expr) (t:TE):Prop :=
 ∀(pins:List (Addr×Obj)) (s:Shared) (σ:St) (H:Hp) (Q:VK),Inv X pins σ H s→t σ H Q→wpAny (model X.prog X.w) X.A (eval e X.env) (EP X pins σ Q) X.xe s
noncomputable def PT (X:Cx) (e:Expr) (t:TT):Prop :=
 ∀(pins:List (Addr×Obj)) (s:Shared) (σ:St) (H:Hp) (Q:Bool→Hp→Prop),Inv X pins σ H s→t σ H Q→wpAny (model X.prog X.w) X.A (isTrue e X.env (eval e X.env)) (TP X pins σ Q) X.xe s
noncomputable def PW (X:Cx) (e:Expr) (t:TT):Prop :=
 ∀(whole:Sem Value) (pins:List (Addr×Obj)) (s:Shared) (σ:St) (H:Hp) (Q:Bool→Hp→Prop),Inv X pins σ H s→t σ H Q→wpAny (model X.prog X.w) X.A (isTrue e X.env whole) (TP X pins σ Q) X.xe s
theorem PW.pt {X:Cx} {e:Expr} {t:TT} (h:PW X e t):PT X e t:=h _
noncomputable def PA (X:Cx) (es:List Expr) (t:TA):Prop :=
 ∀(pos:Pos) (pins:List (Addr×Obj)) (s:Shared) (σ:St) (H:Hp) (Q:List V→Hp→Prop),Inv X pins σ H s→t σ H Q→wpAny (model X.prog X.w) X.A (spliced (backTo pos (starEach es X.env))) (AP X pins σ Q) X.xe s
noncomputable def PS (X:Cx) (st:Stmt) (t:TS):Prop :=
 ∀(pins:List (Addr×Obj)) (s:Shared) (σ:St) (H:Hp) (D:Ends),Inv X pins σ H s→t D σ H→wpAny (model X.prog X.w) X.A (exec st X.env) (SP X pins D) X.xe s
noncomputable def PSs (X:Cx) (st:List Stmt) (t:TS):Prop :=
 ∀(pins:List (Addr×Obj)) (s:Shared) (σ:St) (H:Hp) (D:Ends),Inv X pins σ H s→t D σ H→wpAny (model X.prog X.w) X.A (execs st X.env) (SP X pins D) X.xe s
theorem thn {α:Type} {t:Sem α} {Q Q':α→Shared→Prop} {M:Model} {A:Around} {E:Value→Shared→Prop} {s:Shared} (h:wpAny M A t Q E s) (hQ:∀a s,Q a s→Q' a s):wpAny M A t Q' E s:=DZ h hQ fun _ _ x=>x
end L2
namespace L2
open PySem PySem.Spec PyProof.Rows
section
variable {X : Cx}
theorem bin {a b:Expr} {ta tb:TE} (ha:PE X a ta) (hb:PE X b tb) {pins:List (Addr×Obj)} {s:Shared} {σ:St} {H:Hp} {R:V→V→Hp→Prop} (I:Inv X pins σ H s) (h:ta σ H fun x H1=>tb σ H1 fun y H2=>R x y H2)
  {α:Type} {Q:α→Shared→Prop} {f:Value→Value→Sem α}
  (hf:∀v u s2 x y H2,Inv X pins σ H2 s2→RelV x v→RelV y u→R x y H2→wpAny (model X.prog X.w) X.A (f v u) Q X.xe s2) :
  wpAny (model X.prog X.w) X.A (eval a X.env) (fun v s₁=>wpAny (model X.prog X.w) X.A (eval b X.env) (fun u s₂=>wpAny (model X.prog X.w) X.A (f v u) Q X.xe s₂) X.xe s₁) X.xe s:=by
 refine thn (ha pins s σ H _ I h) fun v s1 ⟨x,H1,I1,r1,q1⟩=>?_
 refine thn (hb pins s1 σ H1 _ I1 q1) fun u s2 ⟨y,H2,I2,r2,q2⟩=>?_
 exact hf v u s2 x y H2 I2 r1 r2 q2
noncomputable def Yk (i:Nat):TE:=fun σ H Q=>∃v,σ[i]? = some (some v)∧Q v H
noncomputable def tC (v:V):TE:=fun _ H Q=>Q v H
theorem vz {i:Nat} {x:Str} {pos:Pos} (hN:X.N[i]? = some x) (hv:Vis X.env.scope x) (hd:(x==("__debug__":Str))=false:=by decide) (hcd:(x==("__classdict__":Str))=false:=by decide):PE X (.Name x pos) (Yk i):=by
 intro pins s σ H Q I h
 obtain⟨v,e,h⟩:=h
 obtain⟨m,hn,hl⟩:=I.loc
 obtain⟨u,r,l⟩:=hl i x v hN e hv
 have fin:EP X pins σ Q u s:=⟨v,H,I,r,h⟩
 rcases l with⟨hk,hm⟩ | ⟨hk,c,hc,hcell⟩
 ·exact wpAny_Name (wpAny_loadName_local I.ok.kind hk hn hm fin) hd
 ·rcases hk with hk | hk
  ·exact wpAny_Name (wpAny_loadName_cell I.ok.kind hk hc hcell fin) hd
  ·exact wpAny_Name (wpAny_loadName_free I.ok.kind hk hc hcell fin hcd) hd
theorem Nf {i j pos}:PE X (.Constant (.int i) j pos) (tC (.int i)):=fun _ _ _ H _ I h=>wpAny_Constant_int ⟨.int i,H,I.tok _,⟨_,rfl⟩,h⟩
theorem Wn {b j pos}:PE X (.Constant (.bool b) j pos) (tC (.bl b)):=fun _ _ _ H _ I h=>Constant_bool ⟨.bl b,H,I,rfl,h⟩
theorem Ss {j pos}:PE X (.Constant .none j pos) (tC .non):=fun _ _ _ H _ I h=>Constant_none ⟨.non,H,I,rfl,h⟩
theorem Su {x j pos}:PE X (.Constant (.str x) j pos) (tC (.str x)):=fun _ _ _ H _ I h=>Calls.Constant_str ⟨.str x,H,I.tok _,⟨_,rfl⟩,h⟩
noncomputable def Gl (X:Cx) (x:Str):Prop:=X.env.kindOf x=some .globalImplicit
theorem Pq {E:Value→Shared→Prop} {pins:List (Addr×Obj)} {s:Shared} {σ:St} {H:Hp} {x:Str} {u:Value} {pos:Pos} {Q:Value→Shared→Prop} (I:Inv X pins σ H s) (hg:Gl X x) (hm:X.mg x=some u) (h:Q u s)
  (hd:(x==("__debug__":Str))=false:=by decide):wpAny (model X.prog X.w) X.A (eval (.Name x pos) X.env) Q E s :=
 HI I.ok.kind hg (Calls.loadGlobal_global (by rw[I.ok.glob];exact I.mod.glob.keeps I.bk) hm h) hd
theorem o5 {E:Value→Shared→Prop} {pins:List (Addr×Obj)} {s:Shared} {σ:St} {H:Hp} {x:Str} {u:Value} {pos:Pos} {Q:Value→Shared→Prop} (I:Inv X pins σ H s) (hg:Gl X x) (hm:X.mg x=none) (hv:bootBuiltins x=some u) (h:Q u s)
  (hn:x≠"__name__":=by decide) (hd:(x==("__debug__":Str))=false:=by decide):wpAny (model X.prog X.w) X.A (eval (.Name x pos) X.env) Q E s:=by
 obtain⟨mb,h1,h2⟩:=I.mod.blt
 exact HI I.ok.kind hg (Calls.loadGlobal_builtin (by rw[I.ok.glob];exact I.mod.glob.keeps I.bk) hm (by rw[I.ok.blt];exact h1.keeps I.bk) ((h2 x hn).trans hv) h) hd
theorem Pr {x:Str} {v:V} {u:Value} {pos:Pos} (hg:Gl X x) (hm:X.mg x=none) (hv:bootBuiltins x=some u) (r:RelV v u) (hn:x≠"__name__":=by decide) (hd:(x==("__debug__":Str))=false:=by decide):PE X (.Name x pos) (tC v) :=
 fun _ _ _ H _ I h=>o5 I hg hm hv ⟨v,H,I,r,h⟩ hn hd
variable {a b : Expr} {ta tb : TE} {pos : Pos}
variable {tA tB' : TT} {rest : List Expr}
noncomputable def Zk (t u:TT):TT:=fun σ H Q=>t σ H fun c H1=>if c=true then u σ H1 Q else Q false H1
noncomputable def tOr (t u:TT):TT:=fun σ H Q=>t σ H fun c H1=>if c=true then Q true H1 else u σ H1 Q
noncomputable def Zl (t:TT):TT:=fun σ H Q=>t σ H fun c H1=>Q (!c) H1
theorem Pt (ha:PT X a tA):PW X (.BoolOp .And [a] pos) tA:=by
 intro wh pins s σ H Q I h
 refine isTrue_and (thn (ha pins s σ H Q I h) fun c s1 e=>?_)
 cases c with
 | true=>exact isTrue_and_nil e
 | false=>exact e
theorem Sv (ha:PT X a tA):PW X (.BoolOp .Or [a] pos) tA:=by
 intro wh pins s σ H Q I h
 refine isTrue_or (thn (ha pins s σ H Q I h) fun c s1 e=>?_)
 cases c with
 | false=>exact isTrue_or_nil e
 | true=>exact e
theorem Sw (ha:PT X a tA) (hb:PW X (.BoolOp .And (b::rest) pos) tB'):PW X (.BoolOp .And (a::b::rest) pos) (Zk tA tB'):=by
 intro wh pins s σ H Q I h
 refine isTrue_and (thn (ha pins s σ H _ I h) fun c s1 ⟨H1,I1,q1⟩=>?_)
 cases c with
 | true=>exact hb wh pins s1 σ H1 Q I1 q1
 | false=>exact⟨H1,I1,q1⟩
theorem Wo (ha:PT X a tA) (hb:PW X (.BoolOp .Or (b::rest) pos) tB'):PW X (.BoolOp .Or (a::b::rest) pos) (tOr tA tB'):=by
 intro wh pins s σ H Q I h
 refine isTrue_or (thn (ha pins s σ H _ I h) fun c s1 ⟨H1,I1,q1⟩=>?_)
 cases c with
 | true=>exact⟨H1,I1,q1⟩
 | false=>exact hb wh pins s1 σ H1 Q I1 q1
theorem Sx (ha:PT X a tA):PT X (.UnaryOp .Not a pos) (Zl tA):=by
 intro pins s σ H Q I h
 exact isTrue_not (ha pins s σ H (fun c H1=>Q (!c) H1) I h)
noncomputable def Wp (ta tb:TE):TE:=fun σ H Q=>ta σ H fun x H1=>∃c,x=.bl c∧if c=true then tb σ H1 Q else Q (.bl false) H1
noncomputable def Zm (ta tb:TE):TE:=fun σ H Q=>ta σ H fun x H1=>∃c,x=.bl c∧if c=true then Q (.bl true) H1 else tb σ H1 Q
noncomputable def Wq (ta:TE):TE:=fun σ H Q=>ta σ H fun x H1=>∃c,x=.bl c∧Q (.bl (!c)) H1
theorem Ng {op} {t:TE} (h:PE X a t):PE X (.BoolOp op [a] pos) t:=fun pins s σ H Q I hw=>BoolOp_one (h pins s σ H Q I hw)
theorem Sy (ha:PE X a ta) (hb:PE X (.BoolOp .And (b::rest) pos) tb):PE X (.BoolOp .And (a::b::rest) pos) (Wp ta tb):=by
 intro pins s σ H Q I h
 refine BoolOp_and (thn (ha pins s σ H _ I h) fun v s1 ⟨x,H1,I1,r1,q1⟩=>?_)
 obtain⟨c,rfl,q1⟩:=q1
 cases r1
 refine DQ ?_
 cases c with
 | true=>exact hb pins s1 σ H1 Q I1 q1
 | false=>exact⟨.bl false,H1,I1,rfl,q1⟩
theorem Wr (ha:PE X a ta) (hb:PE X (.BoolOp .Or (b::rest) pos) tb):PE X (.BoolOp .Or (a::b::rest) pos) (Zm ta tb):=by
 intro pins s σ H Q I h
 refine BoolOp_or (thn (ha pins s σ H _ I h) fun v s1 ⟨x,H1,I1,r1,q1⟩=>?_)
 obtain⟨c,rfl,q1⟩:=q1
 cases r1
 refine DQ ?_
 cases c with
 | false=>exact hb pins s1 σ H1 Q I1 q1
 | true=>exact⟨.bl true,H1,I1,rfl,q1⟩
theorem Sz (ha:PE X a ta):PE X (.UnaryOp .Not a pos) (Wq ta):=by
 intro pins s σ H Q I h
 refine UnaryOp_ (thn (ha pins s σ H _ I h) fun v s1 ⟨x,H1,I1,r1,q1⟩=>?_)
 obtain⟨c,rfl,q1⟩:=q1
 cases r1
 exact not_of (DQ ⟨.bl (!c),H1,I1,rfl,q1⟩)
end
end L2
namespace L2
open PySem PySem.Spec PyProof.Rows
noncomputable def SqL (K:PySem.W.Frag) (H:Hp) (a:Addr) (xs:List V):Prop :=
 Rd H a (.lst xs) ∨
  ∃(o:Obj) (its:Array Value) (n:Nat),K.lookup a=some o∧o.cls=.type "list"∧o.dict=none∧o.data=.seq its n∧its.size≤sizeLine∧cq xs its.toList
noncomputable def SqT (K:PySem.W.Frag) (H:Hp) (a:Addr) (xs:List V):Prop :=
 Rd H a (.tup xs) ∨
  ∃(o:Obj) (its:Array Value) (n:Nat),K.lookup a=some o∧o.cls=.type "tuple"∧o.data=.seq its n∧its.size≤sizeLine∧cq xs its.toList∧o.dict=none
noncomputable def Zn:Value→Option V
 | .none=>some .non
 | .bool b=>some (.bl b)
 | .int i _=>some (.int i)
 | .str x _=>some (.str x)
 | .bytes b _=>some (.byt b)
 | .float b _=>some (.flt b)
 | .ref a=>some (.ref a)
 | .type n=>some (.ty n)
 | _=>none
theorem RelV.abs {x:V} {u:Value} (r:RelV x u):Zn u=some x:=by
 cases x with
 | non=>cases r;rfl
 | bl _=>cases r;rfl
 | int _=>obtain⟨t,rfl⟩:=r;rfl
 | str _=>obtain⟨t,rfl⟩:=r;rfl
 | byt _=>obtain⟨t,rfl⟩:=r;rfl
 | flt _=>obtain⟨t,rfl⟩:=r;rfl
 | ref _=>cases r;rfl
 | ty _=>cases r;rfl
theorem RelV.inj {x y:V} {u:Value} (r:RelV x u) (q:RelV y u):x=y:=BM (r.abs.symm.trans q.abs)
theorem cq.inj:∀{xs ys:List V} {us:List Value},cq xs us→cq ys us→xs=ys
 | _,_,_,.nil,.nil=>rfl
 | _,_,_,.cons r t,.cons r' t'=>by rw[r.inj r',cq.inj t t']
section
variable {X : Cx} {pins : List (Addr × Obj)} {σ : St} {H : Hp} {s : Shared} {a : Addr} {xs ys : List V}
theorem SqL.of {K:PySem.W.Frag} (h:H a=some (.lst xs)):SqL K H a xs:=.inl (.inl h)
theorem SqT.of {K:PySem.W.Frag} (h:H a=some (.tup xs)):SqT K H a xs:=.inl (.inl h)
theorem Inv.list (I:Inv X pins σ H s) (h:SqL X.K H a xs):∃its:List Value,cq xs its∧PlainL s.heap a its.toArray∧xs.length≤sizeLine:=by
 rcases h with h | ⟨o,its,n,hk,hc,hd,hs,hz,r⟩
 ·obtain⟨z,its,n,r,e⟩:=h.ok I.hok
  exact⟨its,r,⟨_,n,e,rfl,rfl,rfl⟩,z⟩
 ·refine⟨its.toList,r,⟨o,n,I.kIn a o hk,hc,hd,by simpa using hs⟩,?_⟩
  have e:=r.length
  simp only[BP]at e
  lia
theorem Inv.tuple (I:Inv X pins σ H s) (h:SqT X.K H a xs):∃its:List Value,cq xs its∧IsTup s.heap a its.toArray∧xs.length≤sizeLine:=by
 rcases h with h | ⟨o,its,n,hk,hc,hs,hz,r,_⟩
 ·obtain⟨z,its,r,p⟩:=h.ok I.hok
  exact⟨its,r,p.tup,z⟩
 ·refine⟨its.toList,r,⟨o,I.kIn a o hk,hc,n,by simpa using hs⟩,?_⟩
  have e:=r.length
  simp only[BP]at e
  lia
theorem Inv.list_inj (I:Inv X pins σ H s) (h:SqL X.K H a xs) (h':SqL X.K H a ys):xs=ys:=by
 obtain⟨its,r,⟨o,n,e,_,_,d⟩,_⟩:=I.list h
 obtain⟨its',r',⟨o',n',e',_,_,d'⟩,_⟩:=I.list h'
 rw[e]at e';cases e'
 rw[d]at d'
 injection d' with d1 _
 have:its=its':=by simpa using congrArg Array.toList d1
 subst this
 exact r.inj r'
theorem Inv.tuple_inj (I:Inv X pins σ H s) (h:SqT X.K H a xs) (h':SqT X.K H a ys):xs=ys:=by
 obtain⟨its,r,⟨o,e,_,n,d⟩,_⟩:=I.tuple h
 obtain⟨its',r',⟨o',e',_,n',d'⟩,_⟩:=I.tuple h'
 rw[e]at e';cases e'
 rw[d]at d'
 injection d' with d1 _
 have:its=its':=by simpa using congrArg Array.toList d1
 subst this
 exact r.inj r'
end
noncomputable abbrev Cx.wish (X:Cx) (E:Value→Shared→Prop):Cx:={X with xe:=E}
noncomputable abbrev Cx.nox (X:Cx):Cx:=X.wish fun _ _=>False
theorem Cx.Ok.wish {X:Cx} (ok:X.Ok) (E:Value→Shared→Prop):(X.wish E).Ok :=
 ⟨ok.mod,ok.kind,ok.glob,ok.blt,ok.above,ok.inj,ok.has,ok.cab,ok.hd,ok.frames,ok.stk,ok.exf,ok.bs,ok.bsz,ok.noex,ok.exfs,ok.funs,ok.frf⟩
theorem Cx.Ok.unwish {X:Cx} {E:Value→Shared→Prop} (ok:(X.wish E).Ok):X.Ok :=
 ⟨ok.mod,ok.kind,ok.glob,ok.blt,ok.above,ok.inj,ok.has,ok.cab,ok.hd,ok.frames,ok.stk,ok.exf,ok.bs,ok.bsz,ok.noex,ok.exfs,ok.funs,ok.frf⟩
section
variable {X : Cx} {pins : List (Addr × Obj)} {σ : St} {H : Hp} {s : Shared} {E : Value → Shared → Prop}
theorem Inv.wish (I:Inv X pins σ H s) (E:Value→Shared→Prop):Inv (X.wish E) pins σ H s:=⟨I.ok.wish E,I.os,I.bare,I.base,I.loc,I.cell,I.free,I.freeC,I.pin,I.hok,I.len⟩
theorem Inv.unwish (I:Inv (X.wish E) pins σ H s):Inv X pins σ H s:=⟨I.ok.unwish,I.os,I.bare,I.base,I.loc,I.cell,I.free,I.freeC,I.pin,I.hok,I.len⟩
theorem SP.unwish {D:Ends} {f:Flow} {s':Shared} (h:SP (X.wish E) pins D f s'):SP X pins D f s':=by
 cases f with
 | next=>obtain⟨σ',H',I,q⟩:=h;exact⟨σ',H',I.unwish,q⟩
 | brk=>obtain⟨σ',H',I,q⟩:=h;exact⟨σ',H',I.unwish,q⟩
 | cont=>obtain⟨σ',H',I,q⟩:=h;exact⟨σ',H',I.unwish,q⟩
 | ret u=>obtain⟨v,σ',H',I,r,q⟩:=h;exact⟨v,σ',H',I.unwish,r,q⟩
theorem PSs.nox {st:List Stmt} {t:TS} (h:PSs X.nox st t):PSs X st t:=fun pins s σ H D I hw =>
 DZ (h pins s σ H D (I.wish _) hw) (fun _ _ q=>q.unwish) fun _ _ z=>False.elim z
end
section
variable {X : Cx} {st : Stmt} {rest : List Stmt} {t u : TS} {e : Expr} {te : TE} {pos : Pos}
noncomputable def tNext:TS:=fun D σ H=>D.nx σ H
noncomputable def Zo (t u:TS):TS:=fun D σ H=>t {D with nx:=u D} σ H
theorem Pu:PSs X [] tNext:=fun _ _ σ H _ I h=>wpAny_execs_nil ⟨σ,H,I,h⟩
theorem K2 (h1:PS X st t) (h2:PSs X rest u):PSs X (st::rest) (Zo t u):=by
 intro pins s σ H D I h
 refine wpAny_execs_cons (thn (h1 pins s σ H {D with nx:=u D} I h) fun f s1 q=>?_)
 cases f with
 | next =>
  obtain⟨σ',H',I',q⟩:=q
  exact h2 pins s1 σ' H' D I' q
 | ret v=>exact q
 | brk=>exact q
 | cont=>exact q
theorem Inv.quiet {pins:List (Addr×Obj)} {σ:St} {H:Hp} {s:Shared} (I:Inv X pins σ H s):interactive X.env=false:=by simp[interactive,I.ok.kind]
noncomputable def Ws (te:TE):TS:=fun D σ H=>te σ H fun _ H1=>D.nx σ H1
theorem Pw (he:PE X e te) (hs:swapsWith e none pos.line X.env=pure false:=by rfl):PS X (.Expr e pos) (Ws te):=by
 intro pins s σ H D I h
 exact wpAny_Expr_any (thn (he pins s σ H _ I h) fun v s1 ⟨x,H1,I1,r1,q1⟩=>⟨σ,H1,I1,q1⟩) I.quiet hs
noncomputable def Zp (te:TE):TS:=fun D σ H=>te σ H D.rt
theorem S0 (he:PE X e te):PS X (.Return (some e) pos) (Zp te):=by
 intro pins s σ H D I h
 exact wpAny_Return_some (thn (he pins s σ H _ I h) fun v s1 ⟨x,H1,I1,r1,q1⟩=>⟨x,σ,H1,I1,r1,q1⟩)
noncomputable def Zq (c:TT) (t u:TS):TS:=fun D σ H=>c σ H fun b H1=>if b=true then t D σ H1 else u D σ H1
theorem Wt {c:Expr} {a b:List Stmt} {tc:TT} (hc:PT X c tc) (ha:PSs X a t) (hb:PSs X b u):PS X (.If c a b pos) (Zq tc t u):=by
 intro pins s σ H D I h
 refine wpAny_If (thn (hc pins s σ H _ I h) fun d s1 ⟨H1,I1,q1⟩=>?_)
 cases d with
 | true=>exact ha pins s1 σ H1 D I1 q1
 | false=>exact hb pins s1 σ H1 D I1 q1
end
noncomputable abbrev TG:=V→St→Hp→(St→Hp→Prop)→Prop
noncomputable abbrev TGs:=List V→St→Hp→(St→Hp→Prop)→Prop
noncomputable def PG (X:Cx) (target:Expr) (t:TG):Prop :=
 ∀(pins:List (Addr×Obj)) (s:Shared) (σ:St) (H:Hp) (v:V) (u:Value) (Q:St→Hp→Prop),Inv X pins σ H s→RelV v u→t v σ H Q →
  wpAny (model X.prog X.w) X.A (assign target X.env u) (fun _ s'=>∃σ' H',Inv X pins σ' H' s'∧Q σ' H') X.xe s
noncomputable def PGs (X:Cx) (ts:List Expr) (t:TGs):Prop :=
 ∀(pins:List (Addr×Obj)) (s:Shared) (σ:St) (H:Hp) (vs:List V) (us:List Value) (Q:St→Hp→Prop),Inv X pins σ H s→cq vs us→t vs σ H Q →
  wpAny (model X.prog X.w) X.A (assignInOrder ((assignEach ts X.env).map (·.2)) us) (fun _ s'=>∃σ' H',Inv X pins σ' H' s'∧Q σ' H') X.xe s
noncomputable abbrev TSet:=V→V→V→Hp→(Hp→Prop)→Prop
noncomputable def Wf (X:Cx) (t:TSet):Prop :=
 ∀(pins:List (Addr×Obj)) (s:Shared) (σ:St) (H:Hp) (o i v:V) (ov iv u:Value) (Q:Hp→Prop),Inv X pins σ H s→RelV o ov→RelV i iv→RelV v u→t o i v H Q →
  wpAny (model X.prog X.w) X.A (setItem ov iv u) (fun _ s'=>∃H',Inv X pins σ H' s'∧Q H') X.xe s
section
variable {X : Cx} {pos : Pos}
noncomputable def Px (i:Nat):TG:=fun v σ H Q=>Q (σ.set i (some v)) H
theorem Gv {i:Nat} {x:Str} (hN:X.N.Nodup) (hi:X.N[i]? = some x) (hx:Loc X.env.scope x) (hf:X.fn x=true∨X.env.scope.names.lookup x=some .local:=by first | exact .inl rfl | exact .inr rfl | assumption):PG X (.Name x pos) (Px i):=by
 intro pins s σ H v u Q I r h
 exact wpAny_assign_Name (De I hN hi hx r (fun s' I'=>⟨_,H,I',h⟩) hf)
noncomputable def gNil:TGs:=fun vs σ H Q=>vs=[]∧Q σ H
noncomputable def Wu (t:TG) (u:TGs):TGs:=fun vs σ H Q=>∃v r,vs=v::r∧t v σ H fun σ' H'=>u r σ' H' Q
theorem Py:PGs X [] gNil:=by
 intro pins s σ H vs us Q I r h
 obtain⟨e,h⟩:=h
 subst e
 cases r
 exact assignInOrder_nil ⟨σ,H,I,h⟩
theorem K3 {e:Expr} {es:List Expr} {t:TG} {u:TGs} (h1:PG X e t) (h2:PGs X es u)
  (hs:(assignEach (e::es) X.env).map (·.2)=assign e X.env::(assignEach es X.env).map (·.2):=by rfl):PGs X (e::es) (Wu t u):=by
 intro pins s σ H vs us Q I r h
 obtain⟨v,vr,e1,h⟩:=h
 subst e1
 cases r with
 | cons r rr =>
  rw[hs]
  refine assignInOrder_cons (thn (h1 pins s σ H _ _ _ I r h) fun _ s1 ⟨σ1,H1,I1,q1⟩=>?_)
  exact h2 pins s1 σ1 H1 _ _ Q I1 rr q1
noncomputable def Zr (K:PySem.W.Frag) (n:Nat) (t:TGs):TG:=fun v σ H Q=>∃a xs,v=.ref a∧SqT K H a xs∧xs.length=n∧t xs σ H Q
theorem S2 {es:List Expr} {k:Nat} {t:TGs} {n:Nat} (hc:X.calm=true) (h:PGs X es t)
  (hn:(assignEach es X.env).length=n:=by rfl) (hst:(assignEach es X.env).findIdx? (·.1)=none:=by rfl):PG X (.Tuple es k pos) (Zr X.K n t):=by
 intro pins s σ H v u Q I r hw
 obtain⟨a,xs,e1,hq,hl,hw⟩:=hw
 subst e1
 cases r
 obtain⟨its,rv,ht,hz⟩:=I.tuple hq
 refine assign_Tuple_tuple (I.ok.hd hc) ht (by simp[hn,←hl,rv.length]) hst fun h' hx=>?_
 have I1:Inv X pins σ H {s with heap:=h'}:=I.kept (t':=s.toks) fun b o e=>hx b o (AR (AL e)) e
 exact h pins _ σ H xs _ Q I1 (by simpa using rv) hw
noncomputable def Zs (to ti:TE) (t:TSet):TG:=fun v σ H Q=>to σ H fun o H1=>ti σ H1 fun i H2=>t o i v H2 fun H3=>Q σ H3
theorem S3 {o i:Expr} {to ti:TE} {t:TSet} (ho:PE X o to) (hi:PE X i ti) (hs:Wf X t)
  (ha:∀v,assign (.Subscript o i pos) X.env v=(do
   let ov ←holding [v] (eval o X.env)
   let iv ←holding [v,ov] (eval i X.env)
   standAt pos
   holding [v,ov,iv] (setItem ov iv v)
   release [v,ov,iv] []):=by intro _;rfl):PG X (.Subscript o i pos) (Zs to ti t):=by
 intro pins s σ H v u Q I r h
 rw[ha]
 refine AA (CS (thn (ho pins s σ H _ I h) fun ov s1 ⟨x,H1,I1,r1,q1⟩=>?_))
 refine AA (CS (thn (hi pins s1 σ H1 _ I1 q1) fun iv s2 ⟨y,H2,I2,r2,q2⟩=>?_))
 refine AA (wpAny_standAt (AA (CS (thn (hs pins s2 σ H2 x y v ov iv u _ I2 r1 r2 r q2) fun _ s3 ⟨H3,I3,q3⟩=>?_))))
 exact wpAny_release ⟨σ,H3,I3,q3⟩
noncomputable def Yl (te:TE) (g:TG):TS:=fun D σ H=>te σ H fun x H1=>g x σ H1 D.nx
theorem Nh {tg e:Expr} {te:TE} {g:TG} (he:PE X e te) (hg:PG X tg g) (hs:swapsWithSole [tg] e pos.line X.env=pure false:=by rfl) (hw:swappedStores [tg] e X.env=pure none:=by rfl)
  (h1:(assignEach [tg] X.env).map (·.2)=[assign tg X.env]:=by rfl):PS X (.Assign [tg] e pos) (Yl te g):=by
 intro pins s σ H D I h
 refine wpAny_Assign_stores (thn (he pins s σ H _ I h) fun v s1 ⟨x,H1,I1,r1,q1⟩=>?_) hs hw
 rw[h1]
 exact thn (hg pins s1 σ H1 x v _ I1 r1 q1) fun _ s2 q=>q
theorem S4 {i:Nat} {x:Str} {e:Expr} {te:TE} {pos':Pos} (hN:X.N.Nodup) (hi:X.N[i]? = some x) (hx:Loc X.env.scope x) (he:PE X e te) (hs:swapsWith e (some (.Name x pos')) pos.line X.env=pure false:=by rfl) (hf:X.fn x=true∨X.env.scope.names.lookup x=some .local:=by first | exact .inl rfl | exact .inr rfl | assumption) :
  PS X (.Assign [.Name x pos'] e pos) (Yl te (Px i)):=by
 intro pins s σ H D I h
 refine wpAny_Assign_Name (thn (he pins s σ H _ I h) fun v s1 ⟨y,H1,I1,r1,q1⟩=>?_) hs
 exact De I1 hN hi hx r1 (fun s2 I2=>⟨_,H1,I2,q1⟩) hf
end
structure It where
 go:Nat→Hp→Prop
 yld:Nat→Hp→V→Hp→Prop
 stop:Nat→Hp→Prop
noncomputable def E8 (X:Cx) (pins:List (Addr×Obj)) (H:Hp) (b:Addr):Prop :=
 H b=none∧b≠X.env.locals∧b∉X.fs∧(b∈X.ex∨X.s₀.heap.objs.size≤b)∧(∀x c,X.env.cells.lookup x=some c→c≠b)∧∀p∈X.pn++pins,p.1≠b
theorem Inv.fpOk {X:Cx} {pins:List (Addr×Obj)} {σ:St} {H H':Hp} {s:Shared} {b:Addr} (I:Inv X pins σ H s) (hb:s.heap.objs.size≤b) (hn:H' b=none):E8 X pins H' b:=by
 refine⟨hn,CL (AU I.lt hb),I.nofs hb,.inr (Do I.sz hb),fun x c e z=>?_,fun p hp z=>?_⟩
 ·obtain⟨v,q⟩:=I.cell x c e
  exact absurd (AU q.lt (by rw[z];exact hb)) (DC _)
 ·exact absurd (AU (AL (I.pin p hp).1) (by rw[z];exact hb)) (DC _)
structure Turn (P:Program) (w:World) (K:PySem.W.Frag) (tg:Expr) (J:It) (fp:List Addr) (it:Addr) (tn:Nat→Heap→Prop):Prop where
 mem:it∈fp
 obj:∀i h,tn i h→∀b∈fp,∃o,h.get? b=some o∧∀v,o.data≠.cell v
 keep:∀i h h',tn i h→(∀b∈fp,∀o,h.get? b=some o→h'.get? b=some o)→tn i h'
 item:∀(X:Cx),X.prog=P→X.w=w→X.K=K→X.calm=true→∀(i:Nat) (pins:List (Addr×Obj)) (s:Shared) (σ:St) (H:Hp) (E:Value→Shared→Prop),Inv X pins σ H s→(∀b∈fp,E8 X pins H b)→tn i s.heap→J.go i H →
  wpAny (model P w) X.A (pyNext (.ref it)) (fun r s1=>∃u,r=some u ∧
   wpAny (model P w) X.A (letOwnedTupleGo tg (.ref it) u) (fun _ s2=>∃x H',Inv X pins σ H' s2∧RelV x u∧J.yld i H x H'∧tn (i+1) s2.heap∧∀b∈fp,H' b=none) E s1) E s
 done:∀(X:Cx),X.prog=P→X.w=w→X.K=K→X.calm=true→∀(i:Nat) (pins:List (Addr×Obj)) (s:Shared) (σ:St) (H:Hp) (E:Value→Shared→Prop),Inv X pins σ H s→(∀b∈fp,E8 X pins H b)→tn i s.heap→J.stop i H →
  wpAny (model P w) X.A (pyNext (.ref it)) (fun r s1=>r=none∧Inv X pins σ H s1) E s
 self:∀(A:Around) (i:Nat) (s:Shared) (Q:Value→Shared→Prop) (E:Value→Shared→Prop),tn i s.heap→Q (.ref it) s→wpAny (model P w) A (pyIter (.ref it)) Q E s
noncomputable abbrev TI:=St→Hp→(It→Hp→Prop)→Prop
noncomputable def PIE (X:Cx) (pins:List (Addr×Obj)) (σ:St) (tg:Expr) (R:It→Hp→Prop) (itv:Value) (s2:Shared):Prop :=
 ∃(it:Addr) (fp:List Addr) (tn:Nat→Heap→Prop) (J:It) (H':Hp),itv=.ref it∧Inv X pins σ H' s2∧Turn X.prog X.w X.K tg J fp it tn∧tn 0 s2.heap∧(∀b∈fp,E8 X pins H' b)∧R J H'
noncomputable def PI (X:Cx) (tg iter:Expr) (wi:TI):Prop :=
 ∀(pins:List (Addr×Obj)) (s:Shared) (σ:St) (H:Hp) (R:It→Hp→Prop),Inv X pins σ H s→wi σ H R →
  wpAny (model X.prog X.w) X.A (eval iter X.env) (fun v s1=>wpAny (model X.prog X.w) X.A (pyIter v) (PIE X pins σ tg R) X.xe s1) X.xe s
theorem K4 {M:Model} {A:Around} {E:Value→Shared→Prop} {s:Shared} {tg:Expr} {it:Addr} {u:Value} {o:Obj} {n:String} {vs:Array Value} {Q:Unit→Shared→Prop} (ho:s.heap.get? it=some o) (hc:o.cls=.type n) (hd:o.data=.fields vs)
  (hn:["enumerate","zip","dict_itemiterator","dict_reverseitemiterator","odict_iterator","itertools.zip_longest","itertools.pairwise"].contains n=false) (hQ:Q () s):wpAny M A (letOwnedTupleGo tg (.ref it) u) Q E s:=by
 unfold letOwnedTupleGo
 cases tg<;>first
  | exact AD hQ
  | (cases u<;>first
    | exact AD hQ
    | (
     refine AA (wpAny_load ho ?_)
     rw[hc,hd]
     show wpAny M A (if(["enumerate","zip","dict_itemiterator","dict_reverseitemiterator","odict_iterator","itertools.zip_longest","itertools.pairwise"].contains n&&vs[0]?==some (rawInt _))=true then _ else _) Q E s
     rw[if_neg (by intro h;rw[hn,Bool.false_and]at h;cases h)]
     exact AD hQ))
noncomputable def Itl (K:PySem.W.Frag) (a:Addr):It :=
 ⟨fun i H=>∃xs x,SqL K H a xs∧xs[i]? = some x,fun i H x H'=>H'=H∧∀xs,SqL K H a xs→xs[i]? = some x,fun i H=>∃xs,SqL K H a xs∧xs.length≤i⟩
noncomputable def Itt (K:PySem.W.Frag) (a:Addr):It :=
 ⟨fun i H=>∃xs x,SqT K H a xs∧xs[i]? = some x,fun i H x H'=>H'=H∧∀xs,SqT K H a xs→xs[i]? = some x,fun i H=>∃xs,SqT K H a xs∧xs.length≤i⟩
noncomputable def Itr (lo:Int) (n:Nat):It:=⟨fun i _=>i<n,fun i H x H'=>H'=H∧x=.int (lo+i),fun i _=>n≤i⟩
theorem Gw {P:Program} {w:World} {K:PySem.W.Frag} {tg:Expr} (a it:Addr):Turn P w K tg (Itl K a) [it] it (fun i h=>h.IsListIter it a i) where
 mem:=by simp
 obj:=fun i h st b hb=>by
  have e:b=it:=by simpa using hb
  subst e
  obtain⟨o,e,c,d⟩:=st
  exact⟨o,e,fun v z=>by rw[d]at z;cases z⟩
 keep:=fun i h h' st k=>st.at fun o e=>k it (by simp) o e
 item:=by
  intro X hP hw hK hc i pins s σ H E I hf st hg
  subst hP hw hK
  obtain⟨xs,x,hq,hx⟩:=hg
  obtain⟨its,rv,p,hz⟩:=I.list hq
  obtain⟨u,hu,ru⟩:=rv.get hx
  obtain⟨f0,f1,f2,f3,f4,f5⟩:=hf it (by simp)
  refine wpAny_pyNext_list_item st p.isList (x:=u) (by simpa using hu) fun h' st' sb=>?_
  have I1:Inv X pins σ H {s with heap:=h'}:=I.turned (t':=s.toks) (fun b o hb e=>(sb.2 b hb).trans e) f0 f1 f3 f4 f5
  obtain⟨o,e,c,d⟩:=id st'
  exact⟨u,rfl,K4 (s:={s with heap:=h'}) e c d (by decide) ⟨x,H,I1,ru,⟨rfl,fun ys hy=>by rw[I.list_inj hy hq];exact hx⟩,st',fun b hb=>(hf b hb).1⟩⟩
 done:=by
  intro X hP hw hK hc i pins s σ H E I hf st hg
  subst hP hw hK
  obtain⟨xs,hq,hx⟩:=hg
  obtain⟨its,rv,p,hz⟩:=I.list hq
  obtain⟨f0,f1,f2,f3,f4,f5⟩:=hf it (by simp)
  have hl:=rv.length
  exact wpAny_pyNext_list_end (I.ok.hd hc) st p.isList (by simp;lia) fun h' eb=>⟨rfl,I.turned (t':=s.toks) (fun b o hb e=>eb b o hb e) f0 f1 f3 f4 f5⟩
 self:=fun _ _ _ _ _ st h=>wpAny_pyIter_listiter st h
theorem E9 {P:Program} {w:World} {K:PySem.W.Frag} {tg:Expr} (a it:Addr):Turn P w K tg (Itt K a) [it] it (fun i h=>h.IsTupleIter it a i) where
 mem:=by simp
 obj:=fun i h st b hb=>by
  have e:b=it:=by simpa using hb
  subst e
  obtain⟨o,e,c,d⟩:=st
  exact⟨o,e,fun v z=>by rw[d]at z;cases z⟩
 keep:=fun i h h' st k=>st.at fun o e=>k it (by simp) o e
 item:=by
  intro X hP hw hK hc i pins s σ H E I hf st hg
  subst hP hw hK
  obtain⟨xs,x,hq,hx⟩:=hg
  obtain⟨its,rv,p,hz⟩:=I.tuple hq
  obtain⟨u,hu,ru⟩:=rv.get hx
  obtain⟨f0,f1,f2,f3,f4,f5⟩:=hf it (by simp)
  refine wpAny_pyNext_tuple_item st (show s.heap.IsTuple a its.toArray from p) (x:=u) (by simpa using hu) fun h' st' sb=>?_
  have I1:Inv X pins σ H {s with heap:=h'}:=I.turned (t':=s.toks) (fun b o hb e=>(sb.2 b hb).trans e) f0 f1 f3 f4 f5
  obtain⟨o,e,c,d⟩:=id st'
  exact⟨u,rfl,K4 (s:={s with heap:=h'}) e c d (by decide) ⟨x,H,I1,ru,⟨rfl,fun ys hy=>by rw[I.tuple_inj hy hq];exact hx⟩,st',fun b hb=>(hf b hb).1⟩⟩
 done:=by
  intro X hP hw hK hc i pins s σ H E I hf st hg
  subst hP hw hK
  obtain⟨xs,hq,hx⟩:=hg
  obtain⟨its,rv,p,hz⟩:=I.tuple hq
  obtain⟨f0,f1,f2,f3,f4,f5⟩:=hf it (by simp)
  have hl:=rv.length
  exact wpAny_pyNext_tuple_end (I.ok.hd hc) st (show s.heap.IsTuple a its.toArray from p) (by simp;lia) fun h' eb=>⟨rfl,I.turned (t':=s.toks) (fun b o hb e=>eb b o hb e) f0 f1 f3 f4 f5⟩
 self:=fun _ _ _ _ _ st h=>wpAny_pyIter_tupleiter st h
theorem Fb {P:Program} {w:World} {K:PySem.W.Frag} {tg:Expr} (it:Addr) (lo:Int) (n:Nat):Turn P w K tg (Itr lo n) [it] it (fun i h=>IsRangeIter h it (lo+(i:Nat)*1) ((n:Int)-(i:Nat)) 1) where
 mem:=by simp
 obj:=fun i h st b hb=>by
  have e:b=it:=by simpa using hb
  subst e
  exact⟨_,st,fun v z=>by
   have z':Data.fields _=Data.cell v:=z
   cases z'⟩
 keep:=fun i h h' st k=>k it (by simp) _ st
 item:=by
  intro X hP hw hK hc i pins s σ H E I hf st hg
  subst hP hw hK
  obtain⟨f0,f1,f2,f3,f4,f5⟩:=hf it (by simp)
  have W:=Walks.range (prog:=X.prog) (w:=X.w) (I.ok.hd hc) it lo 1 n
  refine W.item i s _ _ hg st fun v h' tk hv st' kk=>?_
  obtain⟨t,rfl⟩:=hv
  have I1:Inv X pins σ H {s with heap:=h',toks:=tk}:=I.turned (fun b o hb e=>kk b o (by simpa using hb) e) f0 f1 f3 f4 f5
  refine⟨_,rfl,K4 (s:={s with heap:=h',toks:=tk}) (n:="range_iterator") st' rfl rfl (by decide) ⟨.int (lo+i),H,I1,⟨t,?_⟩,⟨rfl,rfl⟩,st',fun b hb=>(hf b hb).1⟩⟩
  rw[Int.mul_one]
 done:=by
  intro X hP hw hK hc i pins s σ H E I hf st hg
  subst hP hw hK
  obtain⟨f0,f1,f2,f3,f4,f5⟩:=hf it (by simp)
  exact wpAny_pyNext_range_end (I.ok.hd hc) st (by have:n≤i:=hg;lia) fun h' eb=>⟨rfl,I.turned (t':=s.toks) (fun b o hb e=>eb b o hb e) f0 f1 f3 f4 f5⟩
 self:=fun _ _ _ _ _ st h=>wpAny_pyIter_rangeiter st h
end L2
namespace L2
open PySem PySem.Spec PyProof.Rows
section
variable {X : Cx} {tg : Expr}
theorem K5 {pins:List (Addr×Obj)} {σ:St} {H:Hp} {s:Shared} {R:It→Hp→Prop} {E:Value→Shared→Prop} {lo hi:Int} {t u v:Tok} {tk:Nat} (I:Inv X pins σ H s) (h1:-(2 ^ 62)≤lo) (h2:lo<2 ^ 62) (h3:-(2 ^ 62)≤hi) (h4:hi<2 ^ 62)
  (q:R (Itr lo (hi-lo).toNat) H):wpAny (model X.prog X.w) X.A (pyIter (.ref s.heap.objs.size)) (PIE X pins σ tg R) E {s with heap:=s.heap.push {cls:=.type "range",data:=.fields #[.int lo t,.int hi u,.int 1 v]},toks:=tk}:=by
 refine wpAny_pyIter_range (IsRange.new ..) (small_one h1 h2 h3 h4) ?_
 have I1:Inv X pins σ H {s with heap:=s.heap.push {cls:=.type "range",data:=.fields #[.int lo t,.int hi u,.int 1 v]},toks:=tk}:=I.kept fun b o e=>AC _ e
 refine⟨(s.heap.push {cls:=.type "range",data:=.fields #[.int lo t,.int hi u,.int 1 v]}).objs.size,[(s.heap.push {cls:=.type "range",data:=.fields #[.int lo t,.int hi u,.int 1 v]}).objs.size],_,_,H,rfl,
  I1.kept (t':=tk) fun b o e=>AC _ e,Fb _ lo (hi-lo).toNat,?_,fun b hb=>?_,q⟩
 ·have e1:lo+((0:Nat):Int)*1=lo:=by simp
  have e2:(((hi-lo).toNat:Nat):Int)-((0:Nat):Int)=Builtin.Range.rangeSize lo hi 1:=by rw[rangeSize_one];split<;>lia
  show IsRangeIter _ _ (lo+((0:Nat):Int)*1) ((((hi-lo).toNat:Nat):Int)-((0:Nat):Int)) 1
  rw[e1,e2]
  exact AH _ rfl
 ·have e:b=(s.heap.push {cls:=.type "range",data:=.fields #[.int lo t,.int hi u,.int 1 v]}).objs.size:=by simpa using hb
  subst e
  exact I1.fpOk (AI _) (I1.hok.fresh (AI _))
noncomputable def Wv (ta:TA):TI:=fun σ H R=>ta σ H fun vs H1=>∃j:Int,vs=[.int j] ∧ -(2 ^ 62)≤j∧j<2 ^ 62∧R (Itr 0 j.toNat) H1
theorem Gx {a:Expr} {ta:TA} {p pos:Pos} (hg:Gl X "range") (hm:X.mg "range"=none) (ha:PA X [a] ta) (hs:starEach [a] X.env=[(false,eval a X.env)]:=by rfl):PI X tg (.Call (.Name "range" p) [a] [] pos) (Wv ta):=by
 intro pins s σ H R I h
 refine Call_ (o5 I hg hm boot_range (CF (thn (ha pos pins s σ H _ I h) fun us s1 ⟨vs,H1,I1,r1,q1⟩=>?_) hs rfl))
 obtain⟨j,e,q1,q2,q⟩:=q1
 subst e
 cases r1 with
 | cons r rr =>
  cases rr
  obtain⟨t,rfl⟩:=r
  exact call_range_1 (K5 I1 (by lia) (by lia) q1 q2 (by simpa using q))
noncomputable def Zt (wi:TI) (g:TG) (tb:TS):TS:=fun D σ H=>wi σ H fun J H1=>∃W:Nat→Nat→St→Hp→Prop,(∃m,W 0 m σ H1)∧∀i m σ H,W i m σ H →
 (J.stop i H∧D.nx σ H)∨(J.go i H∧∃N:St→Hp→Prop,(∀σ' H',N σ' H'→∃m',m'<m∧W (i+1) m' σ' H')∧∀x H',J.yld i H x H'→g x σ H' fun σ2 H2=>tb {D with nx:=N,ct:=N,bk:=D.nx} σ2 H2)
noncomputable def zr (fp:List Addr) (h:Heap):List (Addr×Obj):=fp.filterMap fun b=>(h.get? b).map fun o=>(b,o)
theorem oq {fp:List Addr} {h:Heap} {b:Addr} {o:Obj} (hb:b∈fp) (e:h.get? b=some o):(b,o)∈zr fp h:=List.mem_filterMap.mpr ⟨b,hb,by rw[e];rfl⟩
theorem Gy {fp:List Addr} {h:Heap} {p:Addr×Obj} (hp:p∈zr fp h):p.1∈fp∧h.get? p.1=some p.2:=by
 obtain⟨b,hb,e⟩:=List.mem_filterMap.mp hp
 cases q:h.get? b with
 | none=>rw[q]at e;cases e
 | some o =>
  rw[q]at e
  have e':(b,o)=p:=BM e
  subst e'
  exact⟨hb,q⟩
theorem Inv.pinned {pins:List (Addr×Obj)} {σ:St} {H:Hp} {s:Shared} {fp:List Addr} (I:Inv X pins σ H s) (hf:∀b∈fp,E8 X pins H b) (ho:∀b∈fp,∃o,s.heap.get? b=some o∧∀v,o.data≠.cell v):Inv X (pins++zr fp s.heap) σ H s :=
 I.pins_of fun p hp=>(DH.mp hp).elim (fun z=>I.pin p (CA _ z)) fun z=>by
  obtain⟨hb,e⟩:=Gy z
  obtain⟨f0,f1,f2,_⟩:=hf p.1 hb
  obtain⟨o,e',d⟩:=ho p.1 hb
  rw[e]at e';cases e'
  exact⟨e,f0,f1,f2,d⟩
theorem Inv.unpinned {pins pl:List (Addr×Obj)} {σ:St} {H:Hp} {s:Shared} (I:Inv X (pins++pl) σ H s):Inv X pins σ H s:=I.pins_of fun p hp=>I.pin p (CA _ (List.mem_append_left _ hp))
theorem S5 {iter:Expr} {body:List Stmt} {wi:TI} {g:TG} {tb:TS} {pos:Pos} (hp:PassesOwn (model X.prog X.w) X.A X.env X.xe) (hc:X.calm=true) (hi:PI X tg iter wi) (hg:PG X tg g) (hb:PSs X body tb)
  (hs:∀x,foldedSetIterable iter X.env x=pure x:=by intro _;rfl):PS X (.For tg iter body [] pos) (Zt wi g tb):=by
 intro pins s σ H D I h
 refine wpAny_For (thn (hi pins s σ H _ I h) fun v s1 h1=>thn h1 fun itv s2 h2=>?_) hs
 obtain⟨it,fp,tn,J,H2,e,I2,T,st2,f2,W,⟨m0,w0⟩,turn⟩:=h2
 subst e
 -- what stays true of the iterator's objects through the loop
 have stat:∀{H':Hp},(∀b∈fp,H' b=none)→∀b∈fp,E8 X pins H' b:=fun hn b hb=>⟨hn b hb,(f2 b hb).2⟩
 refine codeAny_forLoop_any (fun n s'=>∃i σ' H',Inv X pins σ' H' s'∧tn i s'.heap∧(∀b∈fp,H' b=none)∧W i n σ' H') ?_ m0 ⟨0,σ,H2,I2,st2,fun b hb=>(f2 b hb).1,w0⟩
 rintro n s3 ⟨i,σ3,H3,I3,st3,fr3,w3⟩
 rcases turn i n σ3 H3 w3 with⟨stop,qn⟩ | ⟨go,N,hN,step⟩
 ·refine FP hp (thn (T.done X rfl rfl rfl hc i pins s3 σ3 H3 X.xe I3 (stat fr3) st3 stop) fun r s4 ⟨hr,I4⟩=>?_)
  subst hr
  exact wpAny_execs_nil ⟨σ3,H3,I4,qn⟩
 ·refine FP hp (thn (T.item X rfl rfl rfl hc i pins s3 σ3 H3 X.xe I3 (stat fr3) st3 go) fun r s4 ⟨u,hr,h4⟩=>?_)
  subst hr
  refine FP hp (thn h4 fun _ s5 ⟨x,H5,I5,r5,y5,st5,fr5⟩=>?_)
  have I5':=I5.pinned (stat fr5) (T.obj _ _ st5)
  refine FP hp (thn (hg _ s5 σ3 H5 x u _ I5' r5 (step x H5 y5)) fun _ s6 ⟨σ6,H6,I6,q6⟩=>?_)
  refine FP hp (thn (hb _ s6 σ6 H6 _ I6 q6) fun f s7 q7=>?_)
  have again:∀{σ7:St} {H7:Hp},Inv X (pins++zr fp s5.heap) σ7 H7 s7→N σ7 H7→∃m,m<n∧∃i σ' H',Inv X pins σ' H' s7∧tn i s7.heap∧(∀b∈fp,H' b=none)∧W i m σ' H':=fun {σ7 H7} I7 n7=>by
   obtain⟨m',hm,w7⟩:=hN σ7 H7 n7
   refine⟨m',hm,i+1,σ7,H7,I7.unpinned,T.keep _ _ _ st5 fun b hb o e=>(I7.pin (b,o) (CA _ (CA _ (oq hb e)))).1,fun b hb=>?_,w7⟩
   obtain⟨o,e,d⟩:=T.obj _ _ st5 b hb
   exact(I7.pin (b,o) (CA _ (CA _ (oq hb e)))).2.1
  cases f with
  | next=>obtain⟨σ7,H7,I7,n7⟩:=q7;exact again I7 n7
  | cont=>obtain⟨σ7,H7,I7,n7⟩:=q7;exact again I7 n7
  | brk=>obtain⟨σ7,H7,I7,q7⟩:=q7;exact⟨σ7,H7,I7.unpinned,q7⟩
  | ret v=>obtain⟨x7,σ7,H7,I7,r7,q7⟩:=q7;exact⟨x7,σ7,H7,I7.unpinned,r7,q7⟩
end
end L2
namespace L2
open PySem PySem.Spec PyProof.Rows
noncomputable abbrev R2:=V→V→Hp→VK→Prop
noncomputable def OpR (X:Cx) (f:Value→Value→Sem Value) (r:R2):Prop :=
 ∀(pins:List (Addr×Obj)) (s:Shared) (σ:St) (H:Hp) (x y:V) (v u:Value) (Q:VK),Inv X pins σ H s→RelV x v→RelV y u→r x y H Q →
  wpAny (model X.prog X.w) X.A (f v u) (EP X pins σ Q) X.xe s
noncomputable def UnR (X:Cx) (f:Value→Sem Value) (r:V→Hp→VK→Prop):Prop :=
 ∀(pins:List (Addr×Obj)) (s:Shared) (σ:St) (H:Hp) (x:V) (v:Value) (Q:VK),Inv X pins σ H s→RelV x v→r x H Q →
  wpAny (model X.prog X.w) X.A (f v) (EP X pins σ Q) X.xe s
noncomputable def gm (X:Cx) (f:Value) (r:List V→Hp→VK→Prop):Prop :=
 ∀(pins:List (Addr×Obj)) (s:Shared) (σ:St) (H:Hp) (xs:List V) (us:List Value) (Q:VK),Inv X pins σ H s→cq xs us→r xs H Q →
  wpAny (model X.prog X.w) X.A (call f us) (EP X pins σ Q) X.xe s
noncomputable def Zu (X:Cx) (r:V→Hp→(Bool→Hp→Prop)→Prop):Prop :=
 ∀(pins:List (Addr×Obj)) (s:Shared) (σ:St) (H:Hp) (x:V) (v:Value) (Q:Bool→Hp→Prop),Inv X pins σ H s→RelV x v→r x H Q →
  wpAny (model X.prog X.w) X.A (truthy v) (TP X pins σ Q) X.xe s
noncomputable def tOp (r:R2) (ta tb:TE):TE:=fun σ H Q=>ta σ H fun x H1=>tb σ H1 fun y H2=>r x y H2 Q
noncomputable def tUn (r:V→Hp→VK→Prop) (ta:TE):TE:=fun σ H Q=>ta σ H fun x H1=>r x H1 Q
noncomputable def rI (C:Int→Int→Prop) (g:Int→Int→V):R2:=fun x y H Q=>∃i j,x=.int i∧y=.int j∧C i j∧Q (g i j) H
noncomputable def rI0 (g:Int→Int→V):R2:=fun x y H Q=>∃i j,x=.int i∧y=.int j∧Q (g i j) H
noncomputable def rU (g:Int→V):V→Hp→VK→Prop:=fun x H Q=>∃i,x=.int i∧Q (g i) H
section
variable {X : Cx} {a b c : Expr} {ta tb tc : TE} {pos : Pos}
theorem Ym (ha:PE X a ta) (hb:PE X b tb) {pins:List (Addr×Obj)} {s:Shared} {σ:St} {H:Hp} {R:V→V→Hp→Prop} (I:Inv X pins σ H s)
  (h:ta σ H fun x H1=>tb σ H1 fun y H2=>R x y H2) {Q:Value→Shared→Prop} {f:Value→Value→Sem Value}
  (hf:∀v u s2 x y H2,Inv X pins σ H2 s2→RelV x v→RelV y u→R x y H2→wpAny (model X.prog X.w) X.A (f v u) Q X.xe s2) :
  wpAny (model X.prog X.w) X.A (eval a X.env) (fun v s₁=>wpAny (model X.prog X.w) X.A (eval b X.env) (fun u s₂=>wpAny (model X.prog X.w) X.A (f v u) Q X.xe s₂) X.xe s₁) X.xe s:=by
 refine thn (ha pins s σ H _ I h) fun v s1 ⟨x,H1,I1,r1,q1⟩=>?_
 refine thn (hb pins s1 σ H1 _ I1 q1) fun u s2 ⟨y,H2,I2,r2,q2⟩=>?_
 exact hf v u s2 x y H2 I2 r1 r2 q2
theorem Ww {op:Operator} {r:R2} (ho:OpR X (binaryOp op) r) (ha:PE X a ta) (hb:PE X b tb):PE X (.BinOp a op b pos) (tOp r ta tb):=by
 intro pins s σ H Q I h
 exact wpAny_BinOp (Ym ha hb I h fun v u s2 x y H2 I2 rx ry q=>ho pins s2 σ H2 x y v u Q I2 rx ry q)
theorem Wx {op:UnaryOp} {r:V→Hp→VK→Prop} (ho:UnR X (unaryOp op) r) (ha:PE X a ta):PE X (.UnaryOp op a pos) (tUn r ta):=by
 intro pins s σ H Q I h
 exact UnaryOp_ (thn (ha pins s σ H _ I h) fun v s1 ⟨x,H1,I1,r1,q1⟩=>ho pins s1 σ H1 x v Q I1 r1 q1)
theorem opI {f:Value→Value→Sem Value} {C:Int→Int→Prop} {g:Int→Int→Int}
  (rule:∀(i j:Int) (t u:Tok) (s:Shared) (Q:Value→Shared→Prop) (E:Value→Shared→Prop),C i j→Q (.int (g i j) s.toks) {s with toks:=s.toks+1}→wpAny (model X.prog X.w) X.A (f (.int i t) (.int j u)) Q E s) :
  OpR X f (rI C fun i j=>.int (g i j)):=by
 intro pins s σ H x y v u Q I rx ry h
 obtain⟨i,j,rfl,rfl,hc,q⟩:=h
 obtain⟨t,rfl⟩:=rx
 obtain⟨t',rfl⟩:=ry
 exact rule i j t t' s _ _ hc ⟨.int (g i j),H,I.tok _,⟨_,rfl⟩,q⟩
theorem Yn {f:Value→Value→Sem Value} {g:Int→Int→Int}
  (rule:∀(i j:Int) (t u:Tok) (s:Shared) (Q:Value→Shared→Prop) (E:Value→Shared→Prop),Q (.int (g i j) s.toks) {s with toks:=s.toks+1}→wpAny (model X.prog X.w) X.A (f (.int i t) (.int j u)) Q E s) :
  OpR X f (rI0 fun i j=>.int (g i j)):=by
 intro pins s σ H x y v u Q I rx ry h
 obtain⟨i,j,rfl,rfl,q⟩:=h
 obtain⟨t,rfl⟩:=rx
 obtain⟨t',rfl⟩:=ry
 exact rule i j t t' s _ _ ⟨.int (g i j),H,I.tok _,⟨_,rfl⟩,q⟩
theorem Wg {f:Value→Value→Sem Value} {g:Int→Int→Bool}
  (rule:∀(i j:Int) (t u:Tok) (s:Shared) (Q:Value→Shared→Prop) (E:Value→Shared→Prop),Q (.bool (g i j)) s→wpAny (model X.prog X.w) X.A (f (.int i t) (.int j u)) Q E s) :
  OpR X f (rI0 fun i j=>.bl (g i j)):=by
 intro pins s σ H x y v u Q I rx ry h
 obtain⟨i,j,rfl,rfl,q⟩:=h
 obtain⟨t,rfl⟩:=rx
 obtain⟨t',rfl⟩:=ry
 exact rule i j t t' s _ _ ⟨.bl (g i j),H,I,rfl,q⟩
noncomputable def Zv (i j:Int):Prop:=0<j∧j<1073741824
noncomputable def Zw (i j:Int):Prop:=0≤j∧j≤1000000∧i.natAbs<2 ^ 64
noncomputable def CMul (i j:Int):Prop:=(-(2 ^ 64)<i∧i<2 ^ 64)∨(-(2 ^ 64)<j∧j<2 ^ 64)
theorem CMul.ok {i j:Int} (h:CMul i j):IntMulOk i j:=by
 rcases h with⟨h1,h2⟩ | ⟨h1,h2⟩
 ·exact .of_left (intBits_le_64 h1 h2)
 ·exact .of_right (intBits_le_64 h1 h2)
theorem Fc (k:Nat):(0:Int)≤2 ^ k:=by
 rw[two_pow_cast]
 exact Int.natCast_nonneg _
theorem op_add:OpR X (binaryOp .Add) (rI0 fun i j=>.int (i+j)):=Yn fun _ _ _ _ _ _ _ q=>add_int q
theorem op_sub:OpR X (binaryOp .Sub) (rI0 fun i j=>.int (i-j)):=Yn fun _ _ _ _ _ _ _ q=>sub_int q
theorem op_mul:OpR X (binaryOp .Mult) (rI CMul fun i j=>.int (i*j)):=opI fun _ _ _ _ _ _ _ hc q=>mul_int q hc.ok
theorem Pz:OpR X (binaryOp .FloorDiv) (rI Zv fun i j=>.int (i / j)):=opI fun i j _ _ _ _ _ hc q=>by
 have h1:(0:Int)<j:=hc.1
 have h2:j<1073741824:=hc.2
 exact floordiv_int (by lia) (by rw[HJ i (by lia)];exact q) (.inl (PyProof.noPylong_small (by lia)))
theorem op_mod:OpR X (binaryOp .Mod) (rI (fun _ j=>0<j) fun i j=>.int (i % j)):=opI fun i j _ _ _ _ _ hc q=>by
 have h1:(0:Int)<j:=hc
 exact mod_int' (by lia) (by rw[Int.fmod_eq_emod_of_nonneg i (by lia)];exact q)
theorem op_pow:OpR X (binaryOp .Pow) (rI Zw fun i j=>.int (i ^ j.toNat)):=opI fun _ _ _ _ _ _ _ hc q=>pow_int_small hc.1 hc.2.1 hc.2.2 q
theorem op_shr:OpR X (binaryOp .RShift) (rI (fun _ j=>0≤j) fun i j=>.int (i / 2 ^ j.toNat)):=opI fun i j _ _ _ _ _ hc q =>
 rshift_int hc (by rw[HJ i (Fc _)];exact q)
theorem unI {f:Value→Sem Value} {g:Int→Int}
  (rule:∀(i:Int) (t:Tok) (s:Shared) (Q:Value→Shared→Prop) (E:Value→Shared→Prop),Q (.int (g i) s.toks) {s with toks:=s.toks+1}→wpAny (model X.prog X.w) X.A (f (.int i t)) Q E s) :
  UnR X f (rU fun i=>.int (g i)):=by
 intro pins s σ H x v Q I rx h
 obtain⟨i,rfl,q⟩:=h
 obtain⟨t,rfl⟩:=rx
 exact rule i t s _ _ ⟨.int (g i),H,I.tok _,⟨_,rfl⟩,q⟩
theorem S6:UnR X (unaryOp .USub) (rU fun i=>.int (-i)):=unI fun _ _ _ _ _ q=>neg_int q
end
section
variable {X : Cx} {a b c : Expr} {ta tb tc : TE} {pos : Pos}
theorem Ni {pins:List (Addr×Obj)} {σ:St} {H:Hp} {s:Shared} {Q:VK} {k k':Bool} (I:Inv X pins σ H s) (q:Q (.bl k) H) (e:k=k'):EP X pins σ Q (.bool k') s:=by
 subst e
 exact⟨.bl k,H,I,rfl,q⟩
theorem Wy:OpR X (compareOp .Lt) (rI0 fun i j=>.bl (decide (i<j))):=Wg fun _ _ _ _ _ _ _ q=>lt_int q
theorem Wz:OpR X (compareOp .LtE) (rI0 fun i j=>.bl (decide (i≤j))):=Wg fun _ _ _ _ _ _ _ q=>le_int q
theorem W0:OpR X (compareOp .Gt) (rI0 fun i j=>.bl (decide (j<i))):=Wg fun _ _ _ _ _ _ _ q=>gt_int q
theorem W1:OpR X (compareOp .GtE) (rI0 fun i j=>.bl (decide (j≤i))):=Wg fun _ _ _ _ _ _ _ q=>ge_int q
theorem S7:OpR X (compareOp .Is) (fun x y H Q=>y=.non∧Q (.bl (decide (x=.non))) H):=by
 intro pins s σ H x y v u Q I rx ry h
 obtain⟨rfl,q⟩:=h
 cases ry
 refine is_none_gen (Ni I q ?_)
 cases x<;>first
  | (cases rx;rfl)
  | (obtain⟨t,rfl⟩:=rx;rfl)
theorem P0:OpR X (compareOp .IsNot) (fun x y H Q=>y=.non∧Q (.bl (!decide (x=.non))) H):=by
 intro pins s σ H x y v u Q I rx ry h
 obtain⟨rfl,q⟩:=h
 cases ry
 refine isnot_none_gen (Ni I q ?_)
 cases x<;>first
  | (cases rx;rfl)
  | (obtain⟨t,rfl⟩:=rx;rfl)
noncomputable def Yo (K:PySem.W.Frag) (x:V) (H:Hp) (k:Bool):Prop :=
 match x with
 | .non=>k=false
 | .bl b=>k=b
 | .int i=>k=(i != 0)
 | .str y=>y.length≤sizeLine∧k=((y.length:Int) != 0)
 | .byt y=>y.size≤sizeLine∧k=((y.size:Int) != 0)
 | .ref p=>(∃xs,SqL K H p xs∧k=!xs.isEmpty)∨(∃xs,SqT K H p xs∧k=!xs.isEmpty)∨∃kvs,H p=some (.dK kvs)∧k=!kvs.isEmpty
 | _=>False
theorem Fd {κ:Type} {kvs:List (κ×V)} {vs:List (κ×Value)} (r:KV kvs vs):(!vs.isEmpty)=!kvs.isEmpty:=by
 cases r<;>rfl
theorem wa {xs:List V} {its:List Value} (r:cq xs its):(!its.toArray.isEmpty)=!xs.isEmpty:=by
 cases r<;>simp
theorem wb:(sizeLine:Nat)<2 ^ 63:=by rw[DP];decide
theorem S8:Zu X (fun x H Q=>∃k,Yo X.K x H k∧Q k H):=by
 intro pins s σ H x v Q I rx h
 obtain⟨k,e,q⟩:=h
 have hl:=wb
 have hs:sizeLine=16777216:=DP
 cases x with
 | non =>
  cases rx
  have e':k=false:=e
  subst e'
  exact truthy_none ⟨H,I,q⟩
 | bl b =>
  cases rx
  have e':k=b:=e
  subst e'
  exact DQ ⟨H,I,q⟩
 | int i =>
  obtain⟨t,rfl⟩:=rx
  have e':k=(i != 0):=e
  subst e'
  exact PySem.P.truthy_int ⟨H,I,q⟩
 | str y =>
  obtain⟨t,rfl⟩:=rx
  obtain⟨hy,e'⟩:y.length≤sizeLine∧k=((y.length:Int) != 0):=e
  subst e'
  exact PySem.P.truthy_str (by lia) ⟨H,I.tok _,q⟩
 | byt y =>
  obtain⟨t,rfl⟩:=rx
  obtain⟨hy,e'⟩:y.size≤sizeLine∧k=((y.size:Int) != 0):=e
  subst e'
  exact PySem.W.truthy_bytes (by lia) ⟨H,I.tok _,q⟩
 | ref p =>
  cases rx
  have e':(∃xs,SqL X.K H p xs∧k=!xs.isEmpty)∨(∃xs,SqT X.K H p xs∧k=!xs.isEmpty)∨∃kvs,H p=some (.dK kvs)∧k=!kvs.isEmpty:=e
  rcases e' with⟨xs,hx,e'⟩ | ⟨xs,hx,e'⟩ | ⟨kvs,hx,e'⟩
  ·subst e'
   obtain⟨its,r,pl,hz⟩:=I.list hx
   have hlen:=r.length
   exact wpAny_truthy_list pl.isList (by simp only[AE];lia) ⟨H,I.tok _,by rw[wa r];exact q⟩
  ·subst e'
   obtain⟨its,r,pl,hz⟩:=I.tuple hx
   have hlen:=r.length
   exact truthy_tuple pl (by simp only[AE];lia) ⟨H,I.tok _,by rw[wa r];exact q⟩
  ·subst e'
   obtain⟨hz,hS,vs,r,m⟩:kvs.length≤sizeLine∧(p==sysModules)=false∧∃vs,KV kvs vs∧s.heap.DictOf (c8 X.prog X.w) p vs:=I.hok p _ hx
   have hlen:kvs.length=vs.length:=DW r
   exact wpAny_truthy_dict hS m (by lia) ⟨H,I.tok _,by rw[Fd r];exact q⟩
 | _=>exact(show False from e).elim
theorem K6 (ha:PE X a ta) (he:∀whole,isTrue a X.env whole=(do let v ←whole;standAt a.pos;holding [v] (truthy v))) :
  PT X a (fun σ H Q=>ta σ H fun x H'=>∃k,Yo X.K x H' k∧Q k H'):=by
 intro pins s σ H Q I h
 exact isTrue_plain (thn (ha pins s σ H _ I h) fun v s1 ⟨x,H1,I1,r1,q1⟩=>S8 pins s1 σ H1 x v Q I1 r1 q1) (he _)
theorem vals1 {x:V} {us:List Value} (r:cq [x] us):∃u,us=[u]∧RelV x u:=by
 cases r with
 | cons r1 r2=>cases r2;exact⟨_,rfl,r1⟩
theorem vals2 {x y:V} {us:List Value} (r:cq [x,y] us):∃u w',us=[u,w']∧RelV x u∧RelV y w':=by
 cases r with
 | cons r1 r2 =>
  cases r2 with
  | cons r3 r4=>cases r4;exact⟨_,_,rfl,r1,r3⟩
theorem Gz (hc:X.calm=true):gm X (.builtin "max") (fun xs H Q=>∃i j,xs=[.int i,.int j]∧Q (.int (if j > i then j else i)) H):=by
 intro pins s σ H xs us Q I r h
 obtain⟨i,j,rfl,q⟩:=h
 obtain⟨u,w',rfl,⟨t,rfl⟩,⟨t',rfl⟩⟩:=vals2 r
 refine max_two_ints (I.ok.hd hc) fun h' tk k=>⟨_,H,I.kept k,?_,q⟩
 by_cases hj:j > i
 ·rw[if_pos hj,if_pos hj];exact⟨_,rfl⟩
 ·rw[if_neg hj,if_neg hj];exact⟨_,rfl⟩
theorem G0 (hc:X.calm=true):gm X (.builtin "min") (fun xs H Q=>∃i j,xs=[.int i,.int j]∧Q (.int (if j<i then j else i)) H):=by
 intro pins s σ H xs us Q I r h
 obtain⟨i,j,rfl,q⟩:=h
 obtain⟨u,w',rfl,⟨t,rfl⟩,⟨t',rfl⟩⟩:=vals2 r
 refine min_two_ints (I.ok.hd hc) fun h' tk k=>⟨_,H,I.kept k,?_,q⟩
 by_cases hj:j<i
 ·rw[if_pos hj,if_pos hj];exact⟨_,rfl⟩
 ·rw[if_neg hj,if_neg hj];exact⟨_,rfl⟩
end
end L2
namespace L2
open PySem PySem.Spec PyProof.Rows
structure Room (k:Nat) (A:Around):Prop where
 hd:A.handled=none
 dp:A.depth+3*k+5<recursionLimit
 un:A.units+16*k+200<cLine
theorem Room.deeper {k:Nat} {A:Around} (r:Room (k+1) A) (env:Env):Room k (A.deeper env) :=
 ⟨r.hd,by have:=r.dp;show A.depth+1+3*k+5<_;lia,by have:=r.un;show A.units+3+16*k+200<_;lia⟩
theorem Room.depth {k:Nat} {A:Around} (r:Room k A):A.depth<recursionLimit:=by have:=r.dp;lia
theorem Room.units {k:Nat} {A:Around} (r:Room k A):A.units+64<cLine:=by have:=r.un;lia
noncomputable def tNil:TA:=fun _ H Q=>Q [] H
noncomputable def W2 (ta:TE) (tr:TA):TA:=fun σ H Q=>ta σ H fun x H1=>tr σ H1 fun xs H2=>Q (x::xs) H2
section
variable {X : Cx} {e : Expr} {es : List Expr} {te : TE} {t : TA} {pos : Pos}
theorem Nj:PA X [] tNil:=fun _ _ _ _ H Q I h=>EC ⟨[],H,I,.nil,h⟩
theorem Bs (ha:PE X e te) (hr:PA X es t) (hs:starEach (e::es) X.env=(false,eval e X.env)::starEach es X.env:=by rfl):PA X (e::es) (W2 te t):=by
 intro pos pins s σ H Q I h
 rw[hs]
 show wpAny _ _ (spliced ((false,eval e X.env)::backTo pos (starEach es X.env))) _ _ s
 refine DK (thn (ha pins s σ H _ I h) fun u s1 ⟨x,H1,I1,r1,q1⟩=>?_)
 exact thn (hr pos pins s1 σ H1 _ I1 q1) fun us s2 ⟨xs,H2,I2,r2,q2⟩=>⟨x::xs,H2,I2,.cons r1 r2,q2⟩
noncomputable def Zx (t:TA):TE:=fun σ H Q=>t σ H fun xs H1=>xs.length≤sizeLine∧∀p,H1 p=none→Q (.ref p) (upd H1 p (.tup xs))
noncomputable def Zy (t:TA):TE:=fun σ H Q=>t σ H fun xs H1=>xs.length≤sizeLine∧∀p,H1 p=none→Q (.ref p) (upd H1 p (.lst xs))
theorem S9 {x1} (h:PA X es t):PE X (.Tuple es x1 pos) (Zx t):=by
 intro pins s σ H Q I hq
 refine wpAny_Tuple_spliced (thn (h pos pins s σ H _ I hq) fun us s1 ⟨xs,H1,I1,r,z,q⟩=>⟨by rw[←r.length];exact z,?_⟩)
 have hf:H1 s1.heap.objs.size=none:=I1.hok.fresh (AI _)
 refine⟨.ref s1.heap.objs.size,upd H1 s1.heap.objs.size (.tup xs),I1.laid (t':=s1.toks) (fun b u e=>AC _ e) (AI _) ?_,rfl,q _ hf⟩
 exact⟨z,us,r,⟨_,AH _ rfl,rfl,rfl,_,rfl⟩⟩
theorem Ta (h:PA X es t):PE X (.List es pos) (Zy t):=by
 intro pins s σ H Q I hq
 refine wpAny_List_spliced (thn (h pos pins s σ H _ I hq) fun us s1 ⟨xs,H1,I1,r,z,q⟩=>⟨by rw[←r.length];exact z,?_⟩)
 have hf:H1 s1.heap.objs.size=none:=I1.hok.fresh (AI _)
 refine⟨.ref s1.heap.objs.size,upd H1 s1.heap.objs.size (.lst xs),I1.laid (t':=s1.toks) (fun b u e=>AC _ e) (AI _) ?_,rfl,q _ hf⟩
 exact⟨z,us,0,r,AH _ rfl⟩
end
noncomputable abbrev Sp:=List V→Hp→VK→XK→Prop
noncomputable abbrev CXT:=List Env→Hp→Shared→XK→Value→Shared→Prop
structure Env0 (P:Program) (w:World) (K:PySem.W.Frag) (mg:Str→Option Value) (base:Heap) (A:Around) (outer:List Env) (s:Shared) (H:Hp):Prop where
 frames:A.frames=some outer
 mod:Mod K mg base
 bs:∀b o,base.get? b=some o→s.heap.get? b=some o∧H b=none
 bsz:base.objs.size≤s.heap.objs.size
 funs:s.heap.FunFrames base outer
 frf:∀b∈frs outer,H b=none
 hok:HOk P w H s.heap
 bare:AllBare s.gens
noncomputable def CE (outer:List Env) (P:Program) (w:World) (H:Hp) (s:Shared) (Q:VK) (u:Value) (s':Shared):Prop :=
 ∃v H',s'.os=s.os∧AllBare s'.gens∧Un (frs outer) [] H H' s.heap s'.heap∧HOk P w H' s'.heap∧RelV v u∧Q v H'
noncomputable def CR (CX:CXT) (outer:List Env) (P:Program) (w:World) (H:Hp) (s:Shared) (Q:VK) (E:XK) (r:Result) (s':Shared):Prop :=
 match r with
 | .ok (.ret u)=>CE outer P w H s Q u s'
 | .ok _=>False
 | .error e=>CX outer H s E e s'
structure FnOk (P:Program) (w:World) (K:PySem.W.Frag) (mg:Str→Option Value) (base:Heap) (CX:CXT) (k:Nat) (f:Addr) (fd:FuncData) (ps:List Str) (sp:Sp):Prop where
 len:∀vs H Q E,sp vs H Q E→vs.length=ps.length
 run:∀(A:Around) (outer:List Env) (s:Shared) (H:Hp) (args:Args) (us:List Value) (vs:List V) (Q:VK) (E:XK),Room k A→Env0 P w K mg base A outer s H→BindsTo s fd args (ps.zip us)→cq vs us→sp vs H Q E →
  codeAny (model P w) A (.call (.ref f) args) (CR CX outer P w H s Q E) s
theorem FnOk.imp {P:Program} {w:World} {K:PySem.W.Frag} {mg:Str→Option Value} {base:Heap} {CX:CXT} {k:Nat} {f:Addr} {fd:FuncData} {ps:List Str} {sp sp':Sp} (F:FnOk P w K mg base CX k f fd ps sp)
  (h:∀vs H Q E,sp' vs H Q E→sp vs H Q E):FnOk P w K mg base CX k f fd ps sp' :=
 ⟨fun vs H Q E q=>F.len vs H Q E (h _ _ _ _ q),fun A outer s H args us vs Q E hr he hb hv hs=>F.run A outer s H args us vs Q E hr he hb hv (h _ _ _ _ hs)⟩
section
variable {X : Cx} {pins : List (Addr × Obj)} {σ : St} {H : Hp} {s s' : Shared}
theorem Inv.env0 (I:Inv X pins σ H s):Env0 X.prog X.w X.K X.mg X.base X.A X.stack s H :=
 ⟨I.ok.frames,I.ok.mod,I.bs,Do I.ok.bsz I.sz,I.stack,I.stkFree,I.hok,I.bare⟩
theorem Inv.after {Q:VK} {u:Value} (I:Inv X pins σ H s) (h:CE X.stack X.prog X.w H s Q u s'):EP X pins σ Q u s':=by
 obtain⟨v,H',os,bare,un,hok,r,q⟩:=h
 obtain⟨hh,g,d,t,os'⟩:=s'
 obtain rfl:os'=s.os:=os
 exact⟨v,H',I.call (h':=hh) (g':=g) (d':=d) (t':=t) (ch:=[]) un hok bare (fun b z=>absurd z (by simp)),r,q⟩
end
noncomputable def W3 (sp:Sp) (dvs:List V) (E:XK) (t:TA):TE:=fun σ H Q=>t σ H fun vs H1=>sp (vs++dvs) H1 Q E
noncomputable def Binds (K:PySem.W.Frag) (fd:FuncData) (ps:List Str) (ds:List Value):Prop :=
 ∀(s:Shared) (us:List Value),K.In s.heap→(us++ds).length=ps.length→BindsTo s fd ⟨us,[]⟩ (ps.zip (us++ds))
theorem Binds.all {K:PySem.W.Frag} {fd:FuncData} {ps:List Str} (h:∀us:List Value,us.length=ps.length→bindArgs fd ⟨us,[]⟩=pure (ps.zip us)):Binds K fd ps []:=fun s us _ hl=>by
 rw[FR]at hl ⊢
 exact .of_eq (h us hl)
noncomputable def G1 (CX:CXT) (X:Cx) (E:XK):Prop:=∀(pins:List (Addr×Obj)) (σ:St) (H:Hp) (s:Shared) (e:Value) (s':Shared),Inv X pins σ H s→CX X.stack H s E e s'→X.xe e s'
section
variable {X : Cx} {CX : CXT} {k : Nat} {f C : Addr} {fd : FuncData} {ps : List Str} {sp : Sp} {dvs : List V} {ds : List Value} {E : XK} {x m : Str} {p pos apos : Pos} {e o : Expr} {es : List Expr} {ta : TE} {t : TA}
theorem Tb {pins:List (Addr×Obj)} {σ:St} {H:Hp} {s:Shared} {Q:VK} {us:List Value} {vs:List V} (F:FnOk X.prog X.w X.K X.mg X.base CX k f fd ps sp) (hr:Room k X.A) (hb:Binds X.K fd ps ds) (hd:cq dvs ds) (hx:G1 CX X E)
  (I:Inv X pins σ H s) (r:cq vs us) (h:sp (vs++dvs) H Q E):wpAny (model X.prog X.w) X.A (call (.ref f) us) (EP X pins σ Q) X.xe s:=by
 have r2:cq (vs++dvs) (us++ds):=r.append hd
 have hl:(us++ds).length=ps.length:=by rw[←r2.length];exact F.len _ _ _ _ h
 refine wpAny_call (Gt (F.run X.A X.stack s H ⟨us,[]⟩ (us++ds) (vs++dvs) Q E hr I.env0 (hb s us I.kIn hl) r2 h) fun r s' hq=>?_)
 cases r with
 | error e=>exact hx pins σ H s e s' I hq
 | ok fl =>
  cases fl with
  | ret u=>exact I.after hq
  | next=>exact False.elim hq
  | brk=>exact False.elim hq
  | cont=>exact False.elim hq
theorem P4 (F:FnOk X.prog X.w X.K X.mg X.base CX k f fd ps sp) (hr:Room k X.A) (hg:Gl X x) (hm:X.mg x=some (.ref f)) (hk:PySem.W.keepIn X.K (.ref f)=true) (hb:Binds X.K fd ps ds) (hd:cq dvs ds) (hx:G1 CX X E)
  (ha:PA X (e::es) t) (hdb:(x==("__debug__":Str))=false:=by decide) (he:starEach (e::es) X.env=(false,eval e X.env)::starEach es X.env:=by rfl) (hpl:(backTo pos (starEach es X.env)).any (·.1)=false:=by rfl) :
  PE X (.Call (.Name x p) (e::es) [] pos) (W3 sp dvs E t):=by
 intro pins s σ H Q I h
 refine DL (Pq I hg hm ?_ hdb)
 refine PySem.W.callWith_K (h₀:=X.base) I.ok.mod.kin hk (thn (ha pos pins s σ H _ I h) fun us s1 ⟨vs,H1,I1,r,q⟩=>⟨I1.kIn,?_⟩) he hpl
 exact Tb F hr hb hd hx I1 r q
structure Mk (K:PySem.W.Frag) (C f:Addr):Prop where
 makes:PySem.W.makesIn K C=true
 init:PySem.W.findIn K (.ref C) "__init__"=some (some (.ref f))
 fn:PySem.W.isFn K (.ref f)=true
 kp:PySem.W.keepIn K (.ref C)=true
end
structure FnScope (N P:List Str) (sc:Scope):Prop where
 kind:sc.kind=.function
 co:sc.isCoroutine=false
 gen:sc.isGenerator=false
 nd:N.Nodup
 pre:N.take P.length=P
 par:∀x∈P,sc.names.lookup x=some .local∨sc.names.lookup x=some .cell
 nofree:∀y∈sc.names,y.2≠.free
theorem zt {kindOf:Str→Option NameKind} {x:Str}:∀{binds:List (Str×Value)} {m:Str→Option Value},(∀v,(x,v)∉binds)→bindL kindOf binds m x=m x
 | [],_,_=>rfl
 | (n,v)::r,m,h=>by
  unfold bindL
  rw[zt fun w hw=>h w (AJ _ hw)]
  split
  ·have:x≠n:=by rintro rfl;exact h v AQ
   simp[this]
  ·rfl
theorem zu {kindOf:Str→Option NameKind} {x:Str}:∀{binds:List (Str×Value)} {m:Str→Option Value},(∀v,(x,v)∉binds)→bindC kindOf binds m x=m x
 | [],_,_=>rfl
 | (n,v)::r,m,h=>by
  unfold bindC
  rw[zu fun w hw=>h w (AJ _ hw)]
  split
  ·rfl
  ·have:x≠n:=by rintro rfl;exact h v AQ
   simp[this]
theorem zw {kindOf:Str→Option NameKind} {x:Str} {v:Value}:∀{P:List Str} {vs:List Value} {i:Nat} {m:Str→Option Value},P.Nodup→P[i]? = some x→vs[i]? = some v→kindOf x=some .local →
  bindL kindOf (P.zip vs) m x=some v
 | [],_,_,_,_,h,_,_=>by simp at h
 | _::_,[],_,_,_,_,h,_=>by simp at h
 | p::P,w::vs,0,m,nd,h1,h2,hk=>by
  simp at h1 h2;subst h1;subst h2
  show bindL kindOf ((p,w)::P.zip vs) m p=_
  unfold bindL
  rw[zt fun v hv=>(EY.mp nd).1 (GZ hv).1,if_pos hk]
  simp
 | p::P,w::vs,i+1,m,nd,h1,h2,hk=>by
  show bindL kindOf ((p,w)::P.zip vs) m x=_
  unfold bindL
  exact zw (i:=i) (EY.mp nd).2 (by simpa using h1) (by simpa using h2) hk
theorem zx {kindOf:Str→Option NameKind} {x:Str} {v:Value}:∀{P:List Str} {vs:List Value} {i:Nat} {m:Str→Option Value},P.Nodup→P[i]? = some x→vs[i]? = some v→kindOf x≠some .local →
  bindC kindOf (P.zip vs) m x=some v
 | [],_,_,_,_,h,_,_=>by simp at h
 | _::_,[],_,_,_,_,h,_=>by simp at h
 | p::P,w::vs,0,m,nd,h1,h2,hk=>by
  simp at h1 h2;subst h1;subst h2
  show bindC kindOf ((p,w)::P.zip vs) m p=_
  unfold bindC
  rw[zu fun v hv=>(EY.mp nd).1 (GZ hv).1,if_neg hk]
  simp
 | p::P,w::vs,i+1,m,nd,h1,h2,hk=>by
  show bindC kindOf ((p,w)::P.zip vs) m x=_
  unfold bindC
  exact zx (i:=i) (EY.mp nd).2 (by simpa using h1) (by simpa using h2) hk
noncomputable def start (N:List Str) (vs:List V):St:=vs.map some++List.replicate (N.length-vs.length) none
noncomputable def Nk (CX:CXT) (P:Program) (w:World) (K:PySem.W.Frag) (mg:Str→Option Value) (base:Heap) (N:List Str) (qual:Str) (scope:Scope) (f:Addr) (cd:Value) (A:Around) (outer:List Env) (s:Shared) (H:Hp) (E:XK):Cx where
 prog:=P
 w:=w
 K:=K
 mg:=mg
 base:=base
 A:=A.deeper (envOfC qual scope s.heap.objs.size f cd)
 N:=N
 s₀:=s
 H₀:=H
 env:=envOfC qual scope s.heap.objs.size f cd
 outer:=outer
 stack:=envOfC qual scope s.heap.objs.size f cd::outer
 ex:=[]
 calm:=true
 fn:=fun _=>true
 pn:=[]
 xe:=fun e s'=>wpAny (model P w) (A.deeper (envOfC qual scope s.heap.objs.size f cd)) (leaving (envOfC qual scope s.heap.objs.size f cd) e) (fun _ s''=>CX outer H s E e s'') (fun e' s''=>CX outer H s E e' s'') s'
theorem Dg {sc:Scope} {n:Nat} {x:Str} (h:sc.names.lookup x=some .cell):∃c,(cellsFrom n sc.names []).lookup x=some c:=by
 have q:=IQ sc.names n [] (.inl h)
 exact EF.mp q
theorem G2 {CX:CXT} {P:Program} {w:World} {K:PySem.W.Frag} {mg:Str→Option Value} {base:Heap} {N ps:List Str} {qual:Str} {scope:Scope} {f:Addr} {cd:Value} {A:Around} {outer:List Env} {s s1:Shared} {H:Hp} {E:XK} {us:List Value} {vs:List V}
  (S:FnScope N ps scope) (hd:A.handled=none) (e0:Env0 P w K mg base A outer s H) (hl:vs.length=ps.length) (r:cq vs us)
  (x:InCallC s s.heap.objs.size (bindL (envOfC qual scope s.heap.objs.size f cd).kindOf (ps.zip us) fun _=>none) (cellsFrom (s.heap.objs.size+1) scope.names []) (bindC (envOfC qual scope s.heap.objs.size f cd).kindOf (ps.zip us) fun _=>none) s1) :
  Inv (Nk CX P w K mg base N qual scope f cd A outer s H E) [] (start N vs) H s1:=by
 have hpl:ps.length≤N.length:=by have:=congrArg List.length S.pre;rw[EJ]at this;lia
 obtain⟨h1,tk,rfl,hk⟩:=x.done
 have noA:∀b:Addr,b∉(Nk CX P w K mg base N qual scope f cd A outer s H E).ex:=fun b z=>absurd (show b∈([]:List Addr)from z) (by simp)
 refine⟨⟨e0.mod,S.kind,rfl,rfl,AI _,fun y z c h1 h2=>?_,fun y hy=>?_,fun y c _ h=>?_,fun _=>hd,Around.frames_deeper e0.frames,.inr ⟨rfl,rfl⟩,fun b z=>absurd z (noA b),e0.bs,e0.bsz,fun b _ _=>noA b,fun b z=>absurd z (noA b),e0.funs,e0.frf⟩,
  rfl,e0.bare,Un.kept hk,⟨_,x.toInCall.ns,fun i y v h1 h2 h3=>?_⟩,fun y c h=>⟨_,x.cell y c h⟩,e0.hok.fresh (AI _),fun y c h=>?_,fun p hp=>absurd (show p∈([]:List (Addr×Obj))from hp) (by simp),e0.hok.kept hk,?_⟩
 ·exact name_of_addr x.apart (EH h1) (EH h2)
 ·have hy:scope.names.lookup y=some .cell∨scope.names.lookup y=some .free:=hy
  rcases hy with hy | hy
  ·exact Dg hy
  ·exact absurd rfl (S.nofree _ (EH hy))
 ·exact ET (x.above y c (EH h))
 ·have hi:i<vs.length:=by
   unfold start at h2
   by_cases hi:i<vs.length
   ·exact hi
   ·rw[BQ (by simpa using hi)]at h2
    rw[DR]at h2
    split at h2<;>cases h2
  have ha:vs[i]? = some v:=by
   unfold start at h2
   rw[AW (by simpa using hi),BA]at h2
   cases e:vs[i]? with
   | none=>rw[e]at h2;cases h2
   | some a=>rw[e]at h2;cases h2;rfl
  obtain⟨u,hu,rv⟩:=r.get ha
  have hp:ps[i]? = some y:=by
   rw[←S.pre,ID (by lia)];exact h1
  have ndP:ps.Nodup:=by rw[←S.pre];exact S.nd.sublist (List.take_sublist _ _)
  refine⟨u,rv,?_⟩
  rcases S.par y (BR hp)with k | k
  ·exact .inl ⟨k,zw ndP hp hu k⟩
  ·obtain⟨c,e⟩:=Dg (n:=s.heap.objs.size+1) k
   refine .inr ⟨.inl k,c,e,?_⟩
   have q:=x.cell y c e
   rw[zx ndP hp hu (by show scope.names.lookup y≠_;rw[k];decide)]at q
   exact q
 ·exact e0.hok.fresh (ET (x.above y c (EH h)))
 ·unfold start
  show _=N.length
  rw[CP,AF,JA]
  lia
theorem W4 {CX:CXT} {P:Program} {w:World} {K:PySem.W.Frag} {mg:Str→Option Value} {base:Heap} {k:Nat} {f:Addr} {name qual:Str} {params:Arguments} {body:List Stmt} {scope:Scope} {dV kV doc pm cdv ct oc:Value} {an od:Option Addr}
  {osl:Array (Option Value)} {N ps:List Str} {sp:Sp} (lk:K.lookup f=some ⟨oc,od,.func (PySem.W.fnOf name qual params body scope dV kV doc pm an cdv ct),osl⟩) (hcd:PySem.W.codeIn K cdv qual=true) (S:FnScope N ps scope)
  (len:∀vs H Q E,sp vs H Q E→vs.length=ps.length)
  (hbody:∀(A:Around) (outer:List Env) (s:Shared) (H:Hp) (vs:List V) (Q:VK) (E:XK),Room k (A.deeper (envOfC qual scope s.heap.objs.size f cdv))→sp vs H Q E →
   ∃t,PSs (Nk CX P w K mg base N qual scope f cdv A outer s H E) body t∧t {nx:=fun _ H'=>Q .non H',rt:=Q} (start N vs) H) :
  FnOk P w K mg base CX (k+1) f (PySem.W.fnOf name qual params body scope dV kV doc pm an cdv ct) ps sp:=by
 refine⟨len,fun A outer s H args us vs Q E hr e0 hb r hsp=>?_⟩
 have hl:=len _ _ _ _ hsp
 have KX:K.In s.heap:=e0.mod.kin.keeps fun b o e=>(e0.bs b o e).1
 have lim:s.heap.NoLimit:=e0.mod.nolimit.keeps fun b o e=>(e0.bs b o e).1
 have hkind:∀y∈ps.zip us,scope.names.lookup y.1=some .local∨(scope.names.lookup y.1=some .cell∧((cellsFrom (s.heap.objs.size+1) scope.names []).lookup y.1).isSome=true):=fun⟨n,v⟩ hy=>by
  rcases S.par n (GZ hy).1 with q | q
  ·exact .inl q
  ·exact .inr ⟨q,IQ _ _ _ (.inl q)⟩
 refine codeAny_call_function hr.depth (KX _ _ lk) rfl S.co S.gen rfl (PySem.W.codeRec_of KX hcd) (hb _ _ _ _ ?_)
 refine wpAny_newFunctionEnv_cells S.kind hkind fun env he s1 x=>?_
 subst he
 refine⟨lim.keeps x.toInCall.keep,codeAny_func ?_⟩
 obtain⟨t,ht,hq⟩:=hbody A outer s H vs Q E (hr.deeper _) hsp
 have I:Inv (Nk CX P w K mg base N qual scope f cdv A outer s H E) [] (start N vs) H s1:=G2 S hr.hd e0 hl r x
 refine DZ (ht [] s1 (start N vs) H _ I hq) (fun fl s' hs=>?_) fun e s' hs=>hs
 have fin:∀{σ':St} {H':Hp} {v:V} {u:Value},Inv (Nk CX P w K mg base N qual scope f cdv A outer s H E) [] σ' H' s'→RelV v u→Q v H'→CE outer P w H s Q u s' :=
  fun {σ' H' v u} J rv q=>⟨v,H',J.os,J.bare,J.base,J.hok,rv,q⟩
 cases fl with
 | ret u =>
  obtain⟨v,σ',H',J,rv,q⟩:=hs
  exact fin J rv q
 | next =>
  obtain⟨σ',H',J,q⟩:=hs
  exact fin (v:=V.non) (u:=Value.none) J rfl q
 | brk =>
  obtain⟨_,_,_,q⟩:=hs
  exact False.elim q
 | cont =>
  obtain⟨_,_,_,q⟩:=hs
  exact False.elim q
end L2
namespace L2
open PySem PySem.Spec PyProof.Rows
section
variable {X : Cx} {x : Str} {p pos : Pos} {e : Expr} {es : List Expr} {t : TA} {id T : String} {r : List V → Hp → VK → Prop}
noncomputable def tCB (r:List V→Hp→VK→Prop) (t:TA):TE:=fun σ H Q=>t σ H fun vs H1=>r vs H1 Q
theorem je (hc:gm X (.builtin id) r) (hg:Gl X x) (hm:X.mg x=none) (hv:bootBuiltins x=some (.builtin id)) (ha:PA X (e::es) t) (hn:x≠"__name__":=by decide) (hdb:(x==("__debug__":Str))=false:=by decide)
  (he:starEach (e::es) X.env=(false,eval e X.env)::starEach es X.env:=by rfl) (hpl:(backTo pos (starEach es X.env)).any (·.1)=false:=by rfl):PE X (.Call (.Name x p) (e::es) [] pos) (tCB r t):=by
 intro pins s σ H Q I h
 refine DL (o5 I hg hm hv ?_ hn hdb)
 exact GO (thn (ha pos pins s σ H _ I h) fun us s1 ⟨vs,H1,I1,r1,q1⟩=>hc pins s1 σ H1 vs us Q I1 r1 q1) he hpl
theorem zy (hc:gm X (.type T) r) (hg:Gl X x) (hm:X.mg x=none) (hv:bootBuiltins x=some (.type T)) (ha:PA X (e::es) t) (hn:x≠"__name__":=by decide) (hdb:(x==("__debug__":Str))=false:=by decide)
  (he:starEach (e::es) X.env=(false,eval e X.env)::starEach es X.env:=by rfl) (hpl:(backTo pos (starEach es X.env)).any (·.1)=false:=by rfl):PE X (.Call (.Name x p) (e::es) [] pos) (tCB r t):=by
 intro pins s σ H Q I h
 refine DL (o5 I hg hm hv ?_ hn hdb)
 exact CF (thn (ha pos pins s σ H _ I h) fun us s1 ⟨vs,H1,I1,r1,q1⟩=>hc pins s1 σ H1 vs us Q I1 r1 q1) he hpl
end
end L2
namespace HT
open PySem PyProof.Rows
noncomputable def lexLt:List Int→List Int→Bool
 | [],[]=>false
 | [],_::_=>true
 | _::_,[]=>false
 | x::xs,y::ys=>if x=y then lexLt xs ys else decide (x<y)
theorem ju (x y:Int) (xs ys:List Int):lexLt (x::xs) (y::ys)=if x=y then lexLt xs ys else decide (x<y):=rfl
theorem mq:lexLt [] []=false:=rfl
theorem lj (y:Int) (ys:List Int):lexLt [] (y::ys)=true:=rfl
theorem lq (x:Int) (xs:List Int):lexLt (x::xs) []=false:=rfl
theorem x6 (A:Around) (s:Shared) (a:Int) (t:Tok) (c:Int) (u:Tok):∃e,SeqAt.EqAt A s (.int a t) (.int c u) e∧(e=true↔a=c) :=
 ⟨(a==c),JN a t c u,by simp⟩
theorem K7 (A:Around) (s:Shared) (a:Int) (t:Tok) (c:Int) (u:Tok) (prog:Program) (w:World) (E:Value→Shared→Prop) (Q:Value→Shared→Prop) (h:Q (.bool (decide (a<c))) s) :
  wpAny (model prog w) A (richCompare .Lt (.int a t) (.int c u)) Q E s :=
 (PyProof.Rows.lt_int h:wpAny (model prog w) A (compareOp .Lt (.int a t) (.int c u)) Q E s)
section
open PySem.SeqAt
open PySem.AutoSeq1 (wpAny_loadPart')
open PySem.MeetsSeq PySem.MeetsSeq2 PySem.MeetsSeq3
theorem x8 (l b:Addr) (items items2:Array Value) (n n2:Nat) (dd dd2:Option Addr) (sl sl2:Array (Option Value)) (ns ms:List Int) (hi:IntsAre items.toList ns) (hj:IntsAre items2.toList ms) :
  Meets (Builtin.«tuple.__lt__» ⟨[.ref l,.ref b],[]⟩)
   (fun _ R s=>s.heap.get? l=some {cls:=.type "tuple",dict:=dd,data:=.seq items n,slots:=sl}∧s.heap.get? b=some {cls:=.type "tuple",dict:=dd2,data:=.seq items2 n2,slots:=sl2} ∧
    R (.ok (.ret (.bool (lexLt ns ms)))) s) :=
 .of_wp fun prog w A R s h=>by
  obtain⟨hp,g,d,tk,os⟩:=s;obtain⟨hl,hb,h⟩:=h
  have f2:=FL
  have z1:items.size=ns.length:=by rw[←hi.length];simp
  have z2:items2.size=ms.length:=by rw[←hj.length];simp
  wp_walk using DA hl,DA hb,IH _ (fun rest b s'=>b.1=none∧s'=⟨hp,g,d,tk,os⟩∧∃(vs ws:List Value) (ns' ms':List Int),rest=vs.zip ws ∧
   IntsAre vs ns'∧IntsAre ws ms'∧ns'.length+items2.size=ms'.length+items.size∧R (.ok (.ret (.bool (lexLt ns' ms')))) ⟨hp,g,d,tk,os⟩) _
  case turn =>
   rintro⟨y,x⟩ rest b s' ⟨hb',rfl,vs,ws,ns',ms',hz,hvi,hwi,hlen,hR⟩
   cases hvi with
   | nil=>rw[HX]at hz;cases hz
   | cons a t hvi' =>
    cases hwi with
    | nil=>rw[FU]at hz;cases hz
    | cons c u hwi' =>
     rw[DM]at hz
     injection hz with hyx hrest
     injection hyx with hy hx
     subst hy hx
     rw[ju]at hR
     simp only[BN]at hlen
     obtain⟨e,he,hiff⟩:=x6 A.in1 ⟨hp,g,d,tk,os⟩ a t c u
     refine AA (he prog w _ _ ?_)
     cases e with
     | true =>
      rw[if_pos (hiff.mp rfl)]at hR
      wp_walk
      exact⟨rfl,rfl,_,_,_,_,hrest,hvi',hwi',by lia,hR⟩
     | false =>
      rw[if_neg (fun q=>absurd (hiff.mpr q) AZ)]at hR
      have hri:=K7 A.in1 ⟨hp,g,d,tk,os⟩ a t c u prog w
      wp_walk using hri
      exact⟨_,rfl,by simpa using hR⟩
  case fin =>
   rintro⟨b1,b2⟩ s' ⟨hb',rfl,vs,ws,ns',ms',hz,hvi,hwi,hlen,hR⟩
   simp only at hb'
   subst hb'
   have hv:lexLt ns' ms'=decide (items.size<items2.size):=by
    cases hvi with
    | nil =>
     cases hwi with
     | nil =>
      simp only[CM]at hlen
      rw[mq]
      exact(decide_eq_false (by lia)).symm
     | cons c u hw =>
      simp only[CM,BN]at hlen
      rw[lj]
      exact(decide_eq_true (by lia)).symm
    | cons a t hv =>
     cases hwi with
     | nil =>
      simp only[CM,BN]at hlen
      rw[lq]
      exact(decide_eq_false (by lia)).symm
     | cons c u hw =>
      rw[DM]at hz
      cases hz
   rw[hv]at hR
   wp_walk
   exact⟨_,rfl,by simpa[Builtin.Tuple.tupleCompareSizes]using hR⟩
  case h =>
   exact⟨rfl,rfl,items.toList,items2.toList,ns,ms,rfl,hi,hj,by lia,h⟩
end
section
variable {prog : Program} {w : World} {A : Around} {E : Value → Shared → Prop} {s : Shared}
theorem Fe {l b:Addr} {items items2:Array Value} {ns ms:List Int} {Q:Value→Shared→Prop} (hl:IsTup s.heap l items) (hb:IsTup s.heap b items2) (hi:IntsAre items.toList ns) (hj:IntsAre items2.toList ms)
  (hu:A.units<cLine) (h:Q (.bool (lexLt ns ms)) s):wpAny (model prog w) A (compareOp .Lt (.ref l) (.ref b)) Q E s:=by
 obtain⟨⟨cls,dd,data,sl⟩,ho,hc,n,hd⟩:=id hl
 obtain⟨⟨cls2,dd2,data2,sl2⟩,ho2,hc2,n2,hd2⟩:=id hb
 simp only at hc hd hc2 hd2
 subst hc hd hc2 hd2
 exact GA (op:=.Lt) ⟨_,ho,rfl⟩ ⟨_,ho2,rfl⟩ PySem.F.slot_tuple_lt PySem.F.entry_tuple_lt (PySem.F.args_tuple_lt_2 _ _) (x8 l b items items2 n n2 dd dd2 sl sl2 ns ms hi hj)
  ⟨ho,ho2,show Value.bool (lexLt ns ms)≠Value.notImplemented∧Q (.bool (lexLt ns ms)) s from⟨(fun x=>nomatch x),h⟩⟩ hu
theorem P5 {t b:Addr} {vs ws:List Value} {Q:Value→Shared→Prop} (ht:IsTup s.heap t vs.toArray) (hb:IsTup s.heap b ws.toArray) (hv:vs≠[])
  (h1:ws=[]→Q (.ref t) s) (h2:ws≠[]→Q (.ref s.heap.objs.size) {s with heap:=s.heap.push {cls:=.type "tuple",data:=.seq (vs++ws).toArray}})
  (hsz:vs.length+ws.length≤sizeLine):wpAny (model prog w) A (binaryOp .Add (.ref t) (.ref b)) Q E s:=by
 obtain⟨⟨cls,dd,data,sl⟩,ho,hc,n,hd⟩:=id ht
 obtain⟨⟨cls2,dd2,data2,sl2⟩,ho2,hc2,n2,hd2⟩:=id hb
 simp only at hc hd hc2 hd2
 subst hc hd hc2 hd2
 have e:vs.toArray++ws.toArray=(vs++ws).toArray:=by simp
 by_cases hw:ws=[]
 ·exact concat_meets ⟨_,ho,rfl⟩ ⟨_,ho2,rfl⟩ II seq_tuple_add GB FX (FM _ _)
   (tuple_addW1 t b vs.toArray ws.toArray n n2 dd dd2 sl sl2 (by simpa using hv) (by simp[hw])) ⟨ho,ho2,h1 hw⟩
 ·refine concat_meets ⟨_,ho,rfl⟩ ⟨_,ho2,rfl⟩ II seq_tuple_add GB FX (FM _ _)
   (tuple_addW2 t b vs.toArray ws.toArray n n2 dd dd2 sl sl2 (by simpa using hv) (by simpa using hw) (by rw[AE,AE];exact hsz)) ⟨ho,ho2,?_⟩
  rw[e]
  exact h2 hw
noncomputable def sIx (n d:Nat):Option Int→Nat
 | none=>d
 | some v=>if v<0 then(v+(n:Int)).toNat else min v.toNat n
theorem Tc (n d:Nat) (hd:d≤n) (o:Option Int):sIx n d o≤n:=by
 cases o with
 | none=>exact hd
 | some v =>
  show(if v<0 then(v+(n:Int)).toNat else min v.toNat n)≤n
  by_cases hv:v<0
  ·rw[if_pos hv];lia
  ·rw[if_neg hv];exact Nat.min_le_right _ _
theorem G3 (v:Int) (n d:Nat):(if v<0 then max (v+(n:Int)) 0 else min v (n:Int))=((sIx n d (some v):Nat):Int):=by
 show(if v<0 then max (v+(n:Int)) 0 else min v (n:Int))=(((if v<0 then(v+(n:Int)).toNat else min v.toNat n):Nat):Int)
 by_cases hv:v<0
 ·simp only[if_pos hv];lia
 ·simp only[if_neg hv];lia
theorem Ff (lo hi:Option Int) (n:Nat):Builtin.Slice.sliceAdjust lo hi 1 (n:Int)=(((sIx n 0 lo:Nat):Int),((sIx n n hi:Nat):Int)):=by
 have h1:¬((1:Int)<0):=by lia
 unfold Builtin.Slice.sliceAdjust
 simp only[h1,if_false]
 refine Prod.ext ?_ ?_
 ·cases lo with
  | none=>rfl
  | some v=>exact G3 v n 0
 ·cases hi with
  | none=>rfl
  | some v=>exact G3 v n n
theorem Fg (i j:Nat):Builtin.Slice.slicePlaces (i:Int) (j:Int) 1=j-i:=by
 unfold Builtin.Slice.slicePlaces
 have h1:(1:Int) > 0:=by lia
 simp only[h1,if_true,Int.ediv_one]
 split<;>lia
theorem wc {v:Value} {o:Option Int} {Q:Option Int→Shared→Prop} (p:IsPart v o) (h:Q o s):wpAny (model prog w) A (Builtin.Slice.slicePartIndex v) Q E s:=by
 cases p with
 | none=>exact slicePart_none h
 | int i t=>exact slicePart_int h
theorem nv {sl:Addr} {vl vu:Value} {lo hi:Option Int} {n:Nat} {Q:Int×Int×Nat→Shared→Prop} (hs:s.heap.IsSliceOf sl vl vu .none) (pl:IsPart vl lo) (pu:IsPart vu hi)
  (h:Q (((sIx n 0 lo:Nat):Int),1,sIx n n hi-sIx n 0 lo) s):wpAny (model prog w) A (Builtin.Slice.sliceApplied (.ref sl) (pure (n:Int))) Q E s:=by
 obtain⟨os,hos,hcs,hds⟩:=id hs
 unfold Builtin.Slice.sliceApplied Builtin.Slice.sliceFields
 refine AA (AA (CB hos hds (x:=vl) rfl (AA (CB hos hds (x:=vu) rfl (AA (CB hos hds (x:=.none) rfl (AD ?_)))))))
 refine AA (slicePart_none ?_)
 show wpAny _ _ (if((1:Int)==0)=true then _ else _) _ _ s
 rw[if_neg (by decide)]
 refine AA (wc pl (AA (wc pu (AA (AD ?_)))))
 show wpAny _ _ (match Builtin.Slice.sliceAdjust lo hi 1 (n:Int)with | (lo,hi)=>pure (lo,(1:Int),Builtin.Slice.slicePlaces lo hi 1)) _ _ s
 rw[Ff lo hi n]
 show wpAny _ _ (pure (((sIx n 0 lo:Nat):Int),(1:Int),Builtin.Slice.slicePlaces ((sIx n 0 lo:Nat):Int) ((sIx n n hi:Nat):Int) 1)) _ _ s
 rw[Fg]
 exact AD h
theorem K8 (xs:Array Value) (i k:Nat):((List.range k).filterMap fun(m:Nat)=>xs[((i:Int)+(m:Int)*1).toNat]?).toArray=((xs.toList.drop i).take k).toArray:=by
 have e:(fun(m:Nat)=>xs[((i:Int)+(m:Int)*1).toNat]?)=fun m=>xs[i+m]?:=by
  funext m
  have:((i:Int)+(m:Int)*1).toNat=i+m:=by lia
  rw[this]
 rw[e]
 have:=pick_run xs i k
 rw[List.filterMap_map]at this
 have e2:((fun x=>xs[x]?)∘fun x=>i+x)=fun m=>xs[i+m]?:=rfl
 rw[e2]at this
 rw[this]
theorem rf {t sl:Addr} {items:Array Value} {vl vu:Value} {lo hi:Option Int} {Q:Value→Shared→Prop} (ht:IsTup s.heap t items) (hs:s.heap.IsSliceOf sl vl vu .none) (pl:IsPart vl lo) (pu:IsPart vu hi)
  (hw:¬(sIx items.size 0 lo=0∧sIx items.size items.size hi=items.size))
  (h:Q (.ref s.heap.objs.size) {s with heap:=s.heap.push {cls:=.type "tuple",data:=.seq ((items.toList.drop (sIx items.size 0 lo)).take (sIx items.size items.size hi-sIx items.size 0 lo)).toArray}})
  (hsz:items.size≤sizeLine):wpAny (model prog w) A (getItem (.ref t) (.ref sl)) Q E s:=by
 have htake:sizeOk (.seq ((items.toList.drop (sIx items.size 0 lo)).take (sIx items.size items.size hi-sIx items.size 0 lo)).toArray):=by
  show((items.toList.drop (sIx items.size 0 lo)).take (sIx items.size items.size hi-sIx items.size 0 lo)).toArray.size≤sizeLine
  rw[AE,EJ,List.length_drop,BP]
  lia
 have hj:sIx items.size items.size hi≤items.size:=Tc _ _ (AI _) hi
 obtain⟨os,hos,hcs,hds⟩:=id hs
 have hTs:s.TypeIs (.ref sl) "slice":=⟨os,hos,hcs⟩
 unfold getItem
 try with_reducible refine CS ?_
 first | refine AA (AD ?_) | skip
 refine AA (wpAny_sequenceKey ht.typeIs (by decide) ?_)
 refine AA (BJ (name:=Str.ofString "__getitem__") ht.typeIs CG
  (BK CG ht.typeIs entry_tuple_getitem ?_ (args_tuple_getitem _ _)))
 show wpAny _ _ (Builtin.Tuple.tupleItemsOf (.ref t)>>=_) _ _ s
 refine AA (tupleItemsOf_ ht ?_)
 refine AA (GC hTs ?_)
 rw[if_pos (by decide)]
 refine AA (nv hs pl pu ?_)
 have hno:¬((((sIx items.size 0 lo:Nat):Int)==0&&(1:Int)==1&&(sIx items.size items.size hi-sIx items.size 0 lo)==items.size)=true):=by
  intro q
  rw[BC,BC]at q
  have q1:((sIx items.size 0 lo:Nat):Int)=0:=eq_of_beq q.1.1
  have q2:sIx items.size items.size hi-sIx items.size 0 lo=items.size:=eq_of_beq q.2
  exact hw ⟨by lia,by lia⟩
 show wpAny _ _ (if(((sIx items.size 0 lo:Nat):Int)==0&&(1:Int)==1&&(sIx items.size items.size hi-sIx items.size 0 lo)==items.size)=true then _ else _) _ _ s
 rw[if_neg hno,K8]
 first
  | exact AA (m:=Builtin.Tuple.tupleExact _) (BS (AD ⟨_,rfl,AD h⟩) htake)
  | exact AA (m:=Builtin.Tuple.tupleExact _) (BS (AA (AD (AD ⟨_,rfl,AD h⟩))) htake)
  | exact AA (AA (m:=Builtin.Tuple.tupleExact _) (BS (AD (AD ⟨_,rfl,AD h⟩)) htake))
  | exact AA (AA (m:=Builtin.Tuple.tupleExact _) (BS (AD ⟨_,rfl,AD h⟩) htake))
end
end HT
namespace L2
open PySem PySem.Spec PyProof.Rows
noncomputable abbrev TO:=St→Hp→(Option Int→Hp→Prop)→Prop
noncomputable def PO (X:Cx) (e:Option Expr) (t:TO):Prop :=
 ∀(pins:List (Addr×Obj)) (s:Shared) (σ:St) (H:Hp) (Q:Option Int→Hp→Prop),Inv X pins σ H s→t σ H Q →
  wpAny (model X.prog X.w) X.A (evalPart e X.env) (fun u s'=>∃o H',Inv X pins σ H' s'∧IsPart u o∧Q o H') X.xe s
noncomputable def tNoPart:TO:=fun _ H Q=>Q none H
noncomputable def W5 (t:TE):TO:=fun σ H Q=>t σ H fun x H1=>∃i,x=.int i∧Q (some i) H1
theorem intsAre_of {ns:List Int}:∀{us:List Value},cq (ns.map V.int) us→IntsAre us ns:=by
 induction ns with
 | nil=>intro us r;rw[CU]at r;cases r;exact .nil
 | cons n ns ih =>
  intro us r
  rw[AS]at r
  cases r with
  | cons r1 r2 =>
   obtain⟨t,e⟩:=r1
   subst e
   exact .cons n t (ih r2)
section
variable {X : Cx} {e : Expr} {te : TE} {lo hi : Option Expr} {tl th : TO} {pos p2 : Pos}
theorem P6:PO X none tNoPart:=by
 intro pins s σ H Q I h
 rw[evalPart_none]
 exact AD ⟨none,H,I,.none,h⟩
theorem P7 (h:PE X e te):PO X (some e) (W5 te):=by
 intro pins s σ H Q I hw
 rw[evalPart_some]
 refine thn (h pins s σ H _ I hw) fun u s1 ⟨x,H1,I1,r1,q1⟩=>?_
 obtain⟨i,rfl,q⟩:=q1
 obtain⟨t,rfl⟩:=r1
 exact⟨some i,H1,I1,.int i t,q⟩
noncomputable def SlR (X:Cx) (r:V→Option Int→Option Int→Hp→VK→Prop):Prop :=
 ∀(pins:List (Addr×Obj)) (s:Shared) (σ:St) (H:Hp) (x:V) (v vl vu:Value) (lo hi:Option Int) (sl:Addr) (Q:VK),Inv X pins σ H s→RelV x v→s.heap.IsSliceOf sl vl vu .none→IsPart vl lo→IsPart vu hi→r x lo hi H Q →
  ∃T id,typeLookup (.type T) "__getitem__"=pure (some (.builtin id))∧s.TypeIs v T∧wpAny (model X.prog X.w) X.A (getItem v (.ref sl)) (EP X pins σ Q) X.xe s
noncomputable def tSl (r:V→Option Int→Option Int→Hp→VK→Prop) (te:TE) (tl th:TO):TE:=fun σ H Q=>te σ H fun x H1=>tl σ H1 fun l H2=>th σ H2 fun u H3=>r x l u H3 Q
theorem K9 {r:V→Option Int→Option Int→Hp→VK→Prop} (hr:SlR X r) (he:PE X e te) (hl:PO X lo tl) (hu:PO X hi th):PE X (.Subscript e (.Slice lo hi none p2) pos) (tSl r te tl th):=by
 intro pins s σ H Q I h
 refine Subscript_ (thn (he pins s σ H _ I h) fun v s1 ⟨x,H1,I1,r1,q1⟩=>?_)
 refine wpAny_Slice (thn (hl pins s1 σ H1 _ I1 q1) fun vl s2 ⟨l,H2,I2,pl,q2⟩=>thn (hu pins s2 σ H2 _ I2 q2) fun vu s3 ⟨u,H3,I3,pu,q3⟩=>?_)
 rw[evalPart_none]
 refine AD ?_
 have I4:Inv X pins σ H3 {s3 with heap:=s3.heap.push {cls:=.type "slice",data:=.fields #[vl,vu,.none]}}:=I3.kept (t':=s3.toks) fun b ob q=>AC _ q
 obtain⟨T,id,hT,ht,hg⟩:=hr pins {s3 with heap:=s3.heap.push {cls:=.type "slice",data:=.fields #[vl,vu,.none]}} σ H3 x v vl vu l u s3.heap.objs.size Q I4 r1 (Heap.IsSliceOf.new ..) pl pu q3
 show wpAny (model X.prog X.w) X.A (subscriptTail e (.Slice lo hi none p2) v (.ref s3.heap.objs.size)) (EP X pins σ Q) X.xe {s3 with heap:=s3.heap.push {cls:=.type "slice",data:=.fields #[vl,vu,.none]}}
 exact tail_any (ops:=[.ref s3.heap.objs.size,v]) ht hT hg (by with_unfolding_all rfl)
noncomputable def Nl (xs:List V) (lo hi:Option Int):List V:=(xs.drop (HT.sIx xs.length 0 lo)).take (HT.sIx xs.length xs.length hi-HT.sIx xs.length 0 lo)
theorem ua (xs:List V) (lo hi:Option Int):(Nl xs lo hi).length≤xs.length:=by
 unfold Nl
 rw[EJ,List.length_drop]
 lia
noncomputable def Zz (K:PySem.W.Frag):V→Option Int→Option Int→Hp→VK→Prop:=fun x lo hi H Q=>∃a xs,x=.ref a∧SqT K H a xs ∧
 ¬(HT.sIx xs.length 0 lo=0∧HT.sIx xs.length xs.length hi=xs.length)∧∀p,H p=none→Q (.ref p) (upd H p (.tup (Nl xs lo hi)))
theorem Td:SlR X (Zz X.K):=by
 intro pins s σ H x v vl vu lo hi sl Q I rx hs pl pu h
 obtain⟨a,xs,rfl,hx,hw,q⟩:=h
 cases rx
 obtain⟨its,r,ht,hz⟩:=I.tuple hx
 have hlen:its.toArray.size=xs.length:=by rw[AE];exact r.length.symm
 refine⟨"tuple",_,CG.lookup,ht.typeIs,?_⟩
 refine HT.rf ht hs pl pu (by rw[hlen];exact hw) ?_ (by rw[hlen];exact hz)
 rw[hlen]
 refine⟨.ref s.heap.objs.size,_,I.laid (t':=s.toks) (o:=.tup (Nl xs lo hi)) (fun b ob q=>AC _ q) (AI _) ?_,rfl,q _ (I.hok.fresh (AI _))⟩
 exact⟨Do (ua xs lo hi) hz,_,(r.drop (HT.sIx xs.length 0 lo)).take (HT.sIx xs.length xs.length hi-HT.sIx xs.length 0 lo),r8.new _ _⟩
noncomputable def Z0 (K:PySem.W.Frag):R2:=fun x y H Q=>∃a b ns ms,x=.ref a∧y=.ref b∧SqT K H a (ns.map V.int)∧SqT K H b (ms.map V.int)∧Q (.bl (HT.lexLt ns ms)) H
theorem Te (hu:X.A.units<cLine):OpR X (compareOp .Lt) (Z0 X.K):=by
 intro pins s σ H x y v u Q I rx ry h
 obtain⟨a,b,ns,ms,rfl,rfl,ha,hb,q⟩:=h
 cases rx
 cases ry
 obtain⟨its,r1,p1,_⟩:=I.tuple ha
 obtain⟨its2,r2,p2,_⟩:=I.tuple hb
 have i1:IntsAre its.toArray.toList ns:=intsAre_of r1
 have i2:IntsAre its2.toArray.toList ms:=intsAre_of r2
 exact HT.Fe p1 p2 i1 i2 hu ⟨.bl (HT.lexLt ns ms),H,I,rfl,q⟩
noncomputable def W6 (K:PySem.W.Frag):R2:=fun x y H Q=>∃a b xs ys,x=.ref a∧y=.ref b∧SqT K H a xs∧SqT K H b ys∧xs≠[]∧xs.length+ys.length≤sizeLine ∧
 (ys=[]→Q (.ref a) H)∧(ys≠[]→∀p,H p=none→Q (.ref p) (upd H p (.tup (xs++ys))))
theorem cq.nil_iff {xs:List V} {us:List Value} (r:cq xs us):us=[]↔xs=[]:=by
 cases r with
 | nil=>simp
 | cons _ _=>simp
theorem P8:OpR X (binaryOp .Add) (W6 X.K):=by
 intro pins s σ H x y v u Q I rx ry h
 obtain⟨a,b,xs,ys,rfl,rfl,ha,hb,hx,hz,q1,q2⟩:=h
 cases rx
 cases ry
 obtain⟨its,r1,p1,_⟩:=I.tuple ha
 obtain⟨its2,r2,p2,_⟩:=I.tuple hb
 refine HT.P5 p1 p2 (fun z=>hx (r1.nil_iff.mp z)) (fun z=>⟨.ref a,H,I,rfl,q1 (r2.nil_iff.mp z)⟩) (fun z=>?_) (by rw[←r1.length,←r2.length];exact hz)
 refine⟨.ref s.heap.objs.size,_,I.laid (t':=s.toks) (o:=.tup (xs++ys)) (fun b ob q=>AC _ q) (AI _) ?_,rfl,q2 (fun w=>z (r2.nil_iff.mpr w)) _ (I.hok.fresh (AI _))⟩
 exact⟨by rw[CP];exact hz,_,r1.append r2,r8.new _ _⟩
end
end L2
namespace L2
open PySem PySem.Spec PyProof.Rows
noncomputable def ixN (n:Nat) (i:Int):Option Nat:=if 0≤i then(if i<n then some i.toNat else none)else if -(n:Int)≤i then some (i+n).toNat else none
noncomputable def atI {α:Type} (xs:List α) (i:Int):Option α:=(ixN xs.length i).bind fun j=>xs[j]?
theorem G4 {n:Nat} {i:Int} {j:Nat} (h:ixN n i=some j):seqIndex? i n=some j∧j<n ∧ -(n:Int)≤i∧i<n:=by
 unfold ixN at h
 by_cases h0:0≤i
 ·rw[if_pos h0]at h
  by_cases h1:i<n
  ·rw[if_pos h1]at h
   have e:i.toNat=j:=BM h
   exact⟨by rw[seqIndex_of h0 h1,e],by lia,by lia,h1⟩
  ·rw[if_neg h1]at h;cases h
 ·rw[if_neg h0]at h
  by_cases h1:-(n:Int)≤i
  ·rw[if_pos h1]at h
   have e:(i+n).toNat=j:=BM h
   exact⟨by rw[seqIndex_neg (by lia) h1,e],by lia,h1,by lia⟩
  ·rw[if_neg h1]at h;cases h
theorem Bu {α:Type} {xs:List α} {i:Int} {v:α} (h:atI xs i=some v):∃j,seqIndex? i xs.length=some j∧xs[j]? = some v∧j<xs.length ∧ -(xs.length:Int)≤i∧i<xs.length:=by
 unfold atI at h
 cases e:ixN xs.length i with
 | none=>rw[e]at h;cases h
 | some j =>
  rw[e]at h
  obtain⟨h1,h2,h3,h4⟩:=G4 e
  exact⟨j,h1,h,h2,h3,h4⟩
noncomputable def Bv (b:Expr):Prop:=∀o i,subscripted b false o i=operate [o,i] (getItem o i)
noncomputable def IxR (X:Cx) (r:R2):Prop :=
 ∀(value slice:Expr) (pins:List (Addr×Obj)) (s:Shared) (σ:St) (H:Hp) (x y:V) (v u:Value) (Q:VK),Inv X pins σ H s→RelV x v→RelV y u→r x y H Q →
  subscripted slice false v u=operate [v,u] (getItem v u)→wpAny (model X.prog X.w) X.A (subscriptTail value slice v u) (EP X pins σ Q) X.xe s
noncomputable def MtR (X:Cx) (id:String) (r:V→List V→Hp→VK→Prop):Prop :=
 ∀(pins:List (Addr×Obj)) (s:Shared) (σ:St) (H:Hp) (x:V) (xs:List V) (v:Value) (us:List Value) (Q:VK),Inv X pins σ H s→RelV x v→cq xs us→r x xs H Q →
  wpAny (model X.prog X.w) X.A (call (.builtin id) (v::us)) (EP X pins σ Q) X.xe s
section
variable {X : Cx} {a b : Expr} {ta tb : TE} {pos : Pos}
theorem IxR.or {r r':R2} (h:IxR X r) (h':IxR X r'):IxR X (fun x y H Q=>r x y H Q∨r' x y H Q):=by
 intro value slice pins s σ H x y v u Q I rx ry q hs
 rcases q with q | q
 ·exact h value slice pins s σ H x y v u Q I rx ry q hs
 ·exact h' value slice pins s σ H x y v u Q I rx ry q hs
theorem W7 {r:R2} (hr:IxR X r) (ha:PE X a ta) (hb:PE X b tb) (hs:Bv b):PE X (.Subscript a b pos) (tOp r ta tb):=by
 intro pins s σ H Q I h
 exact Subscript_ (Ym ha hb I h fun v u s2 x y H2 I2 rx ry q=>hr a b pins s2 σ H2 x y v u Q I2 rx ry q (hs _ _))
noncomputable def Yp (K:PySem.W.Frag):R2:=fun x y H Q=>∃p xs i v,x=.ref p∧y=.int i∧SqL K H p xs∧atI xs i=some v∧Q v H
noncomputable def Yq (K:PySem.W.Frag):R2:=fun x y H Q=>∃p xs i v,x=.ref p∧y=.int i∧SqT K H p xs∧atI xs i=some v∧Q v H
noncomputable def rIxS:R2:=fun x y H Q=>∃z i c,x=.str z∧y=.int i∧z.length≤sizeLine∧atI z.cps.toList i=some c∧Q (.str ⟨#[c]⟩) H
theorem P9:IxR X (Yp X.K):=by
 intro value slice pins s σ H x y v u Q I rx ry h hs
 obtain⟨p,xs,i,z,rfl,rfl,hq,he,q⟩:=h
 cases rx
 obtain⟨t,rfl⟩:=ry
 obtain⟨its,r,pl,hz⟩:=I.list hq
 obtain⟨j,h1,h2,h3,h4,h5⟩:=Bu he
 obtain⟨w,ew,rw'⟩:=r.get h2
 have hl:=r.length
 have hn:=wb
 have fin:EP X pins σ Q w s:=⟨z,H,I,rw',q⟩
 by_cases h0:0≤i
 ·have hj:i.toNat=j:=by
   rw[seqIndex_of h0 h5]at h1
   exact BM h1
  exact item_listR pl.isList h0 (by lia) (by rw[hj];simpa using ew) fin hs
 ·have hj:(i+(its.toArray.size:Int)).toNat=j:=by
   rw[seqIndex_neg (by lia) h4]at h1
   rw[AE,←hl]
   exact BM h1
  exact subscriptTail_builtinR (x:=w) pl.isList.typeIs slot_list_getitem.lookup
   (wpAny_getItem_list_neg (Q:=fun r s'=>r=w∧EP X pins σ Q r s') pl.isList (by lia) (by rw[AE]<;>lia) (by lia) (by rw[hj];simpa using ew) ⟨rfl,fin⟩) hs
theorem Tf:IxR X (Yq X.K):=by
 intro value slice pins s σ H x y v u Q I rx ry h hs
 obtain⟨p,xs,i,z,rfl,rfl,hq,he,q⟩:=h
 cases rx
 obtain⟨t,rfl⟩:=ry
 obtain⟨its,r,pl,hz⟩:=I.tuple hq
 obtain⟨j,h1,h2,h3,h4,h5⟩:=Bu he
 obtain⟨w,ew,rw'⟩:=r.get h2
 have hl:=r.length
 have hn:=wb
 have fin:EP X pins σ Q w s:=⟨z,H,I,rw',q⟩
 exact subscriptTail_builtinR (x:=w) pl.typeIs slot_tuple_getitem.lookup
  (getItem_tuple (j:=j) (Q:=fun r s'=>r=w∧EP X pins σ Q r s') pl (by lia) (by lia) (by rw[AE,←hl];exact h1) (by simpa using ew) ⟨rfl,fin⟩) hs
theorem Th:IxR X rIxS:=by
 intro value slice pins s σ H x y v u Q I rx ry h hs
 obtain⟨z,i,c,rfl,rfl,hz,he,q⟩:=h
 obtain⟨t,rfl⟩:=rx
 obtain⟨t',rfl⟩:=ry
 obtain⟨j,h1,h2,h3,h4,h5⟩:=Bu he
 have hl:z.cps.toList.length=z.length:=by simp[Str.length]
 rw[hl]at h1 h4 h5
 have hn:=wb
 exact tail_any (typeIs_str s z t) slot_str_getitem.lookup (getItem_str (c:=c) (by
  have e1:decide (i < -(2 ^ 63:Int))=false:=decide_eq_false (by lia)
  have e2:decide (i≥2 ^ 63)=false:=decide_eq_false (by lia)
  rw[e1,e2,JJ]) (by rw[h1];simpa using h2) ⟨.str ⟨#[c]⟩,H,I.tok _,⟨_,rfl⟩,q⟩) hs
noncomputable def rIx (K:PySem.W.Frag):R2:=fun x y H Q=>Yp K x y H Q∨Yq K x y H Q∨rIxS x y H Q
theorem Ti:IxR X (rIx X.K):=P9.or (Tf.or Th)
theorem Fh (its:List Value) (n j:Nat) (u:Value):Obj.mapSeq (·.setIfInBounds j u) {cls:=.type "list",data:=.seq its.toArray n}={cls:=.type "list",data:=.seq (its.set j u).toArray n}:=by
 simp[Obj.mapSeq]
theorem Inv.lst {pins:List (Addr×Obj)} {σ:St} {H:Hp} {s:Shared} {p:Addr} {xs:List V} (I:Inv X pins σ H s) (h:H p=some (.lst xs)) :
  ∃(its:List Value) (n:Nat),cq xs its∧s.heap.get? p=some {cls:=.type "list",data:=.seq its.toArray n}∧xs.length≤sizeLine:=by
 obtain⟨z,its,n,r,e⟩:=I.hok p _ h
 exact⟨its,n,r,e,z⟩
theorem Inv.lstUpd {pins:List (Addr×Obj)} {σ:St} {H:Hp} {s:Shared} {p:Addr} {xs ys:List V} {its its':List Value} {n n':Nat} {f:Obj→Obj} (I:Inv X pins σ H s) (h:H p=some (.lst xs))
  (ho:s.heap.get? p=some {cls:=.type "list",data:=.seq its.toArray n}) (hf:f {cls:=.type "list",data:=.seq its.toArray n}={cls:=.type "list",data:=.seq its'.toArray n'}) (r:cq ys its') (hz:ys.length≤sizeLine) (t:Nat) :
  Inv X pins σ (upd H p (.lst ys)) {s with heap:=s.heap.update p f,toks:=t}:=by
 have e:(s.heap.update p f).get? p=some {cls:=.type "list",data:=.seq its'.toArray n'}:=by
  rw[DI f ho (by rw[hf]<;>rfl),hf]
 refine I.write (x:=p) (e:=p) (by rw[h];trivial) (.inl rfl) (fun b u hb q=>(GD _ _ (Ne.symm hb)).trans q) ⟨_,e⟩ ?_
 exact⟨hz,its',n',r,e⟩
noncomputable def rSetL:V→V→V→Hp→(Hp→Prop)→Prop:=fun o i v H Q=>∃p xs k j,o=.ref p∧i=.int k∧H p=some (.lst xs)∧ixN xs.length k=some j∧Q (upd H p (.lst (xs.set j v)))
theorem set_list:Wf X rSetL:=by
 intro pins s σ H o i v ov iv u Q I ro ri rv h
 obtain⟨p,xs,k,j,rfl,rfl,hp,hj,q⟩:=h
 cases ro
 obtain⟨t,rfl⟩:=ri
 obtain⟨its,n,r,ho,hz⟩:=I.lst hp
 obtain⟨h1,h2,h3,h4⟩:=G4 hj
 have hl:=r.length
 have hn:=wb
 have I':Inv X pins σ (upd H p (.lst (xs.set j v))) {s with heap:=s.heap.update p (Obj.mapSeq (·.setIfInBounds j u))} :=
  I.lstUpd hp ho (Fh its n j u) (r.set rv j) (by rw[List.length_set];exact hz) s.toks
 by_cases h0:0≤k
 ·have hk:k.toNat=j:=by
   rw[seqIndex_of h0 h4]at h1
   exact BM h1
  exact PySem.W.ki_setAt ho h0 (by lia) (by rw[AE,←hl];exact h4) (by rw[hk];exact⟨_,I',q⟩)
 ·have hk:(k+(its.toArray.size:Int)).toNat=j:=by
   rw[seqIndex_neg (by lia) h3]at h1
   rw[AE,←hl]
   exact BM h1
  exact PySem.W.ki_setBack ho (by lia) (by rw[AE,←hl];exact h3) (by lia) (by rw[hk];exact⟨_,I',q⟩)
theorem zz (lo hi:Option Int) (n:Nat):(sliceBounds lo hi none n).1=((HT.sIx n 0 lo:Nat):Int)∧(sliceBounds lo hi none n).2.1=((HT.sIx n n hi:Nat):Int)∧(sliceBounds lo hi none n).2.2=1:=by
 refine⟨?_,?_,rfl⟩
 ·cases lo with
  | none=>simp[sliceBounds,HT.sIx]
  | some i =>
   simp only[sliceBounds,HT.sIx,Option.getD_none,show(1:Int) > 0 by decide,if_true]
   by_cases h:i<0
   ·simp only[h,if_true]<;>lia
   ·simp only[h,if_false]<;>lia
 ·cases hi with
  | none=>simp[sliceBounds,HT.sIx]
  | some i =>
   simp only[sliceBounds,HT.sIx,Option.getD_none,show(1:Int) > 0 by decide,if_true]
   by_cases h:i<0
   ·simp only[h,if_true]<;>lia
   ·simp only[h,if_false]<;>lia
theorem x9 (its:List Value) (lo hi:Option Int):slicePick its.toArray lo hi none=((its.drop (HT.sIx its.length 0 lo)).take (HT.sIx its.length its.length hi-HT.sIx its.length 0 lo)).toArray:=by
 obtain⟨h1,h2,h3⟩:=zz lo hi its.toArray.size
 unfold slicePick
 rw[h1,h2,h3]
 simp only[sliceRange_one,pick_run,AE]<;>rfl
noncomputable def Z1 (K:PySem.W.Frag):V→Option Int→Option Int→Hp→VK→Prop:=fun x lo hi H Q=>∃a xs,x=.ref a∧SqL K H a xs∧∀p,H p=none→Q (.ref p) (upd H p (.lst (Nl xs lo hi)))
theorem Qa:SlR X (Z1 X.K):=by
 intro pins s σ H x v vl vu lo hi sl Q I rx hs pl pu h
 obtain⟨a,xs,rfl,hx,q⟩:=h
 cases rx
 obtain⟨its,r,ht,hz⟩:=I.list hx
 have hlen:=r.length
 refine⟨"list",_,slot_list_getitem.lookup,ht.isList.typeIs,?_⟩
 refine wpAny_getItem_list_slice ht.isList hs pl pu .none (by simp) ?_ (by rw[AE]<;>lia)
 rw[x9,←hlen]
 refine⟨.ref s.heap.objs.size,_,I.laid (t':=s.toks) (o:=.lst (Nl xs lo hi)) (fun b ob q=>AC _ q) (AI _) ?_,rfl,q _ (I.hok.fresh (AI _))⟩
 exact⟨Do (ua xs lo hi) hz,_,0,(r.drop (HT.sIx xs.length 0 lo)).take (HT.sIx xs.length xs.length hi-HT.sIx xs.length 0 lo),AH _ rfl⟩
noncomputable def vn:V→Bool
 | .non=>true
 | .bl _=>true
 | .int _=>true
 | .str _=>true
 | _=>false
noncomputable def eqV:V→V→Bool
 | .non,.non=>true
 | .bl a,.bl b=>a==b
 | .bl a,.int b=>(if a then 1 else 0)==b
 | .int a,.bl b=>a==(if b then 1 else 0)
 | .int a,.int b=>a==b
 | .str a,.str b=>a==b
 | _,_=>false
theorem Tj {A:Around} {s:Shared} {y x:V} {u v:Value} (ry:RelV y u) (rx:RelV x v) (fy:vn y=true) (fx:vn x=true):SeqAt.EqAt A s u v (eqV y x):=by
 cases y with
 | non =>
  cases ry
  cases x with
  | non=>cases rx;exact SeqAt.EqAt.same _
  | bl b=>cases rx;exact SeqAt.EqAt.none_bool b
  | int b=>obtain⟨t,rfl⟩:=rx;exact SeqAt.EqAt.none_int b t
  | str b=>obtain⟨t,rfl⟩:=rx;exact SeqAt.EqAt.none_str b t
  | _=>exact absurd (show false=true from fx) AZ
 | bl a =>
  cases ry
  cases x with
  | non=>cases rx;exact SeqAt.EqAt.bool_none a
  | bl b=>cases rx;exact SeqAt.EqAt.bool_bool a b
  | int b=>obtain⟨t,rfl⟩:=rx;exact SeqAt.EqAt.bool_int a b t
  | str b=>obtain⟨t,rfl⟩:=rx;exact SeqAt.EqAt.bool_str a b t
  | _=>exact absurd (show false=true from fx) AZ
 | int a =>
  obtain⟨t',rfl⟩:=ry
  cases x with
  | non=>cases rx;exact SeqAt.EqAt.int_none a t'
  | bl b=>cases rx;exact SeqAt.EqAt.int_bool a t' b
  | int b=>obtain⟨t,rfl⟩:=rx;exact JN a t' b t
  | str b=>obtain⟨t,rfl⟩:=rx;exact JL a t' b t
  | _=>exact absurd (show false=true from fx) AZ
 | str a =>
  obtain⟨t',rfl⟩:=ry
  cases x with
  | non=>cases rx;exact SeqAt.EqAt.str_none a t'
  | bl b=>cases rx;exact SeqAt.EqAt.str_bool a t' b
  | int b=>obtain⟨t,rfl⟩:=rx;exact JM a t' b t
  | str b=>obtain⟨t,rfl⟩:=rx;exact SeqAt.EqAt.str_str a t' b t
  | _=>exact absurd (show false=true from fx) AZ
 | _=>exact absurd (show false=true from fy) AZ
noncomputable def eqU (x:V) (u:Value):Bool:=match u with
 | .none=>eqV .non x
 | .bool b=>eqV (.bl b) x
 | .int i _=>eqV (.int i) x
 | .str z _=>eqV (.str z) x
 | _=>false
theorem Nm {x y:V} {u:Value} (r:RelV y u) (f:vn y=true):eqU x u=eqV y x:=by
 cases y with
 | non=>cases r;rfl
 | bl b=>cases r;rfl
 | int i=>obtain⟨t,rfl⟩:=r;rfl
 | str z=>obtain⟨t,rfl⟩:=r;rfl
 | _=>exact absurd (show false=true from f) AZ
theorem uc {x:V}:∀{xs:List V} {us:List Value},cq xs us→xs.all vn=true→us.any (eqU x)=xs.any fun y=>eqV y x
 | _,_,.nil,_=>rfl
 | y::xs,u::us,.cons r t,f=>by
  rw[BD,BC]at f
  rw[CT,CT,Nm r f.1,uc t f.2]
theorem p9 {A:Around} {s:Shared} {x:V} {v:Value} (rx:RelV x v) (fx:vn x=true):∀{xs:List V} {us:List Value},cq xs us→xs.all vn=true→∀u∈us,SeqAt.EqAt A s u v (eqU x u)
 | _,_,.nil,_=>fun u hu=>by cases hu
 | y::xs,u::us,.cons r t,f=>fun u' hu=>by
  rw[BD,BC]at f
  rcases AM.mp hu with rfl | hu
  ·rw[Nm r f.1];exact Tj r rx f.1 fx
  ·exact p9 rx fx t f.2 u' hu
noncomputable def inV (x:V) (xs:List V):Bool:=xs.any fun y=>eqV y x
noncomputable def rIn (K:PySem.W.Frag) (neg:Bool):R2:=fun x y H Q=>∃p xs,y=.ref p∧(SqL K H p xs∨SqT K H p xs)∧vn x=true∧xs.all vn=true∧Q (.bl (if neg then !inV x xs else inV x xs)) H
theorem G5:OpR X (compareOp .In) (rIn X.K false):=by
 intro pins s σ H x y v u Q I rx ry h
 obtain⟨p,xs,rfl,hq,fx,fs,q⟩:=h
 cases ry
 rcases hq with hq | hq
 ·obtain⟨its,r,pl,hz⟩:=I.list hq
  refine SeqAt.in_listAt (eqU x) pl.isList (fun w hw=>p9 rx fx r fs w (by simpa using hw)) ⟨.bl _,H,I,rfl,?_⟩
  rw[show its.toArray.any (eqU x)=its.any (eqU x)by simp,uc r fs]
  exact q
 ·obtain⟨its,r,pl,hz⟩:=I.tuple hq
  refine SeqAt.in_tupleAt (eqU x) pl (fun w hw=>p9 rx fx r fs w (by simpa using hw)) ⟨.bl _,H,I,rfl,?_⟩
  rw[show its.toArray.any (eqU x)=its.any (eqU x)by simp,uc r fs]
  exact q
theorem z5:OpR X (compareOp .NotIn) (rIn X.K true):=by
 intro pins s σ H x y v u Q I rx ry h
 obtain⟨p,xs,rfl,hq,fx,fs,q⟩:=h
 cases ry
 rcases hq with hq | hq
 ·obtain⟨its,r,pl,hz⟩:=I.list hq
  refine SeqAt.notIn_listAt (eqU x) pl.isList (fun w hw=>p9 rx fx r fs w (by simpa using hw)) ⟨.bl _,H,I,rfl,?_⟩
  rw[show its.toArray.any (eqU x)=its.any (eqU x)by simp,uc r fs]
  exact q
 ·obtain⟨its,r,pl,hz⟩:=I.tuple hq
  refine SeqAt.notIn_tupleAt (eqU x) pl (fun w hw=>p9 rx fx r fs w (by simpa using hw)) ⟨.bl _,H,I,rfl,?_⟩
  rw[show its.toArray.any (eqU x)=its.any (eqU x)by simp,uc r fs]
  exact q
theorem z6:gm X (.builtin "len") (fun xs H Q=>∃p ys,xs=[.ref p]∧(SqL X.K H p ys∨SqT X.K H p ys)∧Q (.int ys.length) H):=by
 intro pins s σ H xs us Q I r h
 obtain⟨p,ys,rfl,hq,q⟩:=h
 obtain⟨u,rfl,rx⟩:=vals1 r
 cases rx
 have hn:=wb
 rcases hq with hq | hq
 ·obtain⟨its,r',pl,hz⟩:=I.list hq
  have hlen:=r'.length
  exact Calls.call_len_list pl.isList (by simp only[AE]<;>lia) ⟨.int ys.length,H,I.tok _,⟨s.toks+1,by rw[AE,hlen]⟩,q⟩
 ·obtain⟨its,r',pl,hz⟩:=I.tuple hq
  have hlen:=r'.length
  exact len_tuple pl (by simp only[AE]<;>lia) ⟨.int ys.length,H,I.tok _,⟨s.toks+1,by rw[AE,hlen]⟩,q⟩
theorem z7:gm X (.type "list") (fun xs H Q=>∃p ys,xs=[.ref p]∧(SqL X.K H p ys∨SqT X.K H p ys)∧∀l,H l=none→Q (.ref l) (upd H l (.lst ys))):=by
 intro pins s σ H xs us Q I r h
 obtain⟨p,ys,rfl,hq,q⟩:=h
 obtain⟨u,rfl,rx⟩:=vals1 r
 cases rx
 have fin:∀(its:List Value),cq ys its→ys.length≤sizeLine→∀(h':Heap) (c':Nat),(∀b o',s.heap.get? b=some o'→h'.get? b=some o') →
   h'.get? s.heap.objs.size=some {cls:=.type "list",dict:=none,data:=.seq its.toArray c',slots:=#[]}→EP X pins σ Q (.ref s.heap.objs.size) {s with heap:=h'}:=fun its r' hz h' c' kp e =>
  ⟨.ref s.heap.objs.size,_,I.laid (t':=s.toks) kp (AI _) (show iz X.prog X.w _ h' _ (.lst ys)from⟨hz,its,c',r',e⟩),rfl,q _ (I.hok.fresh (AI _))⟩
 rcases hq with hq | hq
 ·obtain⟨its,r',pl,hz⟩:=I.list hq
  have hlen:=r'.length
  obtain⟨o,ho,hc,n,hd⟩:=pl.isList
  exact call_list_seq p (.inl rfl) ho hc hd (fun h' c' kp e=>fin its r' hz h' c' kp e) (by simp only[AE]<;>lia)
 ·obtain⟨its,r',pl,hz⟩:=I.tuple hq
  have hlen:=r'.length
  obtain⟨o,ho,hc,n,hd⟩:=pl
  exact call_list_seq p (.inr rfl) ho hc hd (fun h' c' kp e=>fin its r' hz h' c' kp e) (by simp only[AE]<;>lia)
theorem ya:gm X (.type "tuple") (fun xs H Q=>∃p ys,xs=[.ref p]∧((SqL X.K H p ys∧∀l,H l=none→Q (.ref l) (upd H l (.tup ys)))∨(SqT X.K H p ys∧Q (.ref p) H))):=by
 intro pins s σ H xs us Q I r h
 obtain⟨p,ys,rfl,h⟩:=h
 obtain⟨u,rfl,rx⟩:=vals1 r
 cases rx
 rcases h with⟨hq,q⟩ | ⟨hq,q⟩
 ·obtain⟨its,r',pl,hz⟩:=I.list hq
  have hlen:=r'.length
  refine call_tuple_list pl.isList (fun h' kp=>?_) (by simp only[AE]<;>lia)
  have I1:Inv X pins σ H {s with heap:=h'}:=I.kept (t':=s.toks) kp
  have I2:Inv X pins σ (upd H h'.objs.size (.tup ys)) {s with heap:=h'.push {cls:=.type "tuple",data:=.seq its.toArray}} :=
   I1.laid (t':=s.toks) (fun b o e=>AC _ e) (AI _) (show iz X.prog X.w _ _ _ (.tup ys)from⟨hz,its,r',r8.new _ _⟩)
  exact⟨.ref h'.objs.size,_,I2,rfl,q _ (I1.hok.fresh (AI _))⟩
 ·obtain⟨its,r',pl,hz⟩:=I.tuple hq
  exact call_tuple_same pl ⟨.ref p,H,I,rfl,q⟩
noncomputable def tyV (K:PySem.W.Frag) (T:String) (x:V) (H:Hp):Prop:=match x with
 | .str _=>T="str"
 | .int _=>T="int"
 | .ref p=>(T="list"∧∃xs,SqL K H p xs)∨(T="tuple"∧∃o,K.lookup p=some o∧o.cls=.type "tuple"∧o.dict=none) ∨
   (T="dict"∧((∃kvs,H p=some (.dK kvs))∨∃kvs,H p=some (.dT kvs)))∨(T="set"∧∃S n,H p=some (.set S n))
 | _=>False
theorem Nn {pins:List (Addr×Obj)} {σ:St} {H:Hp} {s:Shared} {T:String} {x:V} {v:Value} (I:Inv X pins σ H s) (r:RelV x v) (ty:tyV X.K T x H) :
  s.TypeIs v T∧∀a,v=.ref a→∃ob,s.heap.get? a=some ob∧ob.dict=none:=by
 cases x with
 | str z =>
  obtain⟨t,rfl⟩:=r
  cases(show T="str" from ty)
  exact⟨typeIs_str s z t,fun _ e=>nomatch e⟩
 | int i =>
  obtain⟨t,rfl⟩:=r
  cases(show T="int" from ty)
  exact⟨typeIs_int s i t,fun _ e=>nomatch e⟩
 | ref p =>
  cases r
  rcases ty with⟨rfl,xs,hq⟩ | ⟨rfl,o,hk,hc,hd⟩ | ⟨rfl,hk⟩ | ⟨rfl,S,n,hk⟩
  ·obtain⟨its,_,pl,_⟩:=I.list hq
   refine⟨pl.isList.typeIs,fun a e=>?_⟩
   cases e
   obtain⟨o,n,e,c,hd,_⟩:=pl
   exact⟨o,e,hd⟩
  ·refine⟨⟨o,I.kIn p o hk,hc⟩,fun a e=>?_⟩
   cases e
   exact⟨o,I.kIn _ o hk,hd⟩
  ·have z:∃o,s.heap.get? p=some o∧o.ExactDict:=by
    rcases hk with⟨kvs,hk⟩ | ⟨kvs,hk⟩
    ·obtain⟨_,_,_,_,o,_,_,e,ex,_⟩:=I.hok p _ hk
     exact⟨o,e,ex⟩
    ·obtain⟨_,_,_,_,o,_,_,e,ex,_⟩:=I.hok p _ hk
     exact⟨o,e,ex⟩
   obtain⟨o,e,ex⟩:=z
   refine⟨⟨o,e,ex.1⟩,fun a e2=>?_⟩
   cases e2
   exact⟨o,e,ex.2.1⟩
  ·obtain⟨o,_,_,_,e,ex,_⟩:=I.hok p _ hk
   refine⟨⟨o,e,ex.1⟩,fun a e2=>?_⟩
   cases e2
   exact⟨o,e,ex.2.1⟩
 | _=>exact False.elim ty
noncomputable def Yr (K:PySem.W.Frag) (T:String) (r:V→List V→Hp→VK→Prop) (to:TE):TE:=fun σ H Q=>to σ H fun x H1=>tyV K T x H1∧r x [] H1 Q
noncomputable def tBM (K:PySem.W.Frag) (T:String) (r:V→List V→Hp→VK→Prop) (to:TE) (t:TA):TE:=fun σ H Q=>to σ H fun x H1=>tyV K T x H1∧t σ H1 fun xs H2=>r x xs H2 Q
variable {o e : Expr} {es : List Expr} {to : TE} {t : TA} {name : Str} {apos cpos : Pos} {T id : String} {r : V → List V → Hp → VK → Prop}
theorem Np (pa:PlainAttrs T) (slot:Slot T name id) (hty:typeOf (.builtin id)=pure (.type "method_descriptor")) (hm:MtR X id r) (ho:PE X o to)
  (hbase:attributeBase o name X.env (eval o X.env)=eval o X.env:=by rfl) (hline:(apos.endLine==cpos.line)=true:=by rfl):PE X (.Call (.Attribute o name apos) [] [] cpos) (Yr X.K T r to):=by
 intro pins s σ H Q I h
 refine wpAny_Call_method0_late hbase hline (thn (ho pins s σ H _ I h) fun v s1 ⟨x,H1,I1,r1,ty,q1⟩=>?_)
 obtain⟨h1,h2⟩:=Nn I1 r1 ty
 exact⟨T,id,pa,slot,hty,h1,h2,EU rfl (PySem.evalArgs_none (hm pins s1 σ H1 x [] v [] Q I1 r1 .nil q1))⟩
theorem W8 (pa:PlainAttrs T) (slot:Slot T name id) (hty:typeOf (.builtin id)=pure (.type "method_descriptor")) (hm:MtR X id r) (ho:PE X o to) (ha:PA X (e::es) t)
  (hbase:attributeBase o name X.env (eval o X.env)=eval o X.env:=by rfl)
  (hfew:((backTo cpos (starEach (e::es) X.env)).all (fun x=>!x.1)&&(backToKw cpos (keywordEach [] X.env)).all (fun x=>x.1.isSome)
   && decide ((e::es).length+([]:List Keyword).length+(if([]:List Keyword).isEmpty then 0 else 1)<30))=true:=by rfl)
  (hline:(apos.endLine==cpos.line)=true:=by rfl) (hs:starEach (e::es) X.env=(false,eval e X.env)::starEach es X.env:=by rfl) (hplain:(backTo cpos (starEach es X.env)).any (·.1)=false:=by rfl) :
  PE X (.Call (.Attribute o name apos) (e::es) [] cpos) (tBM X.K T r to t):=by
 intro pins s σ H Q I h
 refine wpAny_Call_method_late hbase hfew hline rfl (thn (ho pins s σ H _ I h) fun v s1 ⟨x,H1,I1,r1,ty,q1⟩=>?_)
 obtain⟨h1,h2⟩:=Nn I1 r1 ty
 refine⟨T,id,pa,slot,hty,h1,h2,?_⟩
 have hA:=ha cpos pins s1 σ H1 _ I1 q1
 rw[hs]at hA ⊢
 refine EU (by show(false || (backTo cpos (starEach es X.env)).any (·.1))=false;rw[hplain]<;>rfl) (JH ?_)
 exact thn hA fun us s2 ⟨vs,H2,I2,r2,q2⟩=>hm pins s2 σ H2 x vs v us Q I2 r1 r2 q2
end
end L2
namespace L2
open PySem PySem.Spec PyProof.Rows
noncomputable def MtM (X:Cx) (id:String) (r:V→List V→Hp→VK→Prop):Prop :=
 ∀(pins:List (Addr×Obj)) (s:Shared) (σ:St) (H:Hp) (x:V) (xs:List V) (v:Value) (us:List Value) (Q:VK),Inv X pins σ H s→RelV x v→cq xs us→r x xs H Q →
  wpAny (model X.prog X.w) X.A (call (.builtin id) (v::us)) (EP X pins σ Q) X.xe s
theorem cq.one:∀{x:V} {us:List Value},cq [x] us→∃u,us=[u]∧RelV x u
 | _,_,.cons r .nil=>⟨_,rfl,r⟩
theorem cq.zero:∀{us:List Value},cq [] us→us=[]
 | _,.nil=>rfl
theorem cq.dropLast {xs:List V} {us:List Value} (h:cq xs us):cq xs.dropLast us.dropLast:=by
 induction h with
 | nil=>exact .nil
 | cons r t ih =>
  cases t with
  | nil=>exact .nil
  | cons q t'=>exact .cons r ih
theorem cq.eraseIdx:∀{xs:List V} {us:List Value} (i:Nat),cq xs us→cq (xs.eraseIdx i) (us.eraseIdx i)
 | _,_,_,.nil=>.nil
 | _,_,0,.cons _ t=>t
 | _,_,i+1,.cons r t=>.cons r (cq.eraseIdx i t)
theorem cq.reverse {xs:List V} {us:List Value} (h:cq xs us):cq xs.reverse us.reverse:=by
 induction h with
 | nil=>exact .nil
 | cons r t ih=>rw[HY,HY];exact cq.append ih (.cons r .nil)
theorem cq.rep {xs:List V} {us:List Value} (h:cq xs us):∀k:Nat,cq (List.replicate k xs).flatten (List.replicate k us).flatten
 | 0=>.nil
 | k+1=>by
  rw[DT,DT,FG,FG]
  exact cq.append h (cq.rep h k)
theorem Fi {α:Type} (l:List α):l.eraseIdx (l.length-1)=l.dropLast:=by
 induction l with
 | nil=>rfl
 | cons a r ih =>
  cases r with
  | nil=>rfl
  | cons b r =>
   have e:(a::b::r).length-1=((b::r).length-1)+1:=by
    have h1:(a::b::r).length=r.length+2:=rfl
    have h2:(b::r).length=r.length+1:=rfl
    lia
   rw[e,IJ,ih]
   all_goals rfl
theorem z8 {α:Type}:∀(l:List α) (i:Nat),(l.eraseIdx i).length≤l.length
 | [],_=>AI _
 | _::_,0=>ES _
 | _::r,i+1=>Nat.succ_le_succ (z8 r i)
theorem foldl_rep (its:List Value):∀(k:Nat) (acc:List Value),
  List.foldl (fun x1 x2=>x1++x2) acc.toArray (List.replicate k its.toArray)=(acc++(List.replicate k its).flatten).toArray
 | 0,acc=>by simp
 | k+1,acc=>by
  have e:acc.toArray++its.toArray=(acc++its).toArray:=by simp
  have e2:(acc++its)++(List.replicate k its).flatten=acc++(List.replicate (k+1) its).flatten:=by
   rw[DT,FG,FH]
  rw[←e2,←foldl_rep its k (acc++its),←e,DT,List.foldl_cons]
section
variable {X : Cx} {pins : List (Addr × Obj)} {σ : St} {H : Hp} {s : Shared} {l b : Addr} {xs ys zs : List V}
theorem Inv.lset {its its':List Value} {n:Nat} {f:Array Value→Array Value} {t':Nat} (I:Inv X pins σ H s) (hH:H l=some (.lst xs))
  (e:s.heap.get? l=some {cls:=.type "list",data:=.seq its.toArray n}) (hf:f its.toArray=its'.toArray) (hv:cq ys its') (hz:ys.length≤sizeLine) :
  Inv X pins σ (upd H l (.lst ys)) {s with heap:=s.heap.update l (Obj.mapSeq f),toks:=t'}:=by
 have q:=PySem.IsL.update e f
 rw[hf]at q
 refine I.write (x:=l) (e:=l) (by rw[hH];exact trivial) (.inl rfl) (fun b' u hb hu=>(GD s.heap (Obj.mapSeq f) (Ne.symm hb)).trans hu) ⟨_,q⟩ ?_
 exact⟨hz,its',_,hv,q⟩
theorem Inv.lnew {its:List Value} {t':Nat} (I:Inv X pins σ H s) (hv:cq ys its) (hz:ys.length≤sizeLine) :
  Inv X pins σ (upd H s.heap.objs.size (.lst ys)) {s with heap:=s.heap.push {cls:=.type "list",data:=.seq its.toArray},toks:=t'} :=
 I.laid (fun _ _ q=>AC _ q) (AI _) ⟨hz,its,0,hv,AH _ rfl⟩
theorem Inv.fresh (I:Inv X pins σ H s):H s.heap.objs.size=none:=I.hok.fresh (AI _)
theorem Inv.lstM (I:Inv X pins σ H s) (hH:H l=some (.lst xs)):xs.length≤sizeLine∧∃(its:List Value) (n:Nat),cq xs its∧xs.length=its.length∧s.heap.get? l=some {cls:=.type "list",data:=.seq its.toArray n}:=by
 obtain⟨z,its,n,r,e⟩:=I.hok l _ hH
 exact⟨z,its,n,r,r.length,e⟩
theorem La {n:Nat} (h:n≤sizeLine):Builtin.List.listTooLong n=false:=by
 unfold Builtin.List.listTooLong
 exact decide_eq_false (by lia)
end
section
variable {X : Cx}
noncomputable def rAppend:V→List V→Hp→VK→Prop:=fun x vs H Q=>∃l xs y,x=.ref l∧vs=[y]∧H l=some (.lst xs)∧xs.length<sizeLine∧Q .non (upd H l (.lst (xs++[y])))
theorem G6:MtM X "list.append" rAppend:=by
 intro pins s σ H x vs v us Q I rx rv h
 obtain⟨l,xs,y,rfl,rfl,hH,hz,q⟩:=h
 cases rx
 obtain⟨u,rfl,ru⟩:=rv.one
 obtain⟨z,its,n,r,hl,e⟩:=I.lstM hH
 refine HK F.slot_list_append ⟨_,e,rfl⟩ F.entry_list_append (F.args_list_append_2 _ _) (PySem.list_append l its.toArray n u (by rw[AE];lia)) ⟨e,?_⟩
 refine⟨.non,_,I.lset (its':=its++[u]) hH e (by simp) (r.append (.cons ru .nil)) ?_,rfl,q⟩
 rw[CP,JB]
 lia
noncomputable def rPop:V→List V→Hp→VK→Prop:=fun x vs H Q=>∃l xs y,x=.ref l∧vs=[]∧H l=some (.lst xs)∧xs[xs.length-1]? = some y∧Q y (upd H l (.lst xs.dropLast))
theorem To:MtM X "list.pop" rPop:=by
 intro pins s σ H x vs v us Q I rx rv h
 obtain⟨l,xs,y,rfl,rfl,hH,hy,q⟩:=h
 cases rx
 have hus:=rv.zero
 subst hus
 obtain⟨z,its,n,r,hl,e⟩:=I.lstM hH
 obtain⟨u,hu,ru⟩:=r.get hy
 have hy':its.toArray[its.toArray.size-1]? = some u:=by
  show its.toArray[its.length-1]? = some u
  rw[←DJ,←hl]
  exact hu
 refine HK IW ⟨_,e,rfl⟩ F.entry_list_pop (F.args_list_pop_1 _) (MeetsSeq.list_pop_last l its.toArray n u hy' (by rw[AE];lia)) ⟨e,?_⟩
 refine⟨y,_,I.lset (its':=its.dropLast) hH e ?_ r.dropLast ?_,ru,q⟩
 ·show its.toArray.eraseIdxIfInBounds (its.toArray.size-1)=its.dropLast.toArray
  rw[AE,GK,Fi]
 ·rw[List.length_dropLast]
  lia
noncomputable def rPopAt:V→List V→Hp→VK→Prop:=fun x vs H Q=>∃l xs i k y,x=.ref l∧vs=[.int i]∧H l=some (.lst xs) ∧ -(2 ^ 63)≤i∧i<2 ^ 63∧seqIndex? i xs.length=some k∧xs[k]? = some y∧Q y (upd H l (.lst (xs.eraseIdx k)))
theorem Lb:MtM X "list.pop" rPopAt:=by
 intro pins s σ H x vs v us Q I rx rv h
 obtain⟨l,xs,i,k,y,rfl,rfl,hH,h1,h2,hk,hy,q⟩:=h
 cases rx
 obtain⟨u,rfl,ru⟩:=rv.one
 obtain⟨t,rfl⟩:=ru
 obtain⟨z,its,n,r,hl,e⟩:=I.lstM hH
 obtain⟨w,hw,rw'⟩:=r.get hy
 refine HK IW ⟨_,e,rfl⟩ F.entry_list_pop (F.args_list_pop_2 _ _)
  (MeetsSeq.list_pop_at l its.toArray n i t k w (fitsIndex_both h1 h2) (by rw[AE,←hl];exact hk) (by rw[←DJ];exact hw) (by rw[AE];lia)) ⟨e,?_⟩
 refine⟨y,_,I.lset (its':=its.eraseIdx k) hH e ?_ (r.eraseIdx k) ?_,rw',q⟩
 ·show its.toArray.eraseIdxIfInBounds k=(its.eraseIdx k).toArray
  rw[GK]
 ·have:=z8 xs k
  lia
noncomputable def rClear:V→List V→Hp→VK→Prop:=fun x vs H Q=>∃l xs,x=.ref l∧vs=[]∧H l=some (.lst xs)∧Q .non (upd H l (.lst []))
theorem Lc:MtM X "list.clear" rClear:=by
 intro pins s σ H x vs v us Q I rx rv h
 obtain⟨l,xs,rfl,rfl,hH,q⟩:=h
 cases rx
 have hus:=rv.zero
 subst hus
 obtain⟨z,its,n,r,hl,e⟩:=I.lstM hH
 refine HK F.slot_list_clear ⟨_,e,rfl⟩ F.entry_list_clear (F.args_list_clear_1 _) (AutoSeq1.list_clear_list_0 l its.toArray n (by rw[AE];lia)) ⟨e,?_⟩
 exact⟨.non,_,I.lset (its':=[]) (ys:=[]) hH e rfl .nil (CQ _),rfl,q⟩
theorem len_rep {α:Type} (xs:List α) (k:Nat):(List.replicate k xs).flatten.length=k*xs.length:=by
 induction k with
 | zero=>simp
 | succ k ih=>rw[DT,FG,CP,ih,Nat.succ_mul,Nat.add_comm]
end
end L2
namespace L2
open PySem PySem.Spec PyProof.Rows
section
variable {κ : Type} [DecidableEq κ]
noncomputable def Dh (kvs:List (κ×V)) (k:κ):Option V:=(kvs.find? fun kv=>decide (kv.1=k)).map (·.2)
noncomputable def putK (kvs:List (κ×V)) (k:κ) (v:V):List (κ×V) :=
 if(kvs.any fun kv=>decide (kv.1=k))=true then kvs.map (fun kv=>if kv.1=k then(kv.1,v)else kv)else kvs++[(k,v)]
theorem sx {p:κ×V} {r:List (κ×V)} {k:κ} (e:p.1=k):Dh (p::r) k=some p.2:=by simp[Dh,EZ,e]
theorem tf {p:κ×V} {r:List (κ×V)} {k:κ} (e:¬p.1=k):Dh (p::r) k=Dh r k:=by simp[Dh,EZ,e]
theorem Di (k:κ):∀kvs:List (κ×V),(kvs.any fun kv=>decide (kv.1=k))=(Dh kvs k).isSome
 | []=>rfl
 | p::r=>by
  rw[CT]
  by_cases e:p.1=k
  ·simp only[sx e,decide_eq_true e,Bool.true_or,Option.isSome_some]
  ·rw[tf e,decide_eq_false e,Bool.false_or];exact Di k r
theorem pe (kvs:List (κ×V)) (k:κ) (v:V):(putK kvs k v).length≤kvs.length+1:=by
 unfold putK
 split
 ·rw[AF];lia
 ·rw[CP,BN,CM];lia
theorem Nd.isSome_eq {o:Option V} {u:Option Value} (r:Nd o u):o.isSome=u.isSome:=by
 cases o with
 | none=>cases u with
  | none=>rfl
  | some _=>exact(show False from r).elim
 | some _=>cases u with
  | none=>exact(show False from r).elim
  | some _=>rfl
theorem Nd.getD {o:Option V} {u:Option Value} {d:V} {d':Value} (r:Nd o u) (rd:RelV d d'):RelV (o.getD d) (u.getD d'):=by
 cases o with
 | none=>cases u with
  | none=>exact rd
  | some _=>exact(show False from r).elim
 | some _=>cases u with
  | none=>exact(show False from r).elim
  | some _=>exact r
theorem KV.val {kvs:List (κ×V)} {vs:List (κ×Value)} (r:KV kvs vs) (k:κ):Nd (Dh kvs k) (valueAt vs k):=by
 unfold KV at r
 induction r with
 | nil=>exact True.intro
 | @cons p q ps qs h t ih =>
  obtain⟨h1,h2⟩:=h
  by_cases e:p.1=k
  ·have e':q.1=k:=h1.symm.trans e
   have b:valueAt (q::qs) k=some q.2:=by simp[valueAt,EZ,e']
   rw[sx e,b];exact h2
  ·have e':¬q.1=k:=fun z=>e (h1.trans z)
   have b:valueAt (q::qs) k=valueAt qs k:=by simp[valueAt,EZ,e']
   rw[tf e,b];exact ih
theorem KV.any {kvs:List (κ×V)} {vs:List (κ×Value)} (r:KV kvs vs) (k:κ):(kvs.any fun kv=>decide (kv.1=k))=vs.any fun kv=>decide (kv.1=k):=by
 unfold KV at r
 induction r with
 | nil=>rfl
 | cons h t ih=>rw[CT,CT,ih,h.1]
theorem KV.repl {kvs:List (κ×V)} {vs:List (κ×Value)} (r:KV kvs vs) (k:κ) {y:V} {u:Value} (ry:RelV y u) :
  KV (kvs.map fun kv=>if kv.1=k then(kv.1,y)else kv) (vs.map fun kv=>if kv.1=k then(kv.1,u)else kv):=by
 unfold KV at r ⊢
 induction r with
 | nil=>exact .nil
 | @cons p q ps qs h t ih =>
  rw[AS,AS]
  refine .cons ?_ ih
  obtain⟨h1,h2⟩:=h
  by_cases e:p.1=k
  ·rw[if_pos e,if_pos (h1.symm.trans e)];exact⟨h1,ry⟩
  ·rw[if_neg e,if_neg (fun z=>e (h1.trans z))];exact⟨h1,h2⟩
theorem KV.put {kvs:List (κ×V)} {vs:List (κ×Value)} (r:KV kvs vs) (k:κ) {y:V} {u:Value} (ry:RelV y u):KV (putK kvs k y) (stored vs k u):=by
 unfold putK stored
 rw[r.any k]
 by_cases e:(vs.any fun kv=>decide (kv.1=k))=true
 ·rw[if_pos e,if_pos e];exact r.repl k ry
 ·rw[if_neg e,if_neg e];exact Paired.snoc r ⟨rfl,ry⟩
theorem KV.length {kvs:List (κ×V)} {vs:List (κ×Value)} (r:KV kvs vs):kvs.length=vs.length:=DW r
end
theorem Fj {P:Program} {w:World} {k:Key} {u:Value} (r:RelV (kV k) u):(c8 P w).is k u=true:=by
 cases k with
 | inl i=>obtain⟨t,e⟩:=(show ∃t,u=Value.int i t from r);subst e;exact Bq P w i t
 | inr x=>obtain⟨t,e⟩:=(show ∃t,u=Value.str x t from r);subst e;exact Br P w x t
theorem z9 {P:Program} {w:World}:∀{ks:List Key} {us:List Value},cq (ks.map kV) us→ItemsAre (c8 P w) ks us
 | [],_,r=>by rw[CU]at r;cases r;exact .nil
 | k::ks,_,r=>by
  rw[AS]at r
  cases r with
  | cons h t=>exact .cons (Fj h) (z9 t)
noncomputable abbrev KT (H:Hp):List (List Key×V)→List (List Key×Addr×Value)→Prop:=Paired fun p q=>p.1=q.1∧H q.2.1=some (.tup (p.1.map kV))∧RelV p.2 q.2.2
theorem KT.val {H:Hp} {kvs:List (List Key×V)} {xs:List (List Key×Addr×Value)} (r:KT H kvs xs) (k:List Key):Nd (Dh kvs k) ((atKey xs k).map (·.2)):=by
 induction r with
 | nil=>exact True.intro
 | @cons p q ps qs h t ih =>
  obtain⟨h1,_,h2⟩:=h
  by_cases e:p.1=k
  ·have e':q.1=k:=h1.symm.trans e
   have b:atKey (q::qs) k=some q.2:=by simp[atKey,EZ,e']
   rw[sx e,b];exact h2
  ·have e':¬q.1=k:=fun z=>e (h1.trans z)
   have b:atKey (q::qs) k=atKey qs k:=by simp[atKey,EZ,e']
   rw[tf e,b];exact ih
theorem KT.repl {H:Hp} {kvs:List (List Key×V)} {xs:List (List Key×Addr×Value)} (r:KT H kvs xs) (k:List Key) {y:V} {u:Value} (ry:RelV y u) :
  KT H (kvs.map fun kv=>if kv.1=k then(kv.1,y)else kv) (xs.map (putAt k u)):=by
 induction r with
 | nil=>exact .nil
 | @cons p q ps qs h t ih =>
  rw[AS,AS]
  refine .cons ?_ ih
  obtain⟨h1,h2,h3⟩:=h
  unfold putAt
  by_cases e:p.1=k
  ·rw[if_pos e,if_pos (h1.symm.trans e)];exact⟨h1,h2,ry⟩
  ·rw[if_neg e,if_neg (fun z=>e (h1.trans z))];exact⟨h1,h2,h3⟩
theorem KT.put {H:Hp} {kvs:List (List Key×V)} {xs:List (List Key×Addr×Value)} (r:KT H kvs xs) (k:List Key) {b:Addr} {y:V} {u:Value} (hb:H b=some (.tup (k.map kV))) (ry:RelV y u) :
  KT H (putK kvs k y) (storedH xs k b u):=by
 have e:(kvs.any fun kv=>decide (kv.1=k))=(atKey xs k).isSome:=by
  rw[Di,(r.val k).isSome_eq,HZ]
 unfold putK storedH
 rw[e]
 by_cases q:(atKey xs k).isSome=true
 ·rw[if_pos q,if_pos q];exact r.repl k ry
 ·rw[if_neg q,if_neg q];exact Paired.snoc r ⟨rfl,hb,ry⟩
theorem KT.keeps {H H':Hp} {kvs:List (List Key×V)} {xs:List (List Key×Addr×Value)} (r:KT H kvs xs) (ht:∀b ys,H b=some (.tup ys)→H' b=some (.tup ys)):KT H' kvs xs :=
 Paired.mapP r fun _ _ z=>⟨z.1,ht _ _ z.2.1,z.2.2⟩
section
variable {P : Program} {w : World} {H : Hp} {h : Heap} {a : Addr}
theorem Tp {u:HO} (ok:HOk P w H h) (e:Rd H a u):iz P w H h a u:=e.ok ok
theorem G7 {kvs:List (Key×V)} (ok:HOk P w H h) (e:Rd H a (.dK kvs)):kvs.length≤sizeLine∧(a==sysModules)=false∧∃vs,KV kvs vs∧h.DictOf (c8 P w) a vs :=
 show iz P w H h a (.dK kvs)from Tp ok e
theorem Qb {kvs:List (Key×V)} (ok:HOk P w H h) (e:H a=some (.dK kvs)):kvs.length≤sizeLine∧(a==sysModules)=false∧∃vs,KV kvs vs∧h.DictOf (c8 P w) a vs:=G7 ok (.inl e)
theorem Aa {ks:List Key} (ok:HOk P w H h) (e:H a=some (.tup (ks.map kV))):(tupleKind (c8 P w)).is h ks a:=by
 obtain⟨_,its,r,o,h1,h2,_,n,h3⟩:=(show iz P w H h a (.tup (ks.map kV))from ok a _ e)
 exact⟨o,its.toArray,n,h1,h2,h3,by simpa using z9 r⟩
theorem G8 {kvs:List (List Key×V)} (ok:HOk P w H h) (e:Rd H a (.dT kvs)):kvs.length≤sizeLine∧(a==sysModules)=false ∧
  ∃xs,KT H kvs xs∧h.DictOfH (tupleKind (c8 P w)) a xs:=by
 obtain⟨z,y,xs,r,o,es,ep,h1,h2,h3,h4,h5⟩:=(show iz P w H h a (.dT kvs)from Tp ok e)
 refine⟨z,y,xs,r,o,es,ep,h1,h2,h3,h4,fun x hx=>?_,h5⟩
 have all:∀{l:List (List Key×V)} {m:List (List Key×Addr×Value)},KT H l m→∀x∈m,(tupleKind (c8 P w)).is h x.1 x.2.1:=by
  intro l m q
  induction q with
  | nil=>intro x hx;exact nomatch hx
  | @cons p q ps qs hq t ih =>
   intro x hx
   rcases AM.mp hx with e | hx
   ·subst e
    exact Aa ok (by rw[←hq.1];exact hq.2.1)
   ·exact ih x hx
 exact all r x hx
theorem W9 {kvs:List (List Key×V)} (ok:HOk P w H h) (e:H a=some (.dT kvs)):kvs.length≤sizeLine∧(a==sysModules)=false ∧
  ∃xs,KT H kvs xs∧h.DictOfH (tupleKind (c8 P w)) a xs:=G8 ok (.inl e)
end
noncomputable def Ld (H:Hp) (a:Addr) (y:V) (r:Option V):Prop :=
 (∃kvs k,Rd H a (.dK kvs)∧y=kV k∧r=Dh kvs k)∨∃kvs k b,Rd H a (.dT kvs)∧y=.ref b∧H b=some (.tup (k.map kV))∧r=Dh kvs k
noncomputable def Wh (H:Hp) (a:Addr) (y v:V) (H':Hp):Prop :=
 (∃kvs k,H a=some (.dK kvs)∧y=kV k∧kvs.length<sizeLine∧H'=upd H a (.dK (putK kvs k v))) ∨
 ∃kvs k b,H a=some (.dT kvs)∧y=.ref b∧H b=some (.tup (k.map kV))∧kvs.length<sizeLine∧H'=upd H a (.dT (putK kvs k v))
theorem Ld.k {H:Hp} {a:Addr} {kvs:List (Key×V)} {k:Key} (e:H a=some (.dK kvs)):Ld H a (kV k) (Dh kvs k):=.inl ⟨kvs,k,.inl e,rfl,rfl⟩
theorem Wh.k {H:Hp} {a:Addr} {kvs:List (Key×V)} {k:Key} {v:V} (e:H a=some (.dK kvs)) (hl:kvs.length<sizeLine):Wh H a (kV k) v (upd H a (.dK (putK kvs k v))):=.inl ⟨kvs,k,e,rfl,hl,rfl⟩
section
variable {X : Cx} {pins : List (Addr × Obj)} {σ : St} {H : Hp} {s : Shared} {a : Addr} {y v : V} {u r : Value} {o : Option V} {A : Around} {E : Value → Shared → Prop}
theorem Inv.big (I:Inv X pins σ H s):sysModules<s.heap.objs.size:=by
 have h:mainGlobals<s.heap.objs.size:=(I.mod.glob.keeps I.bk).lt
 exact Nat.lt_trans (by decide) h
theorem Z2 {Q:Value→Shared→Prop} (hu:A.units+1<cLine) (I:Inv X pins σ H s) (g:Ld H a y o) (ry:RelV y u) (h:∀s',Inv X pins σ H s'→Q (.bool o.isSome) s') :
  wpAny (model X.prog X.w) A (compareOp .In u (.ref a)) Q E s:=by
 rcases g with⟨kvs,k,e,ey,l⟩ | ⟨kvs,k,b,e,ey,eb,l⟩
 ·subst ey
  obtain⟨z,hd,vs,rel,dd⟩:=G7 I.hok e
  refine wpAny_in_of (Fj ry) hd dd.mapOf ?_
  rw[←(rel.val k).isSome_eq,←l]
  exact h _ (I.tok _)
 ·subst ey
  cases(show u=Value.ref b from ry)
  obtain⟨z,hd,xs,rel,dd⟩:=G8 I.hok e
  refine wpAny_in_heap (FV hu) (Aa I.hok eb) hd dd ?_
  have q:=(rel.val k).isSome_eq
  rw[HZ]at q
  rw[←q,←l]
  exact h _ (I.tok _)
theorem Qc {Q:Value→Shared→Prop} (hu:A.units+1<cLine) (I:Inv X pins σ H s) (g:Ld H a y o) (ry:RelV y u) (h:∀s',Inv X pins σ H s'→Q (.bool (!o.isSome)) s') :
  wpAny (model X.prog X.w) A (compareOp .NotIn u (.ref a)) Q E s:=by
 rcases g with⟨kvs,k,e,ey,l⟩ | ⟨kvs,k,b,e,ey,eb,l⟩
 ·subst ey
  obtain⟨z,hd,vs,rel,dd⟩:=G7 I.hok e
  refine wpAny_notIn_of (Fj ry) hd dd.mapOf ?_
  rw[←(rel.val k).isSome_eq,←l]
  exact h _ (I.tok _)
 ·subst ey
  cases(show u=Value.ref b from ry)
  obtain⟨z,hd,xs,rel,dd⟩:=G8 I.hok e
  refine wpAny_notIn_heap (FV hu) (Aa I.hok eb) hd dd ?_
  have q:=(rel.val k).isSome_eq
  rw[HZ]at q
  rw[←q,←l]
  exact h _ (I.tok _)
theorem Bw {h':Heap} {t':Nat} {ob:HO} (I:Inv X pins σ H s) (mu:Mut (H a)) (hs:Heap.SameBut a s.heap h') (he:∃q,h'.get? a=some q) (new:iz X.prog X.w (upd H a ob) h' a ob) :
  Inv X pins σ (upd H a ob) {s with heap:=h',toks:=t'} :=
 I.write (x:=a) (e:=a) mu (.inl rfl) (fun b q hb z=>(hs.2 b hb).trans z) he new
theorem Nq {P:Program} {w:World} {H':Hp} {h':Heap} {kvs:List (Key×V)} {vs:List (Key×Value)} (z:kvs.length≤sizeLine) (hd:(a==sysModules)=false) (rel:KV kvs vs) (dd:h'.DictOf (c8 P w) a vs) :
  iz P w H' h' a (.dK kvs):=⟨z,hd,vs,rel,dd⟩
theorem G9 {H':Hp} {Q:Unit→Shared→Prop} (hu:A.units+1<cLine) (I:Inv X pins σ H s) (g:Wh H a y v H') (ry:RelV y u) (rv:RelV v r) (h:∀s',Inv X pins σ H' s'→Q () s') :
  wpAny (model X.prog X.w) A (setItem (.ref a) u r) Q E s:=by
 rcases g with⟨kvs,k,e,ey,l,eH⟩ | ⟨kvs,k,b,e,ey,eb,l,eH⟩
 ·subst ey eH
  obtain⟨z,hd,vs,rel,dd⟩:=Qb I.hok e
  have hz:vs.length≤sizeLine:=by rw[←rel.length];exact z
  have hl:(putK kvs k v).length≤sizeLine:=by have:=pe kvs k v;lia
  refine wpAny_setItem_pairs (hsz:=hz) (Fj ry) dd fun h' dd' hs=>h _ ?_
  have he:∃q,h'.get? a=some q:=let ⟨q,_,_,hq,_⟩:=dd';⟨q,hq⟩
  exact Bw I (by rw[e];exact True.intro) hs he (Nq hl hd (rel.put k rv) dd')
 ·subst ey eH
  cases(show u=Value.ref b from ry)
  obtain⟨z,hd,xs,rel,dd⟩:=W9 I.hok e
  have hz:xs.length≤sizeLine:=by rw[←DW rel];exact z
  have hl:(putK kvs k v).length≤sizeLine:=by have:=pe kvs k v;lia
  refine wpAny_setItem_heap (hsz:=hz) (FV hu) (Aa I.hok eb) dd fun h' dd' hs=>h _ ?_
  obtain⟨q,es,ep,hq,h2,h3,h4,_,h5⟩:=dd'
  refine Bw I (by rw[e];exact True.intro) hs ⟨q,hq⟩ ⟨hl,hd,_,(rel.put k eb rv).keeps fun c ys ec=>?_,q,es,ep,hq,h2,h3,h4,h5⟩
  rw[a9 (pd ec e (fun z=>nomatch z))]
  exact ec
end
theorem Dj {P:Program} {w:World} {H:Hp} (h:Heap) (hb:sysModules<h.objs.size):iz P w H (h.push {cls:=.type "dict",data:=.dict #[]}) h.objs.size (.dK []) :=
 ⟨CQ _,beq_eq_false_iff_ne.mpr (Ne.symm (AR hb)),[],.nil,Heap.DictOf.new h⟩
theorem Le {P:Program} {w:World} {H:Hp} (h:Heap) (hb:sysModules<h.objs.size):iz P w H (h.push {cls:=.type "dict",data:=.dict #[]}) h.objs.size (.dT []) :=
 ⟨CQ _,beq_eq_false_iff_ne.mpr (Ne.symm (AR hb)),[],.nil,_,#[],0,AH _ rfl,⟨rfl,rfl,rfl⟩,rfl,rfl,List.nodup_nil⟩
noncomputable def tDNewK:TE:=fun _ H Q=>∀p,H p=none→Q (.ref p) (upd H p (.dK []))
noncomputable def tDNewT:TE:=fun _ H Q=>∀p,H p=none→Q (.ref p) (upd H p (.dT []))
section
variable {X : Cx} {pos : Pos}
theorem Lg:PE X (.Dict [] [] pos) tDNewK:=fun pins s σ H Q I h =>
 wpAny_Dict_empty ⟨.ref s.heap.objs.size,_,I.laid (a:=s.heap.objs.size) (o:=.dK []) (t':=s.toks) (fun _ _ q=>AC _ q) (AI _) (Dj s.heap I.big),rfl,h _ (I.hok.fresh (AI _))⟩
theorem Lh:PE X (.Dict [] [] pos) tDNewT:=fun pins s σ H Q I h =>
 wpAny_Dict_empty ⟨.ref s.heap.objs.size,_,I.laid (a:=s.heap.objs.size) (o:=.dT []) (t':=s.toks) (fun _ _ q=>AC _ q) (AI _) (Le s.heap I.big),rfl,h _ (I.hok.fresh (AI _))⟩
end
noncomputable def Ha:List (TE×TE)→St→Hp→(List (V×V)→Hp→Prop)→Prop
 | [],_,H,Q=>Q [] H
 | (tk,tv)::r,σ,H,Q=>tk σ H fun x H1=>tv σ H1 fun y H2=>Ha r σ H2 fun ps H3=>Q ((x,y)::ps) H3
noncomputable abbrev VV:List (V×V)→List (Value×Value)→Prop:=Paired fun p q=>RelV p.1 q.1∧RelV p.2 q.2
noncomputable def PPs (X:Cx) (pos:Pos) (keys:List (Option Expr)) (values:List Expr) (trs:List (TE×TE)):Prop :=
 ∀(pins:List (Addr×Obj)) (s:Shared) (σ:St) (H:Hp) (Q:List (V×V)→Hp→Prop),Inv X pins σ H s→Ha trs σ H Q →
  wpAny (model X.prog X.w) X.A (evalPairs (pairTrees keys values X.env pos)) (fun vs s'=>∃ps H',Inv X pins σ H' s'∧VV ps vs∧Q ps H') X.xe s
theorem Qd {X:Cx} {pos:Pos}:PPs X pos [] [] []:=fun pins s σ H Q I h=>pairTrees_nil_walk ⟨[],H,I,.nil,h⟩
theorem Dk {X:Cx} {pos:Pos} {k v:Expr} {ks:List (Option Expr)} {vs:List Expr} {tk tv:TE} {trs:List (TE×TE)} (hk:PE X k tk) (hv:PE X v tv) (hr:PPs X pos ks vs trs) :
  PPs X pos (some k::ks) (v::vs) ((tk,tv)::trs):=fun pins s σ H Q I h =>
 pairTrees_cons_walk (thn (hk pins s σ H _ I h) fun u s1 ⟨x,H1,I1,rx,q1⟩=>thn (hv pins s1 σ H1 _ I1 q1) fun w2 s2 ⟨y,H2,I2,ry,q2⟩ =>
  thn (hr pins s2 σ H2 _ I2 q2) fun ws s3 ⟨ps,H3,I3,rel,q3⟩=>⟨(x,y)::ps,H3,I3,.cons ⟨rx,ry⟩ rel,q3⟩)
noncomputable def ud (kvs more:List (Key×V)):List (Key×V):=more.foldl (fun acc kv=>putK acc kv.1 kv.2) kvs
theorem KV.merge:∀{more:List (Key×V)} {rs:List (Key×Value)} {kvs:List (Key×V)} {vs:List (Key×Value)},KV more rs→KV kvs vs→KV (ud kvs more) (merged vs rs):=by
 intro more rs kvs vs r
 unfold KV at r
 induction r generalizing kvs vs with
 | nil=>intro q;exact q
 | @cons p q ps qs h t ih =>
  intro r0
  have e:KV (putK kvs p.1 p.2) (stored vs q.1 q.2):=by
   have:=r0.put p.1 h.2
   rw[←h.1];exact this
  exact ih e
theorem qa:∀(more kvs:List (Key×V)),(ud kvs more).length≤kvs.length+more.length
 | [],kvs=>by show kvs.length≤kvs.length+0;lia
 | p::r,kvs=>by
  have h1:=qa r (putK kvs p.1 p.2)
  have h2:=pe kvs p.1 p.2
  show(ud (putK kvs p.1 p.2) r).length≤_
  rw[BN];lia
theorem we {P:Program} {w:World}:∀{kvs:List (Key×V)} {ws:List (Value×Value)},VV (kvs.map fun kv=>(kV kv.1,kv.2)) ws→∃rs,Carries (c8 P w) ws rs∧KV kvs rs
 | [],_,r=>by rw[CU]at r;cases r;exact⟨[],True.intro,.nil⟩
 | p::kvs,_,r=>by
  rw[AS]at r
  cases r with
  | @cons a b as bs h t =>
   obtain⟨rs,c,q⟩:=we (P:=P) (w:=w) t
   obtain⟨b1,b2⟩:=b
   exact⟨(p.1,b2)::rs,⟨Fj h.1,rfl,c⟩,.cons ⟨rfl,h.2⟩ q⟩
noncomputable def Xa (trs:List (TE×TE)):TE:=fun σ H Q=>∀p,H p=none→Ha trs σ (upd H p (.dK [])) fun ps H2=>H2 p=some (.dK [])∧∃kvs:List (Key×V),ps=kvs.map (fun kv=>(kV kv.1,kv.2))∧kvs.length≤15∧Q (.ref p) (upd H2 p (.dK (ud [] kvs)))
theorem Qe {X:Cx} {pos:Pos} {keys:List (Option Expr)} {values:List Expr} {trs:List (TE×TE)} (h:PPs X pos keys values trs) (hall:keys.all (·.isSome)=true) (hl:keys.length=values.length) (h0:keys≠[])
  (h15:keys.length≤15):PE X (.Dict keys values pos) (Xa trs):=by
 intro pins s σ H Q I q
 have hn:=I.hok.fresh (AI s.heap.objs.size)
 have I1:=I.laid (a:=s.heap.objs.size) (o:=.dK []) (h':=s.heap.push {cls:=.type "dict",data:=.dict #[]}) (t':=s.toks) (fun _ _ q=>AC _ q) (AI _) (Dj s.heap I.big)
 refine wpAny_Dict_walk (knd:=c8 X.prog X.w) hall hl h0 h15 (thn (h pins _ σ _ _ I1 (q _ hn)) fun ws s2 ⟨ps,H2,I2,rel,e,kvs,ep,lk,q2⟩=>?_)
 subst ep
 obtain⟨rs,c,rk⟩:=we (P:=X.prog) (w:=X.w) rel
 obtain⟨z,hd,vs0,r0,dd⟩:=Qb I2.hok e
 cases r0
 refine⟨rs,c,dd,fun h' dd' hs=>⟨.ref s.heap.objs.size,_,?_,rfl,q2⟩⟩
 have hz:(ud [] kvs).length≤sizeLine:=by
  have h1:=qa kvs []
  rw[CM]at h1
  rw[DP];lia
 have he:∃q,h'.get? s.heap.objs.size=some q:=let ⟨q,_,_,hq,_⟩:=dd';⟨q,hq⟩
 exact Bw I2 (by rw[e];exact True.intro) hs he (Nq hz hd (rk.merge .nil) dd')
structure M1 (X:Cx) (o:Expr) (m:Str) (apos:Pos) (e:Expr) (cpos:Pos):Prop where
 base:attributeBase o m X.env (eval o X.env)=eval o X.env
 few:((backTo cpos (starEach [e] X.env)).all (fun x=>!x.1)&&(backToKw cpos (keywordEach [] X.env)).all (fun x=>x.1.isSome)
  && decide (([e]:List Expr).length+([]:List Keyword).length+(if([]:List Keyword).isEmpty then 0 else 1)<30))=true
 line:(apos.endLine==cpos.line)=true
 trees:backTo cpos (starEach [e] X.env)=[(false,eval e X.env)]
structure M2 (X:Cx) (o:Expr) (m:Str) (apos:Pos) (e f:Expr) (cpos:Pos):Prop where
 base:attributeBase o m X.env (eval o X.env)=eval o X.env
 few:((backTo cpos (starEach [e,f] X.env)).all (fun x=>!x.1)&&(backToKw cpos (keywordEach [] X.env)).all (fun x=>x.1.isSome)
  && decide (([e,f]:List Expr).length+([]:List Keyword).length+(if([]:List Keyword).isEmpty then 0 else 1)<30))=true
 line:(apos.endLine==cpos.line)=true
 trees:backTo cpos (starEach [e,f] X.env)=[(false,eval e X.env),(false,eval f X.env)]
noncomputable def IsD (H:Hp) (a:Addr):Prop:=(∃kvs,Rd H a (.dK kvs))∨∃kvs,Rd H a (.dT kvs)
theorem Nr {X:Cx} {pins:List (Addr×Obj)} {σ:St} {H:Hp} {s:Shared} {a:Addr} (I:Inv X pins σ H s) (d:IsD H a) :
  s.TypeIs (.ref a) "dict"∧(∀b,Value.ref a=.ref b→∃ob,s.heap.get? b=some ob∧ob.dict=none)∧(a==sysModules)=false:=by
 rcases d with⟨kvs,e⟩ | ⟨kvs,e⟩
 ·obtain⟨_,hd,vs,_,dd⟩:=G7 I.hok e
  refine⟨dd.typeIs,fun b q=>?_,hd⟩
  cases q
  obtain⟨ob,_,_,h1,h2,_⟩:=dd
  exact⟨ob,h1,h2.2.1⟩
 ·obtain⟨_,hd,xs,_,dd⟩:=G8 I.hok e
  refine⟨dd.typeIs,fun b q=>?_,hd⟩
  cases q
  obtain⟨ob,_,_,h1,h2,_⟩:=dd
  exact⟨ob,h1,h2.2.1⟩
section
variable {X : Cx} {pins : List (Addr × Obj)} {σ : St} {H : Hp} {s : Shared} {a : Addr} {y d : V} {u r : Value} {o : Option V} {A : Around} {E : Value → Shared → Prop}
theorem Tq {Q:Value→Shared→Prop} (hu:A.units+1<cLine) (I:Inv X pins σ H s) (g:Ld H a y o) (ry:RelV y u) (rd:RelV d r) (h:∀w' s',Inv X pins σ H s'→RelV (o.getD d) w'→Q w' s') :
  wpAny (model X.prog X.w) A (call (.builtin "dict.get") [.ref a,u,r]) Q E s:=by
 rcases g with⟨kvs,k,e,ey,l⟩ | ⟨kvs,k,b,e,ey,eb,l⟩
 ·subst ey
  obtain⟨z,hd,vs,rel,dd⟩:=G7 I.hok e
  refine call_meetsIn GM dd.typeIs IR (IK _ _ _) (meets_dict_get_default (c8 X.prog X.w) a (Fj ry) hd r) ⟨_,dd.mapOf,h _ _ (I.tok _) ?_⟩
  rw[l]
  exact(rel.val k).getD rd
 ·subst ey
  cases(show u=Value.ref b from ry)
  obtain⟨z,hd,xs,rel,dd⟩:=G8 I.hok e
  refine call_meetsIn GM dd.typeIs IR (IK _ _ _) (meetsH_dict_get_default (tupleKind (c8 X.prog X.w)) a b hd r) ⟨FV hu,k,xs,Aa I.hok eb,dd,h _ _ (I.tok _) ?_⟩
  rw[l]
  exact(rel.val k).getD rd
end
noncomputable def Tr (td ty tx:TE):TE:=fun σ H Q=>td σ H fun x H1=>∃a,x=.ref a∧IsD H1 a∧ty σ H1 fun y H2=>tx σ H2 fun z H3=>∃o,Ld H3 a y o∧Q (o.getD z) H3
section
variable {X : Cx} {o e f : Expr} {apos cpos : Pos} {td ty tx : TE}
theorem Li (hu:X.A.units+1<cLine) (ho:PE X o td) (he:PE X e ty) (hf:PE X f tx) (m:M2 X o "get" apos e f cpos):PE X (.Call (.Attribute o "get" apos) [e,f] [] cpos) (Tr td ty tx):=by
 intro pins s σ H Q I h
 refine wpAny_Call_method m.base m.few m.line IL GM PySem.F.type_dict_get (thn (ho pins s σ H _ I h) fun u s1 ⟨x,H1,I1,rx,a,ex,d,q1⟩=>?_)
 subst ex
 obtain rfl:u=Value.ref a:=rx
 obtain⟨t1,t2,_⟩:=Nr I1 d
 refine⟨t1,t2,?_⟩
 rw[m.trees]
 refine EU rfl (JH (DK (thn (he pins s1 σ H1 _ I1 q1) fun iv s2 ⟨y,H2,I2,ry,q2⟩ =>
  DK (thn (hf pins s2 σ H2 _ I2 q2) fun fv s3 ⟨z,H3,I3,rz,ov,g,q3⟩=>EC ?_))))
 exact Tq hu I3 g ry rz fun w' s4 I4 rw'=>⟨_,H3,I4,rw',q3⟩
end
end L2
namespace Att
open PySem PySem.W PySem.Calls PyProof.Rows
theorem ue {P:Params} {h:Heap}:∀(ns:List Int) (vs:List Value),WellAll P h vs (ns.map WData.int)→IntsAre vs ns:=by
 intro ns
 induction ns with
 | nil =>
  intro vs w
  rw[CU]at w
  cases w
  exact .nil
 | cons n ns ih =>
  intro vs w
  rw[AS]at w
  cases w with
  | cons a b =>
   cases a
   exact .cons _ _ (ih _ b)
theorem Hb {l:OpenLaw} {n:Nat} (hn:l.most=some n) {P:Params} {h:Heap} {args:List WData} {vals:List Value}
  (hpre:l.row.toRowW.claim.pre args=true) (hwl:WellAll P h vals args) :
  ∃a vs ns,vals=[Value.ref a]∧args=[WData.list (ns.map WData.int)]∧h.get? a=some {cls:=.type "list",data:=.seq vs.toArray}∧IntsAre vs ns∧ns.length≤n:=by
 have hsh:WShape.hasAll [] args [.list .int]=true:=(pre_splitW hpre).1
 have hc:l.pre.holds [] {args:=args}=true:=(pre_splitW hpre).2
 obtain⟨d,r,rfl,h1,h2⟩:=hasAllW_cons hsh
 obtain rfl:=hasAllW_nil h2
 obtain⟨xs,rfl,h3⟩:=hasW_list h1
 obtain⟨ns,rfl⟩:=items_int h3
 have hlen:ns.length≤n:=by
  unfold OpenLaw.pre at hc
  have h4:(WTm.not (.lt (.lit (.int (n:Int))) (.len (.arg 0)))).holds [] {args:=[.list (ns.map .int)]}=true:=by
   have h4:=(holds_andW hc).1
   rw[hn]at h4
   exact h4
  have h5:=condW_of h4 (w_not (w_lt w_lit (w_len_list (w_arg rfl))))
  rw[AF]at h5
  refine Nat.le_of_not_lt fun q=>?_
  have q':(n:Int)<((ns.length:Nat):Int):=by lia
  first
   | (rw[decide_eq_true q']at h5;exact absurd h5 (by decide))
   | (simp at h5;lia)
 cases hwl with
 | cons w1 w2 =>
  cases w2
  cases w1 with
  | list ho hall=>exact⟨_,_,ns,rfl,rfl,ho,ue ns _ hall,hlen⟩
theorem Hc (l:OpenLaw) (args:List WData):l.row.toRowW.claim.post args (.bool true) args=true :=
 postW_of (r:=l.row.toRowW) (X:=(true==true))
  (show WShape.has [] (.bool true) .bool=true by first | rfl | decide | simp[WShape.has,WShape.arms,WShape.armsAll])
  (show(WTm.eq .res (.lit (.bool true))).value [] {args:=args,res:=some (.bool true),after:=args}=some (.bool (true==true))from w_eq_bool (w_res rfl) w_lit) rfl
theorem Bx {l:OpenLaw} {n:Nat} {q:Program} {loose:List Str} {XP:(Str→Option Value)→Heap→Prop} {YP:World→Heap→Prop} {d:DefRec}
  (hn:l.most=some n) (hdf:d.params.defaults=[])
  (call:∀(w:World) (s₀ s₁:Shared) (mg mb:Str→Option Value) (fa:Addr) (o:Obj) (pm cd doc:Value) (a:Addr) (vs:List Value) (ns:List Int),
   Ground q loose [] XP w s₀ mg mb s₁.heap→YP w s₁.heap →
   s₁.heap.get? fa=some o→o.data=.func (docDef d.name d.params d.body d.scope pm cd doc)→s₁.heap.CodeRec cd d.name→mg d.name=some (.ref fa) →
   s₁.heap.get? a=some {cls:=.type "list",data:=.seq vs.toArray}→IntsAre vs ns→ns.length≤n→s₁.gens=#[] →
   codeAny (model l.prog w) callerA (.call (.ref fa) ⟨[.ref a],[]⟩) (fun r s'=>r=.ok (.ret (.bool true))∧OldK s₁.heap s'.heap∧s'.os=s₁.os∧AllBare s'.gens) s₁) :
  WalkO q loose XP YP l.row.toRowW d [] (fun f vs=>PySem.call f vs):=by
 intro w s₀ s₁ mg mb G Y fa o pm cd doc dV kV ho hd hcd hD hmg hg args vals as hpre hlay hrd hwl hlo
 obtain rfl:dV=.none:=Dflts.none hD hdf
 obtain rfl:kV=.none:=Dflts.noKw hD
 obtain⟨a,vs,ns,rfl,rfl,hobj,hints,hlen⟩:=Hb hn hpre hwl
 refine enter_call (Gt (call w s₀ s₁ mg mb fa o pm cd doc a vs ns G Y ho (fd_plain hd) hcd hmg hobj hints hlen hg) fun r s' hq=>?_)
 obtain⟨rfl,h2,h3,h4⟩:=hq
 exact⟨.inl ⟨.bool true,.bool true,[],rfl,fun _=>rfl,.bool true,Hc l _,fun _=>⟨List.Pairwise.nil,fun _ hm=>(nomatch hm)⟩⟩,h2,h3,h4⟩
end Att
namespace L2
open PySem PySem.Spec PyProof.Rows
noncomputable def FzL (K:PySem.W.Frag) (H:Hp) (a:Addr) (xs:List V):Prop :=
 (∃o,H a=some (.frz o (.lst xs))) ∨
  ∃(its:List Value) (n:Nat),K.lookup a=some {cls:=.type "list",data:=.seq its.toArray n}∧xs.length≤sizeLine∧cq xs its
theorem vals_ints:∀{vs:List Value} {ns:List Int},IntsAre vs ns→cq (ns.map V.int) vs
 | _,_,.nil=>.nil
 | _,_,.cons n t h=>.cons ⟨t,rfl⟩ (vals_ints h)
noncomputable def Xb (H:Hp):Prop:=∀b,H b=none∨∃o xs,H b=some (.frz o (.lst xs))
theorem Lj {P:Program} {w:World} {K:PySem.W.Frag} {mg mb:Str→Option Value} {CX:CXT} {k:Nat} {fa a:Addr} {fd:FuncData} {x:Str} {sp:Sp} {s₁:Shared} {vs:List Value} {ns:List Int}
  (KX:K.In s₁.heap) (hns:s₁.heap.Ns mainGlobals mg) (hb:s₁.heap.Ns builtinsNs mb) (hbb:∀x:Str,x≠"__name__"→mb x=bootBuiltins x) (hlim:s₁.heap.NoLimit) (hg:s₁.gens=#[])
  (ha:s₁.heap.get? a=some {cls:=.type "list",data:=.seq vs.toArray}) (hi:IntsAre vs ns) (hl:ns.length≤sizeLine) (hr:Room k callerA)
  (F:∀base:Heap,K.In base→base.Ns mainGlobals mg→FnOk P w K mg base CX k fa fd [x] sp) (hbind:∀(s:Shared) (u:Value),BindsTo s fd ⟨[u],[]⟩ [(x,u)])
  (hsp:∀H:Hp,Xb H→FzL K H a (ns.map V.int)→sp [.ref a] H (fun v _=>v=.bl true) fun _ _ _=>False)
  (hCX:∀H e s',CX [] H s₁ (fun _ _ _=>False) e s'→False) :
  codeAny (model P w) callerA (.call (.ref fa) ⟨[.ref a],[]⟩) (fun r s'=>r=.ok (.ret (.bool true))∧OldK s₁.heap s'.heap∧s'.os=s₁.os∧AllBare s'.gens) s₁:=by
 have rv:=vals_ints hi
 have lenV:=hi.length
 -- from an abstract heap in which nothing but the script may be tracked
 have core:∀H:Hp,Xb H→FzL K H a (ns.map V.int)→HOk P w H s₁.heap→(∀b,H b≠none→b=a)→(H a≠none→K.lookup a=none) →
   codeAny (model P w) callerA (.call (.ref fa) ⟨[.ref a],[]⟩) (fun r s'=>r=.ok (.ret (.bool true))∧OldK s₁.heap s'.heap∧s'.os=s₁.os∧AllBare s'.gens) s₁:=by
  intro H hO hS hok hA hK
  have base_of:∀{b:Addr} {o:Obj},s₁.heap.get? b=some o→H b=none→(K0 s₁.heap H).get? b=some o:=fun e n=>K1 e n
  have noA:∀{b:Addr} {o:Obj} {es:Array DictEntry} {ep:Nat},s₁.heap.get? b=some o→o.data=.dict es ep→H b=none:=fun {b o es ep} e d=>by
   cases q:H b with
   | none=>rfl
   | some u =>
    have e':b=a:=hA b (by rw[q];simp)
    subst e'
    rw[ha]at e;cases e
    have d':Data.seq vs.toArray _=Data.dict es ep:=d
    cases d'
  have nsK:∀{b:Addr} {m:Str→Option Value},s₁.heap.Ns b m→(K0 s₁.heap H).Ns b m:=fun {b m} ⟨o,es,ep,e,d,r⟩=>⟨o,es,ep,base_of e (noA e d),d,r⟩
  have hKb:K.In (K0 s₁.heap H):=fun b o e=>base_of (KX b o e) (by
   cases q:H b with
   | none=>rfl
   | some u =>
    have e':b=a:=hA b (by rw[q];simp)
    subst e'
    rw[hK (by rw[q];simp)]at e;cases e)
  have hM:Mod K mg (K0 s₁.heap H):=⟨hKb,nsK hns,⟨mb,nsK hb,hbb⟩,let ⟨mc,h1,h2⟩:=hlim;⟨mc,nsK h1,h2⟩⟩
  have e0:Env0 P w K mg (K0 s₁.heap H) callerA [] s₁ H:=⟨rfl,hM,fun b o e=>Po e,Nat.le_of_eq (Gu _ _),trivial,fun b hb=>absurd (show b∈([]:List Addr)from hb) (by simp),hok,.of_eq hg⟩
  refine Gt ((F _ hKb (nsK hns)).run callerA [] s₁ H ⟨[.ref a],[]⟩ [.ref a] [.ref a] _ _ hr e0 (hbind s₁ (.ref a)) (.cons rfl .nil) (hsp H hO hS)) fun r s' h=>?_
  cases r with
  | error e=>exact(hCX H e s' h).elim
  | ok fl =>
   cases fl with
   | next=>exact False.elim h
   | brk=>exact False.elim h
   | cont=>exact False.elim h
   | ret u =>
    obtain⟨v,H',os,bare,un,hok',r',q⟩:=h
    have q':v=.bl true:=q
    subst q'
    obtain rfl:u=Value.bool true:=r'
    refine⟨rfl,OldK.of_keep fun b o e=>?_,os,bare⟩
    cases q:H b with
    | none=>exact un.keep b o e q (by intro z;exact absurd (show b∈([]:List Addr)from z) (by simp)) (by simp)
    | some u =>
     rcases hO b with z | ⟨ob,xs,z⟩
     ·rw[q]at z;cases z
     ·have z2:=un.frzs b ob _ z
      obtain⟨e1,_⟩:=hok b _ z
      obtain⟨e2,_⟩:=hok' b _ z2
      rw[e]at e1;cases e1
      exact e2
 cases hk:K.lookup a with
 | some o =>
  -- the script is one of the module's own objects
  have e:=KX a o hk
  rw[ha]at e
  cases e
  refine core (fun _=>none) (fun _=>.inl rfl) (.inr ⟨vs,_,hk,by rw[AF];exact hl,rv⟩) (fun b u z=>by have z':(none:Option HO)=some u:=z;cases z') (fun b z=>absurd rfl z) fun z=>absurd rfl z
 | none =>
  refine core (fun b=>if b=a then some (.frz {cls:=.type "list",data:=.seq vs.toArray} (.lst (ns.map V.int)))else none) (fun b=>?_) (.inl ⟨{cls:=.type "list",data:=.seq vs.toArray},if_pos rfl⟩) (fun b u z=>?_) (fun b z=>?_) fun _=>hk
  ·by_cases hb:b=a
   ·exact .inr ⟨_,_,if_pos hb⟩
   ·exact .inl (if_neg hb)
  ·by_cases hb:b=a
   ·have z':=(if_pos hb).symm.trans z
    cases z'
    subst hb
    exact⟨ha,by rw[AF];exact hl,vs,_,rv,ha⟩
   ·have z':=(if_neg hb).symm.trans z
    cases z'
  ·by_cases hb:b=a
   ·exact hb
   ·exact absurd (if_neg hb) z
end L2
namespace L2
open PySem PySem.Spec PyProof.Rows
noncomputable abbrev KOf {K:PySem.W.Frag} {h:Heap} (_:K.In h):PySem.W.Frag:=K
theorem Qf {l:PySem.W.OpenLaw} {n k:Nat} {q:Program} {loose:List Str} {XP:(Str→Option Value)→Heap→Prop} {YP:World→Heap→Prop} {d:DefRec} {K:Params→PySem.W.Frag} {CX:World→CXT} {sp:World→Sp} {x:Str}
  (hn:l.most=some n) (hn2:n≤sizeLine) (hdf:d.params.defaults=[]) (hr:Room k callerA)
  (hY:∀(w:World) (h:Heap),YP w h→(K w.params).In h)
  (F:∀(w:World) (mg:Str→Option Value) (fa:Addr) (h:Heap),(K w.params).In h→h.Ns mainGlobals mg→mg d.name=some (.ref fa) →
   ∃fd:FuncData,(∀(s:Shared) (u:Value),BindsTo s fd ⟨[u],[]⟩ [(x,u)]) ∧
    ∀base:Heap,(K w.params).In base→base.Ns mainGlobals mg→FnOk l.prog w (K w.params) mg base (CX w) k fa fd [x] (sp w))
  (hsp:∀(w:World) (H:Hp) (a:Addr) (ns:List Int),ns.length≤n→Xb H→FzL (K w.params) H a (ns.map V.int)→sp w [.ref a] H (fun v _=>v=.bl true) fun _ _ _=>False)
  (hCX:∀(w:World) (H:Hp) (s:Shared) (e:Value) (s':Shared),CX w [] H s (fun _ _ _=>False) e s'→False) :
  PySem.W.WalkO q loose XP YP l.row.toRowW d [] (fun f vs=>PySem.call f vs):=by
 refine Att.Bx hn hdf fun w s₀ s₁ mg mb fa o pm cd doc a vs ns G Y ho hd hcd hmg hobj hints hlen hg=>?_
 have KX:=hY w _ Y
 obtain⟨fd,hb,hF⟩:=F w mg fa _ KX G.T.g hmg
 exact Lj KX G.T.g G.T.b G.T.builtins G.T.nolimit hg hobj hints (Do hlen hn2) hr hF hb (fun H hO hS=>hsp w H a ns hlen hO hS) fun H e s'=>hCX w H s₁ e s'
end L2
namespace L2
open PySem PySem.Spec PyProof.Rows
noncomputable def bf (s:Stmt):Arguments:=match s with
 | .FunctionDef _ a _ _ _ _ _ _ _ _=>a
 | _=>{posonlyargs:=[],args:=[],vararg:=none,kwonlyargs:=[],kw_defaults:=[],kwarg:=none,defaults:=[]}
noncomputable def bc (s:Stmt):List Stmt:=match s with
 | .FunctionDef _ _ b _ _ _ _ _ _ _=>b
 | _=>[]
noncomputable def ao (s:Stmt):Scope:=match s with
 | .FunctionDef _ _ _ _ _ _ sc _ _ _=>sc
 | _=>{kind:=.function,names:=[],isGenerator:=false,isCoroutine:=false}
noncomputable abbrev CX0:CXT:=fun _ _ _ _ _ _=>False
noncomputable abbrev E0:XK:=fun _ _ _=>False
theorem Xc {X:Cx}:G1 CX0 X E0:=fun _ _ _ _ _ _ _ h=>h.elim
structure Fun (K:PySem.W.Frag) (x qual:Str) (st:Stmt) (f:Addr) (fd:FuncData):Prop where
 ex:∃(oc:Value) (od:Option Addr) (kV doc pm:Value) (an:Option Addr) (cdv ct:Value) (osl:Array (Option Value)),
  fd=PySem.W.fnOf x qual (bf st) (bc st) (ao st) .none kV doc pm an cdv ct∧K.lookup f=some ⟨oc,od,.func fd,osl⟩∧PySem.W.codeIn K cdv qual=true
 kp:PySem.W.keepIn K (.ref f)=true
section
variable {P : Program} {w : World} {K : PySem.W.Frag} {mg : Str → Option Value} {base : Heap}
theorem Fun.ok {x qual:Str} {st:Stmt} {f:Addr} {fd:FuncData} {N ps:List Str} {k:Nat} {sp:Sp} (F:Fun K x qual st f fd) (S:FnScope N ps (ao st)) (len:∀vs H Q E,sp vs H Q E→vs.length=ps.length)
  (hbody:∀(cdv:Value) (A:Around) (outer:List Env) (s:Shared) (H:Hp) (vs:List V) (Q:VK) (E:XK),Room k (A.deeper (envOfC qual (ao st) s.heap.objs.size f cdv))→sp vs H Q E →
   ∃t,PSs (Nk CX0 P w K mg base N qual (ao st) f cdv A outer s H E).nox (bc st) t∧t {nx:=fun _ H'=>Q .non H',rt:=Q} (start N vs) H):FnOk P w K mg base CX0 (k+1) f fd ps sp:=by
 obtain⟨oc,od,kV,doc,pm,an,cdv,ct,osl,rfl,lk,hcd⟩:=F.ex
 refine W4 lk hcd S len fun A outer s H vs Q E hr hsp=>?_
 obtain⟨t,h,q⟩:=hbody cdv A outer s H vs Q E hr hsp
 exact⟨t,h.nox,q⟩
theorem Ts {x qual:Str} {st:Stmt} {f:Addr} {oc:Value} {od an:Option Addr} {osl:Array (Option Value)} {kV doc pm cdv ct:Value} (l:K.lookup f=some ⟨oc,od,.func (PySem.W.fnOf x qual (bf st) (bc st) (ao st) .none kV doc pm an cdv ct),osl⟩)
  (c:PySem.W.codeIn K cdv qual=true) (k:PySem.W.keepIn K (.ref f)=true):Fun K x qual st f (PySem.W.fnOf x qual (bf st) (bc st) (ao st) .none kV doc pm an cdv ct):=⟨⟨oc,od,kV,doc,pm,an,cdv,ct,osl,rfl,l,c⟩,k⟩
end
theorem Ab {n:Nat} (h:n≤1000):n<sizeLine:=Nat.lt_of_le_of_lt h (by decide)
section
variable {X : Cx}
theorem pv (i:Nat) {x:Str} {pos:Pos} (hN:X.N[i]? = some x:=by rfl) (hv:Vis X.env.scope x:=by first | exact Or.inl rfl | exact Or.inr (Or.inl rfl) | exact Or.inr (Or.inr rfl)) (hd:(x==("__debug__":Str))=false:=by decide)
  (hcd:(x==("__classdict__":Str))=false:=by decide):PE X (.Name x pos) (Yk i):=vz hN hv hd hcd
end
end L2
namespace Lp
open PySem
inductive D where
 | non | bl (b:Bool) | int (i:Int) | str (x:Str)
 | tup (ds:List D) | lst (ds:List D) | loc (n:Nat)
 deriving Inhabited
noncomputable def D.pureN:Nat→D→Bool
 | 0,d=>match d with | .tup _=>false | .lst _=>false | .loc _=>false | _=>true
 | k+1,d=>match d with | .tup ds=>ds.all (D.pureN k) | .lst ds=>ds.all (D.pureN k) | .loc _=>false | _=>true
noncomputable abbrev D.pure (d:D):Bool:=D.pureN 8 d
inductive O where
 | l (ds:List D)
 | r (ds:List D)
 | d (kvs:List (D×D))
 | dt (kvs:List (D×D))
 | dead
 deriving Inhabited
noncomputable abbrev Sto:=List O
noncomputable abbrev Sl:=List (Option D)
inductive Res (α:Type) where
 | ok (a:α) (μ:Sto)
 | exc (c:Nat) (ds:List D) (μ:Sto)
 | stuck
namespace Res
variable {α β : Type}
noncomputable def bind (x:Res α) (f:α→Sto→Res β):Res β:=match x with
 | .ok a μ=>f a μ
 | .exc c ds μ=>.exc c ds μ
 | .stuck=>.stuck
@[simp] theorem bo (a:α) (μ:Sto) (f:α→Sto→Res β):(Res.ok a μ).bind f=f a μ:=rfl
@[simp] theorem Wi (c:Nat) (ds:List D) (μ:Sto) (f:α→Sto→Res β):(Res.exc c ds μ:Res α).bind f=.exc c ds μ:=rfl
@[simp] theorem Si (f:α→Sto→Res β):(Res.stuck:Res α).bind f=.stuck:=rfl
theorem bind_assoc {γ:Type} (x:Res α) (f:α→Sto→Res β) (g:β→Sto→Res γ):(x.bind f).bind g=x.bind fun a μ=>(f a μ).bind g:=by
 cases x<;>rfl
end Res
inductive Mk where | z | l | r
 deriving DecidableEq,Inhabited
inductive Bt where
 | len | tuple | list | sum | min | min1 | max | all | any | sorted | sortedSet | int | listRev | listRange | tupleRange
 deriving DecidableEq,Inhabited
inductive Mt where
 | append | pop | extend | extendT | insert | remove | reverse | clear | count | countL | get
 deriving DecidableEq,Inhabited
inductive Cl where
 | int | bool | tuple | list | str | own (c:Nat)
 deriving DecidableEq,Inhabited
inductive Tg where
 | one (i:Nat) | many (is:List Nat)
 deriving DecidableEq,Inhabited
inductive Cp where
 | eq | ne | eqM | neM | lt | le | gt | ge | is | isnot | in_ | notin
 deriving DecidableEq,Inhabited
mutual
inductive Ex where
 | var (i:Nat)
 | frz (i:Nat)
 | cst (d:D)
 | bin (op:Operator) (m:Mk) (a b:Ex)
 | neg (a:Ex)
 | not (a:Ex)
 | and (a b:Ex)
 | or (a b:Ex)
 | ite (c a b:Ex)
 | cmp (a:Ex) (r:Cps)
 | call (keep:Bool) (f:Nat) (es:Exs)
 | blt (b:Bt) (m:Mk) (es:Exs)
 | isi (a:Ex) (c:Cl)
 | meth (mt:Mt) (o:Ex) (es:Exs)
 | ix (a b:Ex)
 | dix (a b:Ex)
 | sl (m:Mk) (a:Ex) (lo hi:ExO)
 | tup (es:Exs)
 | lst (m:Mk) (es:Exs)
 | dic (t:Bool) (es:Exs)
 | inT (neg:Bool) (es:Exs) (d:Ex)
 | comp (m:Mk) (cap:List Nat) (nl:Nat) (tg:Tg) (it:It) (cs:Exs) (elt:Ex)
inductive Exs where
 | nil
 | cons (e:Ex) (es:Exs)
inductive Cps where
 | nil
 | cons (op:Cp) (e:Ex) (r:Cps)
inductive ExO where
 | no
 | so (e:Ex)
inductive It where
 | seq (e:Ex)
 | rng (a:Ex)
 | rng2 (a b:Ex)
 | rng3 (a b c:Ex)
 | zip (a b:Ex)
 | enum (a:Ex)
 | rev (a:Ex)
 | vals (a:Ex)
end
mutual
inductive Sm where
 | set (i:Nat) (e:Ex)
 | unp (is:List Nat) (e:Ex)
 | setx (o i v:Ex)
 | augx (op:Operator) (o i v:Ex)
 | setxT (o:Ex) (i:Exs) (v:Ex)
 | ex (e:Ex)
 | ite (c:Ex) (a b:Sms)
 | loop (tg:Tg) (it:It) (b:Sms)
 | ret (e:Ex)
 | raise (c:Nat) (es:Exs)
 | pass | brk | cont
 | never
inductive Sms where
 | nil
 | cons (s:Sm) (r:Sms)
end
@[irreducible] def lim:Nat:=2 ^ 24
theorem Nt:lim=2 ^ 24:=by with_unfolding_all rfl
theorem rg:1000000≤lim:=by rw[Nt];decide
noncomputable def dq (μ:Sto):D→Option (List D)
 | .tup ds=>some ds
 | .lst ds=>some ds
 | .loc n=>match μ[n]? with
  | some (.l ds)=>some ds
  | some (.r ds)=>some ds
  | _=>none
 | _=>none
noncomputable def listOf (μ:Sto):D→Option (List D)
 | .lst ds=>some ds
 | .loc n=>match μ[n]? with
  | some (.l ds)=>some ds
  | some (.r ds)=>some ds
  | _=>none
 | _=>none
noncomputable def o6 {α β:Type} (o:Option α) (k:α→Res β):Res β:=match o with
 | some a=>k a
 | none=>.stuck
@[simp] theorem pf {α β:Type} (a:α) (k:α→Res β):o6 (some a) k=k a:=rfl
@[simp] theorem Qg {α β:Type} (k:α→Res β):o6 none k=.stuck:=rfl
noncomputable def mkL (m:Mk) (ds:List D) (μ:Sto):Res D:=match m with
 | .z=>.ok (.lst ds) μ
 | .l=>if ds.all (D.pureN 8)=true then .ok (.loc μ.length) (μ++[.l ds])else .stuck
 | .r=>.ok (.loc μ.length) (μ++[.r ds])
mutual
noncomputable def deq:D→D→Bool
 | .non,.non=>true
 | .bl a,.bl b=>a==b
 | .int a,.int b=>decide (a=b)
 | .bl a,.int b=>decide ((if a then 1 else 0:Int)=b)
 | .int a,.bl b=>decide (a=(if b then 1 else 0:Int))
 | .str a,.str b=>decide (a=b)
 | .tup a,.tup b=>Gn a b
 | .lst a,.lst b=>Gn a b
 | _,_=>false
noncomputable def Gn:List D→List D→Bool
 | [],[]=>true
 | a::r,b::q=>deq a b&&Gn r q
 | _,_=>false
end
noncomputable def rs1 (μ:Sto):Nat→D→D
 | 0,d=>d
 | _,.loc n=>match μ[n]? with
  | some (.l ds)=>.lst ds
  | some (.r ds)=>.lst ds
  | _=>.loc n
 | k+1,.tup ds=>.tup (ds.map (rs1 μ k))
 | k+1,.lst ds=>.lst (ds.map (rs1 μ k))
 | _,d=>d
noncomputable def rs (μ:Sto) (d:D):D:=rs1 μ 8 (rs1 μ 8 (rs1 μ 8 d))
noncomputable def fu:List D→Option (List Int)
 | []=>some []
 | .int i::r=>(fu r).map (i::·)
 | _=>none
noncomputable def o7:List D→Option (List Bool)
 | []=>some []
 | .bl i::r=>(o7 r).map (i::·)
 | _=>none
noncomputable def lexLt:List Int→List Int→Bool
 | _,[]=>false
 | [],_::_=>true
 | x::xs,y::ys=>if x=y then lexLt xs ys else decide (x<y)
noncomputable def rowsOf:List D→Option (List (List Int))
 | []=>some []
 | .tup ds::r=>(fu ds).bind fun x=>(rowsOf r).map (x::·)
 | _=>none
noncomputable def ixN (n:Nat) (i:Int):Option Nat:=if 0≤i then(if i<n then some i.toNat else none)else if -(n:Int)≤i then some (i+n).toNat else none
noncomputable def sIx (n d:Nat):Option Int→Nat
 | none=>d
 | some v=>if v<0 then(v+(n:Int)).toNat else min v.toNat n
noncomputable def cut (ds:List D) (lo hi:Option Int):List D:=(ds.drop (sIx ds.length 0 lo)).take (sIx ds.length ds.length hi-sIx ds.length 0 lo)
noncomputable def CMul (i j:Int):Prop:=(-(2 ^ 64)<i∧i<2 ^ 64)∨(-(2 ^ 64)<j∧j<2 ^ 64)
instance (i j:Int):Decidable (CMul i j):=by unfold CMul;infer_instance
noncomputable def opI (op:Operator) (i j:Int) (μ:Sto):Res D:=match op with
 | .Add=>.ok (.int (i+j)) μ
 | .Sub=>.ok (.int (i-j)) μ
 | .Mult=>if CMul i j then .ok (.int (i*j)) μ else .stuck
 | .FloorDiv=>if 0<j∧j<1073741824 then .ok (.int (i / j)) μ else .stuck
 | .Mod=>if 0<j then .ok (.int (i % j)) μ else .stuck
 | .Pow=>if 0≤j∧j≤1000000∧i.natAbs<2 ^ 64 then .ok (.int (i ^ j.toNat)) μ else .stuck
 | .RShift=>if 0≤j then .ok (.int (i / 2 ^ j.toNat)) μ else .stuck
 | _=>.stuck
noncomputable def opD (op:Operator) (m:Mk) (a b:D) (μ:Sto):Res D:=match a,b with
 | .int i,.int j=>opI op i j μ
 | .tup xs,.tup ys=>match op with
  | .Add=>if xs.length+ys.length≤lim then .ok (.tup (xs++ys)) μ else .stuck
  | _=>.stuck
 | x,.int j=>match op,listOf μ x with
  | .Mult,some xs=>if xs.length*j.toNat≤lim ∧ -(2 ^ 63)≤j∧j<2 ^ 63 then mkL m (List.replicate j.toNat xs).flatten μ else .stuck
  | _,_=>.stuck
 | x,y=>match op,listOf μ x,listOf μ y with
  | .Add,some xs,some ys=>if xs.length+ys.length≤lim then mkL m (xs++ys) μ else .stuck
  | _,_,_=>.stuck
noncomputable def flat:D→Bool
 | .tup _=>false
 | .lst _=>false
 | .loc _=>false
 | _=>true
noncomputable def dk (μ:Sto) (x:D):Option (List D×Option (Nat×O)):=match x with
 | .tup ds=>some (ds,none)
 | .lst ds=>some (ds,none)
 | .loc n=>match μ[n]? with
  | some (.l ds)=>some (ds,some (n,.l ds))
  | some (.r ds)=>some (ds,some (n,.r ds))
  | _=>none
 | _=>none
noncomputable def Lk:D→Bool
 | .int _=>true
 | .str _=>true
 | _=>false
noncomputable def Z3:D→Bool
 | .tup ds=>ds.all Lk
 | _=>false
noncomputable def Hd (k:D):List (D×D)→Option D
 | []=>none
 | (x,v)::r=>if deq x k then some v else Hd k r
noncomputable def dput (k v:D) (kvs:List (D×D)):List (D×D) :=
 if(kvs.any fun p=>deq p.1 k)=true then kvs.map (fun p=>if deq p.1 k=true then(p.1,v)else p)else kvs++[(k,v)]
noncomputable def dictAt (μ:Sto) (o k:D):Option (List (D×D)):=match o with
 | .loc n=>match μ[n]? with
  | some (.d kvs)=>if Lk k=true then some kvs else none
  | _=>none
 | _=>none
noncomputable def Qh (μ:Sto) (o:D) (ks:List D):Option (List (D×D)):=match o with
 | .loc n=>match μ[n]? with
  | some (.dt kvs)=>if ks.all Lk=true then some kvs else none
  | _=>none
 | _=>none
noncomputable def d9:List (Option D)→Option (List D)
 | []=>some []
 | none::_=>none
 | some d::r=>match d9 r with
  | some ds=>some (d::ds)
  | none=>none
noncomputable def bu (μ:Sto):Nat→D→Option D
 | 0,d=>if flat d=true then some d else none
 | k+1,d=>match d with
  | .tup ds=>(d9 (ds.map (bu μ k))).map .tup
  | .lst ds=>(d9 (ds.map (bu μ k))).map .lst
  | .loc n=>match μ[n]? with
   | some (.l ds)=>(d9 (ds.map (bu μ k))).map .lst
   | some (.r ds)=>(d9 (ds.map (bu μ k))).map .lst
   | _=>none
  | d=>some d
noncomputable def cpD (op:Cp) (a b:D) (μ:Sto):Res D:=match op with
 | .eq=>if a.pure=true∧b.pure=true then .ok (.bl (deq a b)) μ else .stuck
 | .ne=>if a.pure=true∧b.pure=true then .ok (.bl (!deq a b)) μ else .stuck
 | .eqM=>match bu μ 8 a,bu μ 8 b with
  | some x,some y=>.ok (.bl (deq x y)) μ
  | _,_=>.stuck
 | .neM=>match bu μ 8 a,bu μ 8 b with
  | some x,some y=>.ok (.bl (!deq x y)) μ
  | _,_=>.stuck
 | .lt=>match a,b with
  | .int i,.int j=>.ok (.bl (decide (i<j))) μ
  | .tup x,.tup y=>match fu x,fu y with
   | some xs,some ys=>.ok (.bl (lexLt xs ys)) μ
   | _,_=>.stuck
  | _,_=>.stuck
 | .le=>match a,b with
  | .int i,.int j=>.ok (.bl (decide (i≤j))) μ
  | .tup x,.tup y=>match fu x,fu y with
   | some xs,some ys=>.ok (.bl (!lexLt ys xs)) μ
   | _,_=>.stuck
  | _,_=>.stuck
 | .gt=>match a,b with
  | .int i,.int j=>.ok (.bl (decide (j<i))) μ
  | _,_=>.stuck
 | .ge=>match a,b with
  | .int i,.int j=>.ok (.bl (decide (j≤i))) μ
  | .tup x,.tup y=>match fu x,fu y with
   | some xs,some ys=>.ok (.bl (!lexLt xs ys)) μ
   | _,_=>.stuck
  | _,_=>.stuck
 | .is=>match b with
  | .non=>.ok (.bl (match a with | .non=>true | _=>false)) μ
  | .bl k=>match a with
   | .bl j=>.ok (.bl (j==k)) μ
   | .non=>.ok (.bl false) μ
   | _=>.stuck
  | _=>.stuck
 | .isnot=>match b with
  | .non=>.ok (.bl (match a with | .non=>false | _=>true)) μ
  | .bl k=>match a with
   | .bl j=>.ok (.bl (!(j==k))) μ
   | .non=>.ok (.bl true) μ
   | _=>.stuck
  | _=>.stuck
 | .in_=>match dq μ b with
  | some ds=>if flat a=true∧ds.all flat=true then .ok (.bl (ds.any fun y=>deq y a)) μ else .stuck
  | none=>match dictAt μ b a with
   | some kvs=>.ok (.bl (Hd a kvs).isSome) μ
   | none=>.stuck
 | .notin=>match dq μ b with
  | some ds=>if flat a=true∧ds.all flat=true then .ok (.bl (!ds.any fun y=>deq y a)) μ else .stuck
  | none=>match dictAt μ b a with
   | some kvs=>.ok (.bl (!(Hd a kvs).isSome)) μ
   | none=>.stuck
noncomputable def insI (x:Int):List Int→List Int
 | []=>[x]
 | y::r=>if x≤y then x::y::r else y::insI x r
noncomputable def sortI:List Int→List Int
 | []=>[]
 | x::r=>insI x (sortI r)
noncomputable def Qi (x:List Int):List (List Int)→List (List Int)
 | []=>[x]
 | y::r=>if lexLt y x=true then y::Qi x r else x::y::r
noncomputable def vo:List (List Int)→List (List Int)
 | []=>[]
 | x::r=>Qi x (vo r)
noncomputable def He:Int→List Int→Int
 | x,[]=>x
 | x,y::r=>He (if y<x then y else x) r
noncomputable def wj (f:D→Sto→Res D) (ds:List D) (μ:Sto):Res D:=match ds with
 | [x]=>f x μ
 | _=>.stuck
@[simp] theorem ie (f:D→Sto→Res D) (x:D) (μ:Sto):wj f [x] μ=f x μ:=rfl
noncomputable def seq1 (f:List D→Sto→Res D) (x:D) (μ:Sto):Res D:=match dq μ x with
 | some xs=>f xs μ
 | none=>.stuck
noncomputable def Nu (f:List Int→Sto→Res D) (x:D) (μ:Sto):Res D:=match(dq μ x).bind fu with
 | some ns=>f ns μ
 | none=>.stuck
noncomputable def Fk (f:List Bool→Sto→Res D) (x:D) (μ:Sto):Res D:=match(dq μ x).bind o7 with
 | some ns=>f ns μ
 | none=>.stuck
noncomputable def yb (m:Mk) (x:D) (μ:Sto):Res D:=match listOf μ x with
 | some xs=>mkL m xs.reverse μ
 | none=>.stuck
noncomputable def minD (ds:List D) (μ:Sto):Res D:=match ds with
 | [.int i,.int j]=>.ok (.int (if j<i then j else i)) μ
 | _=>.stuck
noncomputable def maxD (ds:List D) (μ:Sto):Res D:=match ds with
 | [.int i,.int j]=>.ok (.int (if j > i then j else i)) μ
 | _=>.stuck
noncomputable def By (m:Mk) (xs:List D) (μ:Sto):Res D:=match rowsOf xs with
 | some rs=>if rs.all (fun r=>!r.isEmpty)=true then mkL m ((vo rs).map fun r=>.tup (r.map .int)) μ else .stuck
 | none=>.stuck
noncomputable def Dl (ns:List Int):List Int:=ns.foldl (fun σ k=>if σ.any (·==k)then σ else σ++[k]) []
noncomputable def Nv (m:Mk):D→Sto→Res D:=Nu fun ns μ=>if ns.length<64 then mkL m ((sortI (Dl ns)).map .int) μ else .stuck
noncomputable def Hf (m:Mk) (x:D) (μ:Sto):Res D:=match listOf μ x with
 | some xs=>if xs.length<64 then By m xs μ else .stuck
 | none=>.stuck
noncomputable def Tt:D→Sto→Res D:=Nu fun ns μ=>match ns with
 | n::r=>.ok (.int (He n r)) μ
 | []=>.stuck
noncomputable def Tu (x:D) (μ:Sto):Res D:=match x with
 | .bl b=>.ok (.int (if b then 1 else 0)) μ
 | .int i=>.ok (.int i) μ
 | _=>.stuck
noncomputable def Nw (f:List D→Sto→Res D) (x:D) (μ:Sto):Res D:=match x with
 | .int j=>if -(lim:Int)≤j∧j≤lim then f ((List.range j.toNat).map fun(i:Nat)=>D.int i) μ else .stuck
 | _=>.stuck
noncomputable def btD (b:Bt) (m:Mk) (ds:List D) (μ:Sto):Res D:=match b with
 | .len=>wj (seq1 fun xs μ=>.ok (.int xs.length) μ) ds μ
 | .tuple=>wj (seq1 fun xs μ=>.ok (.tup xs) μ) ds μ
 | .list=>wj (seq1 fun xs μ=>mkL m xs μ) ds μ
 | .listRev=>wj (yb m) ds μ
 | .sum=>wj (Nu fun ns μ=>.ok (.int ns.sum) μ) ds μ
 | .min=>minD ds μ
 | .max=>maxD ds μ
 | .all=>wj (Fk fun bs μ=>.ok (.bl (bs.all id)) μ) ds μ
 | .any=>wj (Fk fun bs μ=>.ok (.bl (bs.any id)) μ) ds μ
 | .sorted=>wj (Hf m) ds μ
 | .min1=>wj Tt ds μ
 | .sortedSet=>wj (Nv m) ds μ
 | .int=>wj Tu ds μ
 | .listRange=>wj (Nw fun xs μ=>mkL m xs μ) ds μ
 | .tupleRange=>wj (Nw fun xs μ=>.ok (.tup xs) μ) ds μ
noncomputable def Ll (c:Cl) (d:D) (μ:Sto):Res D:=match d,c with
 | .int _,.int=>.ok (.bl true) μ
 | .bl _,.int=>.ok (.bl true) μ
 | .bl _,.bool=>.ok (.bl true) μ
 | .tup _,.tuple=>.ok (.bl true) μ
 | .lst _,.list=>.ok (.bl true) μ
 | .str _,.str=>.ok (.bl true) μ
 | .loc n,.list=>match μ[n]? with
  | some (.l _)=>.ok (.bl true) μ
  | some (.r _)=>.ok (.bl true) μ
  | _=>.stuck
 | .loc _,_=>.stuck
 | _,.own _=>.stuck
 | _,_=>.ok (.bl false) μ
noncomputable def putL (n:Nat) (o:O) (ds:List D) (d:D) (μ:Sto):Res D:=match o with
 | .l _=>.ok d (μ.set n (.l ds))
 | .r _=>.ok d (μ.set n (.r ds))
 | _=>.stuck
noncomputable def fits (o:O) (d:D):Bool:=match o with
 | .l _=>d.pure
 | .r _=>true
 | _=>false
noncomputable def jx:O→Option (List D)
 | .l ds=>some ds
 | .r ds=>some ds
 | _=>none
noncomputable def mtL (mt:Mt) (n:Nat) (ob:O) (xs:List D) (ds:List D) (μ:Sto):Res D:=match mt with
 | .append=>wj (fun d μ=>if fits ob d=true∧xs.length<lim then putL n ob (xs++[d]) .non μ else .stuck) ds μ
 | .pop=>match ds with
  | []=>match xs.getLast? with
   | some d=>putL n ob xs.dropLast d μ
   | none=>.stuck
  | [.int i]=>if 0≤i∧i<lim then(match xs[i.toNat]? with
   | some d=>putL n ob (xs.eraseIdx i.toNat) d μ
   | none=>.stuck)else .stuck
  | _=>.stuck
 | .extend=>wj (fun y μ=>match listOf μ y with
  | some ys=>if ys.all (fits ob)=true∧xs.length+ys.length≤lim then putL n ob (xs++ys) .non μ else .stuck
  | none=>.stuck) ds μ
 | .extendT=>wj (fun y μ=>match y with
  | .tup ys=>if ys.all (fits ob)=true∧xs.length+ys.length≤lim then putL n ob (xs++ys) .non μ else .stuck
  | _=>.stuck) ds μ
 | .reverse=>match ds with
  | []=>putL n ob xs.reverse .non μ
  | _=>.stuck
 | .clear=>match ds with
  | []=>putL n ob [] .non μ
  | _=>.stuck
 | _=>.stuck
noncomputable def Ys (xs ds:List D) (μ:Sto):Res D:=wj (fun x μ=>if flat x=true∧xs.all flat=true then .ok (.int (xs.countP fun y=>deq y x)) μ else .stuck) ds μ
noncomputable def Z4 (o:D) (ds:List D) (μ:Sto):Res D:=match o with
 | .tup xs=>Ys xs ds μ
 | _=>.stuck
noncomputable def Z5 (o:D) (ds:List D) (μ:Sto):Res D:=match listOf μ o with
 | some xs=>Ys xs ds μ
 | none=>.stuck
noncomputable def jc (mt:Mt) (x:D) (μ:Sto):Bool:=match mt with
 | .get=>match x with
  | .loc n=>match μ[n]? with
   | some (.d _)=>true
   | _=>false
  | _=>false
 | .count=>match x with
  | .tup _=>true
  | _=>false
 | _=>(listOf μ x).isSome
noncomputable def Qj (o:D) (ds:List D) (μ:Sto):Res D:=match ds with
 | [k,x]=>match dictAt μ o k with
  | some kvs=>.ok ((Hd k kvs).getD x) μ
  | none=>.stuck
 | _=>.stuck
noncomputable def yc (mt:Mt) (o:D) (ds:List D) (μ:Sto):Res D:=match o with
 | .loc n=>match μ[n]? with
  | none=>.stuck
  | some ob=>match jx ob with
   | none=>.stuck
   | some xs=>mtL mt n ob xs ds μ
 | _=>.stuck
noncomputable def mtD (mt:Mt) (o:D) (ds:List D) (μ:Sto):Res D:=match mt with
 | .count=>Z4 o ds μ
 | .countL=>Z5 o ds μ
 | .get=>Qj o ds μ
 | mt=>yc mt o ds μ
noncomputable def Xd (a:D) (ks:List D) (v:D) (μ:Sto):Res Unit:=match a with
 | .loc n=>match μ[n]? with
  | some (.dt kvs)=>if ks.all Lk=true∧v.pure=true∧kvs.length<lim then .ok () (μ.set n (.dt (dput (.tup ks) v kvs)))else .stuck
  | _=>.stuck
 | _=>.stuck
noncomputable def Z6 (neg:Bool) (ks:List D) (a:D) (μ:Sto):Res D:=match Qh μ a ks with
 | some kvs=>.ok (.bl (neg ^^ (Hd (.tup ks) kvs).isSome)) μ
 | none=>.stuck
noncomputable def ixD (a b:D) (μ:Sto):Res D:=match b with
 | .int i=>match dq μ a with
  | some xs=>match ixN xs.length i with
   | some j=>match xs[j]? with
    | some d=>.ok d μ
    | none=>.stuck
   | none=>.stuck
  | none=>.stuck
 | _=>.stuck
noncomputable def ixL (a b:D) (μ:Sto):Res D:=match a with
 | .loc n=>ixD (.loc n) b μ
 | _=>.stuck
noncomputable def Xe (a b:D) (μ:Sto):Res D:=match dictAt μ a b with
 | some kvs=>match Hd b kvs with
  | some v=>.ok v μ
  | none=>.stuck
 | none=>.stuck
noncomputable def Yt (op:Operator) (a b:D) (μ:Sto):Res D:=match a,b with
 | .int i,.int j=>match op with
  | .Add=>.ok (.int (i+j)) μ
  | .Sub=>.ok (.int (i-j)) μ
  | _=>.stuck
 | _,_=>.stuck
noncomputable def slD (m:Mk) (a:D) (lo hi:Option Int) (μ:Sto):Res D:=match a with
 | .tup xs=>.ok (.tup (cut xs lo hi)) μ
 | x=>match listOf μ x with
  | some xs=>mkL m (cut xs lo hi) μ
  | none=>.stuck
noncomputable def Bz (a b v:D) (μ:Sto):Res Unit:=match a with
 | .loc n=>match μ[n]? with
  | none=>.stuck
  | some (.d kvs)=>if Lk b=true∧v.pure=true∧kvs.length<lim then .ok () (μ.set n (.d (dput b v kvs)))else .stuck
  | some ob=>match jx ob,b with
   | some xs,.int i=>match ixN xs.length i with
    | some j=>if fits ob v=true then(putL n ob (xs.set j v) .non μ).bind fun _ μ=>.ok () μ else .stuck
    | none=>.stuck
   | _,_=>.stuck
 | _=>.stuck
noncomputable def fw (tg:Tg) (d:D) (σ:Sl):Option Sl:=match tg with
 | .one i=>some (σ.set i (some d))
 | .many is=>match d with
  | .tup ds=>if ds.length=is.length then some ((is.zip ds).foldl (fun s p=>s.set p.1 (some p.2)) σ)else none
  | _=>none
noncomputable abbrev Gd:=Option (Nat×O)
noncomputable def gd (g:Gd) (μ:Sto):Prop:=match g with
 | none=>True
 | some (n,o)=>μ[n]? = some o
@[simp] theorem uf (μ:Sto):gd none μ=True:=rfl
open Classical in
noncomputable def mapR (g:Gd) (f:D→Sto→Res (List D)):List D→Sto→Res (List D)
 | [],μ=>if gd g μ then .ok [] μ else .stuck
 | d::ds,μ=>if gd g μ then(f d μ).bind fun xs μ1=>(mapR g f ds μ1).bind fun ys μ2=>.ok (xs++ys) μ2 else .stuck
inductive Fl where
 | nx (σ:Sl) | rt (d:D) | bk (σ:Sl) | ct (σ:Sl)
open Classical in
noncomputable def jy (g:Gd) (f:D→Sl→Sto→Res Fl):List D→Sl→Sto→Res Fl
 | [],σ,μ=>if gd g μ then .ok (.nx σ) μ else .stuck
 | d::ds,σ,μ=>if gd g μ then(f d σ μ).bind fun fl μ1=>match fl with
  | .nx σ1=>jy g f ds σ1 μ1
  | .ct σ1=>jy g f ds σ1 μ1
  | .bk σ1=>.ok (.nx σ1) μ1
  | .rt v=>.ok (.rt v) μ1 else .stuck
noncomputable def Nx (t:Bool) (ds:List D) (μ:Sto):Res D:=match ds with
 | []=>.ok (.loc μ.length) (μ++[if t then .dt []else .d []])
 | [.int a,x]=>if t=false∧x.pure=true then .ok (.loc μ.length) (μ++[.d [(.int a,x)]])else .stuck
 | [.int a,x,.int b,y]=>if t=false∧x.pure=true∧y.pure=true then .ok (.loc μ.length) (μ++[.d (dput (.int b) y [(.int a,x)])])else .stuck
 | _=>.stuck
noncomputable abbrev Phi:=Nat→List D→Sto→Res D
noncomputable def D.belowN (b:Nat):Nat→D→Bool
 | 0,d=>match d with | .tup _=>false | .lst _=>false | .loc n=>decide (n<b) | _=>true
 | k+1,d=>match d with | .tup ds=>ds.all (D.belowN b k) | .lst ds=>ds.all (D.belowN b k) | .loc n=>decide (n<b) | _=>true
noncomputable def jz (b:Nat):O→Bool
 | .r ds=>ds.all (D.belowN b 8)
 | _=>true
noncomputable def noR:O→Bool
 | .r _=>false
 | _=>true
noncomputable def sg (keep:Bool) (base:Nat) (r:Res D):Res D:=match r with
 | .ok d μ'=>if keep=true then .ok d μ' else if D.belowN base 8 d=true∧(μ'.take base).all (jz base)=true then .ok d (μ'.take base)else .stuck
 | x=>x
noncomputable def Yu (d:D) (μ:Sto):Res Bool:=match d with
 | .bl b=>.ok b μ
 | _=>.stuck
section
variable (φ : Phi)
mutual
noncomputable def evE:Ex→Sl→Sto→Res D
 | .var i,σ,μ=>match σ[i]? with
  | some (some d)=>.ok d μ
  | _=>.stuck
 | .frz i,σ,μ=>match σ[i]? with
  | some (some (.loc n))=>match μ[n]? with
   | some (.l ds)=>.ok (.lst ds) (μ.set n .dead)
   | some (.r ds)=>.ok (.lst ds) (μ.set n .dead)
   | _=>.stuck
  | _=>.stuck
 | .cst d,_,μ=>.ok d μ
 | .bin op m a b,σ,μ=>(evE a σ μ).bind fun x μ=>(evE b σ μ).bind fun y μ=>opD op m x y μ
 | .neg a,σ,μ=>(evE a σ μ).bind fun x μ=>match x with
  | .int i=>.ok (.int (-i)) μ
  | _=>.stuck
 | .not a,σ,μ=>(evE a σ μ).bind fun x μ=>match x with
  | .bl b=>.ok (.bl (!b)) μ
  | _=>.stuck
 | .and a b,σ,μ=>(evE a σ μ).bind fun x μ=>match x with
  | .bl c=>if c=true then evE b σ μ else .ok (.bl false) μ
  | _=>.stuck
 | .or a b,σ,μ=>(evE a σ μ).bind fun x μ=>match x with
  | .bl c=>if c=true then .ok (.bl true) μ else evE b σ μ
  | _=>.stuck
 | .ite c a b,σ,μ=>(evE c σ μ).bind fun x μ=>match x with
  | .bl c=>if c=true then evE a σ μ else evE b σ μ
  | _=>.stuck
 | .cmp a r,σ,μ=>(evE a σ μ).bind fun x μ=>evC r x σ μ
 | .call keep f es,σ,μ=>(iu es σ μ).bind fun ds μ=>sg keep μ.length (φ f ds μ)
 | .blt b m es,σ,μ=>(iu es σ μ).bind fun ds μ=>btD b m ds μ
 | .isi a c,σ,μ=>(evE a σ μ).bind fun x μ=>Ll c x μ
 | .meth mt o es,σ,μ=>(evE o σ μ).bind fun x μ=>if jc mt x μ=true then(iu es σ μ).bind fun ds μ=>mtD mt x ds μ else .stuck
 | .ix a b,σ,μ=>(evE a σ μ).bind fun x μ=>(evE b σ μ).bind fun y μ=>ixD x y μ
 | .dix a b,σ,μ=>(evE a σ μ).bind fun x μ=>(evE b σ μ).bind fun y μ=>Xe x y μ
 | .sl m a lo hi,σ,μ=>(evE a σ μ).bind fun x μ=>(evO lo σ μ).bind fun l μ=>(evO hi σ μ).bind fun h μ=>slD m x l h μ
 | .tup es,σ,μ=>(iu es σ μ).bind fun ds μ=>.ok (.tup ds) μ
 | .lst m es,σ,μ=>(iu es σ μ).bind fun ds μ=>mkL m ds μ
 | .dic t es,σ,μ=>(iu es σ μ).bind fun ds μ=>Nx t ds μ
 | .inT neg es d,σ,μ=>(iu es σ μ).bind fun ds μ=>(evE d σ μ).bind fun x μ=>Z6 neg ds x μ
 | .comp m cap nl tg it cs elt,σ,μ=>(evI it σ μ).bind fun ds μ =>
   (mapR ds.2 (fun d μ=>o6 (fw tg d (cap.map (fun i=>(σ[i]?).getD none)++List.replicate nl none)) fun σ' =>
    (Fm cs σ' μ).bind fun b μ=>if b=true then(evE elt σ' μ).bind fun x μ=>.ok [x] μ else .ok [] μ) ds.1 μ).bind fun xs μ=>mkL m xs μ
noncomputable def iu:Exs→Sl→Sto→Res (List D)
 | .nil,_,μ=>.ok [] μ
 | .cons e es,σ,μ=>(evE e σ μ).bind fun d μ=>(iu es σ μ).bind fun ds μ=>.ok (d::ds) μ
noncomputable def evC:Cps→D→Sl→Sto→Res D
 | .nil,_,_,_=>.stuck
 | .cons op e r,x,σ,μ=>(evE e σ μ).bind fun y μ=>(cpD op x y μ).bind fun z μ=>match r with
  | .nil=>.ok z μ
  | r=>match z with
   | .bl b=>if b=true then evC r y σ μ else .ok (.bl false) μ
   | _=>.stuck
noncomputable def evO:ExO→Sl→Sto→Res (Option Int)
 | .no,_,μ=>.ok none μ
 | .so e,σ,μ=>(evE e σ μ).bind fun x μ=>match x with
  | .int i=>.ok (some i) μ
  | _=>.stuck
noncomputable def Fm:Exs→Sl→Sto→Res Bool
 | .nil,_,μ=>.ok true μ
 | .cons e es,σ,μ=>(evE e σ μ).bind fun x μ=>match x with
  | .bl b=>if b=true then Fm es σ μ else .ok false μ
  | _=>.stuck
noncomputable def evI:It→Sl→Sto→Res (List D×Gd)
 | .seq e,σ,μ=>(evE e σ μ).bind fun x μ=>match dk μ x with
  | some w=>.ok w μ
  | none=>.stuck
 | .rng a,σ,μ=>(evE a σ μ).bind fun x μ=>match x with
  | .int j=>if -(lim:Int)≤j∧j≤lim then .ok ((List.range j.toNat).map fun(i:Nat)=>D.int i,none) μ else .stuck
  | _=>.stuck
 | .rng2 a b,σ,μ=>(evE a σ μ).bind fun x μ=>(evE b σ μ).bind fun y μ=>match x,y with
  | .int i,.int j=>if -(lim:Int)≤i∧i≤lim∧j≤lim ∧ -(lim:Int)≤j∧(j-i)≤lim then .ok ((List.range (j-i).toNat).map fun(k:Nat)=>D.int (i+k),none) μ else .stuck
  | _,_=>.stuck
 | .rng3 a b c,σ,μ=>(evE a σ μ).bind fun x μ=>(evE b σ μ).bind fun y μ=>(evE c σ μ).bind fun z μ=>match x,y,z with
  | .int i,.int j,.int k=>if 0≤i∧i≤lim∧j≤lim∧0≤j∧1≤k∧k≤1000 then .ok ((List.range (if i<j then((j-i-1) / k+1).toNat else 0)).map fun(n:Nat)=>D.int (i+n*k),none) μ else .stuck
  | _,_,_=>.stuck
 | .zip a b,σ,μ=>(evE a σ μ).bind fun x μ=>(evE b σ μ).bind fun y μ=>match dk μ x,dq [] y with
  | some w,some ys=>.ok ((w.1.zip ys).map fun p=>.tup [p.1,p.2],w.2) μ
  | _,_=>.stuck
 | .enum a,σ,μ=>(evE a σ μ).bind fun x μ=>match dk μ x with
  | some w=>.ok ((List.range w.1.length |>.zip w.1).map fun(p:Nat×D)=>.tup [.int p.1,p.2],w.2) μ
  | none=>.stuck
 | .rev _,_,_=>.stuck
 | .vals a,σ,μ=>(evE a σ μ).bind fun x μ=>match x with
  | .loc n=>match μ[n]? with
   | some (.d kvs)=>.ok (kvs.map (·.2),none) (μ.set n .dead)
   | _=>.stuck
  | _=>.stuck
end
mutual
noncomputable def evS:Sm→Sl→Sto→Res Fl
 | .set i e,σ,μ=>(evE φ e σ μ).bind fun d μ=>.ok (.nx (σ.set i (some d))) μ
 | .unp is e,σ,μ=>(evE φ e σ μ).bind fun d μ=>match fw (.many is) d σ with
  | some σ'=>.ok (.nx σ') μ
  | none=>.stuck
 | .setx o i v,σ,μ=>(evE φ v σ μ).bind fun d μ=>(evE φ o σ μ).bind fun x μ=>(evE φ i σ μ).bind fun y μ=>(Bz x y d μ).bind fun _ μ=>.ok (.nx σ) μ
 | .augx op o i v,σ,μ=>(evE φ o σ μ).bind fun x μ=>(evE φ i σ μ).bind fun y μ=>(ixL x y μ).bind fun old μ=>(evE φ v σ μ).bind fun d μ=>(Yt op old d μ).bind fun z μ=>(Bz x y z μ).bind fun _ μ=>.ok (.nx σ) μ
 | .setxT o i v,σ,μ=>(evE φ v σ μ).bind fun d μ=>(evE φ o σ μ).bind fun x μ=>(iu φ i σ μ).bind fun y μ=>(Xd x y d μ).bind fun _ μ=>.ok (.nx σ) μ
 | .ex e,σ,μ=>(evE φ e σ μ).bind fun _ μ=>.ok (.nx σ) μ
 | .ite c a b,σ,μ=>(evE φ c σ μ).bind fun x μ=>match x with
  | .bl k=>if k=true then qy a σ μ else qy b σ μ
  | _=>.stuck
 | .loop tg it b,σ,μ=>(evI φ it σ μ).bind fun ds μ=>jy ds.2 (fun d σ μ=>o6 (fw tg d σ) fun σ'=>qy b σ' μ) ds.1 σ μ
 | .ret e,σ,μ=>(evE φ e σ μ).bind fun d μ=>.ok (.rt d) μ
 | .raise c es,σ,μ=>(iu φ es σ μ).bind fun ds μ=>.exc c ds μ
 | .pass,σ,μ=>.ok (.nx σ) μ
 | .brk,σ,μ=>.ok (.bk σ) μ
 | .cont,σ,μ=>.ok (.ct σ) μ
 | .never,_,_=>.stuck
noncomputable def qy:Sms→Sl→Sto→Res Fl
 | .nil,σ,μ=>.ok (.nx σ) μ
 | .cons s r,σ,μ=>(evS s σ μ).bind fun fl μ=>match fl with
  | .nx σ'=>qy r σ' μ
  | fl=>.ok fl μ
end
end
structure Df where
 np:Nat
 nn:Nat
 body:Sms
noncomputable def Sj (φ:Phi) (f:Df) (ds:List D) (μ:Sto):Res D :=
 if ds.length=f.np then(qy φ f.body (ds.map some++List.replicate (f.nn-f.np) none) μ).bind fun fl μ=>match fl with
  | .nx _=>.ok .non μ
  | .rt d=>.ok d μ
  | _=>.stuck
 else .stuck
noncomputable def aj (T:List Df):Nat→Phi
 | 0=>fun _ _ _=>.stuck
 | n+1=>fun f ds μ=>match T[f]? with
  | some d=>Sj (aj T n) d ds μ
  | none=>.stuck
end Lp
set_option maxHeartbeats 4000000
namespace Lp
open PySem PySem.Spec PyProof.Rows L2
noncomputable abbrev St:=L2.St
theorem _root_.L2.FzL.sq {K:PySem.W.Frag} {H:Hp} {a:Addr} {xs:List V} (h:FzL K H a xs):SqL K H a xs:=by
 rcases h with⟨o,h⟩ | ⟨its,n,h,hz,hv⟩
 ·exact .inl (.inr ⟨o,h⟩)
 ·exact .inr ⟨_,its.toArray,n,h,rfl,rfl,rfl,by rw[AE,←hv.length];exact hz,by simpa using hv⟩
noncomputable def LsL (K:PySem.W.Frag) (H:Hp) (a:Addr) (xs:List V):Prop:=H a=some (.lst xs)∨FzL K H a xs
theorem LsL.sq {K:PySem.W.Frag} {H:Hp} {a:Addr} {xs:List V} (h:LsL K H a xs):SqL K H a xs:=by
 rcases h with h | h
 ·exact .of h
 ·exact h.sq
theorem _root_.L2.Inv.ls {X:Cx} {pins:List (Addr×Obj)} {σ:St} {H:Hp} {s:Shared} {a:Addr} {xs:List V} (I:Inv X pins σ H s) (h:LsL X.K H a xs) :
  xs.length≤sizeLine∧∃(its:List Value) (n:Nat),cq xs its∧xs.length=its.length∧s.heap.get? a=some {cls:=.type "list",data:=.seq its.toArray n}:=by
 rcases h with h | ⟨o,h⟩ | ⟨its,n,h,hz,hv⟩
 ·obtain⟨z,its,n,hv,e⟩:=I.hok a _ h
  exact⟨z,its,n,hv,hv.length,e⟩
 ·obtain⟨_,z,its,n,hv,e⟩:=I.hok a _ h
  exact⟨z,its,n,hv,hv.length,e⟩
 ·exact⟨hz,its,n,hv,hv.length,I.kIn a _ h⟩
structure Ext (H H':Hp):Prop where
 tups:∀b xs,H b=some (.tup xs)→H' b=some (.tup xs)
 frzs:∀b o u,H b=some (.frz o u)→H' b=some (.frz o u)
theorem Ext.refl (H:Hp):Ext H H:=⟨fun _ _ h=>h,fun _ _ _ h=>h⟩
theorem Ext.trans {H H1 H2:Hp} (a:Ext H H1) (b:Ext H1 H2):Ext H H2:=⟨fun c xs h=>b.tups c xs (a.tups c xs h),fun c o u h=>b.frzs c o u (a.frzs c o u h)⟩
theorem Ext.new {H:Hp} {p:Addr} {o:HO} (h:H p=none):Ext H (upd H p o) :=
 ⟨fun b xs e=>by rw[a9 (cv e h)];exact e,fun b o u e=>by rw[a9 (cv e h)];exact e⟩
theorem Ext.lst {H:Hp} {p:Addr} {xs:List V} {o:HO} (h:H p=some (.lst xs)):Ext H (upd H p o) :=
 ⟨fun b ys e=>by rw[a9 (pd e h (by intro z;cases z))];exact e,fun b o u e=>by rw[a9 (pd e h (by intro z;cases z))];exact e⟩
theorem Ext.dK {H:Hp} {p:Addr} {xs:List (Key×V)} {o:HO} (h:H p=some (.dK xs)):Ext H (upd H p o) :=
 ⟨fun b ys e=>by rw[a9 (pd e h (by intro z;cases z))];exact e,fun b o u e=>by rw[a9 (pd e h (by intro z;cases z))];exact e⟩
theorem _root_.L2.SqT.ext {K:PySem.W.Frag} {H H':Hp} {a:Addr} {xs:List V} (h:SqT K H a xs) (e:Ext H H'):SqT K H' a xs:=by
 rcases h with(h | ⟨o,h⟩) | h
 ·exact .inl (.inl (e.tups _ _ h))
 ·exact .inl (.inr ⟨o,e.frzs _ _ _ h⟩)
 ·exact .inr h
theorem _root_.L2.FzL.ext {K:PySem.W.Frag} {H H':Hp} {a:Addr} {xs:List V} (h:FzL K H a xs) (e:Ext H H'):FzL K H' a xs:=by
 rcases h with⟨o,h⟩ | h
 ·exact .inl ⟨o,e.frzs _ _ _ h⟩
 ·exact .inr h
section
variable (K : PySem.W.Frag) (ι : List Addr) (H : Hp)
mutual
noncomputable def IsD:D→V→Prop
 | .non,v=>v=.non
 | .bl b,v=>v=.bl b
 | .int i,v=>v=.int i
 | .str x,v=>v=.str x
 | .tup ds,v=>∃a xs,v=.ref a∧SqT K H a xs∧aq ds xs
 | .lst ds,v=>∃a xs,v=.ref a∧FzL K H a xs∧aq ds xs
 | .loc n,v=>∃a,v=.ref a∧ι[n]? = some a
noncomputable def aq:List D→List V→Prop
 | [],xs=>xs=[]
 | d::ds,xs=>∃v r,xs=v::r∧IsD d v∧aq ds r
end
end
section
variable {K : PySem.W.Frag} {ι ι' : List Addr} {H H' : Hp}
mutual
theorem IsD.mono (hp:ι <+: ι') (he:Ext H H'):∀(d:D) (v:V),IsD K ι H d v→IsD K ι' H' d v
 | .non,_,h=>by simpa[IsD]using h
 | .bl b,_,h=>by simpa[IsD]using h
 | .int i,_,h=>by simpa[IsD]using h
 | .str x,_,h=>by simpa[IsD]using h
 | .tup ds,v,h=>by
  simp only[IsD]at h ⊢
  obtain⟨a,xs,e,q,r⟩:=h
  exact⟨a,xs,e,q.ext he,aq.mono hp he ds xs r⟩
 | .lst ds,v,h=>by
  simp only[IsD]at h ⊢
  obtain⟨a,xs,e,q,r⟩:=h
  exact⟨a,xs,e,q.ext he,aq.mono hp he ds xs r⟩
 | .loc n,v,h=>by
  simp only[IsD]at h ⊢
  obtain⟨a,e,q⟩:=h
  obtain⟨t,rfl⟩:=hp
  exact⟨a,e,by rw[AW (AG.mp q).1];exact q⟩
theorem aq.mono (hp:ι <+: ι') (he:Ext H H'):∀(ds:List D) (xs:List V),aq K ι H ds xs→aq K ι' H' ds xs
 | [],xs,h=>by simpa[aq]using h
 | d::ds,xs,h=>by
  simp only[aq]at h ⊢
  obtain⟨v,r,e,q,t⟩:=h
  exact⟨v,r,e,IsD.mono hp he d v q,aq.mono hp he ds r t⟩
end
theorem aq.length:∀{ds:List D} {xs:List V},aq K ι H ds xs→xs.length=ds.length
 | [],xs,h=>by simp only[aq]at h;subst h;rfl
 | d::ds,xs,h=>by
  simp only[aq]at h
  obtain⟨v,r,rfl,_,t⟩:=h
  simp[aq.length t]
theorem aq.get:∀{ds:List D} {xs:List V} {i:Nat} {d:D},aq K ι H ds xs→ds[i]? = some d→∃v,xs[i]? = some v∧IsD K ι H d v
 | [],_,_,_,_,e=>by simp at e
 | d::ds,xs,0,_,h,e=>by
  simp only[aq]at h
  obtain⟨v,r,rfl,q,_⟩:=h
  simp at e;subst e
  exact⟨v,rfl,q⟩
 | d::ds,xs,i+1,x,h,e=>by
  simp only[aq]at h
  obtain⟨v,r,rfl,_,t⟩:=h
  obtain⟨w,h1,h2⟩:=aq.get (i:=i) (d:=x) t (by simpa using e)
  exact⟨w,by simpa using h1,h2⟩
theorem aq.append:∀{ds es:List D} {xs ys:List V},aq K ι H ds xs→aq K ι H es ys→aq K ι H (ds++es) (xs++ys)
 | [],_,_,_,h,g=>by simp only[aq]at h;subst h;exact g
 | d::ds,es,xs,ys,h,g=>by
  simp only[aq]at h
  obtain⟨v,r,rfl,q,t⟩:=h
  simp only[DX,aq]
  exact⟨v,r++ys,rfl,q,aq.append t g⟩
theorem aq.one {d:D} {v:V} (h:IsD K ι H d v):aq K ι H [d] [v]:=by
 simp only[aq];exact⟨v,[],rfl,h,rfl⟩
theorem aq.take:∀{ds:List D} {xs:List V} (n:Nat),aq K ι H ds xs→aq K ι H (ds.take n) (xs.take n)
 | _,_,0,_=>by simp[aq]
 | [],_,n+1,h=>by simp only[aq]at h;subst h;simp[aq]
 | d::ds,xs,n+1,h=>by
  simp only[aq]at h
  obtain⟨v,r,rfl,q,t⟩:=h
  simp only[List.take_succ_cons,aq]
  exact⟨v,_,rfl,q,aq.take n t⟩
theorem aq.drop:∀{ds:List D} {xs:List V} (n:Nat),aq K ι H ds xs→aq K ι H (ds.drop n) (xs.drop n)
 | _,_,0,h=>by simpa using h
 | [],_,n+1,h=>by simp only[aq]at h;subst h;simp[aq]
 | d::ds,xs,n+1,h=>by
  simp only[aq]at h
  obtain⟨v,r,rfl,q,t⟩:=h
  simpa using aq.drop n t
theorem aq.set {d:D} {v:V} (hd:IsD K ι H d v):∀{ds:List D} {xs:List V} (n:Nat),aq K ι H ds xs→aq K ι H (ds.set n d) (xs.set n v)
 | [],_,n,h=>by simp only[aq]at h;subst h;simp[aq]
 | e::ds,xs,0,h=>by
  simp only[aq]at h
  obtain⟨w,r,rfl,q,t⟩:=h
  simp only[EV,aq]
  exact⟨v,r,rfl,hd,t⟩
 | e::ds,xs,n+1,h=>by
  simp only[aq]at h
  obtain⟨w,r,rfl,q,t⟩:=h
  simp only[EW,aq]
  exact⟨w,_,rfl,q,aq.set hd n t⟩
theorem aq.eraseIdx:∀{ds:List D} {xs:List V} (n:Nat),aq K ι H ds xs→aq K ι H (ds.eraseIdx n) (xs.eraseIdx n)
 | [],_,n,h=>by simp only[aq]at h;subst h;simp[aq]
 | e::ds,xs,0,h=>by
  simp only[aq]at h
  obtain⟨w,r,rfl,q,t⟩:=h
  simpa using t
 | e::ds,xs,n+1,h=>by
  simp only[aq]at h
  obtain⟨w,r,rfl,q,t⟩:=h
  simp only[IJ,aq]
  exact⟨w,_,rfl,q,aq.eraseIdx n t⟩
theorem aq.reverse:∀{ds:List D} {xs:List V},aq K ι H ds xs→aq K ι H ds.reverse xs.reverse
 | [],_,h=>by simp only[aq]at h;subst h;simp[aq]
 | e::ds,xs,h=>by
  simp only[aq]at h
  obtain⟨w,r,rfl,q,t⟩:=h
  simp only[HY]
  exact(aq.reverse t).append (.one q)
theorem aq.dropLast {ds:List D} {xs:List V} (h:aq K ι H ds xs):aq K ι H ds.dropLast xs.dropLast:=by
 rw[JC,JC,h.length]
 exact h.take _
theorem aq.rep {ds:List D} {xs:List V} (h:aq K ι H ds xs):∀k:Nat,aq K ι H (List.replicate k ds).flatten (List.replicate k xs).flatten
 | 0=>by simp[aq]
 | k+1=>by
  simp only[DT,FG]
  exact h.append (aq.rep h k)
theorem aq.ints:∀(ns:List Int),aq K ι H (ns.map D.int) (ns.map V.int)
 | []=>by simp[aq]
 | n::r=>by
  simp only[AS,aq]
  exact⟨_,_,rfl,by simp[IsD],aq.ints r⟩
theorem IsD.puren:∀(k:Nat) (d:D) (v:V),D.pureN k d=true→IsD K ι H d v→IsD K ι' H d v:=by
 have list:∀(k:Nat),(∀(d:D) (v:V),D.pureN k d=true→IsD K ι H d v→IsD K ι' H d v) →
   ∀(ds:List D) (xs:List V),ds.all (D.pureN k)=true→aq K ι H ds xs→aq K ι' H ds xs:=by
  intro k ih ds
  induction ds with
  | nil=>intro xs _ h;simpa[aq]using h
  | cons d ds ihd =>
   intro xs hp h
   simp only[aq]at h ⊢
   simp only[BD,BC]at hp
   obtain⟨v,r,e,q,t⟩:=h
   exact⟨v,r,e,ih d v hp.1 q,ihd r hp.2 t⟩
 intro k
 induction k with
 | zero =>
  intro d v hp h
  cases d<;>simp_all[D.pureN,IsD]
 | succ k ih =>
  intro d v hp h
  cases d with
  | tup ds =>
   simp only[D.pureN]at hp
   simp only[IsD]at h ⊢
   obtain⟨a,xs,e,q,r⟩:=h
   exact⟨a,xs,e,q,list k ih ds xs hp r⟩
  | lst ds =>
   simp only[D.pureN]at hp
   simp only[IsD]at h ⊢
   obtain⟨a,xs,e,q,r⟩:=h
   exact⟨a,xs,e,q,list k ih ds xs hp r⟩
  | loc n=>simp[D.pureN]at hp
  | _=>simpa[IsD]using h
theorem IsD.pur {d:D} {v:V} (hp:d.pure=true) (h:IsD K ι H d v):IsD K ι' H d v:=IsD.puren 8 d v hp h
theorem aq.pur {ds:List D} {xs:List V} (hp:ds.all (D.pureN 8)=true) (h:aq K ι H ds xs):aq K ι' H ds xs:=by
 induction ds generalizing xs with
 | nil=>simpa[aq]using h
 | cons d ds ih =>
  simp only[aq]at h ⊢
  simp only[BD,BC]at hp
  obtain⟨v,r,e,q,t⟩:=h
  exact⟨v,r,e,IsD.pur hp.1 q,ih hp.2 t⟩
end
section
variable (K : PySem.W.Frag) (ι : List Addr) (H : Hp)
noncomputable def Lm (kvs:List (D×D)) (xs:List (Key×V)):Prop :=
 Paired (fun(p:D×D) (q:Key×V)=>IsD K [] H p.1 (kV q.1)∧IsD K [] H p.2 q.2) kvs xs
noncomputable def Z7 (kvs:List (D×D)) (xs:List (List Key×V)):Prop :=
 Paired (fun(p:D×D) (q:List Key×V)=>(∃ds,p.1=.tup ds∧aq K [] H ds (q.1.map kV))∧IsD K [] H p.2 q.2) kvs xs
noncomputable def OIs (a:Addr):O→Prop
 | .l ds=>∃xs,H a=some (.lst xs)∧aq K [] H ds xs
 | .r ds=>∃xs,H a=some (.lst xs)∧aq K ι H ds xs
 | .d kvs=>∃xs,H a=some (.dK xs)∧Lm K H kvs xs
 | .dt kvs=>∃xs,H a=some (.dT xs)∧Z7 K H kvs xs
 | .dead=>∃u,H a=some u
structure Sim (μ:Sto):Prop where
 len:ι.length=μ.length
 nd:ι.Nodup
 obj:∀(n:Nat) a o,ι[n]? = some a→μ[n]? = some o→OIs K ι H a o
noncomputable def qz (σ:Sl) (σv:St):Prop:=∀(i:Nat) d,σ[i]? = some (some d)→∃v,σv[i]? = some (some v)∧IsD K ι H d v
end
section
variable {K : PySem.W.Frag} {ι ι' : List Addr} {H H' : Hp} {μ : Sto} {σ : Sl} {σv : St}
theorem qz.mono (h:qz K ι H σ σv) (hp:ι <+: ι') (he:Ext H H'):qz K ι' H' σ σv:=fun i d e=>by
 obtain⟨v,q,r⟩:=h i d e
 exact⟨v,q,IsD.mono hp he d v r⟩
theorem qz.set (h:qz K ι H σ σv) (hl:σ.length=σv.length) {i:Nat} {d:D} {v:V} (hd:IsD K ι H d v):qz K ι H (σ.set i (some d)) (σv.set i (some v)):=fun j e q=>by
 by_cases hj:i=j
 ·subst hj
  by_cases hi:i<σ.length
  ·rw[DD hi]at q
   cases q
   exact⟨v,by rw[DD (by lia)],hd⟩
  ·rw[AX (by simp;lia)]at q;cases q
 ·rw[CK hj]at q
  obtain⟨w,q1,q2⟩:=h j e q
  exact⟨w,by rw[CK hj];exact q1,q2⟩
theorem OIs.ne (h:OIs K ι H a o):∃u,H a=some u:=by
 cases o with
 | l ds=>obtain⟨xs,e,_⟩:=h;exact⟨_,e⟩
 | r ds=>obtain⟨xs,e,_⟩:=h;exact⟨_,e⟩
 | d kvs=>obtain⟨xs,e,_⟩:=h;exact⟨_,e⟩
 | dt kvs=>obtain⟨xs,e,_⟩:=h;exact⟨_,e⟩
 | dead=>exact h
theorem OIs.mono {a:Addr} {o:O} (h:OIs K ι H a o) (hp:ι <+: ι') (he:Ext H H') (ha:H' a=H a):OIs K ι' H' a o:=by
 cases o with
 | l ds=>obtain⟨xs,e,q⟩:=h;exact⟨xs,ha.trans e,aq.mono (AN _) he ds xs q⟩
 | r ds=>obtain⟨xs,e,q⟩:=h;exact⟨xs,ha.trans e,aq.mono hp he ds xs q⟩
 | d kvs =>
  obtain⟨xs,e,q⟩:=h
  exact⟨xs,ha.trans e,Paired.mapP q fun p r z=>⟨IsD.mono (AN _) he _ _ z.1,IsD.mono (AN _) he _ _ z.2⟩⟩
 | dt kvs =>
  obtain⟨xs,e,q⟩:=h
  exact⟨xs,ha.trans e,Paired.mapP q fun p r z=>⟨let ⟨ds,e,t⟩:=z.1;⟨ds,e,aq.mono (AN _) he _ _ t⟩,IsD.mono (AN _) he _ _ z.2⟩⟩
 | dead=>obtain⟨u,e⟩:=h;exact⟨u,ha.trans e⟩
theorem Sim.at (h:Sim K ι H μ) {n:Nat} {o:O} (e:μ[n]? = some o):∃a,ι[n]? = some a∧OIs K ι H a o:=by
 have hn:n<ι.length:=by rw[h.len];exact(AG.mp e).1
 exact⟨ι[n],AB hn,h.obj n _ o (AB hn) e⟩
theorem Sim.used (h:Sim K ι H μ) {n:Nat} {a:Addr} (e:ι[n]? = some a):∃u,H a=some u:=by
 have hn:n<μ.length:=by rw[←h.len];exact(AG.mp e).1
 exact(h.obj n a _ e (AB hn)).ne
theorem Sim.new (h:Sim K ι H μ) {p:Addr} {o:HO} (hp:H p=none):Sim K ι (upd H p o) μ :=
 ⟨h.len,h.nd,fun n a ob e1 e2=>by
  obtain⟨u,hu⟩:=h.used e1
  exact(h.obj n a ob e1 e2).mono (AN _) (.new hp) (a9 (cv hu hp))⟩
theorem Sim.push (h:Sim K ι H μ) {p:Addr} {u:HO} {o:O} (hp:H p=none) (ho:OIs K (ι++[p]) (upd H p u) p o):Sim K (ι++[p]) (upd H p u) (μ++[o]):=by
 have hne:∀a∈ι,a≠p:=fun a ha z=>by
  obtain⟨n,hn,e⟩:=BY.mp ha
  obtain⟨u,hu⟩:=h.used (n:=n) (by rw[AB hn,e])
  rw[z,hp]at hu;cases hu
 refine⟨by simp[h.len],?_,fun n a ob e1 e2=>?_⟩
 ·refine List.nodup_append.mpr ⟨h.nd,by simp,?_⟩
  intro a ha b hb
  have:b=p:=by simpa using hb
  subst this
  exact hne a ha
 ·by_cases hn:n<ι.length
  ·rw[AW hn]at e1
   rw[AW (by rw[←h.len];exact hn)]at e2
   exact(h.obj n a ob e1 e2).mono ⟨[p],rfl⟩ (.new hp) (a9 (hne a (BR e1)))
  ·have hm:n=ι.length:=by
    have:=(AG.mp e1).1
    simp at this;lia
   subst hm
   simp at e1
   rw[h.len]at e2
   simp at e2
   subst e1;subst e2
   exact ho
theorem Sim.put (h:Sim K ι H μ) {n:Nat} {p:Addr} {u:HO} {o:O} (hn:ι[n]? = some p) (he:Ext H (upd H p u)) (ho:OIs K ι (upd H p u) p o):Sim K ι (upd H p u) (μ.set n o):=by
 refine⟨by simp[h.len],h.nd,fun k a ob e1 e2=>?_⟩
 by_cases hk:n=k
 ·subst hk
  rw[hn]at e1;cases e1
  have:n<μ.length:=by rw[←h.len];exact(AG.mp hn).1
  rw[DD this]at e2;cases e2
  exact ho
 ·rw[CK hk]at e2
  refine(h.obj k a ob e1 e2).mono (AN _) he (a9 fun z=>hk ?_)
  subst z
  obtain⟨h1,e1'⟩:=AG.mp e1
  obtain⟨h2,e2'⟩:=AG.mp hn
  exact(List.getElem_inj h.nd).mp (e2'.trans e1'.symm)
end
end Lp
namespace Lp
open PySem PySem.Spec PyProof.Rows L2
noncomputable def ig {α β:Type} (K:PySem.W.Frag) (R:List Addr→Hp→α→β→Prop) (ι:List Addr) (H:Hp) (r:Res α) (Q:β→Hp→Prop):Prop:=match r with
 | .ok d μ'=>∀ι' v H',ι <+: ι'→Ext H H'→Sim K ι' H' μ'→R ι' H' d v→Q v H'
 | .exc _ _ _=>False
 | .stuck=>False
noncomputable abbrev RD (K:PySem.W.Frag):List Addr→Hp→D→V→Prop:=fun ι H d v=>IsD K ι H d v
noncomputable abbrev RDs (K:PySem.W.Frag):List Addr→Hp→List D→List V→Prop:=fun ι H d v=>aq K ι H d v
noncomputable abbrev RB:List Addr→Hp→Bool→Bool→Prop:=fun _ _ d v=>d=v
noncomputable abbrev RO:List Addr→Hp→Option Int→Option Int→Prop:=fun _ _ d v=>d=v
section
variable {α β γ δ : Type} {K : PySem.W.Frag} {R : List Addr → Hp → α → β → Prop} {S : List Addr → Hp → γ → δ → Prop} {ι ι' : List Addr} {H H' : Hp}
theorem ig.mono {r:Res α} {Q:β→Hp→Prop} (h:ig K R ι H r Q) (hp:ι <+: ι') (he:Ext H H'):ig K R ι' H' r Q:=by
 cases r with
 | ok d μ=>exact fun ι2 v H2 p e s q=>h ι2 v H2 (hp.trans p) (he.trans e) s q
 | exc _ _ _=>exact h
 | stuck=>exact h
theorem ig.imp {r:Res α} {Q Q':β→Hp→Prop} (h:ig K R ι H r Q) (hq:∀v H',Q v H'→Q' v H'):ig K R ι H r Q':=by
 cases r with
 | ok d μ=>exact fun ι2 v H2 p e s q=>hq _ _ (h ι2 v H2 p e s q)
 | exc _ _ _=>exact h
 | stuck=>exact h
theorem ig.ok {d:α} {μ:Sto} {v:β} {Q:β→Hp→Prop} (h:ig K R ι H (.ok d μ) Q) (hs:Sim K ι H μ) (hr:R ι H d v):Q v H:=h ι v H (AN _) (.refl _) hs hr
theorem ig.bind {x:Res α} {f:α→Sto→Res γ} {Q:δ→Hp→Prop} (h:ig K S ι H (x.bind f) Q) :
  ∃d μ1,x=.ok d μ1∧ig K S ι H (f d μ1) Q:=by
 cases x with
 | ok d μ=>exact⟨d,μ,rfl,h⟩
 | exc _ _ _=>exact h.elim
 | stuck=>exact h.elim
end
noncomputable def tE (K:PySem.W.Frag) (φ:Phi) (x:Ex):TE:=fun σv H Q=>∃ι σ μ,Sim K ι H μ∧qz K ι H σ σv∧ig K (RD K) ι H (evE φ x σ μ) Q
noncomputable def tEs (K:PySem.W.Frag) (φ:Phi) (x:Exs):TA:=fun σv H Q=>∃ι σ μ,Sim K ι H μ∧qz K ι H σ σv∧ig K (RDs K) ι H (iu φ x σ μ) Q
noncomputable def tEo (K:PySem.W.Frag) (φ:Phi) (x:ExO):TO:=fun σv H Q=>∃ι σ μ,Sim K ι H μ∧qz K ι H σ σv∧ig K RO ι H (evO φ x σ μ) Q
noncomputable def tT (K:PySem.W.Frag) (φ:Phi) (x:Ex):TT:=fun σv H Q=>∃ι σ μ,Sim K ι H μ∧qz K ι H σ σv∧ig K RB ι H ((evE φ x σ μ).bind fun d μ=>Yu d μ) Q
theorem PE.imp {X:Cx} {e:Expr} {t t':TE} (h:PE X e t) (i:∀σ H Q,t' σ H Q→t σ H Q):PE X e t':=fun pins s σ H Q I q=>h pins s σ H Q I (i σ H Q q)
theorem PA.imp {X:Cx} {e:List Expr} {t t':TA} (h:PA X e t) (i:∀σ H Q,t' σ H Q→t σ H Q):PA X e t':=fun pos pins s σ H Q I q=>h pos pins s σ H Q I (i σ H Q q)
theorem PT.imp {X:Cx} {e:Expr} {t t':TT} (h:PT X e t) (i:∀σ H Q,t' σ H Q→t σ H Q):PT X e t':=fun pins s σ H Q I q=>h pins s σ H Q I (i σ H Q q)
theorem PW.imp {X:Cx} {e:Expr} {t t':TT} (h:PW X e t) (i:∀σ H Q,t' σ H Q→t σ H Q):PW X e t':=fun wh pins s σ H Q I q=>h wh pins s σ H Q I (i σ H Q q)
section
variable {X : Cx} {φ : Phi} {a b c : Expr} {xa xb xc : Ex} {pos : Pos}
theorem Xf {i:Nat} {x:Str} (hN:X.N[i]? = some x) (hv:Vis X.env.scope x) (hd:(x==("__debug__":Str))=false) (hcd:(x==("__classdict__":Str))=false):PE X (.Name x pos) (tE X.K φ (.var i)) :=
 PE.imp (vz hN hv hd hcd) fun σv H Q ⟨ι,σ,μ,hS,hL,h⟩=>by
  simp only[evE]at h
  split at h
  ·rename_i d e
   obtain⟨v,e1,e2⟩:=hL i d e
   exact⟨v,e1,h.ok hS e2⟩
  ·exact h.elim
theorem Xg {i:Int} {j:Nat}:PE X (.Constant (.int i) j pos) (tE X.K φ (.cst (.int i))) :=
 PE.imp Nf fun σv H Q ⟨ι,σ,μ,hS,hL,h⟩=>by simp only[evE]at h;exact h.ok hS (by simp[IsD])
theorem Z8 {i:Bool} {j:Nat}:PE X (.Constant (.bool i) j pos) (tE X.K φ (.cst (.bl i))) :=
 PE.imp Wn fun σv H Q ⟨ι,σ,μ,hS,hL,h⟩=>by simp only[evE]at h;exact h.ok hS (by simp[IsD])
theorem Xh {j:Nat}:PE X (.Constant .none j pos) (tE X.K φ (.cst .non)) :=
 PE.imp Ss fun σv H Q ⟨ι,σ,μ,hS,hL,h⟩=>by simp only[evE]at h;exact h.ok hS (by simp[IsD])
theorem Xi {i:Str} {j:Nat}:PE X (.Constant (.str i) j pos) (tE X.K φ (.cst (.str i))) :=
 PE.imp Su fun σv H Q ⟨ι,σ,μ,hS,hL,h⟩=>by simp only[evE]at h;exact h.ok hS (by simp[IsD])
theorem two {σv:St} {H:Hp} {ι:List Addr} {σ:Sl} {μ:Sto} {f:D→D→Sto→Res D} {Q:VK} {R:V→V→Hp→Prop} (hS:Sim X.K ι H μ) (hL:qz X.K ι H σ σv)
  (h:ig X.K (RD X.K) ι H ((evE φ xa σ μ).bind fun x μ=>(evE φ xb σ μ).bind fun y μ=>f x y μ) Q)
  (k:∀ι' H' d e x y μ',Sim X.K ι' H' μ'→IsD X.K ι' H' d x→IsD X.K ι' H' e y→ig X.K (RD X.K) ι' H' (f d e μ') Q→R x y H') :
  tE X.K φ xa σv H fun x H1=>tE X.K φ xb σv H1 fun y H2=>R x y H2:=by
 obtain⟨d,μ1,e1,h⟩:=h.bind
 refine⟨ι,σ,μ,hS,hL,?_⟩
 rw[e1]
 intro ι1 x H1 p1 x1 s1 d1
 obtain⟨e,μ2,e2,h⟩:=h.bind
 refine⟨ι1,σ,μ1,s1,hL.mono p1 x1,?_⟩
 rw[e2]
 intro ι2 y H2 p2 x2 s2 d2
 exact k ι2 H2 d e x y μ2 s2 (IsD.mono p2 x2 d x d1) d2 (h.mono (p1.trans p2) (x1.trans x2))
noncomputable def rOp (K:PySem.W.Frag) (f:D→D→Sto→Res D):R2:=fun x y H Q=>∃ι d e μ,Sim K ι H μ∧IsD K ι H d x∧IsD K ι H e y∧ig K (RD K) ι H (f d e μ) Q
theorem Xj {op:Operator} {m:Mk} (ho:OpR X (binaryOp op) (rOp X.K (opD op m))) (ha:PE X a (tE X.K φ xa)) (hb:PE X b (tE X.K φ xb)):PE X (.BinOp a op b pos) (tE X.K φ (.bin op m xa xb)) :=
 PE.imp (Ww ho ha hb) fun σv H Q ⟨ι,σ,μ,hS,hL,h⟩=>by
  simp only[evE]at h
  exact two hS hL h fun ι' H' d e x y μ' s d1 d2 p=>⟨ι',d,e,μ',s,d1,d2,p⟩
theorem Z9 (ho:IxR X (rOp X.K ixD)) (ha:PE X a (tE X.K φ xa)) (hb:PE X b (tE X.K φ xb)) (hs:Bv b):PE X (.Subscript a b pos) (tE X.K φ (.ix xa xb)) :=
 PE.imp (W7 ho ha hb hs) fun σv H Q ⟨ι,σ,μ,hS,hL,h⟩=>by
  simp only[evE]at h
  exact two hS hL h fun ι' H' d e x y μ' s d1 d2 p=>⟨ι',d,e,μ',s,d1,d2,p⟩
theorem Ln:PA X [] (tEs X.K φ .nil) :=
 PA.imp Nj fun σv H Q ⟨ι,σ,μ,hS,hL,h⟩=>by simp only[iu]at h;exact h.ok hS (by simp[aq])
theorem Ac {es:List Expr} {xs:Exs} (ha:PE X a (tE X.K φ xa)) (hb:PA X es (tEs X.K φ xs)) (hs:starEach (a::es) X.env=(false,eval a X.env)::starEach es X.env):PA X (a::es) (tEs X.K φ (.cons xa xs)) :=
 PA.imp (Bs ha hb hs) fun σv H Q ⟨ι,σ,μ,hS,hL,h⟩=>by
  simp only[iu]at h
  obtain⟨d,μ1,e1,h⟩:=h.bind
  refine⟨ι,σ,μ,hS,hL,?_⟩
  rw[e1]
  intro ι1 x H1 p1 x1 s1 d1
  obtain⟨e,μ2,e2,h⟩:=h.bind
  refine⟨ι1,σ,μ1,s1,hL.mono p1 x1,?_⟩
  rw[e2]
  intro ι2 y H2 p2 x2 s2 d2
  refine h ι2 (x::y) H2 (p1.trans p2) (x1.trans x2) s2 ?_
  show aq _ _ _ _ _
  simp only[aq]
  exact⟨x,y,rfl,IsD.mono p2 x2 d x d1,d2⟩
theorem Xk {es:List Expr} {xs:Exs} {k:Nat} (h:PA X es (tEs X.K φ xs)) (hl:∀σ μ ds μ',iu φ xs σ μ=.ok ds μ'→ds.length≤sizeLine):PE X (.Tuple es k pos) (tE X.K φ (.tup xs)) :=
 PE.imp (S9 h) fun σv H Q ⟨ι,σ,μ,hS,hL,h⟩=>by
  simp only[evE]at h
  obtain⟨ds,μ1,e1,h⟩:=h.bind
  refine⟨ι,σ,μ,hS,hL,?_⟩
  rw[e1]
  intro ι1 vs H1 p1 x1 s1 d1
  have hd:aq X.K ι1 H1 ds vs:=d1
  refine⟨by rw[hd.length];exact hl σ μ ds μ1 e1,fun p hp=>?_⟩
  refine h ι1 (.ref p) (upd H1 p (.tup vs)) p1 (x1.trans (.new hp)) (s1.new hp) ?_
  show IsD _ _ _ _ _
  simp only[IsD]
  exact⟨p,vs,rfl,.of bh,aq.mono (AN _) (.new hp) ds vs d1⟩
theorem Xl {x:Ex} {σv:St} {H:Hp} {Q:Bool→Hp→Prop} (h:tT X.K φ x σv H Q):tE X.K φ x σv H fun v H'=>∃k,v=.bl k∧Q k H':=by
 obtain⟨ι,σ,μ,hS,hL,h⟩:=h
 obtain⟨d,μ1,e1,h⟩:=h.bind
 refine⟨ι,σ,μ,hS,hL,?_⟩
 rw[e1]
 intro ι1 x H1 p1 x1 s1 d1
 cases d with
 | bl k=>exact⟨k,by simpa[IsD]using d1,h ι1 k H1 p1 x1 s1 rfl⟩
 | _=>exact h.elim
theorem Qk {x:Ex} (ha:PE X a (tE X.K φ x)) (he:∀whole,isTrue a X.env whole=(do let v ←whole;standAt a.pos;holding [v] (truthy v))):PT X a (tT X.K φ x) :=
 PT.imp (K6 ha he) fun σv H Q h=>by
  have q:=Xl h
  obtain⟨ι,σ,μ,hS,hL,q⟩:=q
  exact⟨ι,σ,μ,hS,hL,q.imp fun v H' ⟨k,e,z⟩=>⟨k,by subst e;exact rfl,z⟩⟩
theorem Tv (ha:PT X a (tT X.K φ xa)):PT X (.UnaryOp .Not a pos) (tT X.K φ (.not xa)) :=
 PT.imp (Sx ha) fun σv H Q ⟨ι,σ,μ,hS,hL,h⟩=>by
  simp only[evE]at h
  rw[Res.bind_assoc]at h
  obtain⟨d,μ1,e1,h⟩:=h.bind
  refine⟨ι,σ,μ,hS,hL,?_⟩
  rw[e1]
  cases d with
  | bl k=>exact fun ι1 x H1 p1 x1 s1 d1=>h ι1 (!x) H1 p1 x1 s1 (by cases d1;rfl)
  | _=>exact h.elim
theorem Tw (ha:PE X a (tE X.K φ xa)):PE X (.UnaryOp .Not a pos) (tE X.K φ (.not xa)) :=
 PE.imp (Sz ha) fun σv H Q ⟨ι,σ,μ,hS,hL,h⟩=>by
  simp only[evE]at h
  obtain⟨d,μ1,e1,h⟩:=h.bind
  refine⟨ι,σ,μ,hS,hL,?_⟩
  rw[e1]
  intro ι1 x H1 p1 x1 s1 d1
  cases d with
  | bl k=>exact⟨k,by simpa[IsD]using d1,h ι1 (.bl !k) H1 p1 x1 s1 (by simp[IsD])⟩
  | _=>exact h.elim
theorem Tx {rest:List Expr} (ha:PE X a (tE X.K φ xa)) (hb:PE X (.BoolOp .And (b::rest) pos) (tE X.K φ xb)):PE X (.BoolOp .And (a::b::rest) pos) (tE X.K φ (.and xa xb)) :=
 PE.imp (Sy ha hb) fun σv H Q ⟨ι,σ,μ,hS,hL,h⟩=>by
  simp only[evE]at h
  obtain⟨d,μ1,e1,h⟩:=h.bind
  refine⟨ι,σ,μ,hS,hL,?_⟩
  rw[e1]
  intro ι1 x H1 p1 x1 s1 d1
  cases d with
  | bl k =>
   refine⟨k,by simpa[IsD]using d1,?_⟩
   cases k with
   | true=>exact⟨ι1,σ,μ1,s1,hL.mono p1 x1,(show ig _ _ _ _ (evE φ xb σ μ1) _ from h).mono p1 x1⟩
   | false=>exact h ι1 (.bl false) H1 p1 x1 s1 (by simp[IsD])
  | _=>exact h.elim
theorem Xm {rest:List Expr} (ha:PE X a (tE X.K φ xa)) (hb:PE X (.BoolOp .Or (b::rest) pos) (tE X.K φ xb)):PE X (.BoolOp .Or (a::b::rest) pos) (tE X.K φ (.or xa xb)) :=
 PE.imp (Wr ha hb) fun σv H Q ⟨ι,σ,μ,hS,hL,h⟩=>by
  simp only[evE]at h
  obtain⟨d,μ1,e1,h⟩:=h.bind
  refine⟨ι,σ,μ,hS,hL,?_⟩
  rw[e1]
  intro ι1 x H1 p1 x1 s1 d1
  cases d with
  | bl k =>
   refine⟨k,by simpa[IsD]using d1,?_⟩
   cases k with
   | true=>exact h ι1 (.bl true) H1 p1 x1 s1 (by simp[IsD])
   | false=>exact⟨ι1,σ,μ1,s1,hL.mono p1 x1,(show ig _ _ _ _ (evE φ xb σ μ1) _ from h).mono p1 x1⟩
  | _=>exact h.elim
theorem Tz {rest:List Expr} (ha:PT X a (tT X.K φ xa)) (hb:PW X (.BoolOp .And (b::rest) pos) (tT X.K φ xb)):PW X (.BoolOp .And (a::b::rest) pos) (tT X.K φ (.and xa xb)) :=
 PW.imp (Sw ha hb) fun σv H Q ⟨ι,σ,μ,hS,hL,h⟩=>by
  simp only[evE]at h
  rw[Res.bind_assoc]at h
  obtain⟨d,μ1,e1,h⟩:=h.bind
  refine⟨ι,σ,μ,hS,hL,?_⟩
  rw[e1]
  cases d with
  | bl k =>
   intro ι1 x H1 p1 x1 s1 d1
   cases d1
   cases k with
   | true=>exact⟨ι1,σ,μ1,s1,hL.mono p1 x1,(show ig _ _ _ _ ((evE φ xb σ μ1).bind _) _ from h).mono p1 x1⟩
   | false=>exact h ι1 false H1 p1 x1 s1 rfl
  | _=>exact h.elim
theorem Xn {rest:List Expr} (ha:PT X a (tT X.K φ xa)) (hb:PW X (.BoolOp .Or (b::rest) pos) (tT X.K φ xb)):PW X (.BoolOp .Or (a::b::rest) pos) (tT X.K φ (.or xa xb)) :=
 PW.imp (Wo ha hb) fun σv H Q ⟨ι,σ,μ,hS,hL,h⟩=>by
  simp only[evE]at h
  rw[Res.bind_assoc]at h
  obtain⟨d,μ1,e1,h⟩:=h.bind
  refine⟨ι,σ,μ,hS,hL,?_⟩
  rw[e1]
  cases d with
  | bl k =>
   intro ι1 x H1 p1 x1 s1 d1
   cases d1
   cases k with
   | true=>exact h ι1 true H1 p1 x1 s1 rfl
   | false=>exact⟨ι1,σ,μ1,s1,hL.mono p1 x1,(show ig _ _ _ _ ((evE φ xb σ μ1).bind _) _ from h).mono p1 x1⟩
  | _=>exact h.elim
end
end Lp
namespace Lp
open PySem PySem.Spec PyProof.Rows L2
noncomputable def nz (K:PySem.W.Frag) (ι:List Addr) (H:Hp) (r:Res Fl) (E:Ends):Prop:=match r with
 | .ok (.nx σ') μ'=>∀ι' σv H',ι <+: ι'→Ext H H'→Sim K ι' H' μ'→qz K ι' H' σ' σv→σ'.length=σv.length→E.nx σv H'
 | .ok (.bk σ') μ'=>∀ι' σv H',ι <+: ι'→Ext H H'→Sim K ι' H' μ'→qz K ι' H' σ' σv→σ'.length=σv.length→E.bk σv H'
 | .ok (.ct σ') μ'=>∀ι' σv H',ι <+: ι'→Ext H H'→Sim K ι' H' μ'→qz K ι' H' σ' σv→σ'.length=σv.length→E.ct σv H'
 | .ok (.rt d) μ'=>∀ι' v H',ι <+: ι'→Ext H H'→Sim K ι' H' μ'→IsD K ι' H' d v→E.rt v H'
 | .exc _ _ _=>False
 | .stuck=>False
theorem nz.mono {K:PySem.W.Frag} {ι ι':List Addr} {H H':Hp} {r:Res Fl} {E:Ends} (h:nz K ι H r E) (hp:ι <+: ι') (he:Ext H H'):nz K ι' H' r E:=by
 cases r with
 | ok f μ=>cases f<;>exact fun ι2 v H2 p e=>h ι2 v H2 (hp.trans p) (he.trans e)
 | exc _ _ _=>exact h
 | stuck=>exact h
theorem nz.bind {α:Type} {K:PySem.W.Frag} {ι:List Addr} {H:Hp} {E:Ends} {x:Res α} {f:α→Sto→Res Fl} (h:nz K ι H (x.bind f) E):∃d μ1,x=.ok d μ1∧nz K ι H (f d μ1) E:=by
 cases x with
 | ok d μ=>exact⟨d,μ,rfl,h⟩
 | exc _ _ _=>exact h.elim
 | stuck=>exact h.elim
noncomputable def tS (K:PySem.W.Frag) (φ:Phi) (x:Sm):TS:=fun E σv H=>∃ι σ μ,Sim K ι H μ∧qz K ι H σ σv∧σ.length=σv.length∧nz K ι H (evS φ x σ μ) E
noncomputable def tSs (K:PySem.W.Frag) (φ:Phi) (x:Sms):TS:=fun E σv H=>∃ι σ μ,Sim K ι H μ∧qz K ι H σ σv∧σ.length=σv.length∧nz K ι H (qy φ x σ μ) E
theorem PS.imp {X:Cx} {e:Stmt} {t t':TS} (h:PS X e t) (i:∀E σ H,t' E σ H→t E σ H):PS X e t':=fun pins s σ H E I q=>h pins s σ H E I (i E σ H q)
theorem PSs.imp {X:Cx} {e:List Stmt} {t t':TS} (h:PSs X e t) (i:∀E σ H,t' E σ H→t E σ H):PSs X e t':=fun pins s σ H E I q=>h pins s σ H E I (i E σ H q)
section
variable {X : Cx} {φ : Phi} {e : Expr} {x : Ex} {pos : Pos} {s : Stmt} {ss : List Stmt} {xs : Sm} {xss : Sms}
theorem Xo:PSs X [] (tSs X.K φ .nil) :=
 PSs.imp Pu fun E σv H ⟨ι,σ,μ,hS,hL,hl,h⟩=>by
  simp only[qy]at h
  exact h ι σv H (AN _) (.refl _) hS hL hl
theorem T3 (h1:PS X s (tS X.K φ xs)) (h2:PSs X ss (tSs X.K φ xss)):PSs X (s::ss) (tSs X.K φ (.cons xs xss)) :=
 PSs.imp (K2 h1 h2) fun E σv H ⟨ι,σ,μ,hS,hL,hl,h⟩=>by
  simp only[qy]at h
  refine⟨ι,σ,μ,hS,hL,hl,?_⟩
  obtain⟨f,μ1,e1,h⟩:=h.bind
  rw[e1]
  cases f with
  | nx σ'=>exact fun ι1 σ1 H1 p1 x1 s1 l1 z1=>⟨ι1,σ',μ1,s1,l1,z1,(show nz _ _ _ (qy φ xss σ' μ1) _ from h).mono p1 x1⟩
  | rt d=>exact h
  | bk σ'=>exact h
  | ct σ'=>exact h
theorem T4 (he:PE X e (tE X.K φ x)) (hs:swapsWith e none pos.line X.env=pure false):PS X (.Expr e pos) (tS X.K φ (.ex x)) :=
 PS.imp (Pw he hs) fun E σv H ⟨ι,σ,μ,hS,hL,hl,h⟩=>by
  simp only[evS]at h
  obtain⟨d,μ1,e1,h⟩:=h.bind
  refine⟨ι,σ,μ,hS,hL,?_⟩
  rw[e1]
  exact fun ι1 v H1 p1 x1 s1 d1=>h ι1 σv H1 p1 x1 s1 (hL.mono p1 x1) hl
theorem Xp (he:PE X e (tE X.K φ x)):PS X (.Return (some e) pos) (tS X.K φ (.ret x)) :=
 PS.imp (S0 he) fun E σv H ⟨ι,σ,μ,hS,hL,hl,h⟩=>by
  simp only[evS]at h
  obtain⟨d,μ1,e1,h⟩:=h.bind
  refine⟨ι,σ,μ,hS,hL,?_⟩
  rw[e1]
  exact h
theorem aaa {c:Expr} {xc:Ex} {a b:List Stmt} {xa xb:Sms} (hc:PT X c (tT X.K φ xc)) (ha:PSs X a (tSs X.K φ xa)) (hb:PSs X b (tSs X.K φ xb)):PS X (.If c a b pos) (tS X.K φ (.ite xc xa xb)) :=
 PS.imp (Wt hc ha hb) fun E σv H ⟨ι,σ,μ,hS,hL,hl,h⟩=>by
  simp only[evS]at h
  obtain⟨d,μ1,e1,h⟩:=h.bind
  refine⟨ι,σ,μ,hS,hL,?_⟩
  rw[e1]
  cases d with
  | bl k =>
   intro ι1 x H1 p1 x1 s1 d1
   cases d1
   cases k with
   | true=>exact⟨ι1,σ,μ1,s1,hL.mono p1 x1,hl,(show nz _ _ _ (qy φ xa σ μ1) _ from h).mono p1 x1⟩
   | false=>exact⟨ι1,σ,μ1,s1,hL.mono p1 x1,hl,(show nz _ _ _ (qy φ xb σ μ1) _ from h).mono p1 x1⟩
  | _=>exact h.elim
noncomputable def slots:Tg→List Nat
 | .one i=>[i]
 | .many is=>is
noncomputable def tG (K:PySem.W.Frag) (tg:Tg):TG:=fun v σv H Q=>∃ι σ d σ',qz K ι H σ σv∧σ.length=σv.length∧IsD K ι H d v∧fw tg d σ=some σ' ∧
 ∀σv',qz K ι H σ' σv'→σ'.length=σv'.length→σv'.length=σv.length→(∀j,j∉slots tg→σv'[j]? = σv[j]?)→Q σv' H
theorem PG.imp {e:Expr} {t t':TG} (h:PG X e t) (i:∀v σ H Q,t' v σ H Q→t v σ H Q):PG X e t':=by
 intro pins s σ H x u Q I r q
 exact h pins s σ H x u Q I r (i _ _ _ _ q)
theorem T5 {i:Nat} {y:Str} (hN:X.N.Nodup) (hi:X.N[i]? = some y) (hx:Loc X.env.scope y) (hf:X.fn y=true∨X.env.scope.names.lookup y=some .local):PG X (.Name y pos) (tG X.K (.one i)) :=
 PG.imp (Gv hN hi hx hf) fun v σv H Q ⟨ι,σ,d,σ',hL,hl,hd,hb,q⟩=>by
  simp only[fw,BU]at hb
  subst hb
  exact q _ (hL.set hl hd) (by simp[hl]) (by simp) fun j hj=>CK (fun z=>hj (by simp[slots,z]))
noncomputable def tGs (K:PySem.W.Frag) (is:List Nat):TGs:=fun vs σv H Q=>∃ι σ ds,qz K ι H σ σv∧σ.length=σv.length∧aq K ι H ds vs∧ds.length=is.length ∧
 ∀σv',qz K ι H ((is.zip ds).foldl (fun s p=>s.set p.1 (some p.2)) σ) σv'→((is.zip ds).foldl (fun s p=>s.set p.1 (some p.2)) σ).length=σv'.length→σv'.length=σv.length→(∀j,j∉is→σv'[j]? = σv[j]?)→Q σv' H
theorem PGs.imp {es:List Expr} {t t':TGs} (h:PGs X es t) (i:∀v σ H Q,t' v σ H Q→t v σ H Q):PGs X es t':=by
 intro pins s σ H vs us Q I r q
 exact h pins s σ H vs us Q I r (i _ _ _ _ q)
theorem T6:PGs X [] (tGs X.K []) :=
 PGs.imp Py fun vs σv H Q ⟨ι,σ,ds,hL,hl,hd,hn,q⟩=>by
  have e:ds=[]:=FY.mp hn
  subst e
  exact⟨by simpa[aq]using hd,q σv (by simpa using hL) (by simpa using hl) rfl fun _ _=>rfl⟩
theorem Ql {i:Nat} {is:List Nat} {es:List Expr} (h1:PG X e (Px i)) (h2:PGs X es (tGs X.K is)) (hs:(assignEach (e::es) X.env).map (·.2)=assign e X.env::(assignEach es X.env).map (·.2)):PGs X (e::es) (tGs X.K (i::is)) :=
 PGs.imp (K3 h1 h2 hs) fun vs σv H Q ⟨ι,σ,ds,hL,hl,hd,hn,q⟩=>by
  cases ds with
  | nil=>simp at hn
  | cons d ds =>
   simp only[aq]at hd
   obtain⟨v,r,e,hd1,hd2⟩:=hd
   refine⟨v,r,e,ι,σ.set i (some d),ds,hL.set hl hd1,by simp[hl],hd2,by simpa using hn,fun σv' l z z2 ks=>q σv' (by simpa using l) (by simpa using z) (by simpa using z2) fun j hj=>?_⟩
   have hj':j≠i∧j∉is:=by simpa using hj
   rw[ks j hj'.2,CK (Ne.symm hj'.1)]
theorem Xq {is:List Nat} {es:List Expr} {k:Nat} (hc:X.calm=true) (h:PGs X es (tGs X.K is)) (hn:(assignEach es X.env).length=is.length) (hst:(assignEach es X.env).findIdx? (·.1)=none) :
  PG X (.Tuple es k pos) (tG X.K (.many is)) :=
 PG.imp (S2 hc h hn hst) fun v σv H Q ⟨ι,σ,d,σ',hL,hl,hd,hb,q⟩=>by
  cases d with
  | tup ds =>
   simp only[fw]at hb
   split at hb
   ·rename_i hlen
    cases hb
    simp only[IsD]at hd
    obtain⟨a,xs,e,hq,hds⟩:=hd
    exact⟨a,xs,e,hq,hds.length.trans hlen,ι,σ,ds,hL,hl,hds,hlen,q⟩
   ·cases hb
  | _=>simp[fw]at hb
theorem Xr {i:Nat} {y:Str} {pos':Pos} (hN:X.N.Nodup) (hi:X.N[i]? = some y) (hx:Loc X.env.scope y) (hf:X.fn y=true∨X.env.scope.names.lookup y=some .local) (he:PE X e (tE X.K φ x)) (hs:swapsWith e (some (.Name y pos')) pos.line X.env=pure false) :
  PS X (.Assign [.Name y pos'] e pos) (tS X.K φ (.set i x)) :=
 PS.imp (S4 hN hi hx he hs hf) fun E σv H ⟨ι,σ,μ,hS,hL,hl,h⟩=>by
  simp only[evS]at h
  obtain⟨d,μ1,e1,h⟩:=h.bind
  refine⟨ι,σ,μ,hS,hL,?_⟩
  rw[e1]
  exact fun ι1 v H1 p1 x1 s1 d1=>h ι1 _ H1 p1 x1 s1 ((hL.mono p1 x1).set hl d1) (by simp[hl])
theorem Xs {is:List Nat} {tg:Expr} (hg:PG X tg (tG X.K (.many is))) (he:PE X e (tE X.K φ x)) (hs:swapsWithSole [tg] e pos.line X.env=pure false) (hw:swappedStores [tg] e X.env=pure none)
  (h1:(assignEach [tg] X.env).map (·.2)=[assign tg X.env]):PS X (.Assign [tg] e pos) (tS X.K φ (.unp is x)) :=
 PS.imp (Nh he hg hs hw h1) fun E σv H ⟨ι,σ,μ,hS,hL,hl,h⟩=>by
  simp only[evS]at h
  obtain⟨d,μ1,e1,h⟩:=h.bind
  refine⟨ι,σ,μ,hS,hL,?_⟩
  rw[e1]
  intro ι1 v H1 p1 x1 s1 d1
  split at h
  ·rename_i σ' eb
   exact⟨ι1,σ,d,σ',hL.mono p1 x1,hl,d1,eb,fun σv' l z _ _=>h ι1 σv' H1 p1 x1 s1 l z⟩
  ·exact h.elim
noncomputable def Yv (K:PySem.W.Frag):TSet:=fun o i v H Q=>∃ι a b d μ,Sim K ι H μ∧IsD K ι H a o∧IsD K ι H b i∧IsD K ι H d v∧ig K (fun _ _ _ (_:Unit)=>True) ι H (Bz a b d μ) fun _ H'=>Q H'
theorem T7 {o i:Expr} {xo xi:Ex} {tp:Pos} (hset:Wf X (Yv X.K)) (ho:PE X o (tE X.K φ xo)) (hi:PE X i (tE X.K φ xi)) (he:PE X e (tE X.K φ x))
  (ha:∀v,assign (.Subscript o i tp) X.env v=(do
   let ov ←holding [v] (eval o X.env)
   let iv ←holding [v,ov] (eval i X.env)
   standAt tp
   holding [v,ov,iv] (setItem ov iv v)
   release [v,ov,iv] [])) (hs:swapsWithSole [.Subscript o i tp] e pos.line X.env=pure false) (hw:swappedStores [.Subscript o i tp] e X.env=pure none)
  (h1:(assignEach [.Subscript o i tp] X.env).map (·.2)=[assign (.Subscript o i tp) X.env]):PS X (.Assign [.Subscript o i tp] e pos) (tS X.K φ (.setx xo xi x)) :=
 PS.imp (Nh he (S3 ho hi hset ha) hs hw h1) fun E σv H ⟨ι,σ,μ,hS,hL,hl,h⟩=>by
  simp only[evS]at h
  obtain⟨d,μ1,e1,h⟩:=h.bind
  refine⟨ι,σ,μ,hS,hL,?_⟩
  rw[e1]
  intro ι1 v H1 p1 x1 s1 d1
  obtain⟨a,μ2,e2,h⟩:=h.bind
  refine⟨ι1,σ,μ1,s1,hL.mono p1 x1,?_⟩
  rw[e2]
  intro ι2 va H2 p2 x2 s2 d2
  obtain⟨b,μ3,e3,h⟩:=h.bind
  refine⟨ι2,σ,μ2,s2,(hL.mono p1 x1).mono p2 x2,?_⟩
  rw[e3]
  intro ι3 vb H3 p3 x3 s3 d3
  obtain⟨_,μ4,e4,h⟩:=h.bind
  refine⟨ι3,a,b,d,μ3,s3,IsD.mono p3 x3 _ _ d2,d3,IsD.mono p3 x3 _ _ (IsD.mono p2 x2 _ _ d1),?_⟩
  rw[e4]
  exact fun ι4 _ H4 p4 x4 s4 _=>h ι4 σv H4 (((p1.trans p2).trans p3).trans p4) (((x1.trans x2).trans x3).trans x4) s4 ((((hL.mono p1 x1).mono p2 x2).mono p3 x3).mono p4 x4) hl
structure Walk (K:PySem.W.Frag) (ι0:List Addr) (H0:Hp) (J:L2.It) (ds:List D) (g:Gd):Prop where
 len:ds.length≤sizeLine
 go:∀(i:Nat) ι H μ,ι0 <+: ι→Ext H0 H→Sim K ι H μ→gd g μ→i<ds.length→J.go i H
 yld:∀(i:Nat) ι H μ x H',ι0 <+: ι→Ext H0 H→Sim K ι H μ→gd g μ→i<ds.length→J.yld i H x H'→Ext H H'∧Sim K ι H' μ∧∃d,ds[i]? = some d∧IsD K ι H' d x
 stop:∀ι H μ,ι0 <+: ι→Ext H0 H→Sim K ι H μ→gd g μ→J.stop ds.length H
noncomputable def tI (K:PySem.W.Frag) (φ:Phi) (it:It):TI:=fun σv H R=>∃ι σ μ,Sim K ι H μ∧qz K ι H σ σv ∧
 match evI φ it σ μ with
 | .ok (ds,g) μ'=>∀ι' H' J,ι <+: ι'→Ext H H'→Sim K ι' H' μ'→Walk K ι' H' J ds g→R J H'
 | _=>False
theorem PI.imp {tg it:Expr} {t t':TI} (h:PI X tg it t) (i:∀σ H R,t' σ H R→t σ H R):PI X tg it t':=fun pins s σ H R I q=>h pins s σ H R I (i _ _ _ q)
theorem Xt {tg it:Expr} {body:List Stmt} {xt:Tg} {xi:It} {xb:Sms} (hp:PassesOwn (model X.prog X.w) X.A X.env X.xe) (hc:X.calm=true) (hi:PI X tg it (tI X.K φ xi)) (hg:PG X tg (tG X.K xt)) (hb:PSs X body (tSs X.K φ xb))
  (hs:∀x,foldedSetIterable it X.env x=pure x):PS X (.For tg it body [] pos) (tS X.K φ (.loop xt xi xb)) :=
 PS.imp (S5 hp hc hi hg hb hs) fun E σv H ⟨ι,σ,μ,hS,hL,hl,h⟩=>by
  simp only[evS]at h
  obtain⟨⟨ds,g⟩,μ1,e1,h⟩:=h.bind
  refine⟨ι,σ,μ,hS,hL,?_⟩
  rw[e1]
  intro ι1 H1 J p1 x1 s1 wk
  refine⟨fun i m σv' H'=>m=ds.length-i∧i≤ds.length∧∃ι' σ' μ',ι1 <+: ι'∧Ext H1 H'∧Sim X.K ι' H' μ'∧qz X.K ι' H' σ' σv'∧σ'.length=σv'.length ∧
   nz X.K ι' H' (jy g (fun d σ μ=>o6 (fw xt d σ) fun σ'=>qy φ xb σ' μ) (ds.drop i) σ' μ') E,⟨ds.length,by simp,CQ _,ι1,σ,μ1,AN _,.refl _,s1,hL.mono p1 x1,hl,?_⟩,?_⟩
  ·simpa using(show nz _ _ _ (jy g _ ds σ μ1) _ from h).mono p1 x1
  ·rintro i m σv' H' ⟨rfl,hi,ι',σ',μ',p',x',s',l',z',h'⟩
   by_cases hlt:i<ds.length
   ·obtain⟨d,ed⟩:∃d,ds[i]? = some d:=⟨ds[i],AB hlt⟩
    have edrop:ds.drop i=d::ds.drop (i+1):=by
     rw[HU hlt]
     rw[AB hlt]at ed
     cases ed;rfl
    rw[edrop]at h'
    simp only[jy]at h'
    split at h'
    ·rename_i hgd
     right
     refine⟨wk.go i ι' H' μ' p' x' s' hgd hlt,?_⟩
     obtain⟨fl,μ2,e2,h2⟩:=h'.bind
     refine⟨fun σ2 H2=>ds.length-(i+1)<ds.length-i∧∃ι2 σs,ι1 <+: ι2∧Ext H1 H2∧Sim X.K ι2 H2 μ2∧qz X.K ι2 H2 σs σ2∧σs.length=σ2.length ∧
      nz X.K ι2 H2 (jy g (fun d σ μ=>o6 (fw xt d σ) fun σ'=>qy φ xb σ' μ) (ds.drop (i+1)) σs μ2) E,?_,?_⟩
     ·rintro σ2 H2 ⟨_,ι2,σs,q1,q2,q3,q4,q5,q6⟩
      exact⟨ds.length-(i+1),by lia,rfl,hlt,ι2,σs,μ2,q1,q2,q3,q4,q5,q6⟩
     ·intro v H2 hy
      obtain⟨x2,s2,d',ed',hd'⟩:=wk.yld i ι' H' μ' v H2 p' x' s' hgd hlt hy
      rw[ed]at ed';cases ed'
      cases eb:fw xt d σ' with
      | none=>rw[eb]at e2;cases e2
      | some σb =>
       rw[eb]at e2
       refine⟨ι',σ',d,σb,l'.mono (AN _) x2,z',hd',eb,fun σv2 l2 z2 _ _=>⟨ι',σb,μ',s2,l2,z2,?_⟩⟩
       have e2':qy φ xb σb μ'=.ok fl μ2:=e2
       rw[e2']
       cases fl with
       | nx σ3=>exact fun ι3 σv3 H3 p3 x3 s3 l3 z3=>⟨by lia,ι3,σ3,p'.trans p3,(x'.trans x2).trans x3,s3,l3,z3,(show nz _ _ _ (jy g _ (ds.drop (i+1)) σ3 μ2) _ from h2).mono p3 (x2.trans x3)⟩
       | ct σ3=>exact fun ι3 σv3 H3 p3 x3 s3 l3 z3=>⟨by lia,ι3,σ3,p'.trans p3,(x'.trans x2).trans x3,s3,l3,z3,(show nz _ _ _ (jy g _ (ds.drop (i+1)) σ3 μ2) _ from h2).mono p3 (x2.trans x3)⟩
       | bk σ3=>exact(show nz _ _ _ (.ok (.nx σ3) μ2) _ from h2).mono (AN _) x2
       | rt w=>exact(show nz _ _ _ (.ok (.rt w) μ2) _ from h2).mono (AN _) x2
    ·exact h'.elim
   ·have ei:i=ds.length:=by lia
    subst ei
    simp only[List.drop_length,jy]at h'
    split at h'
    ·rename_i hgd
     exact .inl ⟨wk.stop ι' H' μ' p' x' s' hgd,h' ι' σv' H' (AN _) (.refl _) s' l' z'⟩
    ·exact h'.elim
end
end Lp
namespace Lp
open PySem PySem.Spec PyProof.Rows L2
theorem mr:lim=sizeLine:=by rw[Nt];rfl
section
variable {X : Cx} {pins : List (Addr × Obj)} {σ : St} {H : Hp} {s : Shared} {φ : Phi}
theorem _root_.L2.Inv.freeze {p:Addr} {xs:List V} (I:Inv X pins σ H s) (h:H p=some (.lst xs)):∃o,Inv X pins σ (upd H p (.frz o (.lst xs))) s:=by
 have hp:=I.hok p _ h
 obtain⟨hz,its,n,hv,hget⟩:=id hp
 refine⟨{cls:=.type "list",data:=.seq its.toArray n},I.ok,I.os,I.bare,⟨I.base.keep,I.base.slot,fun b o e hn hx=>?_,I.base.there,fun b ys e=>?_,fun b o u e=>?_,fun b ps e=>?_⟩,I.loc,I.cell,?_,fun x c e=>?_,fun q hq=>?_,fun b u e=>?_,I.len⟩
 ·have q:=I.base.free b o e hn hx
  rw[a9 (fun z=>by subst z;rw[h]at q;cases q)]
  exact q
 ·have q:=I.base.tups b ys e
  rw[a9 (pd q h (by intro z;cases z))];exact q
 ·have q:=I.base.frzs b o u e
  rw[a9 (pd q h (by intro z;cases z))];exact q
 ·obtain⟨more,q⟩:=I.base.tbls b ps e
  exact⟨more,by rw[a9 (pd q h (by intro z;cases z))];exact q⟩
 ·rw[a9 (fun z=>by rw[←z,I.free]at h;cases h)];exact I.free
 ·rw[a9 (fun z=>by rw[←z,I.freeC x c e]at h;cases h)];exact I.freeC x c e
 ·obtain⟨e1,e2,e3⟩:=I.pin q hq
  refine⟨e1,?_,e3⟩
  rw[a9 (fun z=>by rw[←z,e2]at h;cases h)];exact e2
 ·by_cases hb:b=p
  ·subst hb
   rw[bh]at e;cases e
   exact⟨hget,hz,its,n,hv,hget⟩
  ·rw[a9 hb]at e
   refine(I.hok b u e).stay (fun c v _ q=>q) (fun c q=>?_) (fun c ys q=>?_)
   ·rw[a9 (pd q h (by intro z;cases z))];exact q
   ·rw[a9 (pd q h (by intro z;cases z))];exact q
noncomputable def FQ (Q:VK):VK:=fun v H=>Q v H∨∃p xs,v=.ref p∧H p=some (.lst xs)∧∀o,Q v (upd H p (.frz o (.lst xs)))
theorem Hg {Q:VK} {u:Value} (h:EP X pins σ (FQ Q) u s):EP X pins σ Q u s:=by
 obtain⟨v,H',I,r,q⟩:=h
 rcases q with q | ⟨p,xs,rfl,e,q⟩
 ·exact⟨v,H',I,r,q⟩
 ·obtain⟨o,I'⟩:=L2.Inv.freeze I e
  exact⟨_,_,I',r,q o⟩
theorem Dm {A:Around} {E:Value→Shared→Prop} {M:Model} {t:Sem Value} {Q:VK} (h:wpAny M A t (EP X pins σ (FQ Q)) E s):wpAny M A t (EP X pins σ Q) E s:=thn h fun _ _ z=>Hg z
theorem PE.fq {e:Expr} {t:TE} (h:PE X e t):PE X e (fun σ H Q=>t σ H (FQ Q)):=fun pins s σ H Q I q=>thn (h pins s σ H _ I q) fun _ _ z=>Hg z
theorem gm.fq {f:Value} {r:List V→Hp→VK→Prop} (h:gm X f r):gm X f (fun xs H Q=>r xs H (FQ Q)):=by
 intro pins s σ H xs us Q I rx q
 exact thn (h pins s σ H xs us _ I rx q) fun _ _ z=>Hg z
theorem SlR.fq {r:V→Option Int→Option Int→Hp→VK→Prop} (h:SlR X r):SlR X (fun x l u H Q=>r x l u H (FQ Q)):=by
 intro pins s σ H x v vl vu lo hi sl Q I rx h1 h2 h3 q
 obtain⟨T,id,e1,e2,e3⟩:=h pins s σ H x v vl vu lo hi sl _ I rx h1 h2 h3 q
 exact⟨T,id,e1,e2,thn e3 fun _ _ z=>Hg z⟩
theorem mv {K:PySem.W.Frag} {ι:List Addr} {μ:Sto} {ds:List D} {xs:List V} {m:Mk} {Q:VK} {p:Addr} (hS:Sim K ι H μ) (hd:aq K ι H ds xs) (h:ig K (RD K) ι H (mkL m ds μ) Q) (hp:H p=none) :
  FQ Q (.ref p) (upd H p (.lst xs)):=by
 cases m with
 | z =>
  refine .inr ⟨p,xs,rfl,bh,fun o=>?_⟩
  rw[Gs]
  refine h ι (.ref p) _ (AN _) (.new hp) (hS.new hp) ?_
  show IsD _ _ _ _ _
  simp only[IsD]
  exact⟨p,xs,rfl,.inl ⟨o,bh⟩,aq.mono (AN _) (.new hp) ds xs hd⟩
 | l =>
  simp only[mkL]at h
  split at h
  ·rename_i hpure
   refine .inl (h (ι++[p]) (.ref p) _ ⟨[p],rfl⟩ (.new hp) (hS.push hp ⟨xs,bh,aq.pur hpure (aq.mono (AN _) (.new hp) ds xs hd)⟩) ?_)
   show IsD _ _ _ _ _
   simp only[IsD]
   exact⟨p,rfl,by rw[←hS.len];simp⟩
  ·exact h.elim
 | r =>
  simp only[mkL]at h
  refine .inl (h (ι++[p]) (.ref p) _ ⟨[p],rfl⟩ (.new hp) (hS.push hp ⟨xs,bh,aq.mono ⟨[p],rfl⟩ (.new hp) ds xs hd⟩) ?_)
  show IsD _ _ _ _ _
  simp only[IsD]
  exact⟨p,rfl,by rw[←hS.len];simp⟩
theorem Xu {es:List Expr} {xs:Exs} {m:Mk} {pos:Pos} (h:PA X es (tEs X.K φ xs)) (hl:∀σ μ ds μ',iu φ xs σ μ=.ok ds μ'→ds.length≤sizeLine):PE X (.List es pos) (tE X.K φ (.lst m xs)) :=
 PE.imp (PE.fq (Ta h)) fun σv H Q ⟨ι,σ,μ,hS,hL,h⟩=>by
  simp only[evE]at h
  obtain⟨ds,μ1,e1,h⟩:=h.bind
  refine⟨ι,σ,μ,hS,hL,?_⟩
  rw[e1]
  intro ι1 vs H1 p1 x1 s1 d1
  have hd:aq X.K ι1 H1 ds vs:=d1
  exact⟨by rw[hd.length];exact hl σ μ ds μ1 e1,fun p hp=>mv s1 hd (h.mono p1 x1) hp⟩
theorem wm {K:PySem.W.Frag} {ι:List Addr} {μ:Sto} {d:D} {v:V} {ds:List D} (hS:Sim K ι H μ) (hd:IsD K ι H d v) (h:dq μ d=some ds) :
  ∃a xs,v=.ref a∧(LsL K H a xs∨SqT K H a xs)∧aq K ι H ds xs:=by
 cases d with
 | tup es =>
  cases h
  simp only[IsD]at hd
  obtain⟨a,xs,e,q,r⟩:=hd
  exact⟨a,xs,e,.inr q,r⟩
 | lst es =>
  cases h
  simp only[IsD]at hd
  obtain⟨a,xs,e,q,r⟩:=hd
  exact⟨a,xs,e,.inl (.inr q),r⟩
 | loc n =>
  simp only[IsD]at hd
  obtain⟨a,e,q⟩:=hd
  simp only[dq]at h
  split at h
  ·rename_i es em
   cases h
   obtain⟨a',q',ho⟩:=hS.at em
   rw[q]at q';cases q'
   obtain⟨xs,e1,e2⟩:=ho
   exact⟨a,xs,e,.inl (.inl e1),aq.mono (CN) (.refl _) _ _ e2⟩
  ·rename_i es em
   cases h
   obtain⟨a',q',ho⟩:=hS.at em
   rw[q]at q';cases q'
   obtain⟨xs,e1,e2⟩:=ho
   exact⟨a,xs,e,.inl (.inl e1),e2⟩
  ·cases h
 | _=>simp[dq]at h
theorem mx {K:PySem.W.Frag} {ι:List Addr} {μ:Sto} {d:D} {v:V} {ds:List D} (hS:Sim K ι H μ) (hd:IsD K ι H d v) (h:listOf μ d=some ds) :
  ∃a xs,v=.ref a∧LsL K H a xs∧aq K ι H ds xs:=by
 cases d with
 | lst es =>
  cases h
  simp only[IsD]at hd
  obtain⟨a,xs,e,q,r⟩:=hd
  exact⟨a,xs,e,.inr q,r⟩
 | loc n =>
  simp only[IsD]at hd
  obtain⟨a,e,q⟩:=hd
  simp only[listOf]at h
  split at h
  ·rename_i es em
   cases h
   obtain⟨a',q',ho⟩:=hS.at em
   rw[q]at q';cases q'
   obtain⟨xs,e1,e2⟩:=ho
   exact⟨a,xs,e,.inl e1,aq.mono (CN) (.refl _) _ _ e2⟩
  ·rename_i es em
   cases h
   obtain⟨a',q',ho⟩:=hS.at em
   rw[q]at q';cases q'
   obtain⟨xs,e1,e2⟩:=ho
   exact⟨a,xs,e,.inl e1,e2⟩
  ·cases h
 | _=>simp[listOf]at h
theorem Xv {i:Nat} {x:Str} {pos:Pos} (hN:X.N[i]? = some x) (hv:Vis X.env.scope x) (hd:(x==("__debug__":Str))=false) (hcd:(x==("__classdict__":Str))=false):PE X (.Name x pos) (tE X.K φ (.frz i)) :=
 PE.imp (PE.fq (vz hN hv hd hcd)) fun σv H Q ⟨ι,σ,μ,hS,hL,h⟩=>by
  simp only[evE]at h
  split at h
  ·rename_i n e
   obtain⟨v,e1,e2⟩:=hL i _ e
   refine⟨v,e1,?_⟩
   simp only[IsD]at e2
   obtain⟨a,rfl,ha⟩:=e2
   split at h
   ·rename_i ds em
    obtain⟨a',q',ho⟩:=hS.at em
    rw[ha]at q';cases q'
    obtain⟨xs,f1,f2⟩:=ho
    refine .inr ⟨a,xs,rfl,f1,fun o=>?_⟩
    refine h ι (.ref a) _ (AN _) (.lst f1) (hS.put ha (.lst f1) ⟨_,bh⟩) ?_
    show IsD _ _ _ _ _
    simp only[IsD]
    exact⟨a,xs,rfl,.inl ⟨o,bh⟩,aq.mono (CN) (.lst f1) ds xs f2⟩
   ·rename_i ds em
    obtain⟨a',q',ho⟩:=hS.at em
    rw[ha]at q';cases q'
    obtain⟨xs,f1,f2⟩:=ho
    refine .inr ⟨a,xs,rfl,f1,fun o=>?_⟩
    refine h ι (.ref a) _ (AN _) (.lst f1) (hS.put ha (.lst f1) ⟨_,bh⟩) ?_
    show IsD _ _ _ _ _
    simp only[IsD]
    exact⟨a,xs,rfl,.inl ⟨o,bh⟩,aq.mono (AN _) (.lst f1) ds xs f2⟩
   ·exact h.elim
  ·exact h.elim
theorem OpR.imp {f:Value→Value→Sem Value} {r r':R2} (h:OpR X f r) (i:∀x y H Q,r' x y H Q→r x y H Q):OpR X f r':=fun pins s σ H x y v u Q I rx ry q=>h pins s σ H x y v u Q I rx ry (i _ _ _ _ q)
theorem IxR.imp {r r':R2} (h:IxR X r) (i:∀x y H Q,r' x y H Q→r x y H Q):IxR X r':=fun e1 e2 pins s σ H x y v u Q I rx ry q=>h e1 e2 pins s σ H x y v u Q I rx ry (i _ _ _ _ q)
theorem gm.imp {f:Value} {r r':List V→Hp→VK→Prop} (h:gm X f r) (i:∀xs H Q,r' xs H Q→r xs H Q):gm X f r':=fun pins s σ H xs us Q I rx q=>h pins s σ H xs us Q I rx (i _ _ _ q)
theorem MtR.imp {id:String} {r r':V→List V→Hp→VK→Prop} (h:MtR X id r) (i:∀x xs H Q,r' x xs H Q→r x xs H Q):MtR X id r':=fun pins s σ H x xs v us Q I rx rr q=>h pins s σ H x xs v us Q I rx rr (i _ _ _ _ q)
theorem T8 {K:PySem.W.Frag} {ι:List Addr} {ds:List D} {xs:List V} {i:Int} {j:Nat} {d:D} (h:aq K ι H ds xs) (hi:Lp.ixN ds.length i=some j) (hj:ds[j]? = some d):∃v,atI xs i=some v∧IsD K ι H d v:=by
 obtain⟨v,e,q⟩:=h.get hj
 refine⟨v,?_,q⟩
 unfold atI
 rw[h.length,show L2.ixN ds.length i=some j from hi]
 exact e
theorem Xw:IxR X (rOp X.K ixD):=IxR.imp Ti fun x y H Q ⟨ι,d,e,μ,hS,hd,he,h⟩=>by
 unfold ixD at h
 split at h
 ·rename_i i
  have hy:y=.int i:=by simpa[IsD]using he
  subst hy
  split at h
  ·rename_i ds es
   obtain⟨a,xs,rfl,hq,hds⟩:=wm hS hd es
   split at h
   ·rename_i j ej
    split at h
    ·rename_i d' ed
     obtain⟨v,ev,hv⟩:=T8 hds ej ed
     have qv:=h.ok hS hv
     rcases hq with hq | hq
     ·exact .inl ⟨a,xs,i,v,rfl,rfl,hq.sq,ev,qv⟩
     ·exact .inr (.inl ⟨a,xs,i,v,rfl,rfl,hq,ev,qv⟩)
    ·exact h.elim
   ·exact h.elim
  ·exact h.elim
 ·exact h.elim
theorem Ny {K:PySem.W.Frag} {ι:List Addr} {ds:List D} {xs:List V} (h:aq K ι H ds xs) (lo hi:Option Int):aq K ι H (cut ds lo hi) (Nl xs lo hi):=by
 have e1:∀n d o,Lp.sIx n d o=HT.sIx n d o:=fun n d o=>by cases o<;>rfl
 unfold cut Nl
 rw[h.length,e1,e1]
 exact(h.drop _).take _
end
end Lp
namespace Lp
open PySem PySem.Spec PyProof.Rows L2
noncomputable def Gp (env:Env):List (Str×NameKind)→List (Str×Addr)→List (Str×Addr)
 | [],acc=>acc
 | (n,k)::r,acc=>Gp env r (if k==.free then(n,(env.cells.lookup n).getD 0)::acc else acc)
noncomputable def r9 (env:Env) (x:Str×NameKind) (cs:List (Str×Addr)):Sem (ForInStep (List (Str×Addr))):=match x with
 | (name,kind)=>if kind==.free then(do let a ←cellOf env name;pure (ForInStep.yield ((name,a)::cs)))else pure (ForInStep.yield cs)
theorem rh {env:Env}:∀(names:List (Str×NameKind)) (acc:List (Str×Addr)),(∀n,(n,NameKind.free)∈names→∃c,env.cells.lookup n=some c) →
  forIn names acc (r9 env)=pure (Gp env names acc)
 | [],acc,_=>rfl
 | (n,k)::r,acc,h=>by
  rw[FS]
  by_cases hk:k=.free
  ·subst hk
   obtain⟨c,hc⟩:=h n AQ
   have e:r9 env (n,.free) acc=pure (ForInStep.yield ((n,c)::acc)):=by
    simp only[r9,cellOf,hc,beq_self_eq_true,if_true]
    rfl
   rw[e]
   refine Eq.trans (b:=forIn r ((n,c)::acc) (r9 env)) rfl ?_
   rw[rh r ((n,c)::acc) fun m hm=>h m (AJ _ hm)]
   simp[Gp,hc]
  ·have hb:(k==NameKind.free)=false:=by simpa using hk
   have e:r9 env (n,k) acc=pure (ForInStep.yield acc):=by
    unfold r9
    simp only[hb,AT,if_false]
   rw[e]
   refine Eq.trans (b:=forIn r acc (r9 env)) rfl ?_
   rw[rh r acc fun m hm=>h m (AJ _ hm)]
   simp[Gp,hb]
theorem wo {env:Env} {scope:Scope} (h:∀n,(n,NameKind.free)∈scope.names→∃c,env.cells.lookup n=some c):closureFor scope env=pure (Gp env scope.names []):=by
 have e:=rh (env:=env) scope.names [] h
 have e2:closureFor scope env=(forIn scope.names [] (r9 env)>>=fun cs=>pure cs):=rfl
 rw[e2,e]
 rfl
theorem tj {env:Env}:∀(names:List (Str×NameKind)) (acc:List (Str×Addr)) (x:Str) (c:Addr),(∀n,(n,NameKind.free)∈names→∃c,env.cells.lookup n=some c)→(Gp env names acc).lookup x=some c→acc.lookup x=some c∨env.cells.lookup x=some c
 | [],acc,x,c,_,h=>.inl h
 | (n,k)::r,acc,x,c,hh,h=>by
  rcases tj r _ x c (fun m hm=>hh m (AJ _ hm)) h with q | q
  ·by_cases hk:k=.free
   ·subst hk
    obtain⟨c',hc⟩:=hh n AQ
    simp only[beq_self_eq_true,if_true,EK]at q
    by_cases hx:x=n
    ·subst hx
     simp only[beq_self_eq_true,hc,EL,BU]at q
     subst q
     exact .inr hc
    ·have hb:(x==n)=false:=beq_eq_false_iff_ne.mpr hx
     rw[hb]at q
     exact .inl q
   ·have hb:(k==NameKind.free)=false:=by simpa using hk
    simp only[hb,AT,if_false]at q
    exact .inl q
  ·exact .inr q
theorem Ad {env:Env}:∀(names:List (Str×NameKind)) (acc:List (Str×Addr)) (x:Str),(∃c,acc.lookup x=some c)→∃c,(Gp env names acc).lookup x=some c
 | [],acc,x,h=>h
 | (n,k)::r,acc,x,h=>by
  refine Ad r _ x ?_
  by_cases hk:(k==NameKind.free)=true
  ·rw[if_pos hk,EK]
   cases hx:x==n with
   | true=>exact⟨_,rfl⟩
   | false=>exact h
  ·rw[if_neg hk];exact h
theorem yd {env:Env}:∀(names:List (Str×NameKind)) (acc:List (Str×Addr)) (x:Str),(x,NameKind.free)∈names→∃c,(Gp env names acc).lookup x=some c
 | [],acc,x,h=>by cases h
 | (n,k)::r,acc,x,h=>by
  rcases AM.mp h with e | e
  ·cases e
   refine Ad r _ n ?_
   exact⟨(env.cells.lookup n).getD 0,by simp⟩
  ·exact yd r _ x e
noncomputable def ph (X:Cx) (scope:Scope) (Nb:List Str) (C:Addr) (s:Shared) (H:Hp) (fp:List Addr):Cx :=
 {X with N:=Nb,s₀:=s,H₀:=H,env:=compEnvC scope (Gp X.env scope.names []) C X.env,outer:=X.stack,stack:=X.stack,ex:=fp,fn:=fun _=>false,pn:=[],xe:=fun _ _=>False}
structure CompScope (sc scope:Scope) (N Nb:List Str) (cap:List Nat) (nl:Nat):Prop where
 kind:scope.kind=.function
 nocell:∀y∈scope.names,y.2≠.cell
 uniq:∀y∈scope.names,scope.names.lookup y.1=some y.2
 free:∀n,(n,NameKind.free)∈scope.names→sc.names.lookup n=some .cell∨sc.names.lookup n=some .free
 fnames:∀n,(relabel scope {scope:=sc,locals:=0,globals:=0,cells:=[]}).names.lookup n=some .cell∨(relabel scope {scope:=sc,locals:=0,globals:=0,cells:=[]}).names.lookup n=some .free→(n,NameKind.free)∈scope.names
 nd:Nb.Nodup
 len:Nb.length=cap.length+nl
 capt:∀(j:Nat) i,cap[j]? = some i→∃x,Nb[j]? = some x∧N[i]? = some x∧(x,NameKind.free)∈scope.names
theorem Fn (scope:Scope) (env env':Env) (h:env.scope=env'.scope):relabel scope env=relabel scope env':=by
 unfold relabel Env.kindOf
 rw[h]
section
variable {X : Cx} {pins : List (Addr × Obj)} {σ : St} {H : Hp} {s : Shared} {scope : Scope} {Nb : List Str} {cap : List Nat} {nl : Nat}
noncomputable def l7 (cap:List Nat) (nl:Nat) (σ:St):St:=cap.map (fun i=>(σ[i]?).getD none)++List.replicate nl none
theorem Hh {fp:List Addr} {h':Heap} {tk:Nat} {C:Addr} {m:Str→Option Value} {D:Addr} {n0:Nat} (I:Inv X pins σ H s) (S:CompScope X.env.scope scope X.N Nb cap nl)
  (hf:∀b∈fp,E8 X pins H b) (hfp:∀b∈fp,∃o,s.heap.get? b=some o) (hk:∀b o,s.heap.get? b=some o→h'.get? b=some o) (hC:s.heap.objs.size≤C) (hD:s.heap.objs.size≤D) (hDC:D≠C)
  (hns:h'.Ns C m) (hm:∀x,m x=none) (hDo:h'.get? D=some {cls:=.type "list",data:=.seq #[] n0}) :
  Inv (ph X scope Nb C s H fp) [(D,{cls:=.type "list",data:=.seq #[] n0})] (l7 cap nl σ) H {s with heap:=h',toks:=tk}:=by
 have hcells:∀n,(n,NameKind.free)∈scope.names→∃c,X.env.cells.lookup n=some c:=fun n hn=>by
  rcases S.free n hn with e | e
  ·exact I.ok.has n (.inl e)
  ·exact I.ok.has n (.inr e)
 have sub:∀x c,(Gp X.env scope.names []).lookup x=some c→X.env.cells.lookup x=some c:=fun x c e=>by
  rcases tj scope.names [] x c hcells e with q | q
  ·cases q
  ·exact q
 have hlt:∀b∈fp,b<s.heap.objs.size:=fun b hb=>let ⟨o,e⟩:=hfp b hb;AL e
 have hrel:relabel scope X.env=relabel scope {scope:=X.env.scope,locals:=0,globals:=0,cells:=[]}:=Fn _ _ _ rfl
 have hcm:∀x c,X.env.cells.lookup x=some c→c<s.heap.objs.size:=fun x c e=>let ⟨v,q⟩:=I.cell x c e;q.lt
 refine⟨⟨I.ok.mod,by show(relabel scope X.env).kind=_;unfold relabel;exact S.kind,I.ok.glob,I.ok.blt,hC,fun x y c e1 e2=>I.ok.inj x y c (sub x c e1) (sub y c e2),fun x hx=>?_,fun x c hfn=>?_,I.ok.hd,I.ok.frames,.inl rfl,
  fun b hb=>⟨AR (AU (hlt b hb) hC),fun x c e=>(hf b hb).2.2.2.2.1 x c (sub x c e)⟩,I.bs,Do I.ok.bsz I.sz,fun b o e hb=>?_,fun b hb hb2=>?_,I.stack,I.stkFree⟩,
  rfl,I.bare,Un.kept hk,⟨m,hns,fun i x v e1 e2 e3=>?_⟩,fun x c e=>?_,I.hok.fresh hC,fun x c e=>I.freeC x c (sub x c e),fun p hp=>?_,I.hok.kept hk,?_⟩
 ·have hx':(relabel scope {scope:=X.env.scope,locals:=0,globals:=0,cells:=[]}).names.lookup x=some .cell∨(relabel scope {scope:=X.env.scope,locals:=0,globals:=0,cells:=[]}).names.lookup x=some .free:=by
   rw[←hrel];exact hx
  exact yd scope.names [] x (S.fnames x hx')
 ·cases hfn
 ·rcases(hf b hb).2.2.2.1 with z | z
  ·exact I.ok.noex b o e z
  ·have:=AL e
   exact absurd (AU this (Do I.ok.bsz z)) (DC _)
 ·rcases AM.mp (I.stkSub b hb2)with z | z
  ·exact(hf b hb).2.1 z
  ·exact(hf b hb).2.2.1 z
 ·-- a captured name
  have hi:i<cap.length:=by
   by_cases hi:i<cap.length
   ·exact hi
   ·unfold l7 at e2
    rw[BQ (by simpa using hi),DR]at e2
    split at e2<;>cases e2
  unfold l7 at e2
  rw[AW (by simpa using hi),BA,AB hi]at e2
  simp only[FT,BU]at e2
  obtain⟨y,q1,q2,q3⟩:=S.capt i _ (AB hi)
  have ey:y=x:=BM (q1.symm.trans e1)
  subst ey
  have e4:σ[cap[i]]? = some (some v):=by
   cases e5:σ[cap[i]]? with
   | none=>rw[e5]at e2;cases e2
   | some w=>rw[e5]at e2;simp at e2;rw[e2]
  obtain⟨m0,hn0,hl0⟩:=I.loc
  have hkind:X.env.kindOf y=some .cell∨X.env.kindOf y=some .free:=S.free y q3
  obtain⟨u,r,l⟩:=hl0 _ y v q2 e4 (by rcases hkind with z | z;exact .inr (.inl z);exact .inr (.inr z))
  refine⟨u,r,.inr ?_⟩
  rcases l with⟨z,_⟩ | ⟨_,c,ec,hc⟩
  ·rcases hkind with w | w<;>(rw[w]at z;cases z)
  ·obtain⟨c',ec'⟩:=yd (env:=X.env) scope.names [] y q3
   have:c'=c:=by have:=sub y c' ec';rw[ec]at this;cases this;rfl
   subst this
   obtain⟨o,ho,hd⟩:=hc
   refine⟨?_,c',ec',o,hk _ _ ho,hd⟩
   -- a free name is seen as a cell or as free
   have hv:(ph X scope Nb C s H fp).env.kindOf y=some .local∨(ph X scope Nb C s H fp).env.kindOf y=some .cell∨(ph X scope Nb C s H fp).env.kindOf y=some .free:=e3
   rcases hv with z | z | z
   ·exfalso
    have hl:(relabel scope X.env).names.lookup y=some .local:=z
    have mem:∀(l:List (Str×NameKind)) (y:Str),(l.map fun(n,k)=>if(k==NameKind.free&&X.env.scope.kind==.function&&X.env.kindOf n==some .cell)then(n,NameKind.cell)else(n,k)).lookup y=some .local→l.lookup y=some .local:=by
     intro l
     induction l with
     | nil=>intro y h;simp at h
     | cons a r ih =>
      obtain⟨n,k⟩:=a
      intro y h
      simp only[AS]at h
      rw[EK]
      by_cases hc:(k==NameKind.free&&X.env.scope.kind==.function&&X.env.kindOf n==some .cell)=true
      ·rw[if_pos hc,EK]at h
       cases hy:y==n with
       | true=>rw[hy]at h;cases h
       | false=>rw[hy]at h;exact ih y h
      ·rw[if_neg hc,EK]at h
       cases hy:y==n with
       | true=>rw[hy]at h;exact h
       | false=>rw[hy]at h;exact ih y h
    have hloc:=mem scope.names y hl
    rw[S.uniq (y,NameKind.free) q3]at hloc
    cases hloc
   ·exact .inl z
   ·exact .inr z
 ·obtain⟨v,o,ho,hd⟩:=I.cell x c (sub x c e)
  exact⟨v,o,hk _ _ ho,hd⟩
 ·have e:p=(D,{cls:=.type "list",data:=.seq #[] n0}):=by
   have:p∈([]:List (Addr×Obj))++[(D,{cls:=.type "list",data:=.seq #[] n0})]:=hp
   simpa using this
  subst e
  refine⟨hDo,I.hok.fresh hD,hDC,fun z=>?_,fun v z=>by cases z⟩
  have z':D∈frs X.stack:=z
  rcases AM.mp (I.stkSub D z')with w | w
  ·exact absurd (AU I.lt hD) (by rw[w];exact DC _)
  ·exact I.nofs hD w
 ·show(l7 cap nl σ).length=Nb.length
  rw[S.len];simp[l7]
end
noncomputable abbrev B0 (ifs:List Expr) (env:Env) (b:Bool):Sem Bool:=forIn ifs b fun c r=>if r=true then do let ok ←isTrue c env (eval c env);pure (ForInStep.yield ok)else pure (ForInStep.yield r)
noncomputable def PTs (X:Cx) (ifs:List Expr) (t:TT):Prop :=
 ∀(pins:List (Addr×Obj)) (s:Shared) (σ:St) (H:Hp) (Q:Bool→Hp→Prop),Inv X pins σ H s→t σ H Q→wpAny (model X.prog X.w) X.A (B0 ifs X.env true) (TP X pins σ Q) X.xe s
theorem ug {M:Model} {A:Around} {E:Value→Shared→Prop} {env:Env} {Q:Bool→Shared→Prop}:∀(ifs:List Expr) {s:Shared},Q false s→wpAny M A (B0 ifs env false) Q E s
 | [],s,h=>AD h
 | c::r,s,h=>by
  show wpAny M A (forIn (c::r) false _) Q E s
  rw[FS]
  exact AA (AD (ug r h))
noncomputable def tTsNil:TT:=fun _ H Q=>Q true H
noncomputable def Qm (t u:TT):TT:=fun σ H Q=>t σ H fun b H1=>if b=true then u σ H1 Q else Q false H1
theorem Qn {X:Cx}:PTs X [] tTsNil:=fun pins s σ H Q I h=>AD ⟨H,I,h⟩
theorem Lo {X:Cx} {c:Expr} {r:List Expr} {t u:TT} (h1:PT X c t) (h2:PTs X r u):PTs X (c::r) (Qm t u):=fun pins s σ H Q I h=>by
 show wpAny _ _ (forIn (c::r) true _) _ _ s
 rw[FS]
 refine AA (AA (thn (h1 pins s σ H _ I h) fun b s1 ⟨H1,I1,q1⟩=>AD ?_))
 cases b with
 | true=>exact h2 pins s1 σ H1 Q I1 q1
 | false=>exact ug r ⟨H1,I1,q1⟩
noncomputable def Kept (σ σ':St):Prop:=σ.length=σ'.length∧∀(i:Nat) v,σ[i]? = some (some v)→σ'[i]? = some (some v)
noncomputable def Qo (wi:TI) (g:TG) (ts:TT) (te:TE) (σb:St→St):TE:=fun σ H Q=>wi σ H fun J H1=>∃W:Nat→Nat→Hp→List V→Prop,(∃m,W 0 m H1 [])∧∀i m H acc,W i m H acc →
 (J.stop i H∧acc.length≤sizeLine∧∀p,H p=none→Q (.ref p) (upd H p (.lst acc))) ∨
 (J.go i H∧acc.length<sizeLine∧∀x H',J.yld i H x H'→g x (σb σ) H' fun σ2 H2=>Kept (σb σ) σ2∧ts σ2 H2 fun b H3=>if b=true then te σ2 H3 fun v H4=>∃m',m'<m∧W (i+1) m' H4 (acc++[v])else ∃m',m'<m∧W (i+1) m' H3 acc)
section
variable {X : Cx} {scope : Scope} {Nb : List Str} {cap : List Nat} {nl : Nat}
theorem _root_.L2.HOk.track {P:Program} {w:World} {H:Hp} {h:Heap} {p:Addr} {o:HO} (x:HOk P w H h) (hp:H p=none) (new:iz P w (upd H p o) h p o):HOk P w (upd H p o) h:=fun b u e=>by
 by_cases hb:b=p
 ·subst hb;rw[bh]at e;cases e;exact new
 ·rw[a9 hb]at e
  exact(x b u e).stay (fun c v _ q=>q) (fun c q=>by rw[a9 (cv q hp)];exact q) fun c xs q=>by rw[a9 (cv q hp)];exact q
theorem Hi {prog:Program} {w:World} {A:Around} {R:Result→Shared→Prop} {s:Shared} {elt target iter:Expr} {ifs:List Expr} {pos:Pos} {it acc:Value} {env:Env} (I:Nat→Shared→Prop)
  (turn:∀n s,I n s→wpAny (model prog w) A (pyNext it) (fun r s₁=>match r with
   | none=>R (.ok .next) s₁
   | some v=>wpAny (model prog w) A (letOwnedTupleGo target it v) (fun _ s₀=>wpAny (model prog w) A (assign target env v) (fun _ s₂ =>
     wpAny (model prog w) A (B0 ifs env true) (fun ok s₃ =>
      if ok=true then wpAny (model prog w) A (eval elt env) (fun x s₄ =>
       wpAny (model prog w) A (call (.builtin "list.append") [acc,x]) (fun _ s₅=>∃m,m<n∧I m s₅) (fun _ _=>False) s₄) (fun _ _=>False) s₃
      else ∃m,m<n∧I m s₃) (fun _ _=>False) s₂) (fun _ _=>False) s₀) (fun _ _=>False) s₁) (fun _ _=>False) s)
  (n:Nat) (h:I n s) :
  codeAny (model prog w) A (.compLoop (.ListComp elt [⟨target,iter,ifs,0⟩] scope pos) 0 it acc env) R s:=by
 refine codeAny_loop rfl I (fun n s hI=>?_) n h
 show wpAny _ A ((compTurn (.ListComp elt [⟨target,iter,ifs,0⟩] scope pos) 0 it acc env).onRaise (fun x=>do noteFrame x env;theTreesLotGoes x)) _ _ s
 refine wpAny_noted ?_
 rw[compTurn_list]
 have no:∀{α:Type} {t:Sem α} {Q:α→Shared→Prop} {E:Value→Shared→Prop} {s:Shared},wpAny (model prog w) A t Q (fun _ _=>False) s→wpAny (model prog w) A t Q E s:=fun h=>DZ h (fun _ _ q=>q) fun _ _ q=>q.elim
 refine AA (wpAny_standAt (AA (DZ (turn n s hI) (fun r s₁ h₁=>?_) fun _ _ h'=>h'.elim)))
 cases r with
 | none=>exact AD h₁
 | some v =>
  refine AA (DZ h₁ (fun _ s₀ h₀=>?_) fun _ _ h'=>h'.elim)
  refine AA (DZ h₀ (fun _ s₂ h₂=>AA (DZ h₂ (fun ok s₃ h₃=>?_) fun _ _ h'=>h'.elim)) fun _ _ h'=>h'.elim)
  cases ok with
  | false=>exact AD ⟨rfl,h₃⟩
  | true =>
   exact AA (AA (DZ h₃ (fun x s₄ h₄=>AA (DZ h₄ (fun _ s₅ h₅=>AD (AD ⟨rfl,h₅⟩)) fun _ _ h'=>h'.elim)) fun _ _ h'=>h'.elim))
noncomputable def B3 (X:Cx) (scope:Scope) (Nb:List Str) (target:Expr) (ifs:List Expr) (elt:Expr) (g:TG) (ts:TT) (te:TE):Prop :=
 ∀C s H fp,PG (ph X scope Nb C s H fp) target g∧PTs (ph X scope Nb C s H fp) ifs ts∧PE (ph X scope Nb C s H fp) elt te
theorem wq {elt target iter:Expr} {ifs:List Expr} {pos:Pos} {g:TG} {ts:TT} {te:TE} {pins:List (Addr×Obj)} {σ:St} {H:Hp} {s:Shared} {it:Addr} {fp:List Addr} {tn:Nat→Heap→Prop} {J:L2.It} {Q:VK} {E:Value→Shared→Prop} {use:Option (Value→Sem Unit)} {QQ:Value→Shared→Prop}
  (S:CompScope X.env.scope scope X.N Nb cap nl) (hc:X.calm=true) (B:B3 X scope Nb target ifs elt g ts te) (I:Inv X pins σ H s) (T:Turn X.prog X.w X.K target J fp it tn) (t0:tn 0 s.heap) (hf:∀b∈fp,E8 X pins H b)
  (h:∃W:Nat→Nat→Hp→List V→Prop,(∃m,W 0 m H [])∧∀i m H acc,W i m H acc →
   (J.stop i H∧acc.length≤sizeLine∧∀p,H p=none→Q (.ref p) (upd H p (.lst acc))) ∨
   (J.go i H∧acc.length<sizeLine∧∀x H',J.yld i H x H'→g x (l7 cap nl σ) H' fun σ2 H2=>Kept (l7 cap nl σ) σ2∧ts σ2 H2 fun b H3=>if b=true then te σ2 H3 fun v H4=>∃m',m'<m∧W (i+1) m' H4 (acc++[v])else ∃m',m'<m∧W (i+1) m' H3 acc))
  (hQ:∀(D C:Addr) (s':Shared) m,s.heap.objs.size≤C→(∀h',Heap.SameBut C s'.heap h'→EP X pins σ (fun v H=>H C=none∧Q v H) (.ref D) {s' with heap:=h'})→s'.heap.Ns C m→compPost (model X.prog X.w) X.A E use QQ (.ref D) C (.ok .next) s') :
  wpAny (model X.prog X.w) X.A (newList []) (fun acc s₃=>wpAny (model X.prog X.w) X.A (newFunctionEnv scope X.env.globals (Gp X.env scope.names []) [] X.env.qual none .none (some X.env)) (fun cenv s₄ =>
   codeAny (model X.prog X.w) X.A (.compStart (.ListComp elt [⟨target,iter,ifs,0⟩] scope pos) 0 (.ref it) acc {cenv with scope:=relabel scope X.env}) (compPost (model X.prog X.w) X.A E use QQ acc cenv.locals) s₄) E s₃) E s:=by
 refine BS (wpAny_newFunctionEnv S.nocell (by intro y hy;simp at hy) (fun h₁ hns₁ hsb₁=>?_) S.kind)
 dsimp only at hns₁ hsb₁ ⊢
 generalize hH2:s.heap.push {cls:=.type "list",dict:=none,data:=.seq ([]:List Value).toArray}=H2 at hns₁ hsb₁ ⊢
 have hC:H2.objs.size=s.heap.objs.size+1:=by rw[←hH2,CZ]
 have hDC:s.heap.objs.size≠H2.objs.size:=by rw[hC];exact AR (GP _)
 have hCle:s.heap.objs.size≤H2.objs.size:=by rw[hC];exact ES _
 have old:∀b o,s.heap.get? b=some o→h₁.get? b=some o:=fun b o e=>hsb₁.extBut b o (by rw[hC];exact AR (DS (AL e))) (AC _ (hH2 ▸ AC _ e))
 have hDo:h₁.get? s.heap.objs.size=some {cls:=.type "list",data:=.seq #[]}:=hsb₁.extBut _ _ hDC (AC _ (hH2 ▸ AH _ rfl))
 have hfp:∀b∈fp,∃o,s.heap.get? b=some o:=fun b hb=>let ⟨o,e,_⟩:=T.obj 0 _ t0 b hb;⟨o,e⟩
 have hlt:∀b∈fp,b<s.heap.objs.size:=fun b hb=>let ⟨o,e⟩:=hfp b hb;AL e
 obtain⟨W,⟨m0,w0⟩,turn⟩:=h
 obtain⟨BG,BT,BE⟩:=B H2.objs.size s H fp
 have I4:=Hh (tk:=s.toks+([]:List (Str×Value)).length) I S hf hfp old hCle (AI _) hDC hns₁ (fun x=>by simp) hDo
 have hcells:∀n,(n,NameKind.free)∈scope.names→∃c,X.env.cells.lookup n=some c:=fun n hn=>by
  rcases S.free n hn with e | e
  ·exact I.ok.has n (.inl e)
  ·exact I.ok.has n (.inr e)
 -- what the iterator's objects are to the block
 have stat:∀{H':Hp},(∀b∈fp,H' b=none)→∀b∈fp,E8 (ph X scope Nb H2.objs.size s H fp) [] H' b:=fun hn b hb=>by
  refine⟨hn b hb,AR (AU (hlt b hb) hCle),fun z=>?_,.inl hb,fun x c e=>?_,fun p hp=>absurd (show p∈([]:List (Addr×Obj))++[]from hp) (by simp)⟩
  ·rcases AM.mp (I.stkSub b z)with z | z
   ·exact(hf b hb).2.1 z
   ·exact(hf b hb).2.2.1 z
  ·rcases tj scope.names [] x c hcells e with q | q
   ·cases q
   ·exact(hf b hb).2.2.2.2.1 x c q
 have loop:∀s₃:Shared,s₃={s with heap:=h₁,toks:=s.toks+([]:List (Str×Value)).length} →
   codeAny (model X.prog X.w) X.A (.compLoop (.ListComp elt [⟨target,iter,ifs,0⟩] scope pos) 0 (.ref it) (.ref s.heap.objs.size) (compEnvC scope (Gp X.env scope.names []) H2.objs.size X.env))
    (compPost (model X.prog X.w) X.A E use QQ (.ref s.heap.objs.size) H2.objs.size) s₃:=by
  rintro s₃ rfl
  refine Hi (fun n s'=>∃i H' acc its n',Inv (ph X scope Nb H2.objs.size s H fp) [] (l7 cap nl σ) H' s'∧tn i s'.heap∧(∀b∈fp,H' b=none)∧H' s.heap.objs.size=none ∧
   s'.heap.get? s.heap.objs.size=some {cls:=.type "list",data:=.seq (its:List Value).toArray n'}∧cq acc its∧W i n H' acc) ?_ m0
   ⟨0,H,[],[],_,I4.pins_of (fun p hp=>absurd hp (by simp)),T.keep _ _ _ t0 fun b hb o e=>old b o e,fun b hb=>(hf b hb).1,I.hok.fresh (AI _),hDo,.nil,w0⟩
  rintro n s5 ⟨i,H5,acc,its,n5,I5,t5,f5,hD5,hget5,hv5,w5⟩
  rcases turn i n H5 acc w5 with⟨stop,hz,q⟩ | ⟨go,hz,q⟩
  ·refine thn (T.done (ph X scope Nb H2.objs.size s H fp) rfl rfl rfl hc i [(s.heap.objs.size,{cls:=.type "list",data:=.seq its.toArray n5})] s5 _ H5 _ (I5.pins_of ?_) ?_ t5 stop) fun r s6 ⟨hr,I6⟩=>?_
   ·intro p hp
    have e:p=(s.heap.objs.size,{cls:=.type "list",data:=.seq its.toArray n5}):=by simpa using hp
    subst e
    refine⟨hget5,hD5,hDC,fun z=>?_,fun v z=>by cases z⟩
    rcases AM.mp (I.stkSub _ (show s.heap.objs.size∈frs X.stack from z))with w | w
    ·exact absurd I.lt (by rw[←w];exact DC _)
    ·exact I.nofs (AI _) w
   ·intro b hb
    obtain⟨a1,a2,a3,a4,a5,a6⟩:=stat f5 b hb
    refine⟨a1,a2,a3,a4,a5,fun p hp=>?_⟩
    have e:p=(s.heap.objs.size,{cls:=.type "list",data:=.seq its.toArray n5}):=by
     have:p∈([]:List (Addr×Obj))++[(s.heap.objs.size,{cls:=.type "list",data:=.seq its.toArray n5})]:=hp
     simpa using this
    subst e
    exact fun z=>absurd (hlt b hb) (by rw[←z];exact DC _)
   ·subst hr
    have hget6:=(I6.pin (s.heap.objs.size,{cls:=.type "list",data:=.seq its.toArray n5}) (by show _∈([]:List (Addr×Obj))++_;simp)).1
    obtain⟨m6,hn6,_⟩:=I6.loc
    refine hQ _ _ s6 m6 hCle (fun h' hs'=>?_) hn6
    have hk6:∀b o,b≠H2.objs.size→s6.heap.get? b=some o→h'.get? b=some o:=fun b o hb e=>hs'.extBut b o hb e
    have hgetD:=hk6 _ _ hDC hget6
    have Cn:H5 H2.objs.size=none:=I6.free
    have hok':HOk X.prog X.w H5 h':=fun b u e=>by
     refine(I6.hok b u e).stay (fun c v hcc q=>hk6 c v ?_ q) (fun _ q=>q) fun _ _ q=>q
     rcases hcc with z | z
     ·rintro rfl;rw[←z]at e;rw[Cn]at e;cases e
     ·rintro rfl;rw[Cn]at z;cases z
    refine⟨.ref s.heap.objs.size,upd H5 s.heap.objs.size (.lst acc),?_,rfl,by rw[a9 (Ne.symm hDC)];exact Cn,q _ hD5⟩
    have hU:Un (frs X.stack) fp H H5 s.heap s6.heap:=I6.base
    have nC:∀b o,s.heap.get? b=some o→b≠H2.objs.size:=fun b o e=>AR (AU (AL e) hCle)
    have nD:∀b o,s.heap.get? b=some o→b≠s.heap.objs.size:=fun b o e=>AR (AL e)
    refine I.call' (s':={s6 with heap:=h'}) (ch:=fp) (by show s6.os=s.os;exact I6.os) ⟨fun b o e nn hb hx=>hk6 b o (nC b o e) (hU.keep b o e nn hb hx),fun b o e nn hb hx=>?_,fun b o e nn hx=>?_,fun b o e hx=>?_,fun b xs e=>?_,fun b o u e=>?_,fun b ps e=>?_⟩ ?_ I6.bare ?_
    ·obtain⟨sl,e2⟩:=hU.slot b o e nn hb hx
     exact⟨sl,hk6 b _ (nC b o e) e2⟩
    ·rw[a9 (nD b o e)];exact hU.free b o e nn hx
    ·obtain⟨o',e2⟩:=hU.there b o e hx
     exact⟨o',hk6 b _ (nC b o e) e2⟩
    ·have e2:=hU.tups b xs e
     rw[a9 (cv e2 hD5)];exact e2
    ·have e2:=hU.frzs b o u e
     rw[a9 (cv e2 hD5)];exact e2
    ·obtain⟨more,e2⟩:=hU.tbls b ps e
     exact⟨more,by rw[a9 (cv e2 hD5)];exact e2⟩
    ·exact L2.HOk.track hok' hD5 ⟨hz,its,n5,hv5,hgetD⟩
    ·intro b hb
     obtain⟨a1,a2,a3,a4,a5,a6⟩:=hf b hb
     exact⟨a4,a2,a5,a6⟩
  ·-- one more turn
   have notfs:s.heap.objs.size∉frs X.stack:=fun z=>by
    rcases AM.mp (I.stkSub _ z)with w | w
    ·exact absurd I.lt (by rw[←w];exact DC _)
    ·exact I.nofs (AI _) w
   have I5':Inv (ph X scope Nb H2.objs.size s H fp) [(s.heap.objs.size,{cls:=.type "list",data:=.seq its.toArray n5})] (l7 cap nl σ) H5 s5:=I5.pins_of fun p hp=>by
    have e:p=(s.heap.objs.size,{cls:=.type "list",data:=.seq its.toArray n5}):=by simpa using hp
    subst e
    exact⟨hget5,hD5,hDC,notfs,fun v z=>by cases z⟩
   have stat':∀{H':Hp},(∀b∈fp,H' b=none)→∀b∈fp,E8 (ph X scope Nb H2.objs.size s H fp) [(s.heap.objs.size,{cls:=.type "list",data:=.seq its.toArray n5})] H' b:=fun hn b hb=>by
    obtain⟨a1,a2,a3,a4,a5,a6⟩:=stat hn b hb
    refine⟨a1,a2,a3,a4,a5,fun p hp=>?_⟩
    have e:p=(s.heap.objs.size,{cls:=.type "list",data:=.seq its.toArray n5}):=by
     have:p∈([]:List (Addr×Obj))++[(s.heap.objs.size,{cls:=.type "list",data:=.seq its.toArray n5})]:=hp
     simpa using this
    subst e
    exact fun z=>absurd (hlt b hb) (by rw[←z];exact DC _)
   refine thn (T.item (ph X scope Nb H2.objs.size s H fp) rfl rfl rfl hc i _ s5 _ H5 (fun _ _=>False) I5' (stat' f5) t5 go) fun r s6 ⟨u,hr,h6⟩=>?_
   subst hr
   refine thn h6 fun _ s7 ⟨x,H7,I7,r7,y7,t7,f7⟩=>?_
   have I7':=I7.pinned (stat' f7) (T.obj _ _ t7)
   have back:∀{σ':St} {H':Hp} {s':Shared},Inv (ph X scope Nb H2.objs.size s H fp) ([(s.heap.objs.size,{cls:=.type "list",data:=.seq its.toArray n5})]++zr fp s7.heap) σ' H' s' →
     tn (i+1) s'.heap∧(∀b∈fp,H' b=none)∧H' s.heap.objs.size=none∧s'.heap.get? s.heap.objs.size=some {cls:=.type "list",data:=.seq its.toArray n5}:=fun {σ' H' s'} J'=>by
    have pD:=J'.pin (s.heap.objs.size,{cls:=.type "list",data:=.seq its.toArray n5}) (by show _∈([]:List (Addr×Obj))++_;simp)
    refine⟨T.keep _ _ _ t7 fun b hb o e=>(J'.pin (b,o) (CA _ (CA _ (oq hb e)))).1,fun b hb=>?_,pD.2.1,pD.1⟩
    obtain⟨o,e,d⟩:=T.obj _ _ t7 b hb
    exact(J'.pin (b,o) (CA _ (CA _ (oq hb e)))).2.1
   refine thn (BG _ s7 _ H7 x u _ I7' r7 (q x H7 y7)) fun _ s8 ⟨σ8,H8,I8,ks,q8⟩=>?_
   refine thn (BT _ s8 σ8 H8 _ I8 q8) fun ok s9 ⟨H9,I9,q9⟩=>?_
   cases ok with
   | false =>
    obtain⟨m',hm',w9⟩:∃m',m'<n∧W (i+1) m' H9 acc:=q9
    obtain⟨b1,b2,b3,b4⟩:=back I9
    exact⟨m',hm',i+1,H9,acc,its,n5,(I9.weak ks.1 ks.2).pins_of (fun p hp=>absurd hp (by simp)),b1,b2,b3,b4,hv5,w9⟩
   | true =>
    refine thn (BE _ s9 σ8 H9 _ I9 q9) fun xv s10 ⟨v,H10,I10,r10,m',hm',w10⟩=>?_
    obtain⟨b1,b2,b3,b4⟩:=back I10
    have hl5:=hv5.length
    refine wpAny_list_append_plain (items:=its.toArray) ⟨n5,b4⟩ (fun h' hpl hs'=>?_) (by rw[AE,←hl5];exact ET hz)
    obtain⟨n6,hg6⟩:=hpl
    have I11:Inv (ph X scope Nb H2.objs.size s H fp) [] (l7 cap nl σ) H10 {s10 with heap:=h'}:=by
     have I10':=(I10.weak ks.1 ks.2).pins_of (pins':=[]) (fun p hp=>absurd hp (by simp))
     refine I10'.turned (t':=s10.toks) (it:=s.heap.objs.size) (fun b o hb e=>hs'.extBut b o hb e) b3 hDC (.inr (AI _)) (fun x c e=>?_) (fun p hp=>absurd (show p∈([]:List (Addr×Obj))++[]from hp) (by simp))
     rcases tj scope.names [] x c hcells e with q | q
     ·cases q
     ·obtain⟨v,hcc⟩:=I.cell x c q
      exact AR hcc.lt
    refine⟨m',hm',i+1,H10,acc++[v],its++[xv],n6,I11,?_,b2,b3,by rw[hg6];simp,hv5.append (.cons r10 .nil),w10⟩
    exact T.keep _ _ _ b1 fun b hb o e=>hs'.extBut b o (AR (hlt b hb)) e
 exact codeAny_compStart_list (loop _ rfl) (T.self X.A 0 _ _ _ (T.keep _ _ _ t0 fun b hb o e=>old b o e) (loop _ rfl))
theorem Qp {elt target iter:Expr} {ifs:List Expr} {pos:Pos} {wi:TI} {g:TG} {ts:TT} {te:TE} (S:CompScope X.env.scope scope X.N Nb cap nl) (hc:X.calm=true) (hi:PI X target iter wi) (B:B3 X scope Nb target ifs elt g ts te)
  (hs:∀x,foldedSetIterable iter X.env x=pure x):PE X (.ListComp elt [⟨target,iter,ifs,0⟩] scope pos) (Qo wi g ts te (l7 cap nl)):=by
 intro pins s σ H Q I h
 rw[eval_ListComp]
 have hcells:∀n,(n,NameKind.free)∈scope.names→∃c,X.env.cells.lookup n=some c:=fun n hn=>by
  rcases S.free n hn with e | e
  ·exact I.ok.has n (.inl e)
  ·exact I.ok.has n (.inr e)
 refine wpAny_comprehension_free (use:=none) rfl hs (wo hcells) S.kind (fun y hy hl=>by rw[S.uniq y hy,hl]) ?_
 refine thn (hi pins s σ H _ I h) fun v s1 h1=>thn h1 fun itv s2 ⟨it,fp,tn,J,H2,e,I2,T,t2,f2,hW⟩=>?_
 subst e
 exact wq (Q:=Q) (QQ:=EP X pins σ Q) S hc B I2 T t2 f2 hW fun D C s' m _ hq hn=>⟨m,hn,fun h' hs'=>let ⟨v,H',I',r,q⟩:=hq h' hs';⟨v,H',I',r,q.2⟩⟩
theorem Fo {elt target iter:Expr} {ifs:List Expr} {pos spos py:Pos} {y:Str} {i:Nat} {wi:TI} {g:TG} {ts:TT} {te:TE} (S:CompScope X.env.scope scope X.N Nb cap nl) (hc:X.calm=true) (hi:PI X target iter wi) (B:B3 X scope Nb target ifs elt g ts te)
  (hs:∀x,foldedSetIterable iter X.env x=pure x) (hsw:swapsWith (.ListComp elt [⟨target,iter,ifs,0⟩] scope pos) (some (.Name y py)) spos.line X.env=pure true)
  (hN:X.N.Nodup) (hiN:X.N[i]? = some y) (hy:X.env.scope.names.lookup y=some .local) :
  PS X (.Assign [.Name y py] (.ListComp elt [⟨target,iter,ifs,0⟩] scope pos) spos) (fun E σ H=>Qo wi g ts te (l7 cap nl) σ H (FQ fun v H1=>E.nx (σ.set i (some v)) H1)):=by
 intro pins s σ H E I h
 rw[exec_Assign_Name_used _ _ _ _ hsw]
 have hcells:∀n,(n,NameKind.free)∈scope.names→∃c,X.env.cells.lookup n=some c:=fun n hn=>by
  rcases S.free n hn with e | e
  ·exact I.ok.has n (.inl e)
  ·exact I.ok.has n (.inr e)
 refine AA (wpAny_standAt (AA ?_))
 show wpAny _ _ (comprehension _ scope X.env _ (newList []) false (eval iter X.env) (some (assign (.Name y py) X.env))>>=fun _=>pure ()) _ _ _
 refine AA (wpAny_comprehension_free (use:=some (assign (.Name y py) X.env)) rfl hs (wo hcells) S.kind (fun z hz hl=>by rw[S.uniq z hz,hl]) ?_)
 refine thn (hi pins s σ H _ I h) fun v s1 h1=>thn h1 fun itv s2 ⟨it,fp,tn,J,H2,e,I2,T,t2,f2,hW⟩=>?_
 subst e
 refine wq (Q:=FQ fun v H1=>E.nx (σ.set i (some v)) H1) S hc B I2 T t2 f2 hW fun D C s' m hC hq hn=>?_
 obtain⟨v,H',I',r,hCn,q⟩:=hq s'.heap (.refl ..)
 have hep:∃H',Inv X pins σ H' s'∧H' C=none∧E.nx (σ.set i (some v)) H':=by
  rcases q with q | ⟨p,xs,rfl,e,q⟩
  ·exact⟨H',I',hCn,q⟩
  ·obtain⟨o,I''⟩:=L2.Inv.freeze I' e
   exact⟨_,I'',by rw[a9 (fun z=>by rw[z,e]at hCn;cases hCn)];exact hCn,q o⟩
 obtain⟨H',I',hCn,q⟩:=hep
 have hCL:C≠X.env.locals:=CL (AU I2.lt hC)
 show wpAny _ _ (assign (.Name y py) X.env (.ref D)) _ _ s'
 refine wpAny_assign_Name (zq I' hN hiN (.inl hy) r (fun s'' I'' ⟨a,hsb,ha⟩=>?_) (.inr hy))
 have haC:C≠a:=by
  rcases ha with z | z
  ·rw[z];exact hCL
  ·obtain⟨w,hc⟩:=I2.cell y a z
   exact CL (AU hc.lt hC)
 refine⟨m,hn.sameBut hsb haC,fun h' hs'=>?_⟩
 refine AD (AD ⟨_,H',?_,q⟩)
 refine I''.turned (t':=s''.toks) (it:=C) (fun b o hb e=>hs'.extBut b o hb e) hCn hCL (.inr (Do I2.sz hC)) (fun x c e=>?_) (fun p hp=>?_)
 ·obtain⟨w,hc⟩:=I2.cell x c e
  exact AR (AU hc.lt hC)
 ·exact AR (AU (AL (I2.pin p hp).1) hC)
end
end Lp
namespace Lp
open PySem PySem.Spec PyProof.Rows L2
noncomputable def tTs (K:PySem.W.Frag) (φ:Phi) (x:Exs):TT:=fun σv H Q=>∃ι σ μ,Sim K ι H μ∧qz K ι H σ σv∧ig K RB ι H (Fm φ x σ μ) Q
section
variable {X : Cx} {φ : Phi} {scope : Scope} {Nb : List Str} {cap : List Nat} {nl : Nat}
theorem PTs.imp {ifs:List Expr} {t t':TT} (h:PTs X ifs t) (i:∀σ H Q,t' σ H Q→t σ H Q):PTs X ifs t':=fun pins s σ H Q I q=>h pins s σ H Q I (i σ H Q q)
theorem T9:PTs X [] (tTs X.K φ .nil):=PTs.imp Qn fun σv H Q ⟨ι,σ,μ,hS,hL,h⟩=>by
 simp only[Fm]at h
 exact h.ok hS rfl
theorem Qq {c:Expr} {r:List Expr} {xc:Ex} {xr:Exs} (h1:PT X c (tT X.K φ xc)) (h2:PTs X r (tTs X.K φ xr)):PTs X (c::r) (tTs X.K φ (.cons xc xr)):=PTs.imp (Lo h1 h2) fun σv H Q ⟨ι,σ,μ,hS,hL,h⟩=>by
 simp only[Fm]at h
 obtain⟨d,μ1,e1,h⟩:=h.bind
 refine⟨ι,σ,μ,hS,hL,?_⟩
 rw[e1]
 cases d with
 | bl k =>
  intro ι1 x H1 p1 x1 s1 d1
  cases d1
  cases k with
  | true=>exact⟨ι1,σ,μ1,s1,hL.mono p1 x1,(show ig _ _ _ _ (Fm φ xr σ μ1) _ from h).mono p1 x1⟩
  | false=>exact h ι1 false H1 p1 x1 s1 rfl
 | _=>exact h.elim
theorem Lq {K:PySem.W.Frag} {ι:List Addr} {H:Hp} {σ:Sl} {σv:St} (hL:qz K ι H σ σv):qz K ι H (cap.map (fun i=>(σ[i]?).getD none)++List.replicate nl none) (l7 cap nl σv):=fun j d e=>by
 by_cases hj:j<cap.length
 ·rw[AW (by simpa using hj),BA,AB hj]at e
  simp only[FT,BU]at e
  have e4:σ[cap[j]]? = some (some d):=by
   cases e5:σ[cap[j]]? with
   | none=>rw[e5]at e;cases e
   | some w=>rw[e5]at e;simp at e;rw[e]
  obtain⟨v,q1,q2⟩:=hL _ _ e4
  refine⟨v,?_,q2⟩
  unfold l7
  rw[AW (by simpa using hj),BA,AB hj]
  simp[q1]
 ·rw[BQ (by simpa using hj),DR]at e
  split at e<;>cases e
theorem Ls {σv σv':St} {tg:Tg} (hs:∀j∈slots tg,cap.length≤j) (hl:σv'.length=(l7 cap nl σv).length) (h:∀j,j∉slots tg→σv'[j]? = (l7 cap nl σv)[j]?):Kept (l7 cap nl σv) σv':=by
 refine⟨hl.symm,fun i v e=>?_⟩
 have hi:i<cap.length:=by
  by_cases hi:i<cap.length
  ·exact hi
  ·unfold l7 at e
   rw[BQ (by simpa using hi),DR]at e
   split at e<;>cases e
 rw[h i fun z=>absurd (hs i z) (by lia)]
 exact e
theorem Ae {m:Mk} {tg:Tg} {it:It} {cs:Exs} {elt:Ex} {σv:St} {H:Hp} {Q:VK} (hs:∀j∈slots tg,cap.length≤j) (h:tE X.K φ (.comp m cap nl tg it cs elt) σv H Q) :
  Qo (tI X.K φ it) (tG X.K tg) (tTs X.K φ cs) (tE X.K φ elt) (l7 cap nl) σv H (FQ Q):=by
 obtain⟨ι,σ,μ,hS,hL,h⟩:=h
 simp only[evE]at h
 obtain⟨⟨ds,g⟩,μ1,e1,h⟩:=h.bind
 refine⟨ι,σ,μ,hS,hL,?_⟩
 rw[e1]
 intro ι1 H1 J p1 x1 s1 wk
 refine⟨fun i k H' acc=>k=ds.length-i∧i≤ds.length∧acc.length≤i∧∃ι' μ' ys,ι1 <+: ι'∧Ext H1 H'∧Sim X.K ι' H' μ'∧aq X.K ι' H' ys acc ∧
  ig X.K (RD X.K) ι' H' ((mapR g (fun d μ=>o6 (fw tg d (cap.map (fun i=>(σ[i]?).getD none)++List.replicate nl none)) fun σ' =>
    (Fm φ cs σ' μ).bind fun b μ=>if b=true then(evE φ elt σ' μ).bind fun x μ=>.ok [x] μ else .ok [] μ) (ds.drop i) μ').bind fun xs μ=>mkL m (ys++xs) μ) Q,
  ⟨ds.length,by simp,CQ _,AI _,ι1,μ1,[],AN _,.refl _,s1,by simp[aq],?_⟩,?_⟩
 ·simpa using h.mono p1 x1
 ·rintro i k H' acc ⟨rfl,hi,hacc,ι',μ',ys,p',x',s',hys,h'⟩
  have wl:=wk.len
  by_cases hlt:i<ds.length
  ·obtain⟨d,ed⟩:∃d,ds[i]? = some d:=⟨ds[i],AB hlt⟩
   have edrop:ds.drop i=d::ds.drop (i+1):=by
    rw[HU hlt]
    rw[AB hlt]at ed
    cases ed;rfl
   rw[edrop]at h'
   simp only[mapR]at h'
   split at h'
   ·rename_i hgd
    right
    refine⟨wk.go i ι' H' μ' p' x' s' hgd hlt,by lia,fun v H2 hy=>?_⟩
    obtain⟨x2,s2,d',ed',hd'⟩:=wk.yld i ι' H' μ' v H2 p' x' s' hgd hlt hy
    rw[ed]at ed';cases ed'
    rw[Res.bind_assoc]at h'
    cases eb:fw tg d (cap.map (fun i=>(σ[i]?).getD none)++List.replicate nl none)with
    | none=>rw[eb]at h';exact h'.elim
    | some σb =>
     rw[eb]at h'
     simp only[pf]at h'
     have hLb:=Lq (cap:=cap) (nl:=nl) ((hL.mono (p1.trans p') (x1.trans x')).mono (AN _) x2)
     refine⟨ι',_,d,σb,hLb,?_,hd',eb,fun σv2 l2 z2 z3 k2=>⟨Ls hs z3 k2,ι',σb,μ',s2,l2,?_⟩⟩
     ·simp[l7]
     ·rw[Res.bind_assoc]at h'
      obtain⟨b,μ2,e2,h2⟩:=h'.bind
      rw[e2]
      intro ι3 b' H3 p3 x3 s3 d3
      cases d3
      cases b with
      | false =>
       refine⟨ds.length-(i+1),by lia,rfl,hlt,by lia,ι3,μ2,ys,p'.trans p3,(x'.trans x2).trans x3,s3,aq.mono p3 (x2.trans x3) _ _ hys,?_⟩
       have h3:=h2.mono p3 (x2.trans x3)
       simpa[Res.bind_assoc]using h3
      | true =>
       simp only[if_true]at h2 ⊢
       rw[Res.bind_assoc]at h2
       obtain⟨y,μ3,e3,h3⟩:=h2.bind
       refine⟨ι3,σb,μ2,s3,l2.mono p3 x3,?_⟩
       rw[e3]
       intro ι4 w H4 p4 x4 s4 d4
       refine⟨ds.length-(i+1),by lia,rfl,hlt,by simp;lia,ι4,μ3,ys++[y],(p'.trans p3).trans p4,((x'.trans x2).trans x3).trans x4,s4,(aq.mono (p3.trans p4) ((x2.trans x3).trans x4) _ _ hys).append (.one d4),?_⟩
       have h4:=h3.mono (p3.trans p4) ((x2.trans x3).trans x4)
       simpa[Res.bind_assoc]using h4
   ·exact h'.elim
  ·have ei:i=ds.length:=by lia
   subst ei
   simp only[List.drop_length,mapR]at h'
   split at h'
   ·rename_i hgd
    refine .inl ⟨wk.stop ι' H' μ' p' x' s' hgd,by lia,fun p hp=>mv s' hys (by simpa using h') hp⟩
   ·exact h'.elim
theorem Ua {e target iter:Expr} {ifs:List Expr} {pos:Pos} {m:Mk} {tg:Tg} {it:It} {cs:Exs} {elt:Ex} (S:CompScope X.env.scope scope X.N Nb cap nl) (hc:X.calm=true) (hi:PI X target iter (tI X.K φ it))
  (B:B3 X scope Nb target ifs e (tG X.K tg) (tTs X.K φ cs) (tE X.K φ elt)) (hf:∀x,foldedSetIterable iter X.env x=pure x) (hs:∀j∈slots tg,cap.length≤j) :
  PE X (.ListComp e [⟨target,iter,ifs,0⟩] scope pos) (tE X.K φ (.comp m cap nl tg it cs elt)) :=
 PE.imp (PE.fq (Qp S hc hi B hf)) fun σv H Q h=>Ae hs h
theorem Hj {e target iter:Expr} {ifs:List Expr} {pos spos py:Pos} {y:Str} {i:Nat} {m:Mk} {tg:Tg} {it:It} {cs:Exs} {elt:Ex} (S:CompScope X.env.scope scope X.N Nb cap nl) (hc:X.calm=true) (hi:PI X target iter (tI X.K φ it))
  (B:B3 X scope Nb target ifs e (tG X.K tg) (tTs X.K φ cs) (tE X.K φ elt)) (hf:∀x,foldedSetIterable iter X.env x=pure x) (hs:∀j∈slots tg,cap.length≤j)
  (hsw:swapsWith (.ListComp e [⟨target,iter,ifs,0⟩] scope pos) (some (.Name y py)) spos.line X.env=pure true) (hN:X.N.Nodup) (hiN:X.N[i]? = some y) (hy:X.env.scope.names.lookup y=some .local) :
  PS X (.Assign [.Name y py] (.ListComp e [⟨target,iter,ifs,0⟩] scope pos) spos) (tS X.K φ (.set i (.comp m cap nl tg it cs elt))) :=
 PS.imp (Fo S hc hi B hf hsw hN hiN hy) fun E σv H ⟨ι,σ,μ,hS,hL,hl,h⟩=>by
  refine Ae (m:=m) (Q:=fun v H1=>E.nx (σv.set i (some v)) H1) hs ?_
  simp only[evS]at h
  obtain⟨d,μ1,e1,h⟩:=h.bind
  refine⟨ι,σ,μ,hS,hL,?_⟩
  rw[e1]
  exact fun ι1 v H1 p1 x1 s1 d1=>h ι1 _ H1 p1 x1 s1 ((hL.mono p1 x1).set hl d1) (by simp[hl])
end
end Lp
namespace Lp
open PySem PySem.Spec PyProof.Rows L2
section
variable {X : Cx} {φ : Phi}
theorem jd {K:PySem.W.Frag} {ι:List Addr} {H:Hp} {ds:List D} {v:V} (h:IsD K ι H (.tup ds) v):∃a xs,v=.ref a∧SqT K H a xs∧aq K ι H ds xs:=by
 simpa[IsD]using h
theorem tup_is {K:PySem.W.Frag} {ι:List Addr} {H:Hp} {ds:List D} {a:Addr} {xs:List V} (h:SqT K H a xs) (h2:aq K ι H ds xs):IsD K ι H (.tup ds) (.ref a):=by
 simp only[IsD]
 exact⟨a,xs,rfl,h,h2⟩
theorem fh {K:PySem.W.Frag} {ι:List Addr} {H:Hp} {i:Int} {v:V} (h:IsD K ι H (.int i) v):v=.int i:=by simpa[IsD]using h
theorem Af {K:PySem.W.Frag} {ι:List Addr} {H:Hp} {i:Bool} {v:V} (h:IsD K ι H (.bl i) v):v=.bl i:=by simpa[IsD]using h
theorem ye {K:PySem.W.Frag} {ι:List Addr} {H:Hp} {μ:Sto} {ds:List D} {xs:List V} {Q:VK} {p:Addr} (hS:Sim K ι H μ) (hd:aq K ι H ds xs) (h:ig K (RD K) ι H (.ok (.tup ds) μ) Q) (hp:H p=none):Q (.ref p) (upd H p (.tup xs)) :=
 h ι (.ref p) _ (AN _) (.new hp) (hS.new hp) (tup_is (.of bh) (aq.mono (AN _) (.new hp) ds xs hd))
theorem Hk {pins:List (Addr×Obj)} {s:Shared} {σ:St} {H:Hp} {l b:Addr} {xs zs:List V} {Q:VK} (I:Inv X pins σ H s) (hl:LsL X.K H l xs) (hb:LsL X.K H b zs) (hz:xs.length+zs.length≤sizeLine)
  (q:∀p,H p=none→Q (.ref p) (upd H p (.lst (xs++zs)))):wpAny (model X.prog X.w) X.A (binaryOp .Add (.ref l) (.ref b)) (EP X pins σ Q) X.xe s:=by
 obtain⟨z,its,n,r,hl,e⟩:=I.ls hl
 obtain⟨z2,its2,n2,r2,hl2,e2⟩:=I.ls hb
 refine PySem.P.add_list e e2 ?_ (by rw[AE,AE];lia)
 have ea:its.toArray++its2.toArray=(its++its2).toArray:=by simp
 rw[ea]
 exact⟨.ref _,_,I.lnew (t':=s.toks) (r.append r2) (by rw[CP];lia),rfl,q _ I.fresh⟩
theorem Lu {pins:List (Addr×Obj)} {s:Shared} {σ:St} {H:Hp} {l:Addr} {k:Int} {t:Tok} {xs:List V} {Q:VK} (I:Inv X pins σ H s) (hH:LsL X.K H l xs) (h1:-(2 ^ 63)≤k) (h2:k<2 ^ 63) (hz:xs.length*k.toNat≤sizeLine)
  (q:∀p,H p=none→Q (.ref p) (upd H p (.lst (List.replicate k.toNat xs).flatten))):wpAny (model X.prog X.w) X.A (binaryOp .Mult (.ref l) (.int k t)) (EP X pins σ Q) X.xe s:=by
 obtain⟨z,its,n,r,hl,e⟩:=I.ls hH
 have hlen:its.toArray.size*k.toNat≤sizeLine:=by rw[AE,←hl];exact hz
 have hcap:¬its.toArray.size*k.toNat > (2 ^ 63-1) / 8:=by
  have:(sizeLine:Nat)≤(2 ^ 63-1) / 8:=by decide
  lia
 have hfit:¬(!Builtin.List.listFitsIndex k)=true:=by
  rw[fitsIndex_both h1 h2]
  exact AZ
 have hlong:¬Builtin.List.listTooLong (its.toArray.size*k.toNat)=true:=by
  rw[La hlen]
  exact AZ
 have hnew:List.foldl (fun x1 x2=>x1++x2) #[] (List.replicate (if its.toArray.isEmpty=true then 0 else k.toNat) its.toArray)=(List.replicate k.toNat its).flatten.toArray:=by
  have f0:∀m:Nat,List.foldl (fun x1 x2=>x1++x2) #[] (List.replicate m its.toArray)=(List.replicate m its).flatten.toArray:=fun m=>by
   have:=foldl_rep its m []
   rw[HA]at this
   exact this
  rw[f0]
  cases its with
  | nil=>simp
  | cons a r'=>rw[if_neg (by simp)]
 refine wpAny_binaryOp_repeat_ref (T:="list") (U:="int") (by decide) ⟨_,e,rfl⟩ (fun s'=>typeIs_int s' k t) noFill_list_mul F.fills_int_mul F.slot_int_rmul repeat_list F.slot_int_index.lookup
  (HK F.slot_int_rmul (typeIs_int s k t) F.entry_int_rmul (F.args_int_rmul_2 _ _) (int___rmul___int_list k t l its.toArray n)
   ⟨e,rfl,⟨_,e,rfl⟩,HK F.slot_list_mul ⟨_,e,rfl⟩ F.entry_list_mul (F.args_list_mul_2 _ _) (AutoListH.list___mul___list_int_3 l its.toArray n k t hfit hcap hlong) ⟨e,?_⟩⟩)
 rw[hnew]
 exact⟨.ref _,_,I.lnew (t':=s.toks) (r.rep k.toNat) (by rw[len_rep,Nat.mul_comm];exact hz),rfl,q _ I.fresh⟩
theorem Qr {pins:List (Addr×Obj)} {s:Shared} {σ:St} {H:Hp} {a b:Addr} {ys:List V} {Q:VK} (I:Inv X pins σ H s) (ha:SqT X.K H a []) (hb:SqT X.K H b ys) (q:Q (.ref b) H) :
  wpAny (model X.prog X.w) X.A (binaryOp .Add (.ref a) (.ref b)) (EP X pins σ Q) X.xe s:=by
 obtain⟨its,r1,p1,_⟩:=I.tuple ha
 obtain⟨its2,r2,p2,_⟩:=I.tuple hb
 have e1:its=[]:=by cases r1;rfl
 subst e1
 obtain⟨⟨cls,dd,data,sl⟩,ho,hc,n,hd⟩:=id p1
 obtain⟨⟨cls2,dd2,data2,sl2⟩,ho2,hc2,n2,hd2⟩:=id p2
 simp only at hc hd hc2 hd2
 subst hc hd hc2 hd2
 exact concat_meets ⟨_,ho,rfl⟩ ⟨_,ho2,rfl⟩ II seq_tuple_add GB FX (FM _ _)
   (tuple_addW0 a b ([]:List Value).toArray its2.toArray n n2 dd dd2 sl sl2 (by simp)) ⟨ho,ho2,⟨.ref b,H,I,rfl,q⟩⟩
theorem Ub {op:Operator} {m:Mk}:OpR X (binaryOp op) (rOp X.K (opD op m)):=by
 intro pins s σ H x y v u Q I rx ry ⟨ι,d,e,μ,hS,hd,he,h⟩
 unfold opD at h
 split at h
 ·rename_i i j
  cases fh hd
  cases fh he
  unfold opI at h
  split at h
  ·exact op_add pins s σ H _ _ v u Q I rx ry ⟨i,j,rfl,rfl,h.ok hS (by simp[IsD])⟩
  ·exact op_sub pins s σ H _ _ v u Q I rx ry ⟨i,j,rfl,rfl,h.ok hS (by simp[IsD])⟩
  ·split at h
   ·rename_i hc
    exact op_mul pins s σ H _ _ v u Q I rx ry ⟨i,j,rfl,rfl,hc,h.ok hS (by simp[IsD])⟩
   ·exact h.elim
  ·split at h
   ·rename_i hc
    exact Pz pins s σ H _ _ v u Q I rx ry ⟨i,j,rfl,rfl,hc,h.ok hS (by simp[IsD])⟩
   ·exact h.elim
  ·split at h
   ·rename_i hc
    exact op_mod pins s σ H _ _ v u Q I rx ry ⟨i,j,rfl,rfl,hc,h.ok hS (by simp[IsD])⟩
   ·exact h.elim
  ·split at h
   ·rename_i hc
    exact op_pow pins s σ H _ _ v u Q I rx ry ⟨i,j,rfl,rfl,hc,h.ok hS (by simp[IsD])⟩
   ·exact h.elim
  ·split at h
   ·rename_i hc
    exact op_shr pins s σ H _ _ v u Q I rx ry ⟨i,j,rfl,rfl,hc,h.ok hS (by simp[IsD])⟩
   ·exact h.elim
  ·exact h.elim
 ·rename_i xs ys
  split at h
  ·split at h
   ·rename_i hz
    obtain⟨a,vs,rfl,ha,hvs⟩:=jd hd
    obtain⟨b,ws,rfl,hb,hws⟩:=jd he
    cases rx
    cases ry
    rw[mr]at hz
    by_cases hx:vs=[]
    ·subst hx
     have e1:xs=[]:=by have:=hvs.length;simpa using this.symm
     subst e1
     exact Qr I ha hb (h.ok hS he)
    ·refine P8 pins s σ H (.ref a) (.ref b) _ _ Q I rfl rfl ⟨a,b,vs,ws,rfl,rfl,ha,hb,hx,by rw[hvs.length,hws.length];exact hz,fun z=>?_,fun z p hp=>ye hS (hvs.append hws) h hp⟩
     subst z
     have e1:ys=[]:=by have:=hws.length;simpa using this.symm
     subst e1
     exact h.ok hS (by simpa using hd)
   ·exact h.elim
  ·exact h.elim
 ·rename_i j _
  cases fh he
  split at h
  ·rename_i es
   split at h
   ·rename_i hz
    obtain⟨a,xs,rfl,ha,hxs⟩:=mx hS hd es
    cases rx
    obtain⟨t,rfl⟩:=ry
    rw[mr]at hz
    exact Dm (Lu I ha hz.2.1 hz.2.2 (by rw[hxs.length];exact hz.1) fun p hp=>mv hS (hxs.rep _) h hp)
   ·exact h.elim
  ·exact h.elim
 ·split at h
  ·rename_i es1 es2
   split at h
   ·rename_i hz
    obtain⟨a,xs,rfl,ha,hxs⟩:=mx hS hd es1
    obtain⟨b,ys,rfl,hb,hys⟩:=mx hS he es2
    cases rx
    cases ry
    rw[mr]at hz
    exact Dm (Hk I ha hb (by rw[hxs.length,hys.length];exact hz) fun p hp=>mv hS (hxs.append hys) h hp)
   ·exact h.elim
  ·exact h.elim
end
end Lp
namespace Lp
open PySem PySem.Spec PyProof.Rows L2
section
variable (K : PySem.W.Frag) (H : Hp)
mutual
noncomputable def IsW:D→V→Prop
 | .non,v=>v=.non
 | .bl b,v=>v=.bl b
 | .int i,v=>v=.int i
 | .str x,v=>v=.str x
 | .tup ds,v=>∃a xs,v=.ref a∧SqT K H a xs∧jv ds xs
 | .lst ds,v=>∃a xs,v=.ref a∧LsL K H a xs∧jv ds xs
 | .loc _,_=>False
noncomputable def jv:List D→List V→Prop
 | [],xs=>xs=[]
 | d::ds,xs=>∃v r,xs=v::r∧IsW d v∧jv ds r
end
end
section
variable {K : PySem.W.Frag} {H : Hp}
theorem jv.length:∀{ds:List D} {xs:List V},jv K H ds xs→xs.length=ds.length
 | [],xs,h=>by simp only[jv]at h;subst h;rfl
 | d::ds,xs,h=>by
  simp only[jv]at h
  obtain⟨v,r,rfl,_,t⟩:=h
  simp[jv.length t]
theorem jv.get:∀{ds:List D} {xs:List V} {i:Nat} {d:D},jv K H ds xs→ds[i]? = some d→∃v,xs[i]? = some v∧IsW K H d v
 | [],_,_,_,_,e=>by simp at e
 | d::ds,xs,0,_,h,e=>by
  simp only[jv]at h
  obtain⟨v,r,rfl,q,_⟩:=h
  simp at e;subst e
  exact⟨v,rfl,q⟩
 | d::ds,xs,i+1,x,h,e=>by
  simp only[jv]at h
  obtain⟨v,r,rfl,_,t⟩:=h
  obtain⟨w,h1,h2⟩:=jv.get (i:=i) (d:=x) t (by simpa using e)
  exact⟨w,by simpa using h1,h2⟩
theorem i4 {ds:List D} {v:V} (h:IsW K H (.tup ds) v):∃a xs,v=.ref a∧SqT K H a xs∧jv K H ds xs:=by simpa[IsW]using h
theorem Hl {ι:List Addr} {μ:Sto} (S:Sim K ι H μ) (f:D→Option D) (hf:∀d e v,f d=some e→IsD K ι H d v→IsW K H e v):∀{ds es:List D} {xs:List V},d9 (ds.map f)=some es→aq K ι H ds xs→jv K H es xs
 | [],es,xs,h,hd=>by
  simp only[CU,d9,BU]at h
  subst h
  simpa[aq,jv]using hd
 | d::ds,es,xs,h,hd=>by
  simp only[AS]at h
  cases e1:f d with
  | none=>rw[e1]at h;simp[d9]at h
  | some e =>
   rw[e1]at h
   simp only[d9]at h
   cases e2:d9 (ds.map f)with
   | none=>rw[e2]at h;cases h
   | some r =>
    rw[e2]at h
    cases h
    simp only[aq]at hd
    obtain⟨v,t,rfl,q,hd⟩:=hd
    simp only[jv]
    exact⟨v,t,rfl,hf d e v e1 q,Hl S f hf e2 hd⟩
theorem Ag {ι:List Addr} {μ:Sto} (S:Sim K ι H μ):∀(k:Nat) (d e:D) (v:V),bu μ k d=some e→IsD K ι H d v→IsW K H e v
 | 0,d,e,v,h,hd=>by
  cases d<;>simp_all[bu,flat,IsD,IsW]<;>(subst h;simp[IsW])
 | k+1,d,e,v,h,hd=>by
  have ih:=Ag S k
  have sub:∀{ι':List Addr} {ds es:List D} {xs:List V},ι' <+: ι→d9 (ds.map (bu μ k))=some es→aq K ι' H ds xs→jv K H es xs:=fun p h hd=>Hl S _ ih h (aq.mono p (.refl _) _ _ hd)
  cases d with
  | tup ds =>
   simp only[bu]at h
   cases e1:d9 (ds.map (bu μ k))with
   | none=>rw[e1]at h;cases h
   | some es =>
    rw[e1]at h;cases h
    obtain⟨a,xs,rfl,hq,hds⟩:=jd hd
    simp only[IsW]
    exact⟨a,xs,rfl,hq,sub (AN _) e1 hds⟩
  | lst ds =>
   simp only[bu]at h
   cases e1:d9 (ds.map (bu μ k))with
   | none=>rw[e1]at h;cases h
   | some es =>
    rw[e1]at h;cases h
    obtain⟨a,xs,rfl,hq,hds⟩:∃a xs,v=.ref a∧FzL K H a xs∧aq K ι H ds xs:=by simpa[IsD]using hd
    simp only[IsW]
    exact⟨a,xs,rfl,.inr hq,sub (AN _) e1 hds⟩
  | loc n =>
   obtain⟨a,rfl,hn⟩:∃a,v=.ref a∧ι[n]? = some a:=by simpa[IsD]using hd
   simp only[bu]at h
   cases em:μ[n]? with
   | none=>rw[em]at h;cases h
   | some o =>
    obtain⟨a',q',ho⟩:=S.at em
    rw[hn]at q';cases q'
    rw[em]at h
    cases o with
    | l ds =>
     simp only at h
     obtain⟨xs,f1,f2⟩:=ho
     cases e1:d9 (ds.map (bu μ k))with
     | none=>rw[e1]at h;cases h
     | some es =>
      rw[e1]at h;cases h
      simp only[IsW]
      exact⟨a,xs,rfl,(.inl f1),sub CN e1 f2⟩
    | r ds =>
     simp only at h
     obtain⟨xs,f1,f2⟩:=ho
     cases e1:d9 (ds.map (bu μ k))with
     | none=>rw[e1]at h;cases h
     | some es =>
      rw[e1]at h;cases h
      simp only[IsW]
      exact⟨a,xs,rfl,(.inl f1),sub (AN _) e1 f2⟩
    | _=>cases h
  | _=>simp only[bu]at h;cases h;simpa[IsD,IsW]using hd
mutual
theorem IsW.ofD:∀{d:D} {v:V},IsD K [] H d v→IsW K H d v
 | .non,v,h=>by simpa[IsD,IsW]using h
 | .bl _,v,h=>by simpa[IsD,IsW]using h
 | .int _,v,h=>by simpa[IsD,IsW]using h
 | .str _,v,h=>by simpa[IsD,IsW]using h
 | .tup ds,v,h=>by
  obtain⟨a,xs,rfl,hq,hds⟩:=jd h
  simp only[IsW]
  exact⟨a,xs,rfl,hq,jv.ofD hds⟩
 | .lst ds,v,h=>by
  obtain⟨a,xs,rfl,hq,hds⟩:∃a xs,v=.ref a∧FzL K H a xs∧aq K [] H ds xs:=by simpa[IsD]using h
  simp only[IsW]
  exact⟨a,xs,rfl,.inr hq,jv.ofD hds⟩
 | .loc n,v,h=>by simp[IsD]at h
theorem jv.ofD:∀{ds:List D} {xs:List V},aq K [] H ds xs→jv K H ds xs
 | [],xs,h=>by simpa[aq,jv]using h
 | d::ds,xs,h=>by
  simp only[aq]at h
  obtain⟨v,r,rfl,q,t⟩:=h
  simp only[jv]
  exact⟨v,r,rfl,IsW.ofD q,jv.ofD t⟩
end
theorem uh {μ:Sto} {k:Nat} (ih:∀d e,bu μ k d=some e→D.pureN k e=true):∀{ds es:List D},d9 (ds.map (bu μ k))=some es→es.all (D.pureN k)=true
 | [],es,h=>by simp only[CU,d9,BU]at h;subst h;rfl
 | d::ds,es,h=>by
  simp only[AS]at h
  cases e1:bu μ k d with
  | none=>rw[e1]at h;simp[d9]at h
  | some e =>
   rw[e1]at h
   simp only[d9]at h
   cases e2:d9 (ds.map (bu μ k))with
   | none=>rw[e2]at h;cases h
   | some r =>
    rw[e2]at h;cases h
    simp only[BD,ih d e e1,uh ih e2,GS]
theorem l8 {μ:Sto}:∀(k:Nat) (d e:D),bu μ k d=some e→D.pureN k e=true
 | 0,d,e,h=>by
  cases d<;>simp_all[bu,flat]<;>(subst h;rfl)
 | k+1,d,e,h=>by
  have ih:=l8 (μ:=μ) k
  have mp:∀{ds:List D} {c:List D→D},(∀es,es.all (D.pureN k)=true→D.pureN (k+1) (c es)=true)→(d9 (ds.map (bu μ k))).map c=some e→D.pureN (k+1) e=true:=fun {ds c} hc h=>by
   cases e1:d9 (ds.map (bu μ k))with
   | none=>rw[e1]at h;cases h
   | some es=>rw[e1]at h;cases h;exact hc es (uh ih e1)
  cases d with
  | tup ds=>simp only[bu]at h;exact mp (c:=.tup) (fun es h=>h) h
  | lst ds=>simp only[bu]at h;exact mp (c:=.lst) (fun es h=>h) h
  | loc n =>
   simp only[bu]at h
   cases em:μ[n]? with
   | none=>rw[em]at h;cases h
   | some o =>
    rw[em]at h
    cases o with
    | l ds=>exact mp (c:=.lst) (fun es h=>h) h
    | r ds=>exact mp (c:=.lst) (fun es h=>h) h
    | _=>cases h
  | _=>simp only[bu]at h;cases h;rfl
end
end Lp
namespace Lp
open PySem PySem.Spec PyProof.Rows L2
open PySem.SeqAt (EqAt RcAt)
section
variable {X : Cx} {φ : Phi} {pins : List (Addr × Obj)} {σ : St} {H : Hp} {s : Shared}
theorem in1_units (A:Around):A.in1.units=A.units+1:=by
 first | rfl | simp[Around.in1]
theorem g9:∀(as bs:List D),as.length=bs.length→Gn as bs=(List.range as.length).all fun j=>deq (as.getD j .non) (bs.getD j .non)
 | [],[],_=>rfl
 | a::as,b::bs,h=>by
  rw[Gn,g9 as bs (by simpa using h),BN,GF,BD,FJ]
  rfl
 | [],_::_,h=>by simp at h
 | _::_,[],h=>by simp at h
theorem my:∀(as bs:List D),as.length≠bs.length→Gn as bs=false
 | [],[],h=>absurd rfl h
 | a::as,b::bs,h=>by rw[Gn,my as bs (by simpa using h),Bool.and_false]
 | [],_::_,_=>rfl
 | _::_,[],_=>rfl
theorem ui:∀(k:Nat) (a b:D) (v:V),D.pureN k a=true→D.pureN k b=true→IsW X.K H a v→IsW X.K H b v→Inv X pins σ H s→deq a b=true:=by
 intro k
 have list:∀k,(∀(a b:D) (v:V),D.pureN k a=true→D.pureN k b=true→IsW X.K H a v→IsW X.K H b v→Inv X pins σ H s→deq a b=true) →
   ∀(as bs:List D) (xs:List V),as.all (D.pureN k)=true→bs.all (D.pureN k)=true→jv X.K H as xs→jv X.K H bs xs→Inv X pins σ H s→Gn as bs=true:=by
  intro k ih as
  induction as with
  | nil =>
   intro bs xs _ _ ha hb _
   have e:xs=[]:=by simpa[jv]using ha
   subst e
   have:=hb.length
   have e2:bs=[]:=by simpa using this.symm
   subst e2
   rfl
  | cons a as iha =>
   intro bs xs pa pb ha hb I
   cases bs with
   | nil =>
    have e:xs=[]:=by simpa[jv]using hb
    subst e
    have:=ha.length
    simp at this
   | cons b bs =>
    simp only[jv]at ha hb
    obtain⟨v,r,e,q,t⟩:=ha
    obtain⟨v',r',e',q',t'⟩:=hb
    rw[e]at e'
    cases e'
    simp only[BD,BC]at pa pb
    rw[Gn,ih a b v pa.1 pb.1 q q' I,iha bs r pa.2 pb.2 t t' I]
    rfl
 have flat:∀(a b:D) (v:V),(∀ds,a≠.tup ds)→(∀ds,a≠.lst ds)→(∀n,a≠.loc n)→(∀n,b≠.loc n)→IsW X.K H a v→IsW X.K H b v→deq a b=true:=by
  intro a b v h1 h2 h3 h4 ha hb
  cases a with
  | tup ds=>exact absurd rfl (h1 ds)
  | lst ds=>exact absurd rfl (h2 ds)
  | loc n=>exact absurd rfl (h3 n)
  | _=>cases b<;>simp_all[IsW,deq]
 induction k with
 | zero =>
  intro a b v pa pb ha hb I
  refine flat a b v ?_ ?_ ?_ ?_ ha hb
  ·intro z e;subst e;simp[D.pureN]at pa
  ·intro z e;subst e;simp[D.pureN]at pa
  ·intro z e;subst e;simp[D.pureN]at pa
  ·intro z e;subst e;simp[D.pureN]at pb
 | succ k ih =>
  intro a b v pa pb ha hb I
  cases a with
  | loc n=>simp[D.pureN]at pa
  | tup as =>
   simp only[IsW]at ha
   obtain⟨p,xs,rfl,hq,hds⟩:=ha
   cases b with
   | tup bs =>
    simp only[IsW]at hb
    obtain⟨p',xs',e,hq',hds'⟩:=hb
    cases e
    have:=I.tuple_inj hq hq'
    subst this
    rw[deq]
    exact list k ih as bs xs (by simpa[D.pureN]using pa) (by simpa[D.pureN]using pb) hds hds' I
   | lst bs =>
    simp only[IsW]at hb
    obtain⟨p',xs',e,hq',hds'⟩:=hb
    cases e
    exfalso
    obtain⟨its,_,⟨o,e1,c1,_⟩,_⟩:=I.tuple hq
    obtain⟨its',_,⟨o',n',e2,c2,_⟩,_⟩:=I.list hq'.sq
    rw[e1]at e2;cases e2
    rw[c1]at c2
    injection c2 with c3
    exact absurd c3 (by decide)
   | loc n=>simp[D.pureN]at pb
   | _=>simp[IsW]at hb
  | lst as =>
   simp only[IsW]at ha
   obtain⟨p,xs,rfl,hq,hds⟩:=ha
   cases b with
   | lst bs =>
    simp only[IsW]at hb
    obtain⟨p',xs',e,hq',hds'⟩:=hb
    cases e
    have:=I.list_inj hq.sq hq'.sq
    subst this
    rw[deq]
    exact list k ih as bs xs (by simpa[D.pureN]using pa) (by simpa[D.pureN]using pb) hds hds' I
   | tup bs =>
    simp only[IsW]at hb
    obtain⟨p',xs',e,hq',hds'⟩:=hb
    cases e
    exfalso
    obtain⟨its,_,⟨o,e1,c1,_⟩,_⟩:=I.tuple hq'
    obtain⟨its',_,⟨o',n',e2,c2,_⟩,_⟩:=I.list hq.sq
    rw[e1]at e2;cases e2
    rw[c1]at c2
    injection c2 with c3
    exact absurd c3 (by decide)
   | loc n=>simp[D.pureN]at pb
   | _=>simp[IsW]at hb
  | _ =>
   refine flat _ b v (by intro _ z;cases z) (by intro _ z;cases z) (by intro _ z;cases z) ?_ ha hb
   intro z e;subst e;simp[D.pureN]at pb
theorem Ah (A:Around) (a b:D) (x y:V) (u v:Value) (pa:D.pureN 0 a=true) (pb:D.pureN 0 b=true) (ha:IsW X.K H a x) (hb:IsW X.K H b y) (ru:RelV x u) (rv:RelV y v):EqAt A s u v (deq a b):=by
 have b2:∀(a b:Int),decide (a=b)=(a==b):=fun a b=>(CO a b).symm
 cases a with
 | tup _=>simp[D.pureN]at pa
 | lst _=>simp[D.pureN]at pa
 | loc _=>simp[D.pureN]at pa
 | non =>
  have ex:x=.non:=by simpa[IsW]using ha
  subst ex
  cases(show u=Value.none from ru)
  cases b with
  | tup _=>simp[D.pureN]at pb
  | lst _=>simp[D.pureN]at pb
  | loc _=>simp[D.pureN]at pb
  | non=>cases(show y=.non by simpa[IsW]using hb);cases(show v=Value.none from rv);exact EqAt.same _
  | bl c=>cases(show y=.bl c by simpa[IsW]using hb);cases(show v=Value.bool c from rv);exact EqAt.none_bool _
  | int c=>cases(show y=.int c by simpa[IsW]using hb);obtain⟨t,rfl⟩:=rv;exact EqAt.none_int _ _
  | str c=>cases(show y=.str c by simpa[IsW]using hb);obtain⟨t,rfl⟩:=rv;exact EqAt.none_str _ _
 | bl d =>
  have ex:x=.bl d:=by simpa[IsW]using ha
  subst ex
  cases(show u=Value.bool d from ru)
  cases b with
  | tup _=>simp[D.pureN]at pb
  | lst _=>simp[D.pureN]at pb
  | loc _=>simp[D.pureN]at pb
  | non=>cases(show y=.non by simpa[IsW]using hb);cases(show v=Value.none from rv);exact EqAt.bool_none _
  | bl c=>cases(show y=.bl c by simpa[IsW]using hb);cases(show v=Value.bool c from rv);exact EqAt.bool_bool _ _
  | int c=>cases(show y=.int c by simpa[IsW]using hb);obtain⟨t,rfl⟩:=rv;rw[deq,b2];exact EqAt.bool_int _ _ _
  | str c=>cases(show y=.str c by simpa[IsW]using hb);obtain⟨t,rfl⟩:=rv;exact EqAt.bool_str _ _ _
 | int d =>
  have ex:x=.int d:=by simpa[IsW]using ha
  subst ex
  obtain⟨t',rfl⟩:=ru
  cases b with
  | tup _=>simp[D.pureN]at pb
  | lst _=>simp[D.pureN]at pb
  | loc _=>simp[D.pureN]at pb
  | non=>cases(show y=.non by simpa[IsW]using hb);cases(show v=Value.none from rv);exact EqAt.int_none _ _
  | bl c=>cases(show y=.bl c by simpa[IsW]using hb);cases(show v=Value.bool c from rv);rw[deq,b2];exact EqAt.int_bool _ _ _
  | int c=>cases(show y=.int c by simpa[IsW]using hb);obtain⟨t,rfl⟩:=rv;rw[deq,b2];exact EqAt.int_int _ _ _ _
  | str c=>cases(show y=.str c by simpa[IsW]using hb);obtain⟨t,rfl⟩:=rv;exact EqAt.int_str _ _ _ _
 | str d =>
  have ex:x=.str d:=by simpa[IsW]using ha
  subst ex
  obtain⟨t',rfl⟩:=ru
  cases b with
  | tup _=>simp[D.pureN]at pb
  | lst _=>simp[D.pureN]at pb
  | loc _=>simp[D.pureN]at pb
  | non=>cases(show y=.non by simpa[IsW]using hb);cases(show v=Value.none from rv);exact EqAt.str_none _ _
  | bl c=>cases(show y=.bl c by simpa[IsW]using hb);cases(show v=Value.bool c from rv);exact EqAt.str_bool _ _ _
  | int c=>cases(show y=.int c by simpa[IsW]using hb);obtain⟨t,rfl⟩:=rv;exact EqAt.str_int _ _ _ _
  | str c =>
   cases(show y=.str c by simpa[IsW]using hb);obtain⟨t,rfl⟩:=rv
   have e:deq (.str d) (.str c)=(d==c):=by rw[deq];exact(CO d c).symm
   rw[e];exact EqAt.str_str _ _ _ _
theorem Nz (I:Inv X pins σ H s):∀(k:Nat) (A:Around) (a b:D) (x y:V) (u v:Value),A.units+k<cLine→D.pureN k a=true→D.pureN k b=true→IsW X.K H a x→IsW X.K H b y→RelV x u→RelV y v→EqAt A s u v (deq a b):=by
 intro k
 induction k with
 | zero=>exact fun A a b x y u v _ pa pb ha hb ru rv=>Ah A a b x y u v pa pb ha hb ru rv
 | succ k ih =>
  intro A a b x y u v hu pa pb ha hb ru rv
  have hu0:A.units<cLine:=by lia
  have each:∀(as bs:List D) (xs ys:List V) (is js:List Value),as.all (D.pureN k)=true→bs.all (D.pureN k)=true→jv X.K H as xs→jv X.K H bs ys→cq xs is→cq ys js →
    ∀j (h1:j<is.toArray.size) (h2:j<js.toArray.size),EqAt A.in1 s is.toArray[j] js.toArray[j] (deq (as.getD j .non) (bs.getD j .non)):=by
   intro as bs xs ys is js pas pbs has hbs hvx hvy j h1 h2
   have l1:as.length=is.length:=by rw[←has.length,hvx.length]
   have l2:bs.length=js.length:=by rw[←hbs.length,hvy.length]
   have j1:j<as.length:=by rw[l1];simpa using h1
   have j2:j<bs.length:=by rw[l2];simpa using h2
   obtain⟨p,e1,q1⟩:=has.get (AB j1)
   obtain⟨p',e1',q1'⟩:=hbs.get (AB j2)
   obtain⟨w,e2,q2⟩:=hvx.get e1
   obtain⟨w',e2',q2'⟩:=hvy.get e1'
   have g1:is.toArray[j]=w:=by
    have:is[j]? = some is.toArray[j]:=by simp[AB (show j<is.length by lia)]
    rw[this]at e2;exact BM e2
   have g2:js.toArray[j]=w':=by
    have:js[j]? = some js.toArray[j]:=by simp[AB (show j<js.length by lia)]
    rw[this]at e2';exact BM e2'
   rw[g1,g2,AV,AV,AB j1,AB j2]
   exact ih A.in1 _ _ p p' w w' (by rw[in1_units];lia) (AO.mp pas _ (BL j1)) (AO.mp pbs _ (BL j2)) q1 q1' q2 q2'
  have flat0:∀d:D,D.pureN (k+1) d=true→(∀ds,d≠.tup ds)→(∀ds,d≠.lst ds)→D.pureN 0 d=true:=fun d h h1 h2=>by
   cases d with
   | tup ds=>exact absurd rfl (h1 ds)
   | lst ds=>exact absurd rfl (h2 ds)
   | loc n=>simp[D.pureN]at h
   | _=>rfl
  cases a with
  | loc n=>simp[D.pureN]at pa
  | tup as =>
   have pas:as.all (D.pureN k)=true:=by simpa[D.pureN]using pa
   obtain⟨p,xs,rfl,hq,hds⟩:=i4 ha
   cases(show u=Value.ref p from ru)
   obtain⟨its,hv,ht,hz⟩:=I.tuple hq
   have ht':s.heap.IsTuple p its.toArray:=ht
   cases b with
   | loc n=>simp[D.pureN]at pb
   | tup bs =>
    have pbs:bs.all (D.pureN k)=true:=by simpa[D.pureN]using pb
    obtain⟨p',xs',rfl,hq',hds'⟩:=i4 hb
    cases(show v=Value.ref p' from rv)
    obtain⟨its',hv',ht2,hz'⟩:=I.tuple hq'
    by_cases hp:p=p'
    ·subst hp
     rw[ui (k+1) _ _ _ pa pb ha hb I]
     exact EqAt.same _
    ·refine EqAt.of_refs hp ?_
     have q:=RcAt.tuples (A:=A) ht' (show s.heap.IsTuple p' its'.toArray from ht2) hu0 (each as bs xs xs' its its' pas pbs hds hds' hv hv')
     have l1:as.length=its.length:=by rw[←hds.length,hv.length]
     have l2:bs.length=its'.length:=by rw[←hds'.length,hv'.length]
     have e:((List.range (min its.toArray.size its'.toArray.size)).all (fun j=>deq (as.getD j .non) (bs.getD j .non))&&its.toArray.size==its'.toArray.size)=deq (.tup as) (.tup bs):=by
      rw[deq]
      simp only[AE,←l1,←l2]
      by_cases hl:as.length=bs.length
      ·rw[g9 as bs hl,←hl];simp
      ·rw[my as bs hl];simp[hl]
     rw[e]at q
     exact q
   | lst bs =>
    obtain⟨p',xs',rfl,hq',hds'⟩:∃a xs,y=.ref a∧LsL X.K H a xs∧jv X.K H bs xs:=by simpa[IsW]using hb
    cases(show v=Value.ref p' from rv)
    obtain⟨z,its',n',hv',_,hg⟩:=I.ls hq'
    exact EqAt.tuple_list ht' ⟨_,hg,rfl,n',rfl⟩ hu0
   | non=>cases(show y=.non by simpa[IsW]using hb);cases(show v=Value.none from rv);exact EqAt.tuple_none ht' hu0
   | bl c=>cases(show y=.bl c by simpa[IsW]using hb);cases(show v=Value.bool c from rv);exact EqAt.tuple_bool _ ht' hu0
   | int c=>cases(show y=.int c by simpa[IsW]using hb);obtain⟨t,rfl⟩:=rv;exact EqAt.tuple_int _ _ ht' hu0
   | str c=>cases(show y=.str c by simpa[IsW]using hb);obtain⟨t,rfl⟩:=rv;exact EqAt.tuple_str _ _ ht' hu0
  | lst as =>
   have pas:as.all (D.pureN k)=true:=by simpa[D.pureN]using pa
   obtain⟨p,xs,rfl,hq,hds⟩:∃a xs,x=.ref a∧LsL X.K H a xs∧jv X.K H as xs:=by simpa[IsW]using ha
   cases(show u=Value.ref p from ru)
   obtain⟨z,its,n,hv,_,hg⟩:=I.ls hq
   have hl':s.heap.IsList p its.toArray:=⟨_,hg,rfl,n,rfl⟩
   cases b with
   | loc n=>simp[D.pureN]at pb
   | lst bs =>
    have pbs:bs.all (D.pureN k)=true:=by simpa[D.pureN]using pb
    obtain⟨p',xs',rfl,hq',hds'⟩:∃a xs,y=.ref a∧LsL X.K H a xs∧jv X.K H bs xs:=by simpa[IsW]using hb
    cases(show v=Value.ref p' from rv)
    obtain⟨z',its',n',hv',_,hg'⟩:=I.ls hq'
    have hl2:s.heap.IsList p' its'.toArray:=⟨_,hg',rfl,n',rfl⟩
    by_cases hp:p=p'
    ·subst hp
     rw[ui (k+1) _ _ _ pa pb ha hb I]
     exact EqAt.same _
    ·refine EqAt.of_refs hp ?_
     have l1:as.length=its.length:=by rw[←hds.length,hv.length]
     have l2:bs.length=its'.length:=by rw[←hds'.length,hv'.length]
     by_cases hl:as.length=bs.length
     ·have q:=RcAt.lists (A:=A) hl' hl2 (by simp only[AE];lia) hu0 (each as bs xs xs' its its' pas pbs hds hds' hv hv')
      have e:(List.range its.toArray.size).all (fun j=>deq (as.getD j .non) (bs.getD j .non))=deq (.lst as) (.lst bs):=by
       rw[deq,g9 as bs hl]
       simp only[AE,←l1]
      rw[e]at q
      exact q
     ·rw[deq,my as bs hl]
      exact RcAt.lists_lengths hl' hl2 (by simp only[AE];simp;lia) hu0
   | tup bs =>
    obtain⟨p',xs',rfl,hq',hds'⟩:=i4 hb
    cases(show v=Value.ref p' from rv)
    obtain⟨its',hv',ht2,hz'⟩:=I.tuple hq'
    exact EqAt.list_tuple hl' (show s.heap.IsTuple p' its'.toArray from ht2) hu0
   | non=>cases(show y=.non by simpa[IsW]using hb);cases(show v=Value.none from rv);exact EqAt.list_none hl' hu0
   | bl c=>cases(show y=.bl c by simpa[IsW]using hb);cases(show v=Value.bool c from rv);exact EqAt.list_bool _ hl' hu0
   | int c=>cases(show y=.int c by simpa[IsW]using hb);obtain⟨t,rfl⟩:=rv;exact EqAt.list_int _ _ hl' hu0
   | str c=>cases(show y=.str c by simpa[IsW]using hb);obtain⟨t,rfl⟩:=rv;exact EqAt.list_str _ _ hl' hu0
  | _ =>
   cases b with
   | loc n=>simp[D.pureN]at pb
   | tup bs =>
    obtain⟨p',xs',rfl,hq',hds'⟩:=i4 hb
    cases(show v=Value.ref p' from rv)
    obtain⟨its',hv',ht2,hz'⟩:=I.tuple hq'
    have ht':s.heap.IsTuple p' its'.toArray:=ht2
    first
    | (cases(show x=.non by simpa[IsW]using ha);cases(show u=Value.none from ru);exact EqAt.none_tuple ht' hu0)
    | (cases(show x=.bl _ by simpa[IsW]using ha);cases(show u=Value.bool _ from ru);exact EqAt.bool_tuple _ ht' hu0)
    | (cases(show x=.int _ by simpa[IsW]using ha);obtain⟨t,rfl⟩:=ru;exact EqAt.int_tuple _ _ ht' hu0)
    | (cases(show x=.str _ by simpa[IsW]using ha);obtain⟨t,rfl⟩:=ru;exact EqAt.str_tuple _ _ ht' hu0)
   | lst bs =>
    obtain⟨p',xs',rfl,hq',hds'⟩:∃a xs,y=.ref a∧LsL X.K H a xs∧jv X.K H bs xs:=by simpa[IsW]using hb
    cases(show v=Value.ref p' from rv)
    obtain⟨z',its',n',hv',_,hg'⟩:=I.ls hq'
    have hl':s.heap.IsList p' its'.toArray:=⟨_,hg',rfl,n',rfl⟩
    first
    | (cases(show x=.non by simpa[IsW]using ha);cases(show u=Value.none from ru);exact EqAt.none_list hl' hu0)
    | (cases(show x=.bl _ by simpa[IsW]using ha);cases(show u=Value.bool _ from ru);exact EqAt.bool_list _ hl' hu0)
    | (cases(show x=.int _ by simpa[IsW]using ha);obtain⟨t,rfl⟩:=ru;exact EqAt.int_list _ _ hl' hu0)
    | (cases(show x=.str _ by simpa[IsW]using ha);obtain⟨t,rfl⟩:=ru;exact EqAt.str_list _ _ hl' hu0)
   | _=>exact Ah A _ _ x y u v rfl rfl ha hb ru rv
end
end Lp
namespace Lp
open PySem PySem.Spec PyProof.Rows L2
open PySem.SeqAt (EqAt RcAt)
section
variable {X : Cx} {φ : Phi} {pins : List (Addr × Obj)} {σ : St} {H : Hp} {s : Shared}
theorem Ai (A:Around) (a b:D) (x y:V) (u v:Value) (pa:D.pureN 0 a=true) (pb:D.pureN 0 b=true) (ha:IsW X.K H a x) (hb:IsW X.K H b y) (ru:RelV x u) (rv:RelV y v):RcAt A s u v (deq a b):=by
 have b2:∀(a b:Int),decide (a=b)=(a==b):=fun a b=>(CO a b).symm
 cases a with
 | tup _=>simp[D.pureN]at pa
 | lst _=>simp[D.pureN]at pa
 | loc _=>simp[D.pureN]at pa
 | non =>
  have ex:x=.non:=by simpa[IsW]using ha
  subst ex
  cases(show u=Value.none from ru)
  cases b with
  | tup _=>simp[D.pureN]at pb
  | lst _=>simp[D.pureN]at pb
  | loc _=>simp[D.pureN]at pb
  | non=>cases(show y=.non by simpa[IsW]using hb);cases(show v=Value.none from rv);exact RcAt.none_none
  | bl c=>cases(show y=.bl c by simpa[IsW]using hb);cases(show v=Value.bool c from rv);exact RcAt.none_bool _
  | int c=>cases(show y=.int c by simpa[IsW]using hb);obtain⟨t,rfl⟩:=rv;exact RcAt.none_int _ _
  | str c=>cases(show y=.str c by simpa[IsW]using hb);obtain⟨t,rfl⟩:=rv;exact RcAt.none_str _ _
 | bl d =>
  have ex:x=.bl d:=by simpa[IsW]using ha
  subst ex
  cases(show u=Value.bool d from ru)
  cases b with
  | tup _=>simp[D.pureN]at pb
  | lst _=>simp[D.pureN]at pb
  | loc _=>simp[D.pureN]at pb
  | non=>cases(show y=.non by simpa[IsW]using hb);cases(show v=Value.none from rv);exact RcAt.bool_none _
  | bl c=>cases(show y=.bl c by simpa[IsW]using hb);cases(show v=Value.bool c from rv);exact RcAt.bool_bool _ _
  | int c=>cases(show y=.int c by simpa[IsW]using hb);obtain⟨t,rfl⟩:=rv;rw[deq,b2];exact RcAt.bool_int _ _ _
  | str c=>cases(show y=.str c by simpa[IsW]using hb);obtain⟨t,rfl⟩:=rv;exact RcAt.bool_str _ _ _
 | int d =>
  have ex:x=.int d:=by simpa[IsW]using ha
  subst ex
  obtain⟨t',rfl⟩:=ru
  cases b with
  | tup _=>simp[D.pureN]at pb
  | lst _=>simp[D.pureN]at pb
  | loc _=>simp[D.pureN]at pb
  | non=>cases(show y=.non by simpa[IsW]using hb);cases(show v=Value.none from rv);exact RcAt.int_none _ _
  | bl c=>cases(show y=.bl c by simpa[IsW]using hb);cases(show v=Value.bool c from rv);rw[deq,b2];exact RcAt.int_bool _ _ _
  | int c=>cases(show y=.int c by simpa[IsW]using hb);obtain⟨t,rfl⟩:=rv;rw[deq,b2];exact RcAt.int_int _ _ _ _
  | str c=>cases(show y=.str c by simpa[IsW]using hb);obtain⟨t,rfl⟩:=rv;exact RcAt.int_str _ _ _ _
 | str d =>
  have ex:x=.str d:=by simpa[IsW]using ha
  subst ex
  obtain⟨t',rfl⟩:=ru
  cases b with
  | tup _=>simp[D.pureN]at pb
  | lst _=>simp[D.pureN]at pb
  | loc _=>simp[D.pureN]at pb
  | non=>cases(show y=.non by simpa[IsW]using hb);cases(show v=Value.none from rv);exact RcAt.str_none _ _
  | bl c=>cases(show y=.bl c by simpa[IsW]using hb);cases(show v=Value.bool c from rv);exact RcAt.str_bool _ _ _
  | int c=>cases(show y=.int c by simpa[IsW]using hb);obtain⟨t,rfl⟩:=rv;exact RcAt.str_int _ _ _ _
  | str c =>
   cases(show y=.str c by simpa[IsW]using hb);obtain⟨t,rfl⟩:=rv
   have e:deq (.str d) (.str c)=(d==c):=by rw[deq];exact(CO d c).symm
   rw[e];exact RcAt.str_str _ _ _ _
theorem N0 (I:Inv X pins σ H s):∀(k:Nat) (A:Around) (a b:D) (x y:V) (u v:Value),A.units+k<cLine→D.pureN k a=true→D.pureN k b=true→IsW X.K H a x→IsW X.K H b y→RelV x u→RelV y v→RcAt A s u v (deq a b):=by
 intro k
 cases k with
 | zero=>exact fun A a b x y u v _ pa pb ha hb ru rv=>Ai A a b x y u v pa pb ha hb ru rv
 | succ k =>
  have ih:=Nz I k
  intro A a b x y u v hu pa pb ha hb ru rv
  have hu0:A.units<cLine:=by lia
  have each:∀(as bs:List D) (xs ys:List V) (is js:List Value),as.all (D.pureN k)=true→bs.all (D.pureN k)=true→jv X.K H as xs→jv X.K H bs ys→cq xs is→cq ys js →
    ∀j (h1:j<is.toArray.size) (h2:j<js.toArray.size),EqAt A.in1 s is.toArray[j] js.toArray[j] (deq (as.getD j .non) (bs.getD j .non)):=by
   intro as bs xs ys is js pas pbs has hbs hvx hvy j h1 h2
   have l1:as.length=is.length:=by rw[←has.length,hvx.length]
   have l2:bs.length=js.length:=by rw[←hbs.length,hvy.length]
   have j1:j<as.length:=by rw[l1];simpa using h1
   have j2:j<bs.length:=by rw[l2];simpa using h2
   obtain⟨p,e1,q1⟩:=has.get (AB j1)
   obtain⟨p',e1',q1'⟩:=hbs.get (AB j2)
   obtain⟨w,e2,q2⟩:=hvx.get e1
   obtain⟨w',e2',q2'⟩:=hvy.get e1'
   have g1:is.toArray[j]=w:=by
    have:is[j]? = some is.toArray[j]:=by simp[AB (show j<is.length by lia)]
    rw[this]at e2;exact BM e2
   have g2:js.toArray[j]=w':=by
    have:js[j]? = some js.toArray[j]:=by simp[AB (show j<js.length by lia)]
    rw[this]at e2';exact BM e2'
   rw[g1,g2,AV,AV,AB j1,AB j2]
   exact ih A.in1 _ _ p p' w w' (by rw[in1_units];lia) (AO.mp pas _ (BL j1)) (AO.mp pbs _ (BL j2)) q1 q1' q2 q2'
  have flat0:∀d:D,D.pureN (k+1) d=true→(∀ds,d≠.tup ds)→(∀ds,d≠.lst ds)→D.pureN 0 d=true:=fun d h h1 h2=>by
   cases d with
   | tup ds=>exact absurd rfl (h1 ds)
   | lst ds=>exact absurd rfl (h2 ds)
   | loc n=>simp[D.pureN]at h
   | _=>rfl
  cases a with
  | loc n=>simp[D.pureN]at pa
  | tup as =>
   have pas:as.all (D.pureN k)=true:=by simpa[D.pureN]using pa
   obtain⟨p,xs,rfl,hq,hds⟩:=i4 ha
   cases(show u=Value.ref p from ru)
   obtain⟨its,hv,ht,hz⟩:=I.tuple hq
   have ht':s.heap.IsTuple p its.toArray:=ht
   cases b with
   | loc n=>simp[D.pureN]at pb
   | tup bs =>
    have pbs:bs.all (D.pureN k)=true:=by simpa[D.pureN]using pb
    obtain⟨p',xs',rfl,hq',hds'⟩:=i4 hb
    cases(show v=Value.ref p' from rv)
    obtain⟨its',hv',ht2,hz'⟩:=I.tuple hq'
    ·skip
     have q:=RcAt.tuples (A:=A) ht' (show s.heap.IsTuple p' its'.toArray from ht2) hu0 (each as bs xs xs' its its' pas pbs hds hds' hv hv')
     have l1:as.length=its.length:=by rw[←hds.length,hv.length]
     have l2:bs.length=its'.length:=by rw[←hds'.length,hv'.length]
     have e:((List.range (min its.toArray.size its'.toArray.size)).all (fun j=>deq (as.getD j .non) (bs.getD j .non))&&its.toArray.size==its'.toArray.size)=deq (.tup as) (.tup bs):=by
      rw[deq]
      simp only[AE,←l1,←l2]
      by_cases hl:as.length=bs.length
      ·rw[g9 as bs hl,←hl];simp
      ·rw[my as bs hl];simp[hl]
     rw[e]at q
     exact q
   | lst bs =>
    obtain⟨p',xs',rfl,hq',hds'⟩:∃a xs,y=.ref a∧LsL X.K H a xs∧jv X.K H bs xs:=by simpa[IsW]using hb
    cases(show v=Value.ref p' from rv)
    obtain⟨z,its',n',hv',_,hg⟩:=I.ls hq'
    exact RcAt.tuple_list ht' ⟨_,hg,rfl,n',rfl⟩ hu0
   | non=>cases(show y=.non by simpa[IsW]using hb);cases(show v=Value.none from rv);exact RcAt.tuple_none ht' hu0
   | bl c=>cases(show y=.bl c by simpa[IsW]using hb);cases(show v=Value.bool c from rv);exact RcAt.tuple_bool _ ht' hu0
   | int c=>cases(show y=.int c by simpa[IsW]using hb);obtain⟨t,rfl⟩:=rv;exact RcAt.tuple_int _ _ ht' hu0
   | str c=>cases(show y=.str c by simpa[IsW]using hb);obtain⟨t,rfl⟩:=rv;exact RcAt.tuple_str _ _ ht' hu0
  | lst as =>
   have pas:as.all (D.pureN k)=true:=by simpa[D.pureN]using pa
   obtain⟨p,xs,rfl,hq,hds⟩:∃a xs,x=.ref a∧LsL X.K H a xs∧jv X.K H as xs:=by simpa[IsW]using ha
   cases(show u=Value.ref p from ru)
   obtain⟨z,its,n,hv,_,hg⟩:=I.ls hq
   have hl':s.heap.IsList p its.toArray:=⟨_,hg,rfl,n,rfl⟩
   cases b with
   | loc n=>simp[D.pureN]at pb
   | lst bs =>
    have pbs:bs.all (D.pureN k)=true:=by simpa[D.pureN]using pb
    obtain⟨p',xs',rfl,hq',hds'⟩:∃a xs,y=.ref a∧LsL X.K H a xs∧jv X.K H bs xs:=by simpa[IsW]using hb
    cases(show v=Value.ref p' from rv)
    obtain⟨z',its',n',hv',_,hg'⟩:=I.ls hq'
    have hl2:s.heap.IsList p' its'.toArray:=⟨_,hg',rfl,n',rfl⟩
    ·skip
     have l1:as.length=its.length:=by rw[←hds.length,hv.length]
     have l2:bs.length=its'.length:=by rw[←hds'.length,hv'.length]
     by_cases hl:as.length=bs.length
     ·have q:=RcAt.lists (A:=A) hl' hl2 (by simp only[AE];lia) hu0 (each as bs xs xs' its its' pas pbs hds hds' hv hv')
      have e:(List.range its.toArray.size).all (fun j=>deq (as.getD j .non) (bs.getD j .non))=deq (.lst as) (.lst bs):=by
       rw[deq,g9 as bs hl]
       simp only[AE,←l1]
      rw[e]at q
      exact q
     ·rw[deq,my as bs hl]
      exact RcAt.lists_lengths hl' hl2 (by simp only[AE];simp;lia) hu0
   | tup bs =>
    obtain⟨p',xs',rfl,hq',hds'⟩:=i4 hb
    cases(show v=Value.ref p' from rv)
    obtain⟨its',hv',ht2,hz'⟩:=I.tuple hq'
    exact RcAt.list_tuple hl' (show s.heap.IsTuple p' its'.toArray from ht2) hu0
   | non=>cases(show y=.non by simpa[IsW]using hb);cases(show v=Value.none from rv);exact RcAt.list_none hl' hu0
   | bl c=>cases(show y=.bl c by simpa[IsW]using hb);cases(show v=Value.bool c from rv);exact RcAt.list_bool _ hl' hu0
   | int c=>cases(show y=.int c by simpa[IsW]using hb);obtain⟨t,rfl⟩:=rv;exact RcAt.list_int _ _ hl' hu0
   | str c=>cases(show y=.str c by simpa[IsW]using hb);obtain⟨t,rfl⟩:=rv;exact RcAt.list_str _ _ hl' hu0
  | _ =>
   cases b with
   | loc n=>simp[D.pureN]at pb
   | tup bs =>
    obtain⟨p',xs',rfl,hq',hds'⟩:=i4 hb
    cases(show v=Value.ref p' from rv)
    obtain⟨its',hv',ht2,hz'⟩:=I.tuple hq'
    have ht':s.heap.IsTuple p' its'.toArray:=ht2
    first
    | (cases(show x=.non by simpa[IsW]using ha);cases(show u=Value.none from ru);exact RcAt.none_tuple ht' hu0)
    | (cases(show x=.bl _ by simpa[IsW]using ha);cases(show u=Value.bool _ from ru);exact RcAt.bool_tuple _ ht' hu0)
    | (cases(show x=.int _ by simpa[IsW]using ha);obtain⟨t,rfl⟩:=ru;exact RcAt.int_tuple _ _ ht' hu0)
    | (cases(show x=.str _ by simpa[IsW]using ha);obtain⟨t,rfl⟩:=ru;exact RcAt.str_tuple _ _ ht' hu0)
   | lst bs =>
    obtain⟨p',xs',rfl,hq',hds'⟩:∃a xs,y=.ref a∧LsL X.K H a xs∧jv X.K H bs xs:=by simpa[IsW]using hb
    cases(show v=Value.ref p' from rv)
    obtain⟨z',its',n',hv',_,hg'⟩:=I.ls hq'
    have hl':s.heap.IsList p' its'.toArray:=⟨_,hg',rfl,n',rfl⟩
    first
    | (cases(show x=.non by simpa[IsW]using ha);cases(show u=Value.none from ru);exact RcAt.none_list hl' hu0)
    | (cases(show x=.bl _ by simpa[IsW]using ha);cases(show u=Value.bool _ from ru);exact RcAt.bool_list _ hl' hu0)
    | (cases(show x=.int _ by simpa[IsW]using ha);obtain⟨t,rfl⟩:=ru;exact RcAt.int_list _ _ hl' hu0)
    | (cases(show x=.str _ by simpa[IsW]using ha);obtain⟨t,rfl⟩:=ru;exact RcAt.str_list _ _ hl' hu0)
   | _=>exact Ai A _ _ x y u v rfl rfl ha hb ru rv
theorem Uc (hu:X.A.units+8<cLine):OpR X (compareOp .Eq) (rOp X.K (cpD .eq)):=by
 intro pins s σ H x y v u Q I rx ry ⟨ι,a,b,μ,hS,ha,hb,h⟩
 unfold cpD at h
 simp only at h
 split at h
 ·rename_i hp
  exact N0 I 8 X.A a b x y v u hu hp.1 hp.2 (IsW.ofD (IsD.pur hp.1 ha)) (IsW.ofD (IsD.pur hp.2 hb)) rx ry _ _ _ _ ⟨.bl (deq a b),H,I,rfl,h.ok hS (by simp[IsD])⟩
 ·exact h.elim
end
end Lp
namespace Lp
open PySem PySem.Spec PyProof.Rows L2
open PySem.SeqAt (EqAt RcNeAt)
section
variable {X : Cx} {φ : Phi} {pins : List (Addr × Obj)} {σ : St} {H : Hp} {s : Shared}
theorem uj (A:Around) (a b:D) (x y:V) (u v:Value) (pa:D.pureN 0 a=true) (pb:D.pureN 0 b=true) (ha:IsW X.K H a x) (hb:IsW X.K H b y) (ru:RelV x u) (rv:RelV y v):RcNeAt A s u v (!deq a b):=by
 have b2:∀(a b:Int),decide (a=b)=(a==b):=fun a b=>(CO a b).symm
 cases a with
 | tup _=>simp[D.pureN]at pa
 | lst _=>simp[D.pureN]at pa
 | loc _=>simp[D.pureN]at pa
 | non =>
  have ex:x=.non:=by simpa[IsW]using ha
  subst ex
  cases(show u=Value.none from ru)
  cases b with
  | tup _=>simp[D.pureN]at pb
  | lst _=>simp[D.pureN]at pb
  | loc _=>simp[D.pureN]at pb
  | non=>cases(show y=.non by simpa[IsW]using hb);cases(show v=Value.none from rv);exact RcNeAt.none_none
  | bl c=>cases(show y=.bl c by simpa[IsW]using hb);cases(show v=Value.bool c from rv);exact RcNeAt.none_bool _
  | int c=>cases(show y=.int c by simpa[IsW]using hb);obtain⟨t,rfl⟩:=rv;exact RcNeAt.none_int _ _
  | str c=>cases(show y=.str c by simpa[IsW]using hb);obtain⟨t,rfl⟩:=rv;exact RcNeAt.none_str _ _
 | bl d =>
  have ex:x=.bl d:=by simpa[IsW]using ha
  subst ex
  cases(show u=Value.bool d from ru)
  cases b with
  | tup _=>simp[D.pureN]at pb
  | lst _=>simp[D.pureN]at pb
  | loc _=>simp[D.pureN]at pb
  | non=>cases(show y=.non by simpa[IsW]using hb);cases(show v=Value.none from rv);exact RcNeAt.bool_none _
  | bl c=>cases(show y=.bl c by simpa[IsW]using hb);cases(show v=Value.bool c from rv);exact RcNeAt.bool_bool _ _
  | int c=>cases(show y=.int c by simpa[IsW]using hb);obtain⟨t,rfl⟩:=rv;rw[deq,b2];exact RcNeAt.bool_int _ _ _
  | str c=>cases(show y=.str c by simpa[IsW]using hb);obtain⟨t,rfl⟩:=rv;exact RcNeAt.bool_str _ _ _
 | int d =>
  have ex:x=.int d:=by simpa[IsW]using ha
  subst ex
  obtain⟨t',rfl⟩:=ru
  cases b with
  | tup _=>simp[D.pureN]at pb
  | lst _=>simp[D.pureN]at pb
  | loc _=>simp[D.pureN]at pb
  | non=>cases(show y=.non by simpa[IsW]using hb);cases(show v=Value.none from rv);exact RcNeAt.int_none _ _
  | bl c=>cases(show y=.bl c by simpa[IsW]using hb);cases(show v=Value.bool c from rv);rw[deq,b2];exact RcNeAt.int_bool _ _ _
  | int c=>cases(show y=.int c by simpa[IsW]using hb);obtain⟨t,rfl⟩:=rv;rw[deq,b2];exact RcNeAt.int_int _ _ _ _
  | str c=>cases(show y=.str c by simpa[IsW]using hb);obtain⟨t,rfl⟩:=rv;exact RcNeAt.int_str _ _ _ _
 | str d =>
  have ex:x=.str d:=by simpa[IsW]using ha
  subst ex
  obtain⟨t',rfl⟩:=ru
  cases b with
  | tup _=>simp[D.pureN]at pb
  | lst _=>simp[D.pureN]at pb
  | loc _=>simp[D.pureN]at pb
  | non=>cases(show y=.non by simpa[IsW]using hb);cases(show v=Value.none from rv);exact RcNeAt.str_none _ _
  | bl c=>cases(show y=.bl c by simpa[IsW]using hb);cases(show v=Value.bool c from rv);exact RcNeAt.str_bool _ _ _
  | int c=>cases(show y=.int c by simpa[IsW]using hb);obtain⟨t,rfl⟩:=rv;exact RcNeAt.str_int _ _ _ _
  | str c =>
   cases(show y=.str c by simpa[IsW]using hb);obtain⟨t,rfl⟩:=rv
   have e:deq (.str d) (.str c)=(d==c):=by rw[deq];exact(CO d c).symm
   rw[e];exact RcNeAt.str_str _ _ _ _
theorem Dp (I:Inv X pins σ H s):∀(k:Nat) (A:Around) (a b:D) (x y:V) (u v:Value),A.units+k<cLine→D.pureN k a=true→D.pureN k b=true→IsW X.K H a x→IsW X.K H b y→RelV x u→RelV y v→RcNeAt A s u v (!deq a b):=by
 intro k
 cases k with
 | zero=>exact fun A a b x y u v _ pa pb ha hb ru rv=>uj A a b x y u v pa pb ha hb ru rv
 | succ k =>
  have ih:=Nz I k
  intro A a b x y u v hu pa pb ha hb ru rv
  have hu0:A.units<cLine:=by lia
  have each:∀(as bs:List D) (xs ys:List V) (is js:List Value),as.all (D.pureN k)=true→bs.all (D.pureN k)=true→jv X.K H as xs→jv X.K H bs ys→cq xs is→cq ys js →
    ∀j (h1:j<is.toArray.size) (h2:j<js.toArray.size),EqAt A.in1 s is.toArray[j] js.toArray[j] (deq (as.getD j .non) (bs.getD j .non)):=by
   intro as bs xs ys is js pas pbs has hbs hvx hvy j h1 h2
   have l1:as.length=is.length:=by rw[←has.length,hvx.length]
   have l2:bs.length=js.length:=by rw[←hbs.length,hvy.length]
   have j1:j<as.length:=by rw[l1];simpa using h1
   have j2:j<bs.length:=by rw[l2];simpa using h2
   obtain⟨p,e1,q1⟩:=has.get (AB j1)
   obtain⟨p',e1',q1'⟩:=hbs.get (AB j2)
   obtain⟨w,e2,q2⟩:=hvx.get e1
   obtain⟨w',e2',q2'⟩:=hvy.get e1'
   have g1:is.toArray[j]=w:=by
    have:is[j]? = some is.toArray[j]:=by simp[AB (show j<is.length by lia)]
    rw[this]at e2;exact BM e2
   have g2:js.toArray[j]=w':=by
    have:js[j]? = some js.toArray[j]:=by simp[AB (show j<js.length by lia)]
    rw[this]at e2';exact BM e2'
   rw[g1,g2,AV,AV,AB j1,AB j2]
   exact ih A.in1 _ _ p p' w w' (by rw[in1_units];lia) (AO.mp pas _ (BL j1)) (AO.mp pbs _ (BL j2)) q1 q1' q2 q2'
  have flat0:∀d:D,D.pureN (k+1) d=true→(∀ds,d≠.tup ds)→(∀ds,d≠.lst ds)→D.pureN 0 d=true:=fun d h h1 h2=>by
   cases d with
   | tup ds=>exact absurd rfl (h1 ds)
   | lst ds=>exact absurd rfl (h2 ds)
   | loc n=>simp[D.pureN]at h
   | _=>rfl
  cases a with
  | loc n=>simp[D.pureN]at pa
  | tup as =>
   have pas:as.all (D.pureN k)=true:=by simpa[D.pureN]using pa
   obtain⟨p,xs,rfl,hq,hds⟩:=i4 ha
   cases(show u=Value.ref p from ru)
   obtain⟨its,hv,ht,hz⟩:=I.tuple hq
   have ht':s.heap.IsTuple p its.toArray:=ht
   cases b with
   | loc n=>simp[D.pureN]at pb
   | tup bs =>
    have pbs:bs.all (D.pureN k)=true:=by simpa[D.pureN]using pb
    obtain⟨p',xs',rfl,hq',hds'⟩:=i4 hb
    cases(show v=Value.ref p' from rv)
    obtain⟨its',hv',ht2,hz'⟩:=I.tuple hq'
    ·skip
     have q:=RcNeAt.tuples (A:=A) ht' (show s.heap.IsTuple p' its'.toArray from ht2) hu0 (each as bs xs xs' its its' pas pbs hds hds' hv hv')
     have l1:as.length=its.length:=by rw[←hds.length,hv.length]
     have l2:bs.length=its'.length:=by rw[←hds'.length,hv'.length]
     have e:((List.range (min its.toArray.size its'.toArray.size)).all (fun j=>deq (as.getD j .non) (bs.getD j .non))&&its.toArray.size==its'.toArray.size)=deq (.tup as) (.tup bs):=by
      rw[deq]
      simp only[AE,←l1,←l2]
      by_cases hl:as.length=bs.length
      ·rw[g9 as bs hl,←hl];simp
      ·rw[my as bs hl];simp[hl]
     rw[e]at q
     exact q
   | lst bs =>
    obtain⟨p',xs',rfl,hq',hds'⟩:∃a xs,y=.ref a∧LsL X.K H a xs∧jv X.K H bs xs:=by simpa[IsW]using hb
    cases(show v=Value.ref p' from rv)
    obtain⟨z,its',n',hv',_,hg⟩:=I.ls hq'
    exact RcNeAt.tuple_list ht' ⟨_,hg,rfl,n',rfl⟩ hu0
   | non=>cases(show y=.non by simpa[IsW]using hb);cases(show v=Value.none from rv);exact RcNeAt.tuple_none ht' hu0
   | bl c=>cases(show y=.bl c by simpa[IsW]using hb);cases(show v=Value.bool c from rv);exact RcNeAt.tuple_bool _ ht' hu0
   | int c=>cases(show y=.int c by simpa[IsW]using hb);obtain⟨t,rfl⟩:=rv;exact RcNeAt.tuple_int _ _ ht' hu0
   | str c=>cases(show y=.str c by simpa[IsW]using hb);obtain⟨t,rfl⟩:=rv;exact RcNeAt.tuple_str _ _ ht' hu0
  | lst as =>
   have pas:as.all (D.pureN k)=true:=by simpa[D.pureN]using pa
   obtain⟨p,xs,rfl,hq,hds⟩:∃a xs,x=.ref a∧LsL X.K H a xs∧jv X.K H as xs:=by simpa[IsW]using ha
   cases(show u=Value.ref p from ru)
   obtain⟨z,its,n,hv,_,hg⟩:=I.ls hq
   have hl':s.heap.IsList p its.toArray:=⟨_,hg,rfl,n,rfl⟩
   cases b with
   | loc n=>simp[D.pureN]at pb
   | lst bs =>
    have pbs:bs.all (D.pureN k)=true:=by simpa[D.pureN]using pb
    obtain⟨p',xs',rfl,hq',hds'⟩:∃a xs,y=.ref a∧LsL X.K H a xs∧jv X.K H bs xs:=by simpa[IsW]using hb
    cases(show v=Value.ref p' from rv)
    obtain⟨z',its',n',hv',_,hg'⟩:=I.ls hq'
    have hl2:s.heap.IsList p' its'.toArray:=⟨_,hg',rfl,n',rfl⟩
    ·skip
     have l1:as.length=its.length:=by rw[←hds.length,hv.length]
     have l2:bs.length=its'.length:=by rw[←hds'.length,hv'.length]
     by_cases hl:as.length=bs.length
     ·have q:=RcNeAt.lists (A:=A) hl' hl2 (by simp only[AE];lia) hu0 (each as bs xs xs' its its' pas pbs hds hds' hv hv')
      have e:(List.range its.toArray.size).all (fun j=>deq (as.getD j .non) (bs.getD j .non))=deq (.lst as) (.lst bs):=by
       rw[deq,g9 as bs hl]
       simp only[AE,←l1]
      rw[e]at q
      exact q
     ·rw[deq,my as bs hl]
      exact RcNeAt.lists_lengths hl' hl2 (by simp only[AE];simp;lia) hu0
   | tup bs =>
    obtain⟨p',xs',rfl,hq',hds'⟩:=i4 hb
    cases(show v=Value.ref p' from rv)
    obtain⟨its',hv',ht2,hz'⟩:=I.tuple hq'
    exact RcNeAt.list_tuple hl' (show s.heap.IsTuple p' its'.toArray from ht2) hu0
   | non=>cases(show y=.non by simpa[IsW]using hb);cases(show v=Value.none from rv);exact RcNeAt.list_none hl' hu0
   | bl c=>cases(show y=.bl c by simpa[IsW]using hb);cases(show v=Value.bool c from rv);exact RcNeAt.list_bool _ hl' hu0
   | int c=>cases(show y=.int c by simpa[IsW]using hb);obtain⟨t,rfl⟩:=rv;exact RcNeAt.list_int _ _ hl' hu0
   | str c=>cases(show y=.str c by simpa[IsW]using hb);obtain⟨t,rfl⟩:=rv;exact RcNeAt.list_str _ _ hl' hu0
  | _ =>
   cases b with
   | loc n=>simp[D.pureN]at pb
   | tup bs =>
    obtain⟨p',xs',rfl,hq',hds'⟩:=i4 hb
    cases(show v=Value.ref p' from rv)
    obtain⟨its',hv',ht2,hz'⟩:=I.tuple hq'
    have ht':s.heap.IsTuple p' its'.toArray:=ht2
    first
    | (cases(show x=.non by simpa[IsW]using ha);cases(show u=Value.none from ru);exact RcNeAt.none_tuple ht' hu0)
    | (cases(show x=.bl _ by simpa[IsW]using ha);cases(show u=Value.bool _ from ru);exact RcNeAt.bool_tuple _ ht' hu0)
    | (cases(show x=.int _ by simpa[IsW]using ha);obtain⟨t,rfl⟩:=ru;exact RcNeAt.int_tuple _ _ ht' hu0)
    | (cases(show x=.str _ by simpa[IsW]using ha);obtain⟨t,rfl⟩:=ru;exact RcNeAt.str_tuple _ _ ht' hu0)
   | lst bs =>
    obtain⟨p',xs',rfl,hq',hds'⟩:∃a xs,y=.ref a∧LsL X.K H a xs∧jv X.K H bs xs:=by simpa[IsW]using hb
    cases(show v=Value.ref p' from rv)
    obtain⟨z',its',n',hv',_,hg'⟩:=I.ls hq'
    have hl':s.heap.IsList p' its'.toArray:=⟨_,hg',rfl,n',rfl⟩
    first
    | (cases(show x=.non by simpa[IsW]using ha);cases(show u=Value.none from ru);exact RcNeAt.none_list hl' hu0)
    | (cases(show x=.bl _ by simpa[IsW]using ha);cases(show u=Value.bool _ from ru);exact RcNeAt.bool_list _ hl' hu0)
    | (cases(show x=.int _ by simpa[IsW]using ha);obtain⟨t,rfl⟩:=ru;exact RcNeAt.int_list _ _ hl' hu0)
    | (cases(show x=.str _ by simpa[IsW]using ha);obtain⟨t,rfl⟩:=ru;exact RcNeAt.str_list _ _ hl' hu0)
   | _=>exact uj A _ _ x y u v rfl rfl ha hb ru rv
theorem Ud (hu:X.A.units+8<cLine):OpR X (compareOp .NotEq) (rOp X.K (cpD .ne)):=by
 intro pins s σ H x y v u Q I rx ry ⟨ι,a,b,μ,hS,ha,hb,h⟩
 unfold cpD at h
 simp only at h
 split at h
 ·rename_i hp
  exact Dp I 8 X.A a b x y v u hu hp.1 hp.2 (IsW.ofD (IsD.pur hp.1 ha)) (IsW.ofD (IsD.pur hp.2 hb)) rx ry _ _ _ _ ⟨.bl (!deq a b),H,I,rfl,h.ok hS (by simp[IsD])⟩
 ·exact h.elim
end
end Lp
namespace LT
open PySem PySem.Spec PyProof.Rows HT
open PySem.SeqAt
open PySem.AutoSeq1 (wpAny_loadPart')
open PySem.MeetsSeq PySem.MeetsSeq2 PySem.MeetsSeq3
theorem aab (A:Around) (s:Shared) (a:Int) (t:Tok) (c:Int) (u:Tok) (prog:Program) (w:World) (E:Value→Shared→Prop) (Q:Value→Shared→Prop) (h:Q (.bool (decide (a≤c))) s) :
  wpAny (model prog w) A (richCompare .LtE (.int a t) (.int c u)) Q E s :=
 (PyProof.Rows.le_int h:wpAny (model prog w) A (compareOp .LtE (.int a t) (.int c u)) Q E s)
theorem Lv (l b:Addr) (items items2:Array Value) (n n2:Nat) (dd dd2:Option Addr) (sl sl2:Array (Option Value)) (ns ms:List Int) (ii:IntsAre items.toList ns) (jj:IntsAre items2.toList ms) :
  Meets (Builtin.«tuple.__le__» ⟨[.ref l,.ref b],[]⟩) (fun _ R s=>s.heap.get? l=some {cls:=.type "tuple",dict:=dd,data:=.seq items n,slots:=sl}∧s.heap.get? b=some {cls:=.type "tuple",dict:=dd2,data:=.seq items2 n2,slots:=sl2}∧R (.ok (.ret (.bool (!lexLt ms ns)))) s) :=
 .of_wp fun prog w A R s h=>by
  obtain⟨hh0,g,d,tk0,os0⟩:=s;obtain⟨ql,hb,h⟩:=h
  have sub0:=FL
  have n1:ns.length=items.size:=by rw[←ii.length,BP]
  have n2e:ms.length=items2.size:=by rw[←jj.length,BP]
  wp_walk using DA ql,DA hb,IH _ (fun rest b s'=>b.1=none∧s'=⟨hh0,g,d,tk0,os0⟩∧∃(us1 us2:List Value) (ms1 ms2:List Int),rest=us1.zip us2 ∧
   IntsAre us1 ms1∧IntsAre us2 ms2∧ms1.length+items2.size=ms2.length+items.size∧R (.ok (.ret (.bool (!lexLt ms2 ms1)))) ⟨hh0,g,d,tk0,os0⟩) _
  case turn =>
   rintro⟨y,x⟩ rest b s' ⟨p0,rfl,us1,us2,ms1,ms2,pz,pv,pw,pl,fin0⟩
   cases pv with
   | nil=>rw[HX]at pz;cases pz
   | cons a t pv1 =>
    cases pw with
    | nil=>rw[FU]at pz;cases pz
    | cons c u pw1 =>
     rw[DM]at pz
     injection pz with pyx pr
     injection pyx with py px
     subst py px
     rw[ju]at fin0
     simp only[BN]at pl
     obtain⟨same,eq0,eqi⟩:=x6 A.in1 ⟨hh0,g,d,tk0,os0⟩ a t c u
     refine AA (eq0 prog w _ _ ?_)
     cases same with
     | true =>
      rw[if_pos (eqi.mp rfl).symm]at fin0
      wp_walk
      exact⟨rfl,rfl,_,_,_,_,pr,pv1,pw1,by lia,fin0⟩
     | false =>
      have hne:¬c=a:=fun q=>absurd (eqi.mpr q.symm) AZ
      rw[if_neg hne]at fin0
      have ed:(!decide (c<a))=decide (a≤c):=by
       by_cases hc:c<a
       ·rw[decide_eq_true hc,decide_eq_false (by lia)];rfl
       ·rw[decide_eq_false hc,decide_eq_true (by lia)];rfl
      rw[ed]at fin0
      have low:=aab A.in1 ⟨hh0,g,d,tk0,os0⟩ a t c u prog w
      wp_walk using low
      exact⟨_,rfl,by simpa using fin0⟩
  case fin =>
   rintro⟨c1,c2⟩ s' ⟨p0,rfl,us1,us2,ms1,ms2,pz,pv,pw,pl,fin0⟩
   simp only at p0
   subst p0
   have hv:(!lexLt ms2 ms1)=decide (items.size≤items2.size):=by
    cases pv with
    | nil =>
     cases pw with
     | nil =>
      simp only[CM]at pl
      rw[mq,decide_eq_true (by lia)];rfl
     | cons c u hw =>
      simp only[CM,BN]at pl
      rw[lq,decide_eq_true (by lia)];rfl
    | cons a t hv =>
     cases pw with
     | nil =>
      simp only[CM,BN]at pl
      rw[lj,decide_eq_false (by lia)];rfl
     | cons c u hw =>
      rw[DM]at pz
      cases pz
   rw[hv]at fin0
   wp_walk
   exact⟨_,rfl,by simpa[Builtin.Tuple.tupleCompareSizes]using fin0⟩
  case h =>
   exact⟨rfl,rfl,items.toList,items2.toList,ns,ms,rfl,ii,jj,by lia,h⟩
theorem Ue {prog:Program} {w:World} {A:Around} {E:Value→Shared→Prop} {s:Shared} {l b:Addr} {items items2:Array Value} {ns ms:List Int} {Q:Value→Shared→Prop} (hl:IsTup s.heap l items) (hb:IsTup s.heap b items2) (hi:IntsAre items.toList ns) (hj:IntsAre items2.toList ms)
  (hu:A.units<cLine) (h:Q (.bool (!lexLt ms ns)) s):wpAny (model prog w) A (compareOp .LtE (.ref l) (.ref b)) Q E s:=by
 obtain⟨⟨_,dd,_,sl⟩,ho,rfl,n,rfl⟩:=id hl
 obtain⟨⟨_,dd2,_,sl2⟩,ho2,rfl,n2,rfl⟩:=id hb
 exact GA (op:=.LtE) ⟨_,ho,rfl⟩ ⟨_,ho2,rfl⟩ PySem.F.slot_tuple_le PySem.F.entry_tuple_le (PySem.F.args_tuple_le_2 _ _) (Lv l b items items2 n n2 dd dd2 sl sl2 ns ms hi hj)
  ⟨ho,ho2,show Value.bool (!lexLt ms ns)≠Value.notImplemented∧Q (.bool (!lexLt ms ns)) s from⟨(fun x=>nomatch x),h⟩⟩ hu
theorem aac (A:Around) (s:Shared) (a:Int) (t:Tok) (c:Int) (u:Tok) (prog:Program) (w:World) (E:Value→Shared→Prop) (Q:Value→Shared→Prop) (h:Q (.bool (decide (c≤a))) s) :
  wpAny (model prog w) A (richCompare .GtE (.int a t) (.int c u)) Q E s :=
 (PyProof.Rows.ge_int h:wpAny (model prog w) A (compareOp .GtE (.int a t) (.int c u)) Q E s)
theorem Lw (l b:Addr) (items items2:Array Value) (n n2:Nat) (dd dd2:Option Addr) (sl sl2:Array (Option Value)) (ns ms:List Int) (ii:IntsAre items.toList ns) (jj:IntsAre items2.toList ms) :
  Meets (Builtin.«tuple.__ge__» ⟨[.ref l,.ref b],[]⟩) (fun _ R s=>s.heap.get? l=some {cls:=.type "tuple",dict:=dd,data:=.seq items n,slots:=sl}∧s.heap.get? b=some {cls:=.type "tuple",dict:=dd2,data:=.seq items2 n2,slots:=sl2}∧R (.ok (.ret (.bool (!lexLt ns ms)))) s) :=
 .of_wp fun prog w A R s h=>by
  obtain⟨hh0,g,d,tk0,os0⟩:=s;obtain⟨ql,hb,h⟩:=h
  have sub0:=FL
  have n1:ns.length=items.size:=by rw[←ii.length,BP]
  have n2e:ms.length=items2.size:=by rw[←jj.length,BP]
  wp_walk using DA ql,DA hb,IH _ (fun rest b s'=>b.1=none∧s'=⟨hh0,g,d,tk0,os0⟩∧∃(us1 us2:List Value) (ms1 ms2:List Int),rest=us1.zip us2 ∧
   IntsAre us1 ms1∧IntsAre us2 ms2∧ms1.length+items2.size=ms2.length+items.size∧R (.ok (.ret (.bool (!lexLt ms1 ms2)))) ⟨hh0,g,d,tk0,os0⟩) _
  case turn =>
   rintro⟨y,x⟩ rest b s' ⟨p0,rfl,us1,us2,ms1,ms2,pz,pv,pw,pl,fin0⟩
   cases pv with
   | nil=>rw[HX]at pz;cases pz
   | cons a t pv1 =>
    cases pw with
    | nil=>rw[FU]at pz;cases pz
    | cons c u pw1 =>
     rw[DM]at pz
     injection pz with pyx pr
     injection pyx with py px
     subst py px
     rw[ju]at fin0
     simp only[BN]at pl
     obtain⟨same,eq0,eqi⟩:=x6 A.in1 ⟨hh0,g,d,tk0,os0⟩ a t c u
     refine AA (eq0 prog w _ _ ?_)
     cases same with
     | true =>
      rw[if_pos (eqi.mp rfl)]at fin0
      wp_walk
      exact⟨rfl,rfl,_,_,_,_,pr,pv1,pw1,by lia,fin0⟩
     | false =>
      have hne:¬a=c:=fun q=>absurd (eqi.mpr q) AZ
      rw[if_neg hne]at fin0
      have ed:(!decide (a<c))=decide (c≤a):=by
       by_cases hc:a<c
       ·rw[decide_eq_true hc,decide_eq_false (by lia)];rfl
       ·rw[decide_eq_false hc,decide_eq_true (by lia)];rfl
      rw[ed]at fin0
      have low:=aac A.in1 ⟨hh0,g,d,tk0,os0⟩ a t c u prog w
      wp_walk using low
      exact⟨_,rfl,by simpa using fin0⟩
  case fin =>
   rintro⟨c1,c2⟩ s' ⟨p0,rfl,us1,us2,ms1,ms2,pz,pv,pw,pl,fin0⟩
   simp only at p0
   subst p0
   have hv:(!lexLt ms1 ms2)=decide (items2.size≤items.size):=by
    cases pv with
    | nil =>
     cases pw with
     | nil =>
      simp only[CM]at pl
      rw[mq,decide_eq_true (by lia)];rfl
     | cons c u hw =>
      simp only[CM,BN]at pl
      rw[lj,decide_eq_false (by lia)];rfl
    | cons a t hv =>
     cases pw with
     | nil =>
      simp only[CM,BN]at pl
      rw[lq,decide_eq_true (by lia)];rfl
     | cons c u hw =>
      rw[DM]at pz
      cases pz
   rw[hv]at fin0
   wp_walk
   exact⟨_,rfl,by simpa[Builtin.Tuple.tupleCompareSizes]using fin0⟩
  case h =>
   exact⟨rfl,rfl,items.toList,items2.toList,ns,ms,rfl,ii,jj,by lia,h⟩
theorem Ug {prog:Program} {w:World} {A:Around} {E:Value→Shared→Prop} {s:Shared} {l b:Addr} {items items2:Array Value} {ns ms:List Int} {Q:Value→Shared→Prop} (hl:IsTup s.heap l items) (hb:IsTup s.heap b items2) (hi:IntsAre items.toList ns) (hj:IntsAre items2.toList ms)
  (hu:A.units<cLine) (h:Q (.bool (!lexLt ns ms)) s):wpAny (model prog w) A (compareOp .GtE (.ref l) (.ref b)) Q E s:=by
 obtain⟨⟨_,dd,_,sl⟩,ho,rfl,n,rfl⟩:=id hl
 obtain⟨⟨_,dd2,_,sl2⟩,ho2,rfl,n2,rfl⟩:=id hb
 exact GA (op:=.GtE) ⟨_,ho,rfl⟩ ⟨_,ho2,rfl⟩ PySem.F.slot_tuple_ge PySem.F.entry_tuple_ge (PySem.F.args_tuple_ge_2 _ _) (Lw l b items items2 n n2 dd dd2 sl sl2 ns ms hi hj)
  ⟨ho,ho2,show Value.bool (!lexLt ns ms)≠Value.notImplemented∧Q (.bool (!lexLt ns ms)) s from⟨(fun x=>nomatch x),h⟩⟩ hu
end LT
namespace L2
open PySem PySem.Spec PyProof.Rows
variable {X : Cx}
theorem Uh (hu:X.A.units<cLine) {pins s σ H x y v u Q} (I:Inv X pins σ H s) (rx:RelV x v) (ry:RelV y u) (h:∃a b ns ms,x=.ref a∧y=.ref b∧SqT X.K H a (ns.map V.int)∧SqT X.K H b (ms.map V.int)∧Q (.bl (!HT.lexLt ms ns)) H) :
  wpAny (model X.prog X.w) X.A (compareOp .LtE v u) (EP X pins σ Q) X.xe s:=by
 obtain⟨c,d,ns,ms,rfl,rfl,hc,hd,q⟩:=h
 cases rx
 cases ry
 obtain⟨us,r1,p1,_⟩:=I.tuple hc
 obtain⟨us2,r2,p2,_⟩:=I.tuple hd
 exact LT.Ue p1 p2 (intsAre_of r1) (intsAre_of r2) hu ⟨.bl (!HT.lexLt ms ns),H,I,rfl,q⟩
theorem Ui (hu:X.A.units<cLine) {pins s σ H x y v u Q} (I:Inv X pins σ H s) (rx:RelV x v) (ry:RelV y u) (h:∃a b ns ms,x=.ref a∧y=.ref b∧SqT X.K H a (ns.map V.int)∧SqT X.K H b (ms.map V.int)∧Q (.bl (!HT.lexLt ns ms)) H) :
  wpAny (model X.prog X.w) X.A (compareOp .GtE v u) (EP X pins σ Q) X.xe s:=by
 obtain⟨c,d,ns,ms,rfl,rfl,hc,hd,q⟩:=h
 cases rx
 cases ry
 obtain⟨us,r1,p1,_⟩:=I.tuple hc
 obtain⟨us2,r2,p2,_⟩:=I.tuple hd
 exact LT.Ug p1 p2 (intsAre_of r1) (intsAre_of r2) hu ⟨.bl (!HT.lexLt ns ms),H,I,rfl,q⟩
end L2
namespace Lp
open PySem PySem.Spec PyProof.Rows L2
open PySem.SeqAt (EqAt RcAt)
noncomputable def opOf:Cp→CmpOp
 | .eq=>.Eq
 | .ne=>.NotEq
 | .eqM=>.Eq
 | .neM=>.NotEq
 | .lt=>.Lt
 | .le=>.LtE
 | .gt=>.Gt
 | .ge=>.GtE
 | .is=>.Is
 | .isnot=>.IsNot
 | .in_=>.In
 | .notin=>.NotIn
section
variable {X : Cx} {φ : Phi} {pins : List (Addr × Obj)} {σ : St} {H : Hp} {s : Shared}
theorem ints_of {K:PySem.W.Frag} {ι:List Addr}:∀{ds:List D} {xs:List V} {ns:List Int},aq K ι H ds xs→fu ds=some ns→xs=ns.map V.int
 | [],xs,ns,h,e=>by
  simp only[fu,BU]at e
  subst e
  simpa[aq]using h
 | d::ds,xs,ns,h,e=>by
  simp only[aq]at h
  obtain⟨v,r,rfl,q,t⟩:=h
  cases d with
  | int i =>
   simp only[fu,EX]at e
   obtain⟨ms,e1,rfl⟩:=e
   cases fh q
   rw[ints_of t e1]
   rfl
  | _=>simp[fu]at e
theorem Dq {K:PySem.W.Frag} {ι:List Addr}:∀{ds:List D} {xs:List V} {ns:List Bool},aq K ι H ds xs→o7 ds=some ns→xs=ns.map V.bl
 | [],xs,ns,h,e=>by
  simp only[o7,BU]at e
  subst e
  simpa[aq]using h
 | d::ds,xs,ns,h,e=>by
  simp only[aq]at h
  obtain⟨v,r,rfl,q,t⟩:=h
  cases d with
  | bl i =>
   simp only[o7,EX]at e
   obtain⟨ms,e1,rfl⟩:=e
   cases Af q
   rw[Dq t e1]
   rfl
  | _=>simp[o7]at e
theorem B4 {K:PySem.W.Frag} {ι:List Addr} {d:D} {v:V} (h:IsD K ι H d v) (hf:flat d=true):vn v=true:=by
 cases d with
 | tup _=>simp[flat]at hf
 | lst _=>simp[flat]at hf
 | loc _=>simp[flat]at hf
 | _=>have e:=h;simp only[IsD]at e;subst e;rfl
theorem yf {K:PySem.W.Frag} {ι:List Addr}:∀{ds:List D} {xs:List V},aq K ι H ds xs→ds.all flat=true→xs.all vn=true
 | [],xs,h,_=>by
  have e:xs=[]:=by simpa[aq]using h
  subst e
  rfl
 | d::ds,xs,h,hf=>by
  simp only[aq]at h
  obtain⟨v,r,rfl,q,t⟩:=h
  simp only[BD,BC]at hf ⊢
  exact⟨B4 q hf.1,yf t hf.2⟩
theorem Uj {K:PySem.W.Frag} {ι:List Addr} {d e:D} {v w:V} (hd:IsD K ι H d v) (he:IsD K ι H e w) (fd:flat d=true) (fe:flat e=true):eqV v w=deq d e:=by
 have b2:∀(a b:Int),decide (a=b)=(a==b):=fun a b=>(CO a b).symm
 have b3:∀(a b:Str),decide (a=b)=(a==b):=fun a b=>(CO a b).symm
 cases d with
 | tup _=>simp[flat]at fd
 | lst _=>simp[flat]at fd
 | loc _=>simp[flat]at fd
 | _ =>
  cases e with
  | tup _=>simp[flat]at fe
  | lst _=>simp[flat]at fe
  | loc _=>simp[flat]at fe
  | _ =>
   simp only[IsD]at hd he
   subst hd he
   simp only[eqV,deq,b2,b3]
theorem Hm {K:PySem.W.Frag} {ι:List Addr} {e:D} {w:V} (he:IsD K ι H e w) (fe:flat e=true):∀{ds:List D} {xs:List V},aq K ι H ds xs→ds.all flat=true→inV w xs=ds.any fun y=>deq y e
 | [],xs,h,_=>by
  have e:xs=[]:=by simpa[aq]using h
  subst e
  rfl
 | d::ds,xs,h,hf=>by
  simp only[aq]at h
  obtain⟨v,r,rfl,q,t⟩:=h
  simp only[BD,BC]at hf
  have ih:=Hm he fe t hf.2
  unfold inV at ih ⊢
  rw[CT,CT,Uj q he hf.1 fe,ih]
theorem is_bool {u:Bool} {v:Bool} {Q:VK} (I:Inv X pins σ H s) (q:Q (.bl (u==v)) H):wpAny (model X.prog X.w) X.A (compareOp .Is (.bool u) (.bool v)) (EP X pins σ Q) X.xe s:=by
 cases u<;>cases v<;>exact AD ⟨.bl _,H,I,rfl,q⟩
theorem isnot_bool {u:Bool} {v:Bool} {Q:VK} (I:Inv X pins σ H s) (q:Q (.bl (!(u==v))) H):wpAny (model X.prog X.w) X.A (compareOp .IsNot (.bool u) (.bool v)) (EP X pins σ Q) X.xe s:=by
 cases u<;>cases v<;>exact AD ⟨.bl _,H,I,rfl,q⟩
theorem Aj {v:Bool} {Q:VK} (I:Inv X pins σ H s) (q:Q (.bl false) H):wpAny (model X.prog X.w) X.A (compareOp .Is .none (.bool v)) (EP X pins σ Q) X.xe s:=by
 cases v<;>exact AD ⟨.bl _,H,I,rfl,q⟩
theorem uk {v:Bool} {Q:VK} (I:Inv X pins σ H s) (q:Q (.bl true) H):wpAny (model X.prog X.w) X.A (compareOp .IsNot .none (.bool v)) (EP X pins σ Q) X.xe s:=by
 cases v<;>exact AD ⟨.bl _,H,I,rfl,q⟩
noncomputable def kD:Key→D
 | .inl i=>.int i
 | .inr x=>.str x
theorem Hn {K:PySem.W.Frag} {ι:List Addr} {d:D} {x:V} (hk:Lk d=true) (h:IsD K ι H d x):∃k,d=kD k∧x=kV k:=by
 cases d with
 | int i=>exact⟨.inl i,rfl,by simpa[IsD,kV]using h⟩
 | str i=>exact⟨.inr i,rfl,by simpa[IsD,kV]using h⟩
 | _=>simp[Lk]at hk
theorem B5 {K:PySem.W.Frag} {ι:List Addr} {d:D} {k:Key} (h:IsD K ι H d (kV k)):d=kD k:=by
 cases k with
 | inl i=>cases d<;>simp_all[IsD,kV,kD]
 | inr i=>cases d<;>simp_all[IsD,kV,kD]
theorem Ak (a b:Key):deq (kD a) (kD b)=decide (a=b):=by
 cases a<;>cases b<;>simp[kD,deq]
noncomputable def OR (K:PySem.W.Frag) (H:Hp):Option D→Option V→Prop
 | some d,some v=>IsD K [] H d v
 | none,none=>True
 | _,_=>False
theorem OR.isSome {K:PySem.W.Frag} {o:Option D} {p:Option V} (h:OR K H o p):p.isSome=o.isSome:=by
 cases o<;>cases p<;>first | rfl | exact h.elim
theorem OR.getD {K:PySem.W.Frag} {ι:List Addr} {o:Option D} {p:Option V} {d:D} {v:V} (h:OR K H o p) (hd:IsD K ι H d v):IsD K ι H (o.getD d) (p.getD v):=by
 cases o with
 | none=>cases p with
  | none=>exact hd
  | some _=>exact h.elim
 | some _=>cases p with
  | none=>exact h.elim
  | some _=>exact IsD.mono (CN) (.refl _) _ _ h
theorem tm {K:PySem.W.Frag} {k:Key}:∀{kvs:List (D×D)} {xs:List (Key×V)},Lm K H kvs xs→OR K H (Hd (kD k) kvs) (Dh xs k)
 | _,_,.nil=>True.intro
 | p::kvs,q::xs,.cons h t=>by
  obtain⟨d,e⟩:=p
  have hk:=B5 h.1
  dsimp only at hk
  subst hk
  have ih:=tm (k:=k) (kvs:=kvs) (xs:=xs) t
  by_cases z:q.1=k
  ·rw[sx z,Hd,Ak,if_pos (by simpa using z)]
   exact h.2
  ·rw[tf z,Hd,Ak,if_neg (by simpa using z)]
   exact ih
theorem Ho {K:PySem.W.Frag} {k:Key}:∀{kvs:List (D×D)} {xs:List (Key×V)},Lm K H kvs xs→(kvs.any fun p=>deq p.1 (kD k))=xs.any fun kv=>decide (kv.1=k)
 | _,_,.nil=>rfl
 | p::kvs,q::xs,.cons h t=>by
  obtain⟨d,e⟩:=p
  have hk:=B5 h.1
  dsimp only at hk
  subst hk
  rw[CT,CT,Ho t,Ak]
theorem Dr {K:PySem.W.Frag} {k:Key} {d:D} {v:V} (hv:IsD K [] H d v):∀{kvs:List (D×D)} {xs:List (Key×V)},Lm K H kvs xs →
  Lm K H (kvs.map fun p=>if deq p.1 (kD k)=true then(p.1,d)else p) (xs.map fun kv=>if kv.1=k then(kv.1,v)else kv)
 | _,_,.nil=>.nil
 | p::kvs,q::xs,.cons h t=>by
  obtain⟨e,w⟩:=p
  have hk:=B5 h.1
  dsimp only at hk
  subst hk
  rw[AS,AS]
  refine .cons ?_ (Dr hv t)
  by_cases z:q.1=k
  ·rw[if_pos z,Ak,if_pos (by simpa using z)]
   exact⟨h.1,hv⟩
  ·rw[if_neg z,Ak,if_neg (by simpa using z)]
   exact h
theorem um {α β:Type} {F:α→β→Prop}:∀{xs:List α} {ys:List β} {x:α} {y:β},Paired F xs ys→F x y→Paired F (xs++[x]) (ys++[y])
 | _,_,_,_,.nil,h=>.cons h .nil
 | _,_,_,_,.cons a t,h=>.cons a (um t h)
theorem Ds {K:PySem.W.Frag} {k:Key} {d:D} {v:V} (hv:IsD K [] H d v) {kvs:List (D×D)} {xs:List (Key×V)} (h:Lm K H kvs xs):Lm K H (dput (kD k) d kvs) (putK xs k v):=by
 unfold dput putK
 rw[Ho h]
 split
 ·exact Dr hv h
 ·refine um h ⟨?_,hv⟩
  cases k<;>simp[kD,kV,IsD]
theorem B6 {K:PySem.W.Frag} {ι:List Addr} {μ:Sto} {o k:D} {x y:V} {kvs:List (D×D)} (hS:Sim K ι H μ) (ho:IsD K ι H o x) (hk:IsD K ι H k y) (h:dictAt μ o k=some kvs) :
  ∃p q xs,x=.ref p∧y=kV q∧k=kD q∧H p=some (.dK xs)∧Lm K H kvs xs:=by
 cases o with
 | loc n =>
  simp only[dictAt]at h
  split at h
  ·rename_i kvs' em
   split at h
   ·rename_i hkey
    cases h
    obtain⟨p,rfl,hp⟩:∃p,x=.ref p∧ι[n]? = some p:=by simpa[IsD]using ho
    obtain⟨a',q',ob⟩:=hS.at em
    rw[hp]at q';cases q'
    obtain⟨xs,e1,e2⟩:=ob
    obtain⟨q,rfl,rfl⟩:=Hn hkey hk
    exact⟨p,q,xs,rfl,rfl,rfl,e1,e2⟩
   ·cases h
  ·cases h
 | _=>simp[dictAt]at h
theorem Hq (cp:Cp) (hu:X.A.units+8<cLine):OpR X (compareOp (opOf cp)) (rOp X.K (cpD cp)):=by
 have hu0:X.A.units<cLine:=by lia
 cases cp with
 | eq=>exact Uc hu
 | ne=>exact Ud hu
 | eqM =>
  intro pins s σ H x y v u Q I rx ry ⟨ι,a,b,μ,hS,ha,hb,h⟩
  simp only[cpD]at h
  cases e1:bu μ 8 a with
  | none=>simp only[e1]at h;exact h.elim
  | some a1 =>
   cases e2:bu μ 8 b with
   | none=>simp only[e1,e2]at h;exact h.elim
   | some b1 =>
    simp only[e1,e2]at h
    exact N0 I 8 X.A a1 b1 x y v u hu (l8 8 _ _ e1) (l8 8 _ _ e2) (Ag hS 8 _ _ _ e1 ha) (Ag hS 8 _ _ _ e2 hb) rx ry _ _ _ _ ⟨.bl (deq a1 b1),H,I,rfl,h.ok hS (by simp[IsD])⟩
 | neM =>
  intro pins s σ H x y v u Q I rx ry ⟨ι,a,b,μ,hS,ha,hb,h⟩
  simp only[cpD]at h
  cases e1:bu μ 8 a with
  | none=>simp only[e1]at h;exact h.elim
  | some a1 =>
   cases e2:bu μ 8 b with
   | none=>simp only[e1,e2]at h;exact h.elim
   | some b1 =>
    simp only[e1,e2]at h
    exact Dp I 8 X.A a1 b1 x y v u hu (l8 8 _ _ e1) (l8 8 _ _ e2) (Ag hS 8 _ _ _ e1 ha) (Ag hS 8 _ _ _ e2 hb) rx ry _ _ _ _ ⟨.bl (!deq a1 b1),H,I,rfl,h.ok hS (by simp[IsD])⟩
 | lt =>
  intro pins s σ H x y v u Q I rx ry ⟨ι,a,b,μ,hS,ha,hb,h⟩
  simp only[cpD]at h
  split at h
  ·cases fh ha;cases fh hb
   exact Wy pins s σ H _ _ v u Q I rx ry ⟨_,_,rfl,rfl,h.ok hS (by simp[IsD])⟩
  ·obtain⟨p,xs,rfl,hq,hds⟩:=jd ha
   obtain⟨p',xs',rfl,hq',hds'⟩:=jd hb
   split at h
   ·rename_i ns ms e1 e2
    have:=ints_of hds e1
    subst this
    have:=ints_of hds' e2
    subst this
    refine Te hu0 pins s σ H _ _ v u Q I rx ry ⟨p,p',ns,ms,rfl,rfl,hq,hq',?_⟩
    have el:∀(a b:List Int),HT.lexLt a b=Lp.lexLt a b:=by
     intro a
     induction a with
     | nil=>intro b;cases b<;>rfl
     | cons x r ih=>intro b;cases b with
      | nil=>rfl
      | cons y q=>rw[HT.ju,Lp.lexLt,ih]
    rw[el]
    exact h.ok hS (by simp[IsD])
   ·exact h.elim
  ·exact h.elim
 | le =>
  intro pins s σ H x y v u Q I rx ry ⟨ι,a,b,μ,hS,ha,hb,h⟩
  simp only[cpD]at h
  split at h
  ·cases fh ha;cases fh hb
   exact Wz pins s σ H _ _ v u Q I rx ry ⟨_,_,rfl,rfl,h.ok hS (by simp[IsD])⟩
  ·obtain⟨p,xs,rfl,hq,hds⟩:=jd ha
   obtain⟨p',xs',rfl,hq',hds'⟩:=jd hb
   split at h
   ·rename_i ns ms e1 e2
    have:=ints_of hds e1
    subst this
    have:=ints_of hds' e2
    subst this
    refine Uh hu0 I rx ry ⟨p,p',ns,ms,rfl,rfl,hq,hq',?_⟩
    have el:∀(a b:List Int),HT.lexLt a b=Lp.lexLt a b:=by
     intro a
     induction a with
     | nil=>intro b;cases b<;>rfl
     | cons x r ih=>intro b;cases b with
      | nil=>rfl
      | cons y q=>rw[HT.ju,Lp.lexLt,ih]
    rw[el]
    exact h.ok hS (by simp[IsD])
   ·exact h.elim
  ·exact h.elim
 | gt =>
  refine OpR.imp W0 fun x y H Q ⟨ι,a,b,μ,hS,ha,hb,h⟩=>?_
  simp only[cpD]at h
  split at h
  ·cases fh ha;cases fh hb
   exact⟨_,_,rfl,rfl,h.ok hS (by simp[IsD])⟩
  ·exact h.elim
 | ge =>
  intro pins s σ H x y v u Q I rx ry ⟨ι,a,b,μ,hS,ha,hb,h⟩
  simp only[cpD]at h
  split at h
  ·cases fh ha;cases fh hb
   exact W1 pins s σ H _ _ v u Q I rx ry ⟨_,_,rfl,rfl,h.ok hS (by simp[IsD])⟩
  ·obtain⟨p,xs,rfl,hq,hds⟩:=jd ha
   obtain⟨p',xs',rfl,hq',hds'⟩:=jd hb
   split at h
   ·rename_i ns ms e1 e2
    have:=ints_of hds e1
    subst this
    have:=ints_of hds' e2
    subst this
    refine Ui hu0 I rx ry ⟨p,p',ns,ms,rfl,rfl,hq,hq',?_⟩
    have el:∀(a b:List Int),HT.lexLt a b=Lp.lexLt a b:=by
     intro a
     induction a with
     | nil=>intro b;cases b<;>rfl
     | cons x r ih=>intro b;cases b with
      | nil=>rfl
      | cons y q=>rw[HT.ju,Lp.lexLt,ih]
    rw[el]
    exact h.ok hS (by simp[IsD])
   ·exact h.elim
  ·exact h.elim
 | is =>
  intro pins s σ H x y v u Q I rx ry ⟨ι,a,b,μ,hS,ha,hb,h⟩
  simp only[cpD]at h
  split at h
  ·refine S7 pins s σ H x y v u Q I rx ry ⟨by simpa[IsD]using hb,?_⟩
   cases a with
   | tup ds=>obtain⟨p,xs,rfl,_⟩:=jd ha;exact h.ok hS (by simp[IsD])
   | lst ds =>
         obtain⟨p,xs,rfl,_⟩:∃p xs,x=V.ref p∧FzL X.K H p xs∧aq X.K ι H ds xs:=by simpa[IsD]using ha
         exact h.ok hS (by simp[IsD])
   | loc n =>
        obtain⟨p,rfl,_⟩:∃p,x=V.ref p∧ι[n]? = some p:=by simpa[IsD]using ha
        exact h.ok hS (by simp[IsD])
   | _=>have e:=ha;simp only[IsD]at e;subst e;exact h.ok hS (by simp[IsD])
  ·cases Af hb
   cases(show u=Value.bool _ from ry)
   split at h
   ·cases Af ha
    cases(show v=Value.bool _ from rx)
    exact is_bool I (h.ok hS (by simp[IsD]))
   ·cases(show x=.non by simpa[IsD]using ha)
    cases(show v=Value.none from rx)
    exact Aj I (h.ok hS (by simp[IsD]))
   ·exact h.elim
  ·exact h.elim
 | isnot =>
  intro pins s σ H x y v u Q I rx ry ⟨ι,a,b,μ,hS,ha,hb,h⟩
  simp only[cpD]at h
  split at h
  ·refine P0 pins s σ H x y v u Q I rx ry ⟨by simpa[IsD]using hb,?_⟩
   cases a with
   | tup ds=>obtain⟨p,xs,rfl,_⟩:=jd ha;exact h.ok hS (by simp[IsD])
   | lst ds =>
         obtain⟨p,xs,rfl,_⟩:∃p xs,x=V.ref p∧FzL X.K H p xs∧aq X.K ι H ds xs:=by simpa[IsD]using ha
         exact h.ok hS (by simp[IsD])
   | loc n =>
        obtain⟨p,rfl,_⟩:∃p,x=V.ref p∧ι[n]? = some p:=by simpa[IsD]using ha
        exact h.ok hS (by simp[IsD])
   | _=>have e:=ha;simp only[IsD]at e;subst e;exact h.ok hS (by simp[IsD])
  ·cases Af hb
   cases(show u=Value.bool _ from ry)
   split at h
   ·cases Af ha
    cases(show v=Value.bool _ from rx)
    exact isnot_bool I (h.ok hS (by simp[IsD]))
   ·cases(show x=.non by simpa[IsD]using ha)
    cases(show v=Value.none from rx)
    exact uk I (h.ok hS (by simp[IsD]))
   ·exact h.elim
  ·exact h.elim
 | in_ =>
  intro pins s σ H x y v u Q I rx ry ⟨ι,a,b,μ,hS,ha,hb,h⟩
  simp only[cpD]at h
  split at h
  ·rename_i ds e
   obtain⟨p,xs,rfl,hq,hds⟩:=wm hS hb e
   split at h
   ·rename_i hf
    refine G5 pins s σ H _ _ v u Q I rx ry ⟨p,xs,rfl,hq.imp (·.sq) id,B4 ha hf.1,yf hds hf.2,?_⟩
    simp only[AT,if_false]
    rw[Hm ha hf.1 hds hf.2]
    exact h.ok hS (by simp[IsD])
   ·exact h.elim
  ·split at h
   ·rename_i kvs e
    obtain⟨p,q,xs,rfl,rfl,rfl,hp,hk⟩:=B6 hS hb ha e
    cases(show u=Value.ref p from ry)
    refine Z2 (by lia) I (Ld.k hp) rx fun s' I'=>⟨.bl (Dh xs q).isSome,H,I',rfl,?_⟩
    rw[(tm hk).isSome]
    exact h.ok hS (by simp[IsD])
   ·exact h.elim
 | notin =>
  intro pins s σ H x y v u Q I rx ry ⟨ι,a,b,μ,hS,ha,hb,h⟩
  simp only[cpD]at h
  split at h
  ·rename_i ds e
   obtain⟨p,xs,rfl,hq,hds⟩:=wm hS hb e
   split at h
   ·rename_i hf
    refine z5 pins s σ H _ _ v u Q I rx ry ⟨p,xs,rfl,hq.imp (·.sq) id,B4 ha hf.1,yf hds hf.2,?_⟩
    simp only[if_true]
    rw[Hm ha hf.1 hds hf.2]
    exact h.ok hS (by simp[IsD])
   ·exact h.elim
  ·split at h
   ·rename_i kvs e
    obtain⟨p,q,xs,rfl,rfl,rfl,hp,hk⟩:=B6 hS hb ha e
    cases(show u=Value.ref p from ry)
    refine Qc (by lia) I (Ld.k hp) rx fun s' I'=>⟨.bl (!(Dh xs q).isSome),H,I',rfl,?_⟩
    rw[(tm hk).isSome]
    exact h.ok hS (by simp[IsD])
   ·exact h.elim
end
end Lp
namespace Lp
open PySem PySem.Spec PyProof.Rows L2
open PySem.SeqAt (EqAt RcAt)
section
variable {X : Cx} {φ : Phi} {pins : List (Addr × Obj)} {σ : St} {H : Hp} {s : Shared}
noncomputable def PCh (X:Cx) (ops:List CmpOp) (es:List Expr) (t:V→TE):Prop :=
 ∀(pos:Pos) (pins:List (Addr×Obj)) (s:Shared) (σ:St) (H:Hp) (Q:VK) (x:V) (v:Value),Inv X pins σ H s→RelV x v→t x σ H Q →
  wpAny (model X.prog X.w) X.A (compareChain pos v ops (evalEach es X.env)) (EP X pins σ Q) X.xe s
noncomputable def PTh (X:Cx) (ops:List CmpOp) (es:List Expr) (t:V→TT):Prop :=
 ∀(pos:Pos) (pins:List (Addr×Obj)) (s:Shared) (σ:St) (H:Hp) (Q:Bool→Hp→Prop) (x:V) (v:Value),Inv X pins σ H s→RelV x v→t x σ H Q →
  wpAny (model X.prog X.w) X.A (testChain pos v ops (evalEach es X.env)) (TP X pins σ Q) X.xe s
noncomputable def tCh (K:PySem.W.Frag) (φ:Phi) (r:Cps):V→TE:=fun x σv H Q=>∃ι σ μ d,Sim K ι H μ∧qz K ι H σ σv∧IsD K ι H d x∧ig K (RD K) ι H (evC φ r d σ μ) Q
noncomputable def tTh (K:PySem.W.Frag) (φ:Phi) (r:Cps):V→TT:=fun x σv H Q=>∃ι σ μ d,Sim K ι H μ∧qz K ι H σ σv∧IsD K ι H d x∧ig K RB ι H ((evC φ r d σ μ).bind fun z μ=>Yu z μ) Q
theorem Hr {op:Cp} {xe:Ex} {d:D} {σ:Sl} {μ:Sto}:evC φ (.cons op xe .nil) d σ μ=(evE φ xe σ μ).bind fun y μ=>cpD op d y μ:=by
 simp only[evC]
 cases evE φ xe σ μ with
 | ok y μ1 =>
  simp only[Res.bo]
  cases cpD op d y μ1<;>rfl
 | exc _ _ _=>rfl
 | stuck=>rfl
theorem Lx {op op':Cp} {xe xe':Ex} {r:Cps} {d:D} {σ:Sl} {μ:Sto}:evC φ (.cons op xe (.cons op' xe' r)) d σ μ=(evE φ xe σ μ).bind fun y μ=>(cpD op d y μ).bind fun z μ=>match z with
  | .bl b=>if b=true then evC φ (.cons op' xe' r) y σ μ else .ok (.bl false) μ
  | _=>.stuck:=by
 rw[evC]
 all_goals rfl
theorem Qs {op:Cp} {e:Expr} {xe:Ex} (ho:OpR X (compareOp (opOf op)) (rOp X.K (cpD op))) (he:PE X e (tE X.K φ xe)):PCh X [opOf op] [e] (tCh X.K φ (.cons op xe .nil)):=by
 intro pos pins s σv H Q x v I rx ⟨ι,σ,μ,d,hS,hL,hd,h⟩
 rw[Hr]at h
 obtain⟨y,μ1,e1,h⟩:=h.bind
 refine chain_last (thn (he pins s σv H (fun w H1=>rOp X.K (cpD op) x w H1 Q) I ⟨ι,σ,μ,hS,hL,?_⟩) fun u s1 ⟨w,H1,I1,r1,q1⟩=>ho pins s1 σv H1 x w v u Q I1 rx r1 q1)
 rw[e1]
 exact fun ι1 w H1 p1 x1 s1 d1=>⟨ι1,d,y,μ1,s1,IsD.mono p1 x1 _ _ hd,d1,h.mono p1 x1⟩
theorem Qt {op:Cp} {e:Expr} {xe:Ex} (ho:OpR X (compareOp (opOf op)) (rOp X.K (cpD op))) (he:PE X e (tE X.K φ xe)):PTh X [opOf op] [e] (tTh X.K φ (.cons op xe .nil)):=by
 intro pos pins s σv H Q x v I rx ⟨ι,σ,μ,d,hS,hL,hd,h⟩
 rw[Hr,Res.bind_assoc]at h
 obtain⟨y,μ1,e1,h⟩:=h.bind
 refine test_last (thn (he pins s σv H (fun w H1=>rOp X.K (cpD op) x w H1 (fun z H2=>∃k,z=.bl k∧Q k H2)) I ⟨ι,σ,μ,hS,hL,?_⟩) fun u s1 ⟨w,H1,I1,r1,q1⟩=>thn (ho pins s1 σv H1 x w v u _ I1 rx r1 q1) fun c s2 ⟨z,H2,I2,r2,k,ek,q2⟩=>?_)
 ·rw[e1]
  intro ι1 w H1 p1 x1 s1 d1
  obtain⟨z,μ2,e2,h⟩:=h.bind
  refine⟨ι1,d,y,μ1,s1,IsD.mono p1 x1 _ _ hd,d1,?_⟩
  rw[e2]
  intro ι2 z' H2 p2 x2 s2 d2
  cases z with
  | bl k=>exact⟨k,Af d2,h ι2 k H2 (p1.trans p2) (x1.trans x2) s2 rfl⟩
  | _=>exact h.elim
 ·subst ek
  cases r2
  exact DQ ⟨H2,I2,q2⟩
theorem Qu {op op':Cp} {e e':Expr} {es:List Expr} {ops:List CmpOp} {xe xe':Ex} {r:Cps} (ho:OpR X (compareOp (opOf op)) (rOp X.K (cpD op))) (he:PE X e (tE X.K φ xe)) (hr:PTh X (opOf op'::ops) (e'::es) (tTh X.K φ (.cons op' xe' r))) :
  PTh X (opOf op::opOf op'::ops) (e::e'::es) (tTh X.K φ (.cons op xe (.cons op' xe' r))):=by
 intro pos pins s σv H Q x v I rx ⟨ι,σ,μ,d,hS,hL,hd,h⟩
 rw[Lx,Res.bind_assoc]at h
 obtain⟨y,μ1,e1,h⟩:=h.bind
 refine test_link (thn (he pins s σv H (fun w H1=>rOp X.K (cpD op) x w H1 (fun z H2=>∃k,z=.bl k∧if k=true then tTh X.K φ (.cons op' xe' r) w σv H2 Q else Q false H2)) I ⟨ι,σ,μ,hS,hL,?_⟩) fun u s1 ⟨w,H1,I1,r1,q1⟩ =>
  thn (ho pins s1 σv H1 x w v u _ I1 rx r1 q1) fun c s2 ⟨z,H2,I2,r2,k,ek,q2⟩=>?_)
 ·rw[e1]
  intro ι1 w H1 p1 x1 s1 d1
  rw[Res.bind_assoc]at h
  obtain⟨z,μ2,e2,h⟩:=h.bind
  refine⟨ι1,d,y,μ1,s1,IsD.mono p1 x1 _ _ hd,d1,?_⟩
  rw[e2]
  intro ι2 z' H2 p2 x2 s2 d2
  cases z with
  | bl k =>
   refine⟨k,Af d2,?_⟩
   cases k with
   | true=>exact⟨ι2,σ,μ2,y,s2,(hL.mono p1 x1).mono p2 x2,IsD.mono p2 x2 _ _ d1,(show ig _ _ _ _ ((evC φ (.cons op' xe' r) y σ μ2).bind _) _ from h).mono (p1.trans p2) (x1.trans x2)⟩
   | false=>exact h ι2 false H2 (p1.trans p2) (x1.trans x2) s2 rfl
  | _=>exact h.elim
 ·subst ek
  cases r2
  refine DQ ?_
  cases k with
  | false=>exact ite_ff ⟨H2,I2,q2⟩
  | true=>exact ite_tt (hr pos pins s2 σv H2 Q w u I2 r1 q2)
theorem Xx {a:Expr} {xa:Ex} {ops:List CmpOp} {es:List Expr} {r:Cps} {pos:Pos} (ha:PE X a (tE X.K φ xa)) (hr:PCh X ops es (tCh X.K φ r)) (hm:lastMarks ops es=false):PE X (.Compare a ops es pos) (tE X.K φ (.cmp xa r)):=by
 intro pins s σv H Q I ⟨ι,σ,μ,hS,hL,h⟩
 simp only[evE]at h
 obtain⟨d,μ1,e1,h⟩:=h.bind
 show wpAny _ _ (do compareChain pos (←eval a X.env) ops (markedEach ops es (evalEach es X.env))) _ _ _
 rw[markedEach_of_false _ _ _ hm]
 refine AA (thn (ha pins s σv H (fun x H1=>tCh X.K φ r x σv H1 Q) I ⟨ι,σ,μ,hS,hL,?_⟩) fun v s1 ⟨x,H1,I1,r1,q1⟩=>hr pos pins s1 σv H1 Q x v I1 r1 q1)
 rw[e1]
 exact fun ι1 x H1 p1 x1 s1 d1=>⟨ι1,σ,μ1,d,s1,hL.mono p1 x1,d1,h.mono p1 x1⟩
theorem Uk {a:Expr} {xa:Ex} {ops:List CmpOp} {es:List Expr} {r:Cps} {pos:Pos} (ha:PE X a (tE X.K φ xa)) (hr:PTh X ops es (tTh X.K φ r)) (hm:lastMarks ops es=false):PT X (.Compare a ops es pos) (tT X.K φ (.cmp xa r)):=by
 intro pins s σv H Q I ⟨ι,σ,μ,hS,hL,h⟩
 simp only[evE]at h
 rw[Res.bind_assoc]at h
 obtain⟨d,μ1,e1,h⟩:=h.bind
 show wpAny _ _ (do testChain pos (←eval a X.env) ops (markedEach ops es (evalEach es X.env))) _ _ _
 rw[markedEach_of_false _ _ _ hm]
 refine AA (thn (ha pins s σv H (fun x H1=>tTh X.K φ r x σv H1 Q) I ⟨ι,σ,μ,hS,hL,?_⟩) fun v s1 ⟨x,H1,I1,r1,q1⟩=>hr pos pins s1 σv H1 Q x v I1 r1 q1)
 rw[e1]
 exact fun ι1 x H1 p1 x1 s1 d1=>⟨ι1,σ,μ1,d,s1,hL.mono p1 x1,d1,h.mono p1 x1⟩
theorem Ul {l:Expr} {xl:Ex} {tg:Expr} (hl:PE X l (tE X.K φ xl)):PI X tg l (tI X.K φ (.seq xl)):=by
 intro pins s σv H R I ⟨ι,σ,μ,hS,hL,h⟩
 simp only[evI]at h
 cases e1:evE φ xl σ μ with
 | exc _ _ _=>rw[e1]at h;exact h.elim
 | stuck=>rw[e1]at h;exact h.elim
 | ok d μ1 =>
 rw[e1]at h
 simp only[Res.bo]at h
 have hq:tE X.K φ xl σv H (fun v H1=>∃ι1,ι <+: ι1∧Ext H H1∧Sim X.K ι1 H1 μ1∧IsD X.K ι1 H1 d v):=⟨ι,σ,μ,hS,hL,by rw[e1];exact fun ι1 v H1 p1 x1 s1 d1=>⟨ι1,p1,x1,s1,d1⟩⟩
 refine thn (hl pins s σv H _ I hq) fun u s1 ⟨v,H1,I1,r1,ι1,p1,x1,S1,d1⟩=>?_
 -- a list,at a,whatever its items
 have lst:∀(a:Addr) (xs:List V) (ds:List D) (g:Gd),v=.ref a→LsL X.K H1 a xs→aq X.K ι1 H1 ds xs→(∀ι2 H2 μ2,ι1 <+: ι2→Ext H1 H2→Sim X.K ι2 H2 μ2→gd g μ2→∃ys,LsL X.K H2 a ys∧aq X.K ι2 H2 ds ys) →
   (∀ι' H' J,ι <+: ι'→Ext H H'→Sim X.K ι' H' μ1→Walk X.K ι' H' J ds g→R J H')→wpAny (model X.prog X.w) X.A (pyIter u) (PIE X pins σv tg R) X.xe s1:=by
  intro a xs ds g ev hls hds stay hR
  subst ev
  cases(show u=Value.ref a from r1)
  obtain⟨its,rv,p,hz⟩:=I1.list hls.sq
  refine If p.isList ?_
  refine⟨s1.heap.objs.size,[s1.heap.objs.size],_,_,H1,rfl,I1.kept (t':=s1.toks) fun b o e=>AC _ e,Gw a _,⟨_,AH _ rfl,rfl,rfl⟩,fun b hb=>?_,hR ι1 H1 _ p1 x1 S1 ?_⟩
  ·have e:b=s1.heap.objs.size:=by simpa using hb
   subst e
   exact I1.fpOk (AI _) (I1.hok.fresh (AI _))
  ·refine⟨by rw[←hds.length];exact hz,fun i ι2 H2 μ2 q1 q2 q3 q4 hi=>?_,fun i ι2 H2 μ2 w H3 q1 q2 q3 q4 hi hy=>?_,fun ι2 H2 μ2 q1 q2 q3 q4=>?_⟩
   ·obtain⟨ys,y1,y2⟩:=stay ι2 H2 μ2 q1 q2 q3 q4
    obtain⟨w,e,_⟩:=y2.get (AB hi)
    exact⟨ys,w,y1.sq,e⟩
   ·obtain⟨ys,y1,y2⟩:=stay ι2 H2 μ2 q1 q2 q3 q4
    obtain⟨e,hy⟩:=hy
    subst e
    obtain⟨w',e',q'⟩:=y2.get (AB hi)
    have:=hy ys y1.sq
    rw[e']at this;cases this
    exact⟨.refl _,q3,_,AB hi,q'⟩
   ·obtain⟨ys,y1,y2⟩:=stay ι2 H2 μ2 q1 q2 q3 q4
    exact⟨ys,y1.sq,by rw[y2.length];exact AI _⟩
 cases d with
 | tup ds =>
  simp only[dk]at h
  obtain⟨a,xs,rfl,hq,hds⟩:=jd d1
  cases(show u=Value.ref a from r1)
  obtain⟨its,rv,p,hz⟩:=I1.tuple hq
  refine Ev (show s1.heap.IsTuple a its.toArray from p) ?_
  refine⟨s1.heap.objs.size,[s1.heap.objs.size],_,_,H1,rfl,I1.kept (t':=s1.toks) fun b o e=>AC _ e,E9 a _,⟨_,AH _ rfl,rfl,rfl⟩,fun b hb=>?_,h ι1 H1 _ p1 x1 S1 ?_⟩
  ·have e:b=s1.heap.objs.size:=by simpa using hb
   subst e
   exact I1.fpOk (AI _) (I1.hok.fresh (AI _))
  ·refine⟨by rw[←hds.length];exact hz,fun i ι2 H2 μ2 q1 q2 q3 q4 hi=>?_,fun i ι2 H2 μ2 w H3 q1 q2 q3 q4 hi hy=>?_,fun ι2 H2 μ2 q1 q2 q3 q4=>?_⟩
   ·obtain⟨w,e,_⟩:=hds.get (AB hi)
    exact⟨xs,w,hq.ext q2,e⟩
   ·obtain⟨e,hy⟩:=hy
    subst e
    obtain⟨w',e',q'⟩:=hds.get (AB hi)
    have:=hy xs (hq.ext q2)
    rw[e']at this;cases this
    exact⟨.refl _,q3,_,AB hi,IsD.mono q1 q2 _ _ q'⟩
   ·exact⟨xs,hq.ext q2,by rw[hds.length];exact AI _⟩
 | lst ds =>
  simp only[dk]at h
  obtain⟨a,xs,rfl,hq,hds⟩:∃a xs,v=.ref a∧FzL X.K H1 a xs∧aq X.K ι1 H1 ds xs:=by simpa[IsD]using d1
  exact lst a xs ds none rfl (.inr hq) hds (fun ι2 H2 μ2 q1 q2 q3 q4=>⟨xs,.inr (hq.ext q2),aq.mono q1 q2 _ _ hds⟩) h
 | loc n =>
  obtain⟨a,rfl,hn⟩:∃a,v=.ref a∧ι1[n]? = some a:=by simpa[IsD]using d1
  have pre:∀{ι2:List Addr},ι1 <+: ι2→ι2[n]? = some a:=fun hp=>by
   obtain⟨t,rfl⟩:=hp
   rw[AW (AG.mp hn).1];exact hn
  cases em:μ1[n]? with
  | none=>simp only[dk,em]at h
  | some o =>
   simp only[dk,em]at h
   cases o with
   | l ds =>
    simp only at h
    obtain⟨a',q',ho⟩:=S1.at em
    rw[hn]at q';cases q'
    obtain⟨xs,f1,f2⟩:=ho
    refine lst a xs ds (some (n,.l ds)) rfl (.inl f1) (aq.mono (CN) (.refl _) _ _ f2) (fun ι2 H2 μ2 q1 q2 q3 q4=>?_) h
    obtain⟨a2,e2,o2⟩:=q3.at (show μ2[n]? = some (.l ds)from q4)
    rw[pre q1]at e2;cases e2
    obtain⟨ys,g1,g2⟩:=o2
    exact⟨ys,.inl g1,aq.mono (CN) (.refl _) _ _ g2⟩
   | r ds =>
    simp only at h
    obtain⟨a',q',ho⟩:=S1.at em
    rw[hn]at q';cases q'
    obtain⟨xs,f1,f2⟩:=ho
    refine lst a xs ds (some (n,.r ds)) rfl (.inl f1) f2 (fun ι2 H2 μ2 q1 q2 q3 q4=>?_) h
    obtain⟨a2,e2,o2⟩:=q3.at (show μ2[n]? = some (.r ds)from q4)
    rw[pre q1]at e2;cases e2
    obtain⟨ys,g1,g2⟩:=o2
    exact⟨ys,.inl g1,g2⟩
   | d kvs=>simp only at h
   | dt kvs=>simp only at h
   | dead=>simp only at h
 | _=>simp only[dk]at h
theorem Fp {K:PySem.W.Frag} {ι:List Addr} {H:Hp} (lo:Int) (n:Nat) (hn:n≤sizeLine):Walk K ι H (Itr lo n) ((List.range n).map fun(k:Nat)=>D.int (lo+k)) none:=by
 refine⟨by simpa using hn,fun i ι2 H2 μ2 q1 q2 q3 q4 hi=>by simpa[Itr]using hi,fun i ι2 H2 μ2 w H3 q1 q2 q3 q4 hi hy=>?_,fun ι2 H2 μ2 q1 q2 q3 q4=>by simp[Itr]⟩
 obtain⟨e,hy⟩:=hy
 subst e
 have hi':i<n:=by simpa using hi
 exact⟨.refl _,q3,.int (lo+i),by simp[hi'],by simp[IsD,hy]⟩
theorem Um {a:Expr} {xa:Ex} {tg:Expr} {p pos:Pos} (hg:Gl X "range") (hm:X.mg "range"=none) (ha:PE X a (tE X.K φ xa)) (hs:starEach [a] X.env=[(false,eval a X.env)]):PI X tg (.Call (.Name "range" p) [a] [] pos) (tI X.K φ (.rng xa)) :=
 PI.imp (Gx hg hm (Ac ha Ln hs) hs) fun σv H R ⟨ι,σ,μ,hS,hL,h⟩=>by
  simp only[evI]at h
  refine⟨ι,σ,μ,hS,hL,?_⟩
  simp only[iu]
  cases e1:evE φ xa σ μ with
  | exc _ _ _=>rw[e1]at h;exact h.elim
  | stuck=>rw[e1]at h;exact h.elim
  | ok d μ1 =>
   rw[e1]at h
   simp only[Res.bo]at h ⊢
   cases d with
   | int j =>
    simp only at h
    by_cases hj:-(lim:Int)≤j∧j≤lim
    ·rw[if_pos hj]at h
     rw[mr]at hj
     have h24:sizeLine=16777216:=DP
     rw[h24]at hj
     intro ι1 vs H1 p1 x1 s1 d1
     have e:vs=[.int j]:=by
      have q:aq X.K ι1 H1 [.int j] vs:=d1
      simp only[aq]at q
      obtain⟨v,r,rfl,q1,rfl⟩:=q
      cases fh q1
      rfl
     refine⟨j,e,by lia,by lia,h ι1 H1 _ p1 x1 s1 ?_⟩
     have w:=Fp (K:=X.K) (ι:=ι1) (H:=H1) 0 j.toNat (by lia)
     simpa using w
    ·rw[if_neg hj]at h
     exact h.elim
   | _=>exact h.elim
end
end Lp
namespace Lp
open PySem PySem.Spec PyProof.Rows L2
section
variable {X : Cx} {φ : Phi} {pins : List (Addr × Obj)} {σ : St} {H : Hp} {s : Shared}
noncomputable def uo (K:PySem.W.Frag) (f:List D→Sto→Res D):List V→Hp→VK→Prop:=fun xs H Q=>∃ι ds μ,Sim K ι H μ∧aq K ι H ds xs∧ig K (RD K) ι H (f ds μ) Q
theorem N1 {K:PySem.W.Frag} {ι:List Addr} {d:D} {xs:List V} (h:aq K ι H [d] xs):∃v,xs=[v]∧IsD K ι H d v:=by
 simp only[aq]at h
 obtain⟨v,r,rfl,q,rfl⟩:=h
 exact⟨v,rfl,q⟩
theorem N2 {K:PySem.W.Frag} {ι:List Addr} {d e:D} {xs:List V} (h:aq K ι H [d,e] xs):∃v w,xs=[v,w]∧IsD K ι H d v∧IsD K ι H e w:=by
 simp only[aq]at h
 obtain⟨v,r,rfl,q,w,r2,rfl,q2,rfl⟩:=h
 exact⟨v,w,rfl,q,q2⟩
theorem mz {K:PySem.W.Frag} {ι:List Addr} {ds:List D} {xs:List V} {μ:Sto} {f:D→Sto→Res D} {Q:VK} (hds:aq K ι H ds xs) (h:ig K (RD K) ι H (wj f ds μ) Q) :
  ∃d v,xs=[v]∧IsD K ι H d v∧ig K (RD K) ι H (f d μ) Q:=by
 unfold wj at h
 split at h
 ·rename_i d
  obtain⟨v,rfl,hv⟩:=N1 hds
  exact⟨d,v,rfl,hv,h⟩
 ·exact h.elim
theorem B7 {K:PySem.W.Frag} {ι:List Addr} {d:D} {v:V} {μ:Sto} {f:List D→Sto→Res D} {Q:VK} (hS:Sim K ι H μ) (hd:IsD K ι H d v) (h:ig K (RD K) ι H (seq1 f d μ) Q) :
  ∃a xs ds,v=.ref a∧(LsL K H a xs∨SqT K H a xs)∧aq K ι H ds xs∧ig K (RD K) ι H (f ds μ) Q:=by
 unfold seq1 at h
 split at h
 ·rename_i ds e
  obtain⟨a,xs,rfl,hq,hxs⟩:=wm hS hd e
  exact⟨a,xs,ds,rfl,hq,hxs,h⟩
 ·exact h.elim
theorem B8 {K:PySem.W.Frag} {ι:List Addr} {d:D} {v:V} {μ:Sto} {f:List Int→Sto→Res D} {Q:VK} (hS:Sim K ι H μ) (hd:IsD K ι H d v) (h:ig K (RD K) ι H (Nu f d μ) Q) :
  ∃a ns,v=.ref a∧(LsL K H a (ns.map V.int)∨SqT K H a (ns.map V.int))∧ig K (RD K) ι H (f ns μ) Q:=by
 unfold Nu at h
 cases e:dq μ d with
 | none=>rw[e]at h;exact h.elim
 | some ds =>
  rw[e]at h
  simp only[GQ]at h
  split at h
  ·rename_i ns e2
   obtain⟨a,xs,rfl,hq,hxs⟩:=wm hS hd e
   rw[ints_of hxs e2]at hq
   exact⟨a,ns,rfl,hq,h⟩
  ·exact h.elim
theorem Dt {K:PySem.W.Frag} {ι:List Addr} {d:D} {v:V} {μ:Sto} {f:List Bool→Sto→Res D} {Q:VK} (hS:Sim K ι H μ) (hd:IsD K ι H d v) (h:ig K (RD K) ι H (Fk f d μ) Q) :
  ∃a ns,v=.ref a∧(LsL K H a (ns.map V.bl)∨SqT K H a (ns.map V.bl))∧ig K (RD K) ι H (f ns μ) Q:=by
 unfold Fk at h
 cases e:dq μ d with
 | none=>rw[e]at h;exact h.elim
 | some ds =>
  rw[e]at h
  simp only[GQ]at h
  split at h
  ·rename_i ns e2
   obtain⟨a,xs,rfl,hq,hxs⟩:=wm hS hd e
   rw[Dq hxs e2]at hq
   exact⟨a,ns,rfl,hq,h⟩
  ·exact h.elim
theorem bt_len {m:Mk}:gm X (.builtin "len") (uo X.K (btD .len m)):=gm.imp z6 fun xs H Q ⟨ι,ds,μ,hS,hds,h⟩=>by
 obtain⟨d,v,rfl,hv,h⟩:=mz hds h
 obtain⟨a,xs,es,rfl,hq,hxs,h⟩:=B7 hS hv h
 exact⟨a,xs,rfl,hq.imp (·.sq) id,by rw[hxs.length];exact h.ok hS (by simp[IsD])⟩
theorem bt_tuple {m:Mk}:gm X (.type "tuple") (uo X.K (btD .tuple m)):=gm.imp ya fun xs H Q ⟨ι,ds,μ,hS,hds,h⟩=>by
 obtain⟨d,v,rfl,hv,h⟩:=mz hds h
 obtain⟨a,xs,es,rfl,hq,hxs,h⟩:=B7 hS hv h
 refine⟨a,xs,rfl,?_⟩
 rcases hq with hq | hq
 ·exact .inl ⟨hq.sq,fun l hl=>ye hS hxs h hl⟩
 ·exact .inr ⟨hq,h.ok hS (tup_is hq hxs)⟩
theorem bt_list {m:Mk}:gm X (.type "list") (uo X.K (btD .list m)):=gm.imp (gm.fq z7) fun xs H Q ⟨ι,ds,μ,hS,hds,h⟩=>by
 obtain⟨d,v,rfl,hv,h⟩:=mz hds h
 obtain⟨a,xs,es,rfl,hq,hxs,h⟩:=B7 hS hv h
 exact⟨a,xs,rfl,hq.imp (·.sq) id,fun l hl=>mv hS hxs h hl⟩
theorem bt_min {m:Mk} (hc:X.calm=true):gm X (.builtin "min") (uo X.K (btD .min m)):=gm.imp (G0 hc) fun xs H Q ⟨ι,ds,μ,hS,hds,h⟩=>by
 simp only[btD,minD]at h
 split at h
 ·rename_i i j
  obtain⟨v,w,rfl,hv,hw⟩:=N2 hds
  cases fh hv
  cases fh hw
  exact⟨i,j,rfl,h.ok hS (by simp[IsD])⟩
 ·exact h.elim
theorem bt_max {m:Mk} (hc:X.calm=true):gm X (.builtin "max") (uo X.K (btD .max m)):=gm.imp (Gz hc) fun xs H Q ⟨ι,ds,μ,hS,hds,h⟩=>by
 simp only[btD,maxD]at h
 split at h
 ·rename_i i j
  obtain⟨v,w,rfl,hv,hw⟩:=N2 hds
  cases fh hv
  cases fh hw
  exact⟨i,j,rfl,h.ok hS (by simp[IsD])⟩
 ·exact h.elim
theorem tq {A:Around} {E:Value→Shared→Prop} {a:Addr} {xs:List V} (I:Inv X pins σ H s) (hq:LsL X.K H a xs∨SqT X.K H a xs) (hh:A.handled=none) {Q:Value→Shared→Prop}
  (h:∀(it:Addr) (fp:List Addr) (its:List Value) St s2,cq xs its→Walks X.prog X.w A it fp [it] its.length (fun i v=>its[i]? = some v) St→St 0 s2.heap→(∀b∈fp,b<s2.heap.objs.size) →
   (∀h' tk,(∀b o,b∉[it]→s2.heap.get? b=some o→h'.get? b=some o)→Inv X pins σ H {s2 with heap:=h',toks:=tk})→Q (.ref it) s2) :
  wpAny (model X.prog X.w) A (pyIter (.ref a)) Q E s:=by
 have fin:∀(ob:Obj) (h':Heap) (tk:Nat),(∀b o,b∉[s.heap.objs.size]→(s.heap.push ob).get? b=some o→h'.get? b=some o)→Inv X pins σ H {s with heap:=h',toks:=tk}:=fun ob h' tk hk =>
  I.kept fun b u e=>hk b u (by simp;exact AR (AL e)) (AC _ e)
 rcases hq with hq | hq
 ·obtain⟨z,its,n,hv,hl,hg⟩:=I.ls hq
  have hil:s.heap.IsList a its.toArray:=⟨_,hg,rfl,n,rfl⟩
  refine If hil ?_
  have hne:a≠s.heap.objs.size:=AR (AL hg)
  have W:=Walks.list (prog:=X.prog) (w:=X.w) (A:=A) hh s.heap.objs.size a hne its.toArray
  simp only[AE,GN]at W
  refine h s.heap.objs.size _ its _ _ hv W ⟨⟨_,AH _ rfl,rfl,rfl⟩,hil.at fun o e=>AC _ e⟩ (fun b hb=>?_) (fun h' tk hk=>fin _ h' tk hk)
  simp only[AM,BF,or_false]at hb
  rw[CZ]
  rcases hb with rfl | rfl
  ·exact GP _
  ·exact DS (AL hg)
 ·obtain⟨its,hv,ht,hz⟩:=I.tuple hq
  have hit:s.heap.IsTuple a its.toArray:=ht
  refine Ev hit ?_
  obtain⟨o,ho,_⟩:=id hit
  have hne:a≠s.heap.objs.size:=AR (AL ho)
  have W:=Walks.tuple (prog:=X.prog) (w:=X.w) (A:=A) hh s.heap.objs.size a hne its.toArray
  simp only[AE,GN]at W
  refine h s.heap.objs.size _ its _ _ hv W ⟨⟨_,AH _ rfl,rfl,rfl⟩,hit.at fun o e=>AC _ e⟩ (fun b hb=>?_) (fun h' tk hk=>fin _ h' tk hk)
  simp only[AM,BF,or_false]at hb
  rw[CZ]
  rcases hb with rfl | rfl
  ·exact GP _
  ·exact DS (AL ho)
theorem Al (ns:List Int):∀k,k≤ns.length→preSum (fun i=>ns.getD i 0) k=(ns.take k).sum
 | 0,_=>by simp[preSum]
 | k+1,h=>by
  rw[preSum,Al ns k (by lia),List.take_succ,EB,AV,AB (by lia)]
  simp
theorem bt_sum {m:Mk} (hc:X.calm=true):gm X (.builtin "sum") (uo X.K (btD .sum m)):=by
 intro pins s σ H xs us Q I r ⟨ι,ds,μ,hS,hds,h⟩
 obtain⟨d,v,rfl,hv,h⟩:=mz hds h
 obtain⟨a,ns,rfl,hq,h⟩:=B8 hS hv h
 obtain⟨u,rfl,ru⟩:=vals1 r
 cases(show u=Value.ref a from ru)
 refine call_sum_walkG (tq I hq (show X.A.in1.handled=none from I.ok.hd hc) fun it fp its St s2 hvs W st hfp hI=>?_)
 have hl:ns.length=its.length:=by have:=hvs.length;simpa using this
 refine⟨it,fp,[it],its.length,_,St,fun i=>ns.getD i 0,rfl,W,st,hfp,fun i w e=>?_,fun h' tk t' hk=>?_⟩
 ·have hi:i<ns.length:=by rw[hl];exact(AG.mp e).1
  obtain⟨u',e1,⟨t,e2⟩⟩:=hvs.get (i:=i) (x:=.int ns[i]) (by simp[AB hi])
  rw[e]at e1;cases e1
  exact⟨t,by rw[e2];simp[AV,AB hi]⟩
 ·refine⟨.int ns.sum,H,hI h' tk hk,⟨t',?_⟩,h.ok hS (by simp[IsD])⟩
  rw[←hl,Al ns ns.length (AI _),List.take_length]
theorem all_range (bs:List Bool):(List.range bs.length).all (fun i=>bs.getD i false)=bs.all id:=by
 induction bs with
 | nil=>rfl
 | cons b r ih=>rw[BN,GF,BD,FJ,BD];exact congrArg _ ih
theorem any_range (bs:List Bool):(List.range bs.length).any (fun i=>bs.getD i false)=bs.any id:=by
 induction bs with
 | nil=>rfl
 | cons b r ih=>rw[BN,GF,CT,JO,CT];exact congrArg _ ih
theorem Du {A:Around} {bs:List Bool} {its:List Value} (hvs:cq (bs.map V.bl) its):TruthOf X.prog X.w A (fun i v=>its[i]? = some v) (fun i=>bs.getD i false):=by
 intro i v s Q E e q
 have hl:bs.length=its.length:=by have:=hvs.length;simpa using this
 have hi:i<bs.length:=by rw[hl];exact(AG.mp e).1
 obtain⟨u',e1,e2⟩:=hvs.get (i:=i) (x:=.bl bs[i]) (by simp[AB hi])
 rw[e]at e1;cases e1
 cases(show v=Value.bool bs[i]from e2)
 refine DQ ?_
 simpa[AV,AB hi]using q
theorem bt_all {m:Mk} (hc:X.calm=true):gm X (.builtin "all") (uo X.K (btD .all m)):=by
 intro pins s σ H xs us Q I r ⟨ι,ds,μ,hS,hds,h⟩
 obtain⟨d,v,rfl,hv,h⟩:=mz hds h
 obtain⟨a,bs,rfl,hq,h⟩:=Dt hS hv h
 obtain⟨u,rfl,ru⟩:=vals1 r
 cases(show u=Value.ref a from ru)
 refine call_all_walk (tq I hq (show X.A.in1.handled=none from I.ok.hd hc) fun it fp its St s2 hvs W st hfp hI=>?_)
 have hl:bs.length=its.length:=by have:=hvs.length;simpa using this
 refine⟨it,fp,[it],its.length,_,St,fun i=>bs.getD i false,rfl,W,st,Du hvs,fun h' tk hk=>?_⟩
 refine⟨.bl (bs.all id),H,hI h' tk hk,?_,h.ok hS (by simp[IsD])⟩
 rw[←hl,all_range]
 rfl
theorem bt_any {m:Mk} (hc:X.calm=true):gm X (.builtin "any") (uo X.K (btD .any m)):=by
 intro pins s σ H xs us Q I r ⟨ι,ds,μ,hS,hds,h⟩
 obtain⟨d,v,rfl,hv,h⟩:=mz hds h
 obtain⟨a,bs,rfl,hq,h⟩:=Dt hS hv h
 obtain⟨u,rfl,ru⟩:=vals1 r
 cases(show u=Value.ref a from ru)
 refine call_any_walk (tq I hq (show X.A.in1.handled=none from I.ok.hd hc) fun it fp its St s2 hvs W st hfp hI=>?_)
 have hl:bs.length=its.length:=by have:=hvs.length;simpa using this
 refine⟨it,fp,[it],its.length,_,St,fun i=>bs.getD i false,rfl,W,st,Du hvs,fun h' tk hk=>?_⟩
 refine⟨.bl (bs.any id),H,hI h' tk hk,?_,h.ok hS (by simp[IsD])⟩
 rw[←hl,any_range]
 rfl
end
end Lp
namespace Lp
open PySem PySem.Spec PyProof.Rows L2
theorem B9 {prog:Program} {w:World} {A:Around} {E:Value→Shared→Prop} {s:Shared} {t sl:Addr} {items:Array Value} {vl vu:Value} {lo hi:Option Int} {Q:Value→Shared→Prop} (ht:IsTup s.heap t items) (hs:s.heap.IsSliceOf sl vl vu .none) (pl:IsPart vl lo) (pu:IsPart vu hi)
  (hw:HT.sIx items.size 0 lo=0∧HT.sIx items.size items.size hi=items.size) (h:Q (.ref t) s):wpAny (model prog w) A (getItem (.ref t) (.ref sl)) Q E s:=by
 obtain⟨os,hos,hcs,hds⟩:=id hs
 have hTs:s.TypeIs (.ref sl) "slice":=⟨os,hos,hcs⟩
 unfold getItem
 try with_reducible refine CS ?_
 first | refine AA (AD ?_) | skip
 refine AA (wpAny_sequenceKey ht.typeIs (by decide) ?_)
 refine AA (BJ (name:=Str.ofString "__getitem__") ht.typeIs CG
  (BK CG ht.typeIs entry_tuple_getitem ?_ (args_tuple_getitem _ _)))
 show wpAny _ _ (Builtin.Tuple.tupleItemsOf (.ref t)>>=_) _ _ s
 refine AA (tupleItemsOf_ ht ?_)
 refine AA (GC hTs ?_)
 rw[if_pos (by decide)]
 refine AA (HT.nv hs pl pu ?_)
 have hyes:(((HT.sIx items.size 0 lo:Nat):Int)==0&&(1:Int)==1&&(HT.sIx items.size items.size hi-HT.sIx items.size 0 lo)==items.size)=true:=by
  rw[hw.1,hw.2];simp
 show wpAny _ _ (if(((HT.sIx items.size 0 lo:Nat):Int)==0&&(1:Int)==1&&(HT.sIx items.size items.size hi-HT.sIx items.size 0 lo)==items.size)=true then _ else _) _ _ s
 rw[if_pos hyes]
 refine AA ?_
 unfold Builtin.Tuple.tupleIsExact
 refine AA (GC ht.typeIs (AD ?_))
 rw[if_pos (by decide)]
 exact AA (FW (AD ⟨_,rfl,AD h⟩))
section
variable {X : Cx} {φ : Phi} {pins : List (Addr × Obj)} {σ : St} {H : Hp} {s : Shared}
theorem Xy {m:Mk}:SlR X (fun x lo hi H Q=>∃ι d μ,Sim X.K ι H μ∧IsD X.K ι H d x∧ig X.K (RD X.K) ι H (slD m d lo hi μ) Q):=by
 intro pins s σ H x v vl vu lo hi sl Q I rx hs pl pu ⟨ι,d,μ,hS,hd,h⟩
 unfold slD at h
 split at h
 ·rename_i ds
  obtain⟨a,xs,rfl,hq,hxs⟩:=jd hd
  by_cases hw:HT.sIx xs.length 0 lo=0∧HT.sIx xs.length xs.length hi=xs.length
  ·cases(show v=Value.ref a from rx)
   obtain⟨its,r,ht,hz⟩:=I.tuple hq
   have hlen:its.toArray.size=xs.length:=by rw[AE];exact r.length.symm
   refine⟨"tuple",_,CG.lookup,ht.typeIs,B9 ht hs pl pu (by rw[hlen];exact hw) ⟨.ref a,H,I,rfl,h.ok hS ?_⟩⟩
   have e1:∀n d o,Lp.sIx n d o=HT.sIx n d o:=fun n d o=>by cases o<;>rfl
   have ec:cut ds lo hi=ds:=by
    unfold cut
    rw[e1,e1,←hxs.length,hw.1,hw.2]
    simp[hxs.length]
   rw[ec]
   exact hd
  ·exact Td pins s σ H _ v vl vu lo hi sl Q I rx hs pl pu ⟨a,xs,rfl,hq,hw,fun p hp=>ye hS (Ny hxs lo hi) h hp⟩
 ·split at h
  ·rename_i es
   obtain⟨a,xs,rfl,ha,hxs⟩:=mx hS hd es
   exact SlR.fq Qa pins s σ H _ v vl vu lo hi sl Q I rx hs pl pu ⟨a,xs,rfl,ha.sq,fun p hp=>mv hS (Ny hxs lo hi) h hp⟩
  ·exact h.elim
theorem PO.imp {e:Option Expr} {t t':TO} (h:PO X e t) (i:∀σ H Q,t' σ H Q→t σ H Q):PO X e t':=by
 intro pins s σ H Q I q
 exact h pins s σ H Q I (i _ _ _ q)
theorem aad:PO X none (tEo X.K φ .no):=PO.imp P6 fun σv H Q ⟨ι,σ,μ,hS,hL,h⟩=>by
 simp only[evO]at h
 exact h.ok hS rfl
theorem aae {e:Expr} {x:Ex} (he:PE X e (tE X.K φ x)):PO X (some e) (tEo X.K φ (.so x)):=PO.imp (P7 he) fun σv H Q ⟨ι,σ,μ,hS,hL,h⟩=>by
 simp only[evO]at h
 obtain⟨d,μ1,e1,h⟩:=h.bind
 refine⟨ι,σ,μ,hS,hL,?_⟩
 rw[e1]
 intro ι1 v H1 p1 x1 s1 d1
 cases d with
 | int i=>exact⟨i,fh d1,h ι1 (some i) H1 p1 x1 s1 rfl⟩
 | _=>exact h.elim
theorem aaf {e:Expr} {lo hi:Option Expr} {x:Ex} {xl xh:ExO} {m:Mk} {p2 pos:Pos} (he:PE X e (tE X.K φ x)) (hl:PO X lo (tEo X.K φ xl)) (hh:PO X hi (tEo X.K φ xh)):PE X (.Subscript e (.Slice lo hi none p2) pos) (tE X.K φ (.sl m x xl xh)) :=
 PE.imp (K9 Xy he hl hh) fun σv H Q ⟨ι,σ,μ,hS,hL,h⟩=>by
  simp only[evE]at h
  obtain⟨d,μ1,e1,h⟩:=h.bind
  refine⟨ι,σ,μ,hS,hL,?_⟩
  rw[e1]
  intro ι1 v H1 p1 x1 s1 d1
  obtain⟨l,μ2,e2,h⟩:=h.bind
  refine⟨ι1,σ,μ1,s1,hL.mono p1 x1,?_⟩
  rw[e2]
  intro ι2 l' H2 p2 x2 s2 d2
  cases d2
  obtain⟨u,μ3,e3,h⟩:=h.bind
  refine⟨ι2,σ,μ2,s2,(hL.mono p1 x1).mono p2 x2,?_⟩
  rw[e3]
  intro ι3 u' H3 p3 x3 s3 d3
  cases d3
  exact⟨ι3,d,μ3,s3,IsD.mono p3 x3 _ _ (IsD.mono p2 x2 _ _ d1),h.mono ((p1.trans p2).trans p3) ((x1.trans x2).trans x3)⟩
noncomputable def sa:Cl→String
 | .int=>"int"
 | .bool=>"bool"
 | .tuple=>"tuple"
 | .list=>"list"
 | .str=>"str"
 | .own _=>""
noncomputable def yg:String→Cl→Bool
 | "bool",.int=>true
 | "bool",.bool=>true
 | "int",.int=>true
 | "str",.str=>true
 | "tuple",.tuple=>true
 | "list",.list=>true
 | _,_=>false
theorem uq (K:PySem.W.Frag) (t:String) (c:Cl) (hc:∀n,c≠.own n) (ht:t∈["NoneType","bool","int","str","tuple","list"]):PySem.W.kitOne K (.type t) (.type (sa c))=some (yg t c):=by
 simp only[AM,BF,or_false]at ht
 rcases ht with rfl | rfl | rfl | rfl | rfl | rfl<;>cases c<;>first | rfl | exact absurd rfl (hc _)
theorem Uo {c:Cl} (hc:∀n,c≠.own n):gm X (.builtin "isinstance") (fun xs H Q=>∃ι d μ v,xs=[v,.ty (sa c)]∧Sim X.K ι H μ∧IsD X.K ι H d v∧ig X.K (RD X.K) ι H (Ll c d μ) Q):=by
 intro pins s σ H xs us Q I r ⟨ι,d,μ,v,e,hS,hd,h⟩
 subst e
 obtain⟨u,w,rfl,ru,rw'⟩:=vals2 r
 cases(show w=Value.type (sa c)from rw')
 have key:∀(t:String),t∈["NoneType","bool","int","str","tuple","list"]→(∀tk,EP X pins σ Q (.bool (yg t c)) {s with toks:=tk})→PySem.W.kitOne X.K (.type t) (.type (sa c))=some (yg t c)∧∀tk,EP X pins σ Q (.bool (yg t c)) {s with toks:=tk}:=fun t ht hq=>⟨uq X.K t c hc ht,hq⟩
 have lst:∀a xs,v=.ref a→LsL X.K H a xs→Q (.bl (yg "list" c)) H→wpAny (model X.prog X.w) X.A (call (.builtin "isinstance") [u,.type (sa c)]) (EP X pins σ Q) X.xe s:=fun a xs e hq q=>by
  subst e
  cases(show u=Value.ref a from ru)
  obtain⟨z,its,n,hv,_,hg⟩:=I.ls hq
  exact FA PySem.W.kitx_list I.kIn ⟨_,hg,rfl⟩ (uq X.K "list" c hc (by decide)) (fun z=>nomatch z) fun tk=>⟨.bl (yg "list" c),H,I.tok tk,rfl,q⟩
 cases d with
 | non =>
  cases(show v=.non by simpa[IsD]using hd)
  cases(show u=Value.none from ru)
  refine FA PySem.W.kitx_none I.kIn True.intro (uq X.K "NoneType" c hc (by decide)) (fun z=>nomatch z) fun tk=>⟨.bl (yg "NoneType" c),H,I.tok tk,rfl,?_⟩
  cases c<;>first | exact absurd rfl (hc _) | exact h.ok hS (by simp[IsD,yg])
 | bl b =>
  cases Af hd
  cases(show u=Value.bool b from ru)
  refine FA PySem.W.kitx_bool I.kIn True.intro (uq X.K "bool" c hc (by decide)) (fun z=>nomatch z) fun tk=>⟨.bl (yg "bool" c),H,I.tok tk,rfl,?_⟩
  cases c<;>first | exact absurd rfl (hc _) | exact h.ok hS (by simp[IsD,yg])
 | int i =>
  cases fh hd
  obtain⟨t,rfl⟩:=(show ∃t,u=Value.int i t from ru)
  refine FA PySem.W.kitx_int I.kIn True.intro (uq X.K "int" c hc (by decide)) (fun z=>nomatch z) fun tk=>⟨.bl (yg "int" c),H,I.tok tk,rfl,?_⟩
  cases c<;>first | exact absurd rfl (hc _) | exact h.ok hS (by simp[IsD,yg])
 | str x =>
  cases(show v=.str x by simpa[IsD]using hd)
  obtain⟨t,rfl⟩:=(show ∃t,u=Value.str x t from ru)
  refine FA PySem.W.kitx_str I.kIn True.intro (uq X.K "str" c hc (by decide)) (fun z=>nomatch z) fun tk=>⟨.bl (yg "str" c),H,I.tok tk,rfl,?_⟩
  cases c<;>first | exact absurd rfl (hc _) | exact h.ok hS (by simp[IsD,yg])
 | tup ds =>
  obtain⟨a,xs,rfl,hq,hxs⟩:=jd hd
  cases(show u=Value.ref a from ru)
  obtain⟨its,hv,⟨o,h1,h2,_⟩,hz⟩:=I.tuple hq
  refine FA PySem.W.kitx_tuple I.kIn ⟨o,h1,h2⟩ (uq X.K "tuple" c hc (by decide)) (fun z=>nomatch z) fun tk=>⟨.bl (yg "tuple" c),H,I.tok tk,rfl,?_⟩
  cases c<;>first | exact absurd rfl (hc _) | exact h.ok hS (by simp[IsD,yg])
 | lst ds =>
  obtain⟨a,xs,rfl,hq,hxs⟩:∃a xs,v=.ref a∧FzL X.K H a xs∧aq X.K ι H ds xs:=by simpa[IsD]using hd
  refine lst a xs rfl (.inr hq) ?_
  cases c<;>first | exact absurd rfl (hc _) | exact h.ok hS (by simp[IsD,yg])
 | loc n =>
  cases c with
  | list =>
   simp only[Ll]at h
   split at h
   ·rename_i ds em
    obtain⟨a,xs,rfl,hq,hxs⟩:=mx (ds:=ds) hS hd (by simp[listOf,em])
    exact lst a xs rfl hq (h.ok hS (by simp[IsD,yg]))
   ·rename_i ds em
    obtain⟨a,xs,rfl,hq,hxs⟩:=mx (ds:=ds) hS hd (by simp[listOf,em])
    exact lst a xs rfl hq (h.ok hS (by simp[IsD,yg]))
   ·exact h.elim
  | own k=>exact absurd rfl (hc k)
  | _=>exact h.elim
theorem Xz {a:Expr} {xa:Ex} {c:Cl} {cn:Str} {p cp pos:Pos} (hc:∀n,c≠.own n) (ha:PE X a (tE X.K φ xa)) (hgi:Gl X "isinstance") (hmi:X.mg "isinstance"=none) (hgc:Gl X cn) (hmc:X.mg cn=none) (hbc:bootBuiltins cn=some (.type (sa c)))
  (hn:cn≠"__name__") (hd:(cn==("__debug__":Str))=false) (hs:starEach [a,.Name cn cp] X.env=(false,eval a X.env)::starEach [.Name cn cp] X.env) :
  PE X (.Call (.Name "isinstance" p) [a,.Name cn cp] [] pos) (tE X.K φ (.isi xa c)):=by
 have hb:PE X (.Name cn cp) (tC (.ty (sa c))):=Pr hgc hmc hbc rfl hn hd
 refine PE.imp (je (Uo hc) hgi hmi boot_isinstance (Bs ha (Bs hb Nj) hs) (by decide) (by decide) hs) fun σv H Q ⟨ι,σ,μ,hS,hL,h⟩=>?_
 simp only[evE]at h
 obtain⟨d,μ1,e1,h⟩:=h.bind
 refine⟨ι,σ,μ,hS,hL,?_⟩
 rw[e1]
 exact fun ι1 v H1 p1 x1 s1 d1=>⟨ι1,d,μ1,v,rfl,s1,d1,h.mono p1 x1⟩
end
end Lp
namespace Lp
open PySem PySem.Spec PyProof.Rows L2
section
variable {X : Cx} {φ : Phi} {pins : List (Addr × Obj)} {σ : St} {H : Hp} {s : Shared}
theorem N3 {K:PySem.W.Frag} {ι:List Addr} {μ:Sto} {n:Nat} {v:V} {ob:O} {xs:List D} (hS:Sim K ι H μ) (hd:IsD K ι H (.loc n) v) (e:μ[n]? = some ob) (hi:jx ob=some xs) :
  ∃a vs,v=.ref a∧ι[n]? = some a∧H a=some (.lst vs)∧aq K ι H xs vs∧(∀ds,ob=.l ds→aq K [] H xs vs):=by
 obtain⟨a,rfl,ha⟩:∃a,v=.ref a∧ι[n]? = some a:=by simpa[IsD]using hd
 obtain⟨a',ea,ho⟩:=hS.at e
 rw[ha]at ea;cases ea
 cases ob with
 | l ds =>
  cases hi
  obtain⟨vs,e1,e2⟩:=ho
  exact⟨a,vs,rfl,ha,e1,aq.mono (CN) (.refl _) _ _ e2,fun _ _=>e2⟩
 | r ds =>
  cases hi
  obtain⟨vs,e1,e2⟩:=ho
  exact⟨a,vs,rfl,ha,e1,e2,fun _ z=>by cases z⟩
 | d _=>cases hi
 | dt _=>cases hi
 | dead=>cases hi
theorem qb {K:PySem.W.Frag} {ι:List Addr} {μ:Sto} {n:Nat} {ob:O} {ys:List D} {vs ws:List V} {d:D} {v:V} {a:Addr} {Q:VK} (hS:Sim K ι H μ) (ha:ι[n]? = some a) (hH:H a=some (.lst vs))
  (hw:aq K ι H ys ws) (hw0:∀ds,ob=.l ds→aq K [] H ys ws) (hd:IsD K ι H d v) (h:ig K (RD K) ι H (putL n ob ys d μ) Q):Q v (upd H a (.lst ws)):=by
 cases ob with
 | l ds =>
  exact h ι v _ (AN _) (.lst hH) (hS.put ha (.lst hH) ⟨ws,bh,aq.mono (AN _) (.lst hH) _ _ (hw0 ds rfl)⟩) (IsD.mono (AN _) (.lst hH) _ _ hd)
 | r ds =>
  exact h ι v _ (AN _) (.lst hH) (hS.put ha (.lst hH) ⟨ws,bh,aq.mono (AN _) (.lst hH) _ _ hw⟩) (IsD.mono (AN _) (.lst hH) _ _ hd)
 | d _=>exact h.elim
 | dt _=>exact h.elim
 | dead=>exact h.elim
theorem Am {K:PySem.W.Frag} {ι:List Addr} {ob:O} {d:D} {v:V} (hf:fits ob d=true) (hd:IsD K ι H d v):∀ds,ob=.l ds→IsD K [] H d v:=fun ds e=>by
 subst e
 exact IsD.pur hf hd
noncomputable def rMt (K:PySem.W.Frag) (mt:Mt):V→List V→Hp→VK→Prop:=fun x vs H Q=>∃ι d ds μ,Sim K ι H μ∧IsD K ι H d x∧aq K ι H ds vs∧ig K (RD K) ι H (mtD mt d ds μ) Q
theorem Qv {mt:Mt} (hne:mt≠.count∧mt≠.countL∧mt≠.get) {x:V} {vs:List V} {Q:VK} (h:rMt X.K mt x vs H Q):∃ι n ob xs ds μ a ws,Sim X.K ι H μ∧aq X.K ι H ds vs∧x=.ref a∧ι[n]? = some a∧H a=some (.lst ws)∧aq X.K ι H xs ws ∧
  (∀es,ob=.l es→aq X.K [] H xs ws)∧ig X.K (RD X.K) ι H (mtL mt n ob xs ds μ) Q:=by
 obtain⟨ι,d,ds,μ,hS,hd,hds,h⟩:=h
 have e0:mtD mt d ds μ=yc mt d ds μ:=by
  cases mt<;>first | exact absurd rfl hne.1 | exact absurd rfl hne.2.1 | exact absurd rfl hne.2.2 | rfl
 rw[e0]at h
 cases d with
 | loc n =>
  simp only[yc]at h
  cases em:μ[n]? with
  | none=>rw[em]at h;exact h.elim
  | some ob =>
   rw[em]at h
   simp only at h
   cases ei:jx ob with
   | none=>rw[ei]at h;exact h.elim
   | some xs =>
    rw[ei]at h
    obtain⟨a,ws,ex,ha,hH,h1,h2⟩:=N3 hS hd em ei
    exact⟨ι,n,ob,xs,ds,μ,a,ws,hS,hds,ex,ha,hH,h1,h2,h⟩
 | _=>exact h.elim
theorem Ly:MtR X "list.append" (rMt X.K .append):=MtR.imp G6 fun x vs H Q h0=>by
 obtain⟨ι,n,ob,xs,ds,μ,a,ws,hS,hds,rfl,ha,hH,h1,h2,h⟩:=Qv (by decide) h0
 clear h0
 simp only[mtL]at h
 obtain⟨d,v,rfl,hv,h⟩:=mz hds h
 split at h
 ·rename_i hf
  rw[mr]at hf
  refine⟨a,ws,v,rfl,rfl,hH,by rw[h1.length];exact hf.2,qb hS ha hH (h1.append (.one hv)) (fun es e=>(h2 es e).append (.one (Am hf.1 hv es e))) (by simp[IsD]) h⟩
 ·exact h.elim
theorem X0:MtR X "list.pop" (rMt X.K .pop):=by
 intro pins s σ H x vs v us Q I rx rv h0
 obtain⟨ι,n,ob,xs,ds,μ,a,ws,hS,hds,rfl,ha,hH,h1,h2,h⟩:=Qv (by decide) h0
 clear h0
 simp only[mtL]at h
 split at h
 ·have e:vs=[]:=by simpa[aq]using hds
  subst e
  split at h
  ·rename_i d ed
   have hl:xs[xs.length-1]? = some d:=by rw[←List.getLast?_eq_getElem?];exact ed
   obtain⟨w,ew,hw⟩:=h1.get hl
   refine To pins s σ H _ _ v us Q I rx rv ⟨a,ws,w,rfl,rfl,hH,by rw[h1.length];exact ew,qb hS ha hH h1.dropLast (fun es e=>(h2 es e).dropLast) hw h⟩
  ·exact h.elim
 ·rename_i i
  obtain⟨w0,rfl,hw0⟩:=N1 hds
  cases fh hw0
  split at h
  ·rename_i hi
   rw[mr]at hi
   have h24:sizeLine=16777216:=DP
   rw[h24]at hi
   split at h
   ·rename_i d ed
    obtain⟨w,ew,hw⟩:=h1.get ed
    have hlt:i.toNat<xs.length:=(AG.mp ed).1
    refine Lb pins s σ H _ _ v us Q I rx rv ⟨a,ws,i,i.toNat,w,rfl,rfl,hH,by lia,by lia,?_,ew,qb hS ha hH (h1.eraseIdx _) (fun es e=>(h2 es e).eraseIdx _) hw h⟩
    rw[h1.length]
    exact PySem.StrLaws.seqIndex_nonneg hi.1 (by lia)
   ·exact h.elim
  ·exact h.elim
 ·exact h.elim
theorem Qw:MtR X "list.clear" (rMt X.K .clear):=MtR.imp Lc fun x vs H Q h0=>by
 obtain⟨ι,n,ob,xs,ds,μ,a,ws,hS,hds,rfl,ha,hH,h1,h2,h⟩:=Qv (by decide) h0
 clear h0
 simp only[mtL]at h
 split at h
 ·have e:vs=[]:=by simpa[aq]using hds
  subst e
  exact⟨a,ws,rfl,rfl,hH,qb hS ha hH (by simp[aq]) (fun es e=>by simp[aq]) (by simp[IsD]) h⟩
 ·exact h.elim
end
end Lp
namespace Lp
open PySem PySem.Spec PyProof.Rows L2
theorem IsD.belowN {K:PySem.W.Frag} {ι ι':List Addr} {H:Hp} (hp:ι <+: ι'):∀(k:Nat) (d:D) (v:V),D.belowN ι.length k d=true→IsD K ι' H d v→IsD K ι H d v:=by
 have list:∀(k:Nat),(∀(d:D) (v:V),D.belowN ι.length k d=true→IsD K ι' H d v→IsD K ι H d v) →
   ∀(ds:List D) (xs:List V),ds.all (D.belowN ι.length k)=true→aq K ι' H ds xs→aq K ι H ds xs:=by
  intro k ih ds
  induction ds with
  | nil=>intro xs _ h;simpa[aq]using h
  | cons d ds ihd =>
   intro xs hp h
   simp only[aq]at h ⊢
   simp only[BD,BC]at hp
   obtain⟨v,r,e,q,t⟩:=h
   exact⟨v,r,e,ih d v hp.1 q,ihd r hp.2 t⟩
 have loc:∀(n:Nat) (v:V),n<ι.length→IsD K ι' H (.loc n) v→IsD K ι H (.loc n) v:=fun n v hn h=>by
  simp only[IsD]at h ⊢
  obtain⟨a,e,q⟩:=h
  obtain⟨t,rfl⟩:=hp
  rw[AW hn]at q
  exact⟨a,e,q⟩
 intro k
 induction k with
 | zero =>
  intro d v hb h
  cases d with
  | loc n=>exact loc n v (by simpa[D.belowN]using hb) h
  | tup ds=>simp[D.belowN]at hb
  | lst ds=>simp[D.belowN]at hb
  | _=>simpa[IsD]using h
 | succ k ih =>
  intro d v hb h
  cases d with
  | tup ds =>
   simp only[D.belowN]at hb
   simp only[IsD]at h ⊢
   obtain⟨a,xs,e,q,r⟩:=h
   exact⟨a,xs,e,q,list k ih ds xs hb r⟩
  | lst ds =>
   simp only[D.belowN]at hb
   simp only[IsD]at h ⊢
   obtain⟨a,xs,e,q,r⟩:=h
   exact⟨a,xs,e,q,list k ih ds xs hb r⟩
  | loc n=>exact loc n v (by simpa[D.belowN]using hb) h
  | _=>simpa[IsD]using h
theorem aq.belowN {K:PySem.W.Frag} {ι ι':List Addr} {H:Hp} (hp:ι <+: ι') {k:Nat}:∀(ds:List D) (xs:List V),ds.all (D.belowN ι.length k)=true→aq K ι' H ds xs→aq K ι H ds xs
 | [],xs,_,h=>by simpa[aq]using h
 | d::ds,xs,hb,h=>by
  simp only[aq]at h ⊢
  simp only[BD,BC]at hb
  obtain⟨v,r,e,q,t⟩:=h
  exact⟨v,r,e,IsD.belowN hp k d v hb.1 q,aq.belowN hp ds r hb.2 t⟩
theorem Sim.cut {K:PySem.W.Frag} {ι ι':List Addr} {H:Hp} {μ:Sto} (h:Sim K ι' H μ) (hp:ι <+: ι') (hc:(μ.take ι.length).all (jz ι.length)=true):Sim K ι H (μ.take ι.length):=by
 have hl:ι.length≤μ.length:=by rw[←h.len];exact hp.length_le
 refine⟨by rw[EJ];lia,hp.sublist.nodup h.nd,fun n a o e1 e2=>?_⟩
 have hn:n<ι.length:=(AG.mp e1).1
 have e1':ι'[n]? = some a:=by
  obtain⟨t,rfl⟩:=hp
  rw[AW hn];exact e1
 have e2':μ[n]? = some o:=by
  rw[ID hn]at e2;exact e2
 have q:=h.obj n a o e1' e2'
 have c:jz ι.length o=true:=AO.mp hc o (BR e2)
 cases o with
 | l ds=>exact q
 | r ds =>
  obtain⟨xs,e,r⟩:=q
  exact⟨xs,e,aq.belowN hp ds xs c r⟩
 | d kvs=>exact q
 | dt kvs=>exact q
 | dead=>exact q
theorem Hs {K:PySem.W.Frag} {ι:List Addr} {H:Hp} {μ:Sto} {keep:Bool} {r:Res D} {Q:VK} (hS:Sim K ι H μ) (h:ig K (RD K) ι H (sg keep μ.length r) Q):ig K (RD K) ι H r Q:=by
 cases r with
 | exc c ds μ'=>exact h
 | stuck=>exact h
 | ok d μ' =>
  cases keep with
  | true=>simpa[sg]using h
  | false =>
   simp only[sg,AT,if_false]at h
   split at h
   ·rename_i hc
    rw[←hS.len]at hc h
    exact fun ι' v H' p e s q=>h ι v H' (AN _) e (s.cut p hc.2) (IsD.belowN p 8 d v hc.1 q)
   ·exact h.elim
noncomputable def spD (K:PySem.W.Frag) (φ:Phi) (f:Nat):Sp:=fun vs H Q _=>∃ι ds μ,Sim K ι H μ∧aq K ι H ds vs∧ig K (RD K) ι H (φ f ds μ) Q
noncomputable def Callee (P:Program) (w:World) (K:PySem.W.Frag) (mg:Str→Option Value) (base:Heap) (A:Around) (φ:Phi) (f:Nat) (x:Str):Prop :=
 ∃(k:Nat) (fa:Addr) (fd:FuncData) (ps:List Str),FnOk P w K mg base CX0 k fa fd ps (spD K φ f)∧Room k A∧mg x=some (.ref fa)∧PySem.W.keepIn K (.ref fa)=true∧Binds K fd ps []
section
variable {X : Cx} {φ : Phi} {x : Str} {p pos : Pos} {e : Expr} {es : List Expr} {xs : Exs} {f : Nat} {keep : Bool}
theorem s_call (C:Callee X.prog X.w X.K X.mg X.base X.A φ f x) (hg:Gl X x) (ha:PA X (e::es) (tEs X.K φ xs)) (hdb:(x==("__debug__":Str))=false)
  (he:starEach (e::es) X.env=(false,eval e X.env)::starEach es X.env) (hpl:(backTo pos (starEach es X.env)).any (·.1)=false):PE X (.Call (.Name x p) (e::es) [] pos) (tE X.K φ (.call keep f xs)):=by
 obtain⟨k,fa,fd,ps,F,hr,hm,hk,hb⟩:=C
 refine PE.imp (P4 F hr hg hm hk hb .nil Xc ha hdb he hpl) fun σv H Q ⟨ι,σ,μ,hS,hL,h⟩=>?_
 simp only[evE]at h
 obtain⟨ds,μ1,e1,h⟩:=h.bind
 refine⟨ι,σ,μ,hS,hL,?_⟩
 rw[e1]
 intro ι1 vs H1 p1 x1 s1 d1
 exact⟨ι1,ds,μ1,s1,by rw[FR];exact d1,Hs s1 (h.mono p1 x1)⟩
end
theorem Qx {P:Program} {w:World} {K:PySem.W.Frag} {mg:Str→Option Value} {base:Heap} {x qual:Str} {st:Stmt} {fa:Addr} {fd:FuncData} {N ps:List Str} {n f:Nat} {T:List Df} {df:Df} (F:Fun K x qual st fa fd) (S:FnScope N ps (ao st))
  (hd:T[f]? = some df) (hnp:df.np=ps.length) (hnn:df.nn=N.length)
  (hb:∀(cdv:Value) (A:Around) (outer:List Env) (s:Shared) (H:Hp) (E:XK),Room n (A.deeper (envOfC qual (ao st) s.heap.objs.size fa cdv)) →
   PSs (Nk CX0 P w K mg base N qual (ao st) fa cdv A outer s H E).nox (bc st) (tSs K (aj T n) df.body)):FnOk P w K mg base CX0 (n+1) fa fd ps (spD K (aj T (n+1)) f):=by
 have len:∀{vs:List V} {H:Hp} {ds:List D} {ι:List Addr} {μ:Sto} {Q:VK},aq K ι H ds vs→ig K (RD K) ι H (aj T (n+1) f ds μ) Q→ds.length=df.np:=fun {vs H ds ι μ Q} hds h=>by
  simp only[aj,hd,Sj]at h
  split at h
  ·assumption
  ·exact h.elim
 refine F.ok S (fun vs H Q E ⟨ι,ds,μ,hS,hds,h⟩=>?_) fun cdv A outer s H vs Q E hr ⟨ι,ds,μ,hS,hds,h⟩=>⟨_,hb cdv A outer s H E hr,?_⟩
 ·rw[hds.length,len hds h,hnp]
 ·have hl:=len hds h
  refine⟨ι,ds.map some++List.replicate (df.nn-df.np) none,μ,hS,fun i d e=>?_,?_,?_⟩
  ·by_cases hi:i<ds.length
   ·rw[AW (by simpa using hi),BA]at e
    cases ed:ds[i]? with
    | none=>rw[ed]at e;cases e
    | some d' =>
     rw[ed]at e
     simp only[FT,BU]at e
     subst e
     obtain⟨v,ev,hv⟩:=hds.get ed
     refine⟨v,?_,hv⟩
     unfold L2.start
     rw[AW (by rw[AF,hds.length];exact hi),BA,ev]
     rfl
   ·rw[BQ (by simpa using hi),DR]at e
    split at e<;>cases e
  ·unfold L2.start
   simp only[CP,AF,JA,hds.length]
   lia
  ·simp only[aj,hd,Sj,if_pos hl]at h
   cases er:qy (aj T n) df.body (ds.map some++List.replicate (df.nn-df.np) none) μ with
   | exc c es μ'=>rw[er]at h;exact h.elim
   | stuck=>rw[er]at h;exact h.elim
   | ok fl μ' =>
    rw[er]at h
    simp only[Res.bo]at h
    cases fl with
    | nx σ'=>exact fun ι' σv H' p e s' l z=>h ι' .non H' p e s' (by simp[IsD])
    | rt d=>exact fun ι' v H' p e s' q=>h ι' v H' p e s' q
    | bk σ'=>exact h.elim
    | ct σ'=>exact h.elim
theorem Qy {P:Program} {w:World} {K:PySem.W.Frag} {mg:Str→Option Value} {base:Heap} {fa:Addr} {fd:FuncData} {ps:List Str} {f:Nat} {T:List Df}:FnOk P w K mg base CX0 0 fa fd ps (spD K (aj T 0) f) :=
 ⟨fun vs H Q E ⟨ι,ds,μ,hS,hds,h⟩=>h.elim,fun A outer s H args us vs Q E hr he hb hv ⟨ι,ds,μ,hS,hds,h⟩=>h.elim⟩
structure Ent where
 id:Nat
 name:Str
 st:Stmt
 N:List Str
 ps:List Str
 df:Df
structure ModOf (K:PySem.W.Frag) (mg:Str→Option Value) (e:Ent):Prop where
 ex:∃(fa:Addr) (fd:FuncData),mg e.name=some (.ref fa)∧Fun K e.name e.name e.st fa fd∧∀us:List Value,us.length=e.ps.length→bindArgs fd ⟨us,[]⟩=pure (e.ps.zip us)
theorem cz {K:PySem.W.Frag} {h:Heap} {mg:Str→Option Value} {e:Ent} {f:Addr} {oc:Value} {od an:Option Addr} {sl:Array (Option Value)} {kV dc pm cd ct:Value} (X:K.In h) (G:h.Ns mainGlobals mg) (a:PySem.W.nsIn K mainGlobals e.name=some (some (.ref f)))
  (l:K.lookup f=some ⟨oc,od,.func (PySem.W.fnOf e.name e.name (bf e.st) (bc e.st) (ao e.st) .none kV dc pm an cd ct),sl⟩) (c:PySem.W.codeIn K cd e.name=true) (k:PySem.W.keepIn K (.ref f)=true)
  (hb:∀(kV doc pm:Value) (an:Option Addr) (cdv ct:Value) (us:List Value),us.length=e.ps.length→bindArgs (PySem.W.fnOf e.name e.name (bf e.st) (bc e.st) (ao e.st) .none kV doc pm an cdv ct) ⟨us,[]⟩=pure (e.ps.zip us)):ModOf K mg e :=
 ⟨f,_,PySem.W.mg_of X G a,Ts l c k,hb kV dc pm an cd ct⟩
structure Derived (T:List Df) (P:Program) (w:World) (K:PySem.W.Frag) (mg:Str→Option Value) (base:Heap) (es:List Ent) (e:Ent):Prop where
 sc:FnScope e.N e.ps (ao e.st)
 tb:T[e.id]? = some e.df
 np:e.df.np=e.ps.length
 nn:e.df.nn=e.N.length
 dv:∀(n:Nat) (fa:Addr) (cdv:Value) (A:Around) (outer:List Env) (s:Shared) (H:Hp) (E:XK),(A.deeper (envOfC e.name (ao e.st) s.heap.objs.size fa cdv)).units+64<cLine →
  (∀(j:Nat) e',es[j]? = some e'→Callee P w K mg base (A.deeper (envOfC e.name (ao e.st) s.heap.objs.size fa cdv)) (aj T n) e'.id e'.name) →
  PSs (Nk CX0 P w K mg base e.N e.name (ao e.st) fa cdv A outer s H E).nox (bc e.st) (tSs K (aj T n) e.df.body)
theorem N4 {T:List Df} {P:Program} {w:World} {K:PySem.W.Frag} {mg:Str→Option Value} {base:Heap} {es:List Ent} (M:∀(j:Nat) e,es[j]? = some e→ModOf K mg e) (Dv:∀(j:Nat) e,es[j]? = some e→Derived T P w K mg base es e) :
  ∀(n:Nat) (j:Nat) e,es[j]? = some e→∀(fa:Addr) (fd:FuncData),mg e.name=some (.ref fa)→Fun K e.name e.name e.st fa fd→FnOk P w K mg base CX0 n fa fd e.ps (spD K (aj T n) e.id)
 | 0,j,e,_,fa,fd,_,_=>Qy
 | n+1,j,e,he,fa,fd,hm,hF=>by
  have d:=Dv j e he
  refine Qx hF d.sc d.tb d.np d.nn fun cdv A outer s H E hr=>d.dv n fa cdv A outer s H E hr.units fun i e' he'=>?_
  obtain⟨fa',fd',hm',hF',hb'⟩:=(M i e' he').ex
  exact⟨n,fa',fd',e'.ps,N4 M Dv n i e' he' fa' fd' hm' hF',hr,hm',hF'.kp,.all hb'⟩
noncomputable def Lz (K:PySem.W.Frag):Sp:=fun vs H Q _=>∃(a:Addr) (ns:List Int),vs=[.ref a]∧FzL K H a (ns.map V.int)∧ns.length≤63∧∀H',Q (.bl true) H'
theorem Uq {T:List Df} {P:Program} {w:World} {K:PySem.W.Frag} {mg:Str→Option Value} {base:Heap} {es:List Ent} {n j:Nat} {e:Ent} {fa:Addr} {fd:FuncData} (M:∀(j:Nat) e,es[j]? = some e→ModOf K mg e) (Dv:∀(j:Nat) e,es[j]? = some e→Derived T P w K mg base es e)
  (he:es[j]? = some e) (hm:mg e.name=some (.ref fa)) (hF:Fun K e.name e.name e.st fa fd) (hps:e.ps.length=1)
  (hlaw:∀ns:List Int,ns.length≤63→∃μ',aj T n e.id [.lst (ns.map D.int)] []=.ok (.bl true) μ'):FnOk P w K mg base CX0 n fa fd e.ps (Lz K):=by
 refine(N4 M Dv n j e he fa fd hm hF).imp fun vs H Q E ⟨a,ns,ev,hS,hl,q⟩=>?_
 subst ev
 obtain⟨μ',el⟩:=hlaw ns hl
 refine⟨[],[.lst (ns.map D.int)],[],⟨rfl,List.nodup_nil,fun n a o e1 e2=>by simp at e1⟩,?_,?_⟩
 ·simp only[aq,IsD]
  exact⟨.ref a,[],rfl,⟨a,_,rfl,hS,aq.ints ns⟩,rfl⟩
 ·rw[el]
  intro ι' v H' p x s' d
  have ev:v=.bl true:=by simpa[IsD]using d
  subst ev
  exact q H'
theorem Qz {T:List Df} {P:Program} {w:World} {K:PySem.W.Frag} {mg:Str→Option Value} {es:List Ent} {n j:Nat} {e:Ent} {fa:Addr} (M:∀(j:Nat) e,es[j]? = some e→ModOf K mg e) (Dv:∀(base:Heap) (j:Nat) e,es[j]? = some e→Derived T P w K mg base es e)
  (he:es[j]? = some e) (hfa:mg e.name=some (.ref fa)) (hps:e.ps=[("script":Str)])
  (hlaw:∀ns:List Int,ns.length≤63→∃μ',aj T n e.id [.lst (ns.map D.int)] []=.ok (.bl true) μ') :
  ∃fd:FuncData,(∀(s:Shared) (v:Value),BindsTo s fd ⟨[v],[]⟩ [("script",v)])∧∀base:Heap,K.In base→base.Ns mainGlobals mg→FnOk P w K mg base CX0 n fa fd ["script"] (Lz K):=by
 obtain⟨fa',fd,hm,hF,hb⟩:=(M j e he).ex
 have z:=hfa.symm.trans hm
 cases z
 rw[hps]at hb
 refine⟨fd,fun s v=>.of_eq (hb [v] rfl),fun base _ _=>?_⟩
 have q:=Uq M (Dv base) he hm hF (by rw[hps];rfl) hlaw
 rw[hps]at q
 exact q
theorem L0 {l:PySem.W.OpenLaw} {n:Nat} {q:Program} {loose:List Str} {XP:(Str→Option Value)→Heap→Prop} {YP:World→Heap→Prop} {d:DefRec} {K:Params→PySem.W.Frag} (hr:Room n callerA) (hn:l.most=some 63) (hdf:d.params.defaults=[])
  (hY:∀(w:World) (h:Heap),YP w h→(K w.params).In h)
  (F:∀(w:World) (mg:Str→Option Value) (fa:Addr) (h:Heap),(K w.params).In h→h.Ns mainGlobals mg→mg d.name=some (.ref fa) →
   ∃fd:FuncData,(∀(s:Shared) (u:Value),BindsTo s fd ⟨[u],[]⟩ [("script",u)])∧∀base:Heap,(K w.params).In base→base.Ns mainGlobals mg→FnOk l.prog w (K w.params) mg base CX0 n fa fd ["script"] (Lz (K w.params))) :
  PySem.W.WalkO q loose XP YP l.row.toRowW d [] (fun f vs=>PySem.call f vs) :=
 L2.Qf (n:=63) (k:=n) (x:="script") (CX:=fun _=>CX0) (sp:=fun w=>Lz (K w.params)) hn (by decide) hdf hr hY F (fun _ _ a ns hl _ hS=>⟨a,ns,rfl,hS,hl,fun _=>rfl⟩) fun _ _ _ _ _ z=>z
end Lp
namespace Lp
open PySem PySem.Spec PyProof.Rows L2
noncomputable def Exs.len:Exs→Nat
 | .nil=>0
 | .cons _ r=>r.len+1
theorem yh {φ:Phi}:∀{xs:Exs} {σ:Sl} {μ:Sto} {ds:List D} {μ':Sto},iu φ xs σ μ=.ok ds μ'→ds.length=xs.len
 | .nil,σ,μ,ds,μ',h=>by
  simp only[iu]at h
  cases h;rfl
 | .cons e r,σ,μ,ds,μ',h=>by
  simp only[iu]at h
  cases e1:evE φ e σ μ with
  | exc _ _ _=>rw[e1]at h;cases h
  | stuck=>rw[e1]at h;cases h
  | ok d μ1 =>
   rw[e1]at h
   simp only[Res.bo]at h
   cases e2:iu φ r σ μ1 with
   | exc _ _ _=>rw[e2]at h;cases h
   | stuck=>rw[e2]at h;cases h
   | ok es μ2 =>
    rw[e2]at h
    cases h
    simp[Exs.len,yh e2]
noncomputable def Dw (sc scope:Scope) (N Nb:List Str) (cap:List Nat) (nl:Nat):Bool :=
 decide (scope.kind=.function)&&scope.names.all (fun y=>decide (y.2≠.cell)&&decide (scope.names.lookup y.1=some y.2)
  && (!decide (y.2=.free) || decide (sc.names.lookup y.1=some .cell) || decide (sc.names.lookup y.1=some .free)))
 && decide Nb.Nodup&&decide (Nb.length=cap.length+nl)
 && (List.range cap.length).all (fun j=>match cap[j]?,Nb[j]? with
  | some i,some x=>decide (N[i]? = some x)&&scope.names.any fun y=>decide (y.1=x)&&decide (y.2=.free)
  | _,_=>false)
theorem lookup_mem {l:List (Str×NameKind)} {n:Str} {k:NameKind} (h:l.lookup n=some k):(n,k)∈l:=by
 induction l with
 | nil=>cases h
 | cons a r ih =>
  obtain⟨m,j⟩:=a
  rw[EK]at h
  cases hb:n==m with
  | true =>
   rw[hb]at h
   cases h
   have:n=m:=by simpa using hb
   subst this
   exact AQ
  | false =>
   rw[hb]at h
   exact AJ _ (ih h)
theorem ur {scope:Scope} {env:Env} {n:Str} {k:NameKind} (h:(n,k)∈(relabel scope env).names):(n,k)∈scope.names∨(k=.cell∧(n,NameKind.free)∈scope.names):=by
 have h2:(n,k)∈scope.names.map (fun(n,k)=>if(k==NameKind.free&&env.scope.kind==.function&&env.kindOf n==some .cell)then(n,NameKind.cell)else(n,k)):=h
 obtain⟨⟨m,j⟩,hm,e⟩:=AY.mp h2
 dsimp only at e
 split at e
 ·rename_i hc
  cases e
  simp only[BC,beq_iff_eq]at hc
  obtain⟨⟨rfl,_⟩,_⟩:=hc
  exact .inr ⟨rfl,hm⟩
 ·cases e
  exact .inl hm
theorem wt {sc scope:Scope} {N Nb:List Str} {cap:List Nat} {nl:Nat} (h:Dw sc scope N Nb cap nl=true):CompScope sc scope N Nb cap nl:=by
 simp only[Dw,BC,AO,decide_eq_true_eq,Bool.or_eq_true,Bool.not_eq_true',decide_eq_false_iff_not]at h
 obtain⟨⟨⟨⟨h1,h2⟩,h3⟩,h4⟩,h5⟩:=h
 refine⟨h1,fun y hy=>(h2 y hy).1.1,fun y hy=>(h2 y hy).1.2,fun n hn=>?_,fun n hn=>?_,h3,h4,fun j i e=>?_⟩
 ·rcases(h2 (n,.free) hn).2 with(z | z) | z
  ·exact absurd rfl z
  ·exact .inl z
  ·exact .inr z
 ·rcases hn with hn | hn
  ·rcases ur (lookup_mem hn)with z | z
   ·exact absurd rfl (h2 _ z).1.1
   ·exact z.2
  ·rcases ur (lookup_mem hn)with z | z
   ·exact z
   ·exact z.2
 ·have hj:j<cap.length:=(AG.mp e).1
  have q:=h5 j (CI.mpr hj)
  rw[e]at q
  cases ex:Nb[j]? with
  | none=>rw[ex]at q;simp at q
  | some x =>
   rw[ex]at q
   simp only[BC,decide_eq_true_eq,DN]at q
   obtain⟨q1,⟨y,k⟩,hy,e1,e2⟩:=q
   dsimp only at e1 e2
   subst e1;subst e2
   exact⟨y,rfl,q1,hy⟩
noncomputable def ndB (l:List Str):Bool:=decide l.Nodup
theorem Dx {l:List Str} (h:ndB l=true):l.Nodup:=of_decide_eq_true h
section
variable {X : Cx} {φ : Phi} {a b c e : Expr} {es : List Expr} {xa xb xc xe : Ex} {xs : Exs} {pos : Pos}
theorem aa (i:Nat) {x:Str} (hN:X.N[i]? = some x:=by rfl) (hv:Vis X.env.scope x:=by first | exact Or.inl rfl | exact Or.inr (Or.inl rfl) | exact Or.inr (Or.inr rfl)) (hd:(x==("__debug__":Str))=false:=by decide)
  (hcd:(x==("__classdict__":Str))=false:=by decide):PE X (.Name x pos) (tE X.K φ (.var i)):=Xf hN hv hd hcd
theorem Ht (i:Nat) {x:Str} (hN:X.N[i]? = some x:=by rfl) (hv:Vis X.env.scope x:=by first | exact Or.inl rfl | exact Or.inr (Or.inl rfl) | exact Or.inr (Or.inr rfl)) (hd:(x==("__debug__":Str))=false:=by decide)
  (hcd:(x==("__classdict__":Str))=false:=by decide):PE X (.Name x pos) (tE X.K φ (.frz i)):=Xv hN hv hd hcd
theorem ai {i:Int} {j:Nat}:PE X (.Constant (.int i) j pos) (tE X.K φ (.cst (.int i))):=Xg
theorem Fq {i:Bool} {j:Nat}:PE X (.Constant (.bool i) j pos) (tE X.K φ (.cst (.bl i))):=Z8
theorem Ca {j:Nat}:PE X (.Constant .none j pos) (tE X.K φ (.cst .non)):=Xh
theorem n3 {i:Str} {j:Nat}:PE X (.Constant (.str i) j pos) (tE X.K φ (.cst (.str i))):=Xi
theorem ah:PA X [] (tEs X.K φ .nil):=Ln
theorem ae (ha:PE X a (tE X.K φ xa)) (hb:PA X es (tEs X.K φ xs)) (hs:starEach (a::es) X.env=(false,eval a X.env)::starEach es X.env:=by rfl):PA X (a::es) (tEs X.K φ (.cons xa xs)):=Ac ha hb hs
theorem av {op:Operator} {m:Mk} (ha:PE X a (tE X.K φ xa)) (hb:PE X b (tE X.K φ xb)):PE X (.BinOp a op b pos) (tE X.K φ (.bin op m xa xb)):=Xj Ub ha hb
theorem Q0 (ha:PE X a (tE X.K φ xa)):PE X (.UnaryOp .Not a pos) (tE X.K φ (.not xa)):=Tw ha
theorem Ur {rest:List Expr} (ha:PE X a (tE X.K φ xa)) (hb:PE X (.BoolOp .And (b::rest) pos) (tE X.K φ xb)):PE X (.BoolOp .And (a::b::rest) pos) (tE X.K φ (.and xa xb)):=Tx ha hb
theorem aag {rest:List Expr} (ha:PE X a (tE X.K φ xa)) (hb:PE X (.BoolOp .Or (b::rest) pos) (tE X.K φ xb)):PE X (.BoolOp .Or (a::b::rest) pos) (tE X.K φ (.or xa xb)):=Xm ha hb
theorem N5 {t:TE} (h:PE X a t):PE X (.BoolOp .And [a] pos) t:=Ng h
theorem X3 {t:TE} (h:PE X a t):PE X (.BoolOp .Or [a] pos) t:=Ng h
theorem n8 {k:Nat} (h:PA X es (tEs X.K φ xs)) (hl:xs.len≤1000:=by decide):PE X (.Tuple es k pos) (tE X.K φ (.tup xs)):=Xk h fun σ μ ds μ' e=>by
 rw[yh e];exact ET (Ab hl)
theorem si {m:Mk} (h:PA X es (tEs X.K φ xs)) (hl:xs.len≤1000:=by decide):PE X (.List es pos) (tE X.K φ (.lst m xs)):=Xu h fun σ μ ds μ' e=>by
 rw[yh e];exact ET (Ab hl)
theorem d7 (ha:PE X a (tE X.K φ xa)) (hb:PE X b (tE X.K φ xb)) (hs:Bv b:=by intro _ _;rfl):PE X (.Subscript a b pos) (tE X.K φ (.ix xa xb)):=Z9 Xw ha hb hs
theorem X4:PO X none (tEo X.K φ .no):=aad
theorem X5 (he:PE X e (tE X.K φ xe)):PO X (some e) (tEo X.K φ (.so xe)):=aae he
theorem X6 {lo hi:Option Expr} {xl xh:ExO} {m:Mk} {p2:Pos} (he:PE X e (tE X.K φ xe)) (hl:PO X lo (tEo X.K φ xl)) (hh:PO X hi (tEo X.K φ xh)):PE X (.Subscript e (.Slice lo hi none p2) pos) (tE X.K φ (.sl m xe xl xh)):=aaf he hl hh
theorem An (hu:X.A.units+64<cLine) (op:Cp) (he:PE X e (tE X.K φ xe)):PCh X [opOf op] [e] (tCh X.K φ (.cons op xe .nil)):=Qs (Hq op (by lia)) he
theorem cw (hu:X.A.units+64<cLine) (op:Cp) (he:PE X e (tE X.K φ xe)):PTh X [opOf op] [e] (tTh X.K φ (.cons op xe .nil)):=Qt (Hq op (by lia)) he
theorem N6 (hu:X.A.units+64<cLine) (op:Cp) {op':Cp} {e':Expr} {ops:List CmpOp} {xe':Ex} {r:Cps} (he:PE X e (tE X.K φ xe)) (hr:PTh X (opOf op'::ops) (e'::es) (tTh X.K φ (.cons op' xe' r))) :
  PTh X (opOf op::opOf op'::ops) (e::e'::es) (tTh X.K φ (.cons op xe (.cons op' xe' r))):=Qu (Hq op (by lia)) he hr
theorem Ao {ops:List CmpOp} {r:Cps} (ha:PE X a (tE X.K φ xa)) (hr:PCh X ops es (tCh X.K φ r)) (hm:lastMarks ops es=false:=by rfl):PE X (.Compare a ops es pos) (tE X.K φ (.cmp xa r)):=Xx ha hr hm
theorem bg {ops:List CmpOp} {r:Cps} (ha:PE X a (tE X.K φ xa)) (hr:PTh X ops es (tTh X.K φ r)) (hm:lastMarks ops es=false:=by rfl):PT X (.Compare a ops es pos) (tT X.K φ (.cmp xa r)):=Uk ha hr hm
theorem h9 (ha:PE X a (tE X.K φ xa)) (he:∀whole,isTrue a X.env whole=(do let v ←whole;standAt a.pos;holding [v] (truthy v)):=by intro _;rfl):PT X a (tT X.K φ xa):=Qk ha he
theorem n9 (ha:PT X a (tT X.K φ xa)):PT X (.UnaryOp .Not a pos) (tT X.K φ (.not xa)):=Tv ha
theorem yi (ha:PT X a (tT X.K φ xa)):PW X (.BoolOp .And [a] pos) (tT X.K φ xa):=Pt ha
theorem qd (ha:PT X a (tT X.K φ xa)):PW X (.BoolOp .Or [a] pos) (tT X.K φ xa):=Sv ha
theorem Ap {rest:List Expr} (ha:PT X a (tT X.K φ xa)) (hb:PW X (.BoolOp .And (b::rest) pos) (tT X.K φ xb)):PW X (.BoolOp .And (a::b::rest) pos) (tT X.K φ (.and xa xb)):=Tz ha hb
theorem uu {rest:List Expr} (ha:PT X a (tT X.K φ xa)) (hb:PW X (.BoolOp .Or (b::rest) pos) (tT X.K φ xb)):PW X (.BoolOp .Or (a::b::rest) pos) (tT X.K φ (.or xa xb)):=Xn ha hb
theorem Fs {t:TT} (h:PW X a t):PT X a t:=h.pt
theorem az {x:Str} {p:Pos} {f:Nat} {keep:Bool} (C:Callee X.prog X.w X.K X.mg X.base X.A φ f x) (ha:PA X (e::es) (tEs X.K φ xs)) (hg:Gl X x:=by rfl) (hdb:(x==("__debug__":Str))=false:=by decide)
  (he:starEach (e::es) X.env=(false,eval e X.env)::starEach es X.env:=by rfl) (hpl:(backTo pos (starEach es X.env)).any (·.1)=false:=by rfl):PE X (.Call (.Name x p) (e::es) [] pos) (tE X.K φ (.call keep f xs)):=s_call C hg ha hdb he hpl
theorem lr {r:List V→Hp→VK→Prop} {b:Bt} {m:Mk} {es:List Expr} (h:PE X e (tCB (uo X.K (btD b m)) (tEs X.K φ xs))):PE X e (tE X.K φ (.blt b m xs)) :=
 PE.imp h fun σv H Q ⟨ι,σ,μ,hS,hL,h⟩=>by
  simp only[evE]at h
  obtain⟨ds,μ1,e1,h⟩:=h.bind
  refine⟨ι,σ,μ,hS,hL,?_⟩
  rw[e1]
  exact fun ι1 vs H1 p1 x1 s1 d1=>⟨ι1,ds,μ1,s1,d1,h.mono p1 x1⟩
theorem c9 {m:Mk} {p:Pos} (hm:X.mg "len"=none) (ha:PA X (e::es) (tEs X.K φ xs)) (hg:Gl X "len":=by rfl) (he:starEach (e::es) X.env=(false,eval e X.env)::starEach es X.env:=by rfl) (hpl:(backTo pos (starEach es X.env)).any (·.1)=false:=by rfl) :
  PE X (.Call (.Name "len" p) (e::es) [] pos) (tE X.K φ (.blt .len m xs)):=lr (r:=fun _ _ _=>True) (es:=es) (je bt_len hg hm PySem.boot_len ha (by decide) (by decide) he hpl)
theorem fj {m:Mk} {p:Pos} (hm:X.mg "tuple"=none) (ha:PA X (e::es) (tEs X.K φ xs)) (hg:Gl X "tuple":=by rfl) (he:starEach (e::es) X.env=(false,eval e X.env)::starEach es X.env:=by rfl) (hpl:(backTo pos (starEach es X.env)).any (·.1)=false:=by rfl) :
  PE X (.Call (.Name "tuple" p) (e::es) [] pos) (tE X.K φ (.blt .tuple m xs)):=lr (r:=fun _ _ _=>True) (es:=es) (zy bt_tuple hg hm (by first | exact PyProof.Rows.boot_tuple | decide +kernel) ha (by decide) (by decide) he hpl)
theorem Dy {m:Mk} {p:Pos} (hm:X.mg "list"=none) (ha:PA X (e::es) (tEs X.K φ xs)) (hg:Gl X "list":=by rfl) (he:starEach (e::es) X.env=(false,eval e X.env)::starEach es X.env:=by rfl) (hpl:(backTo pos (starEach es X.env)).any (·.1)=false:=by rfl) :
  PE X (.Call (.Name "list" p) (e::es) [] pos) (tE X.K φ (.blt .list m xs)):=lr (r:=fun _ _ _=>True) (es:=es) (zy bt_list hg hm (by first | exact IS | decide +kernel) ha (by decide) (by decide) he hpl)
theorem rj {m:Mk} {p:Pos} (hm:X.mg "min"=none) (ha:PA X (e::es) (tEs X.K φ xs)) (hc:X.calm=true:=by rfl) (hg:Gl X "min":=by rfl) (he:starEach (e::es) X.env=(false,eval e X.env)::starEach es X.env:=by rfl) (hpl:(backTo pos (starEach es X.env)).any (·.1)=false:=by rfl) :
  PE X (.Call (.Name "min" p) (e::es) [] pos) (tE X.K φ (.blt .min m xs)):=lr (r:=fun _ _ _=>True) (es:=es) (je (bt_min hc) hg hm (by first | exact JD | decide +kernel) ha (by decide) (by decide) he hpl)
theorem uv {m:Mk} {p:Pos} (hm:X.mg "max"=none) (ha:PA X (e::es) (tEs X.K φ xs)) (hc:X.calm=true:=by rfl) (hg:Gl X "max":=by rfl) (he:starEach (e::es) X.env=(false,eval e X.env)::starEach es X.env:=by rfl) (hpl:(backTo pos (starEach es X.env)).any (·.1)=false:=by rfl) :
  PE X (.Call (.Name "max" p) (e::es) [] pos) (tE X.K φ (.blt .max m xs)):=lr (r:=fun _ _ _=>True) (es:=es) (je (bt_max hc) hg hm (by first | exact PyProof.Rows.boot_max | decide +kernel) ha (by decide) (by decide) he hpl)
theorem pj {m:Mk} {p:Pos} (hm:X.mg "sum"=none) (ha:PA X (e::es) (tEs X.K φ xs)) (hc:X.calm=true:=by rfl) (hg:Gl X "sum":=by rfl) (he:starEach (e::es) X.env=(false,eval e X.env)::starEach es X.env:=by rfl) (hpl:(backTo pos (starEach es X.env)).any (·.1)=false:=by rfl) :
  PE X (.Call (.Name "sum" p) (e::es) [] pos) (tE X.K φ (.blt .sum m xs)):=lr (r:=fun _ _ _=>True) (es:=es) (je (bt_sum hc) hg hm (by first | exact PyProof.Rows.boot_sum | decide +kernel) ha (by decide) (by decide) he hpl)
theorem Q1 {m:Mk} {p:Pos} (hm:X.mg "all"=none) (ha:PA X (e::es) (tEs X.K φ xs)) (hc:X.calm=true:=by rfl) (hg:Gl X "all":=by rfl) (he:starEach (e::es) X.env=(false,eval e X.env)::starEach es X.env:=by rfl) (hpl:(backTo pos (starEach es X.env)).any (·.1)=false:=by rfl) :
  PE X (.Call (.Name "all" p) (e::es) [] pos) (tE X.K φ (.blt .all m xs)):=lr (r:=fun _ _ _=>True) (es:=es) (je (bt_all hc) hg hm (by first | exact PyProof.Rows.boot_all | decide +kernel) ha (by decide) (by decide) he hpl)
theorem uw {m:Mk} {p:Pos} (hm:X.mg "any"=none) (ha:PA X (e::es) (tEs X.K φ xs)) (hc:X.calm=true:=by rfl) (hg:Gl X "any":=by rfl) (he:starEach (e::es) X.env=(false,eval e X.env)::starEach es X.env:=by rfl) (hpl:(backTo pos (starEach es X.env)).any (·.1)=false:=by rfl) :
  PE X (.Call (.Name "any" p) (e::es) [] pos) (tE X.K φ (.blt .any m xs)):=lr (r:=fun _ _ _=>True) (es:=es) (je (bt_any hc) hg hm (by first | exact PyProof.Rows.boot_any | decide +kernel) ha (by decide) (by decide) he hpl)
theorem Hu {c:Cl} {cn:Str} {p cp:Pos} (ha:PE X a (tE X.K φ xa)) (hmi:X.mg "isinstance"=none) (hmc:X.mg cn=none) (hc:∀n,c≠.own n:=by intro _ h;cases h) (hgi:Gl X "isinstance":=by rfl) (hgc:Gl X cn:=by rfl)
  (hbc:bootBuiltins cn=some (.type (sa c)):=by first | boot_by_name | rfl | kernel_rfl) (hn:cn≠"__name__":=by decide) (hd:(cn==("__debug__":Str))=false:=by decide) (hs:starEach [a,.Name cn cp] X.env=(false,eval a X.env)::starEach [.Name cn cp] X.env:=by rfl) :
  PE X (.Call (.Name "isinstance" p) [a,.Name cn cp] [] pos) (tE X.K φ (.isi xa c)):=Xz hc ha hgi hmi hgc hmc hbc hn hd hs
theorem f6 {tg:Expr} (hl:PE X e (tE X.K φ xe)):PI X tg e (tI X.K φ (.seq xe)):=Ul hl
theorem gi {tg:Expr} {p:Pos} (hm:X.mg "range"=none) (ha:PE X a (tE X.K φ xa)) (hg:Gl X "range":=by rfl) (hs:starEach [a] X.env=[(false,eval a X.env)]:=by rfl):PI X tg (.Call (.Name "range" p) [a] [] pos) (tI X.K φ (.rng xa)):=Um hg hm ha hs
theorem bq (i:Nat) {y:Str} (hi:X.N[i]? = some y:=by rfl) (hN:ndB X.N=true:=by first | rfl | kernel_rfl) (hx:Loc X.env.scope y:=by first | exact Or.inl rfl | exact Or.inr rfl) (hf:X.fn y=true∨X.env.scope.names.lookup y=some .local:=by first | exact Or.inl rfl | exact Or.inr rfl) :
  PG X (.Name y pos) (tG X.K (.one i)):=T5 (Dx hN) hi hx hf
theorem dm:PGs X [] (tGs X.K []):=T6
theorem ag (i:Nat) {is:List Nat} {y:Str} (h2:PGs X es (tGs X.K is)) (hi:X.N[i]? = some y:=by rfl) (hN:ndB X.N=true:=by first | rfl | kernel_rfl) (hx:Loc X.env.scope y:=by first | exact Or.inl rfl | exact Or.inr rfl) (hf:X.fn y=true∨X.env.scope.names.lookup y=some .local:=by first | exact Or.inl rfl | exact Or.inr rfl)
  (hs:(assignEach (.Name y pos::es) X.env).map (·.2)=assign (.Name y pos) X.env::(assignEach es X.env).map (·.2):=by rfl):PGs X (.Name y pos::es) (tGs X.K (i::is)):=Ql (Gv (Dx hN) hi hx hf) h2 hs
theorem dn {is:List Nat} {k:Nat} (h:PGs X es (tGs X.K is)) (hc:X.calm=true:=by rfl) (hn:(assignEach es X.env).length=is.length:=by rfl) (hst:(assignEach es X.env).findIdx? (·.1)=none:=by rfl):PG X (.Tuple es k pos) (tG X.K (.many is)):=Xq hc h hn hst
theorem cb:PTs X [] (tTs X.K φ .nil):=T9
theorem k8 {r:List Expr} {xr:Exs} (h1:PT X c (tT X.K φ xc)) (h2:PTs X r (tTs X.K φ xr)):PTs X (c::r) (tTs X.K φ (.cons xc xr)):=Qq h1 h2
theorem dy (Nb:List Str) {target iter:Expr} {ifs:List Expr} {scope:Scope} {cap:List Nat} {nl:Nat} {m:Mk} {tg:Tg} {it:It} {cs:Exs} {elt:Ex} (hi:PI X target iter (tI X.K φ it))
  (B:B3 X scope Nb target ifs e (tG X.K tg) (tTs X.K φ cs) (tE X.K φ elt)) (S:Dw X.env.scope scope X.N Nb cap nl=true:=by first | rfl | kernel_rfl) (hc:X.calm=true:=by rfl) (hf:∀x,foldedSetIterable iter X.env x=pure x:=by intro _;rfl) (hs:∀j∈slots tg,cap.length≤j:=by decide) :
  PE X (.ListComp e [⟨target,iter,ifs,0⟩] scope pos) (tE X.K φ (.comp m cap nl tg it cs elt)):=Ua (wt S) hc hi B hf hs
theorem ux (i:Nat) (Nb:List Str) {target iter:Expr} {ifs:List Expr} {scope:Scope} {cap:List Nat} {nl:Nat} {m:Mk} {tg:Tg} {it:It} {cs:Exs} {elt:Ex} {spos py:Pos} {y:Str} (hi:PI X target iter (tI X.K φ it))
  (B:B3 X scope Nb target ifs e (tG X.K tg) (tTs X.K φ cs) (tE X.K φ elt)) (S:Dw X.env.scope scope X.N Nb cap nl=true:=by first | rfl | kernel_rfl) (hc:X.calm=true:=by rfl) (hf:∀x,foldedSetIterable iter X.env x=pure x:=by intro _;rfl) (hs:∀j∈slots tg,cap.length≤j:=by decide)
  (hsw:swapsWith (.ListComp e [⟨target,iter,ifs,0⟩] scope pos) (some (.Name y py)) spos.line X.env=pure true:=by rfl) (hiN:X.N[i]? = some y:=by rfl) (hN:ndB X.N=true:=by first | rfl | kernel_rfl) (hy:X.env.scope.names.lookup y=some .local:=by rfl) :
  PS X (.Assign [.Name y py] (.ListComp e [⟨target,iter,ifs,0⟩] scope pos) spos) (tS X.K φ (.set i (.comp m cap nl tg it cs elt))):=Hj (wt S) hc hi B hf hs hsw (Dx hN) hiN hy
theorem bz:PSs X [] (tSs X.K φ .nil):=Xo
theorem ar {s:Stmt} {ss:List Stmt} {x:Sm} {xss:Sms} (h1:PS X s (tS X.K φ x)) (h2:PSs X ss (tSs X.K φ xss)):PSs X (s::ss) (tSs X.K φ (.cons x xss)):=T3 h1 h2
theorem Hv (he:PE X e (tE X.K φ xe)) (hs:swapsWith e none pos.line X.env=pure false:=by rfl):PS X (.Expr e pos) (tS X.K φ (.ex xe)):=T4 he hs
theorem bx (he:PE X e (tE X.K φ xe)):PS X (.Return (some e) pos) (tS X.K φ (.ret xe)):=Xp he
theorem n4 {x y:List Stmt} {xx xy:Sms} (hc:PT X c (tT X.K φ xc)) (ha:PSs X x (tSs X.K φ xx)) (hb:PSs X y (tSs X.K φ xy)):PS X (.If c x y pos) (tS X.K φ (.ite xc xx xy)):=aaa hc ha hb
theorem br (i:Nat) {y:Str} {pos':Pos} (he:PE X e (tE X.K φ xe)) (hi:X.N[i]? = some y:=by rfl) (hN:ndB X.N=true:=by first | rfl | kernel_rfl) (hx:Loc X.env.scope y:=by first | exact Or.inl rfl | exact Or.inr rfl) (hf:X.fn y=true∨X.env.scope.names.lookup y=some .local:=by first | exact Or.inl rfl | exact Or.inr rfl)
  (hs:swapsWith e (some (.Name y pos')) pos.line X.env=pure false:=by rfl):PS X (.Assign [.Name y pos'] e pos) (tS X.K φ (.set i xe)):=Xr (Dx hN) hi hx hf he hs
theorem sj {is:List Nat} {tg:Expr} (hg:PG X tg (tG X.K (.many is))) (he:PE X e (tE X.K φ xe)) (hs:swapsWithSole [tg] e pos.line X.env=pure false:=by rfl) (hw:swappedStores [tg] e X.env=pure none:=by rfl)
  (h1:(assignEach [tg] X.env).map (·.2)=[assign tg X.env]:=by rfl):PS X (.Assign [tg] e pos) (tS X.K φ (.unp is xe)):=Xs hg he hs hw h1
theorem nc {tg it:Expr} {body:List Stmt} {xt:Tg} {xi:It} {xb:Sms} (hi:PI X tg it (tI X.K φ xi)) (hg:PG X tg (tG X.K xt)) (hb:PSs X body (tSs X.K φ xb)) (hp:PassesOwn (model X.prog X.w) X.A X.env X.xe:=by exact PassesOwn.never) (hc:X.calm=true:=by rfl)
  (hs:∀x,foldedSetIterable it X.env x=pure x:=by intro _;rfl):PS X (.For tg it body [] pos) (tS X.K φ (.loop xt xi xb)):=Xt hp hc hi hg hb hs
end
end Lp
namespace Lp
open PySem PySem.Spec PyProof.Rows L2
theorem L3:typeLookup (.type "list_reverseiterator") "__len__"=pure none:=by rw[HB,FE];kernel_rfl
theorem Q2:typeLookup (.type "list_reverseiterator") "__length_hint__"=pure (some (.builtin "list_reverseiterator.__length_hint__")):=by rw[HB,FE];kernel_rfl
section
variable {prog : Program} {w : World} {A : Around} {E : Value → Shared → Prop} {s : Shared} {r l : Addr}
theorem Q3 {Q:Bool→Shared→Prop} (hT:s.TypeIs (.ref r) "list_reverseiterator") (h:Q false s):wpAny (model prog w) A (Builtin.List.listLengthHint (.ref r)) Q E s:=by
 unfold Builtin.List.listLengthHint
 refine AA (IX hT L3 ?_)
 show wpAny _ _ (specialOf (Value.ref r) (Str.ofString "__length_hint__")>>=_) _ _ _
 refine AA (IX hT Q2 ?_)
 generalize hid:("list_reverseiterator.__length_hint__":String)=id0
 wp_delta
 rw[show splitId id0=some ("list_reverseiterator","__length_hint__")from by subst hid;decide +kernel]
 subst hid
 refine AA (EM (T:="list_reverseiterator") (b:=true) hT (by rw[FI];kernel_rfl) ?_)
 refine FB (fun hab=>absurd hab (by decide)) (fun _=>?_)
 refine FB (fun _=>?_) (fun hab=>absurd (by decide +kernel) hab)
 refine FB (fun hab=>absurd hab (by decide +kernel)) (fun _=>?_)
 exact AD h
theorem Hw {R:Result→Shared→Prop} {items:Array Value} (hh:A.handled=none) (S:Addr) (hSr:S≠r) (hSl:S≠l) (hlr:l≠r) (res:Value) (c₀:Nat) (hit:s.heap.IsRevIter r l ((items.size:Int)-1)) (hl:s.heap.IsList l items)
  (hS:s.heap.get? S=some {cls:=.type "list",data:=.seq #[] c₀})
  (hR:∀h' tk acc' c',(∀b o,b≠S→b≠r→s.heap.get? b=some o→h'.get? b=some o)→h'.get? S=some {cls:=.type "list",dict:=none,data:=.seq acc' c',slots:=#[]}→ItemsOf (fun i v=>items[items.size-1-i]? = some v) acc' items.size→R (.ok (.ret res)) {s with heap:=h',toks:=tk}) (hn:items.size≤sizeLine) :
  wpAny (model prog w) A.in1 (Builtin.List.listExtendWith (.ref S) (.ref r) res)
   (fun fin s'=>match fin with | .done f=>R (.ok f) s' | .again c'=>c'.quiet=true∧codeAny (model prog w) A c' R s') (fun e s'=>R (.error e) s') s:=by
 have W:=Walks.listRev (prog:=prog) (w:=w) (A:=A.in1) hh r l hlr items
 have hSf:S∉[r,l]:=by simp only[AM,BF,or_false,not_or];exact⟨hSr,hSl⟩
 have st0:∀h:Heap,h.IsRevIter r l ((items.size:Int)-1)→h.IsList l items→(0≤items.size∧h.IsRevIter r l ((items.size:Int)-1-((0:Nat):Int))∧h.IsList l items):=fun h a b=>⟨CQ _,by simpa using a,b⟩
 have key:∀(h:Heap) (c₁ tk:Nat),(0≤items.size∧h.IsRevIter r l ((items.size:Int)-1-((0:Nat):Int))∧h.IsList l items)→(∀b o,b≠S→s.heap.get? b=some o→h.get? b=some o) →
   h.get? S=some {cls:=.type "list",data:=.seq #[] c₁}→codeAny (model prog w) A (.builtin "list.extend.loop" ⟨[.ref S,.ref r,res],[]⟩) R {s with heap:=h,toks:=tk}:=by
  intro h c₁ tk hst hk hS₁
  refine codeAny_extend_loopS W.toS hn S hSf res items.size 0 _ #[] c₁ rfl (CQ _) hst hS₁ (ItemsOf.nil _) fun s' acc' c' hm hS' hacc=>?_
  rw[JK hm]
  refine hR s'.heap s'.toks acc' c' (fun b o hb hbr e=>hm.heap b o (fun hmem=>?_) (hk b o hb e)) hS' hacc
  rcases AM.mp hmem with e' | hmem
  ·exact hb e'
  ·exact hbr (DO.mp hmem)
 unfold Builtin.List.listExtendWith
 refine AA (GC (T:="list_reverseiterator") hit.typeIs ?_)
 have h1:Builtin.List.listSameRef (.ref S) (.ref r)=false:=by simp[Builtin.List.listSameRef,hSr]
 have h2:(Value.type "list_reverseiterator"==Value.type "list")=false:=by decide
 have h3:(Value.type "list_reverseiterator"==Value.type "tuple")=false:=by decide
 simp only[h1,h2,h3,JJ,AT,if_false]
 refine AA (wpAny_pyIter_revIter hit ?_)
 refine AA (CS (Q3 hit.typeIs ?_))
 refine FB (fun hab=>absurd hab (by decide)) (fun _=>AD ⟨GU HV _,key _ c₀ _ (st0 _ hit hl) (fun b o _ e=>e) hS⟩)
theorem Q4 {R:Result→Shared→Prop} {items:Array Value} (hh:A.handled=none) (S:Addr) (hSr:S≠r) (hSl:S≠l) (hlr:l≠r) (hit:s.heap.IsRevIter r l ((items.size:Int)-1)) (hl:s.heap.IsList l items)
  (hS:s.heap.get? S=some {cls:=.type "list",data:=.seq #[]})
  (hR:∀h' tk acc' c',(∀b o,b≠S→b≠r→s.heap.get? b=some o→h'.get? b=some o)→h'.get? S=some {cls:=.type "list",dict:=none,data:=.seq acc' c',slots:=#[]}→ItemsOf (fun i v=>items[items.size-1-i]? = some v) acc' items.size→R (.ok (.ret .none)) {s with heap:=h',toks:=tk}) (hn:items.size≤sizeLine) :
  wpAny (model prog w) A.in1 (Builtin.«list.__init__» ⟨[.ref S,.ref r],[]⟩)
   (fun fin s'=>match fin with | .done f=>R (.ok f) s' | .again c'=>c'.quiet=true∧codeAny (model prog w) A c' R s') (fun e s'=>R (.error e) s') s:=by
 show wpAny _ _ (do let old ←Builtin.List.listItems (.ref S);Builtin.List.listUpdate (.ref S) (fun _=>#[]);letGo old.toList.reverse;Builtin.List.listExtendWith (.ref S) (.ref r) .none) _ _ s
 refine AA ?_
 unfold Builtin.List.listItems
 refine AA (Da hS rfl (AD ?_))
 show wpAny _ _ (updateSeq S (fun _=>#[])>>=fun _=>letGo (#[]:Array Value).toList.reverse>>=fun _=>Builtin.List.listExtendWith (.ref S) (.ref r) .none) _ _ s
 refine AA (IY hS rfl ?_)
 have hS₂:=DI (Obj.mapSeq (fun _=>(#[]:Array Value))) hS rfl
 have oth:∀b o,b≠S→s.heap.get? b=some o→(s.heap.update S (Obj.mapSeq (fun _=>(#[]:Array Value)))).get? b=some o :=
  fun b o hb e=>(GD _ _ (Ne.symm hb)).trans e
 refine AA (Ix ?_)
 refine Hw hh S hSr hSl hlr .none _ (hit.at fun o e=>oth r o (Ne.symm hSr) e) (hl.at fun o e=>oth l o (Ne.symm hSl) e) hS₂ (fun h' tk acc' c' hk hS' hacc=>?_) hn
 exact hR h' tk acc' c' (fun b o hb hbr e=>hk b o hb hbr (oth b o hb e)) hS' hacc
theorem Q5 {Q:Value→Shared→Prop} {items:Array Value} (hh:A.handled=none) (hlr:l≠r) (hit:s.heap.IsRevIter r l ((items.size:Int)-1)) (hl:s.heap.IsList l items) (hn:items.size≤sizeLine)
  (hQ:∀h' tk acc' c',(∀b o,b≠r→s.heap.get? b=some o→h'.get? b=some o)→h'.get? s.heap.objs.size=some {cls:=.type "list",dict:=none,data:=.seq acc' c',slots:=#[]}→ItemsOf (fun i v=>items[items.size-1-i]? = some v) acc' items.size→Q (.ref s.heap.objs.size) {s with heap:=h',toks:=tk}) :
  wpAny (model prog w) A (call (.type "list") [.ref r]) Q E s:=by
 refine callType_codes (Q₁:=fun obj s₁=>obj=.ref s.heap.objs.size∧s₁={s with heap:=s.heap.push {cls:=.type "list",data:=.seq #[]}}) PySem.F.called_list (PySem.F.typeCall_list_1 _) PySem.F.entry_list_init
  (code_list_new _ ⟨rfl,rfl⟩) fun obj s₁ h₁=>?_
 obtain⟨rfl,rfl⟩:=h₁
 have hS:(s.heap.push {cls:=.type "list",data:=.seq #[]}).get? s.heap.objs.size=some {cls:=.type "list",data:=.seq #[]}:=AH _ rfl
 have hr:r<s.heap.objs.size:=by obtain⟨o,e,_⟩:=hit;exact AL e
 have hl':l<s.heap.objs.size:=by obtain⟨o,e,_⟩:=hl;exact AL e
 refine⟨⟨_,hS,rfl⟩,PySem.F.args_list_init_2 _ _,Q4 (A:=A.in1) hh _ (CL hr) (CL hl') hlr (hit.at fun o e=>AC _ e) (hl.at fun o e=>AC _ e) hS (fun h' tk acc' c' hk hS' hacc=>?_) hn⟩
 exact⟨rfl,hQ h' tk acc' c' (fun b o hb e=>hk b o (AR (AL e)) hb (AC _ e)) hS' hacc⟩
end
theorem Hx {its:List Value} {acc:Array Value} (h:ItemsOf (fun i v=>its.toArray[its.toArray.size-1-i]? = some v) acc its.toArray.size):acc.toList=its.reverse:=by
 obtain⟨h1,h2⟩:=h
 simp only[AE]at h1 h2
 refine BV fun i=>?_
 by_cases hi:i<its.length
 ·have e:acc[i]? = some (acc[i]'(by lia)):=CV (by lia)
  have q:=h2 i _ e
  rw[DJ,e,←q,GN,List.getElem?_reverse hi]
 ·rw[DJ,AX (by simpa using hi),GG (by lia)]
section
variable {X : Cx} {φ : Phi} {a : Expr} {xa : Ex} {p p2 pos pos2 : Pos} {m : Mk}
theorem Hy (hml:X.mg "list"=none) (hmr:X.mg "reversed"=none) (ha:PE X a (tE X.K φ xa)) (hgl:Gl X "list":=by rfl) (hgr:Gl X "reversed":=by rfl) (hc:X.calm=true:=by rfl)
  (hs:starEach [a] X.env=[(false,eval a X.env)]:=by rfl) (hs2:starEach [.Call (.Name "reversed" p2) [a] [] pos2] X.env=[(false,eval (.Call (.Name "reversed" p2) [a] [] pos2) X.env)]:=by rfl) :
  PE X (.Call (.Name "list" p) [.Call (.Name "reversed" p2) [a] [] pos2] [] pos) (tE X.K φ (.blt .listRev m (.cons xa .nil))):=by
 refine PE.imp (t:=fun σ H Q=>tE X.K φ xa σ H fun v H1=>∃l ys,v=.ref l∧LsL X.K H1 l ys∧∀q,H1 q=none→FQ Q (.ref q) (upd H1 q (.lst ys.reverse))) ?_ fun σv H Q ⟨ι,σ,μ,hS,hL,h⟩=>?_
 ·intro pins s σ H Q I h
  refine DL (o5 I hgl hml IS ?_ (by decide) (by decide))
  refine CF ?_ hs2 rfl
  rw[hs2]
  refine DK ?_
  refine DL (o5 I hgr hmr PyProof.Rows.boot_reversed ?_ (by decide) (by decide))
  refine CF ?_ hs rfl
  rw[hs]
  refine DK (thn (ha pins s σ H _ I h) fun u s1 ⟨v,H1,I1,r1,l,ys,ev,hls,q⟩=>EC ?_)
  subst ev
  cases(show u=Value.ref l from r1)
  obtain⟨hz,its,n,rv,hlen,hget⟩:=I1.ls hls
  have hlist:s1.heap.IsList l its.toArray:=⟨_,hget,rfl,n,rfl⟩
  refine call_reversed_list hlist ?_
  refine EC ?_
  have hl1:l<s1.heap.objs.size:=AL hget
  refine Dm (Q5 (l:=l) (r:=s1.heap.objs.size) (items:=its.toArray) (I1.ok.hd hc) (AR hl1) ⟨_,AH _ rfl,rfl,rfl⟩ (hlist.at fun o e=>AC _ e) (by rw[AE];lia) fun h' tk acc c hk hD hacc=>?_)
  have hsz:(s1.heap.push (revObj l ((its.toArray.size:Int)-1))).objs.size=s1.heap.objs.size+1:=CZ _ _
  have ea:=Hx hacc
  have hf:H1 (s1.heap.objs.size+1)=none:=I1.hok.fresh (ES _)
  refine⟨.ref (s1.heap.objs.size+1),upd H1 (s1.heap.objs.size+1) (.lst ys.reverse),I1.laid (t':=tk) (fun b o e=>hk b o (AR (AL e)) (AC _ e)) (ES _) ?_,?_,q _ hf⟩
  ·refine⟨by rw[List.length_reverse];exact hz,its.reverse,c,rv.reverse,?_⟩
   rw[hsz]at hD
   rw[hD,←ea,JI]
  ·show Value.ref _=Value.ref _
   rw[hsz]
 ·simp only[evE,iu]at h
  rw[Res.bind_assoc]at h
  obtain⟨d,μ1,e1,h⟩:=h.bind
  refine⟨ι,σ,μ,hS,hL,?_⟩
  rw[e1]
  intro ι1 v H1 p1 x1 s1 d1
  have h:=h.mono p1 x1
  simp only[Res.bo,btD,ie,yb]at h
  split at h
  ·rename_i xs ex
   obtain⟨l,ys,ev,hls,hys⟩:=mx s1 d1 ex
   exact⟨l,ys,ev,hls,fun q hq=>mv s1 hys.reverse h hq⟩
  ·exact h.elim
end
end Lp
namespace Lp
open PySem PySem.Spec PyProof.Rows L2
section
variable {X : Cx} {φ : Phi} {o e : Expr} {es : List Expr} {xo : Ex} {xs : Exs} {apos cpos : Pos} {T id : String} {name : Str} {mt : Mt}
theorem Hz (hT:∀(ι:List Addr) (H:Hp) (μ:Sto) (d:D) (x:V),Sim X.K ι H μ→IsD X.K ι H d x→jc mt d μ=true→tyV X.K T x H) (h:PE X e (Yr X.K T (rMt X.K mt) (tE X.K φ xo))):PE X e (tE X.K φ (.meth mt xo .nil)) :=
 PE.imp h fun σv H Q ⟨ι,σ,μ,hS,hL,h⟩=>by
  simp only[evE,iu]at h
  obtain⟨d,μ1,e1,h⟩:=h.bind
  refine⟨ι,σ,μ,hS,hL,?_⟩
  rw[e1]
  intro ι1 x H1 p1 x1 s1 d1
  split at h
  ·rename_i hm
   exact⟨hT ι1 H1 μ1 d x s1 d1 hm,ι1,d,[],μ1,s1,d1,by simp[aq],h.mono p1 x1⟩
  ·exact h.elim
theorem Us (hT:∀(ι:List Addr) (H:Hp) (μ:Sto) (d:D) (x:V),Sim X.K ι H μ→IsD X.K ι H d x→jc mt d μ=true→tyV X.K T x H) (h:PE X e (tBM X.K T (rMt X.K mt) (tE X.K φ xo) (tEs X.K φ xs))):PE X e (tE X.K φ (.meth mt xo xs)) :=
 PE.imp h fun σv H Q ⟨ι,σ,μ,hS,hL,h⟩=>by
  simp only[evE]at h
  obtain⟨d,μ1,e1,h⟩:=h.bind
  refine⟨ι,σ,μ,hS,hL,?_⟩
  rw[e1]
  intro ι1 x H1 p1 x1 s1 d1
  split at h
  ·rename_i hm
   refine⟨hT ι1 H1 μ1 d x s1 d1 hm,ι1,σ,μ1,s1,hL.mono p1 x1,?_⟩
   obtain⟨ds,μ2,e2,h⟩:=h.bind
   rw[e2]
   exact fun ι2 vs H2 p2 x2 s2 d2=>⟨ι2,d,ds,μ2,s2,IsD.mono p2 x2 _ _ d1,d2,h.mono (p1.trans p2) (x1.trans x2)⟩
  ·exact h.elim
theorem rl (hmt:∀d μ,jc mt d μ=(listOf μ d).isSome) (ι:List Addr) (H:Hp) (μ:Sto) (d:D) (x:V) (hS:Sim X.K ι H μ) (hd:IsD X.K ι H d x) (hm:jc mt d μ=true):tyV X.K "list" x H:=by
 rw[hmt]at hm
 obtain⟨ds,e⟩:=EF.mp hm
 obtain⟨a,xs,rfl,hls,_⟩:=mx hS hd e
 exact .inl ⟨rfl,_,hls.sq⟩
theorem L4 (ho:PE X o (tE X.K φ xo)) (hbase:attributeBase o "pop" X.env (eval o X.env)=eval o X.env:=by rfl) (hline:(apos.endLine==cpos.line)=true:=by rfl):PE X (.Call (.Attribute o "pop" apos) [] [] cpos) (tE X.K φ (.meth .pop xo .nil)) :=
 Hz (rl fun _ _=>rfl) (Np IA IW F.type_list_pop X0 ho hbase hline)
theorem Ft (ho:PE X o (tE X.K φ xo)) (hbase:attributeBase o "clear" X.env (eval o X.env)=eval o X.env:=by rfl) (hline:(apos.endLine==cpos.line)=true:=by rfl):PE X (.Call (.Attribute o "clear" apos) [] [] cpos) (tE X.K φ (.meth .clear xo .nil)) :=
 Hz (rl fun _ _=>rfl) (Np IA F.slot_list_clear F.type_list_clear Qw ho hbase hline)
theorem dj (ho:PE X o (tE X.K φ xo)) (ha:PA X (e::es) (tEs X.K φ xs)) (hbase:attributeBase o "append" X.env (eval o X.env)=eval o X.env:=by rfl)
  (hfew:((backTo cpos (starEach (e::es) X.env)).all (fun x=>!x.1)&&(backToKw cpos (keywordEach [] X.env)).all (fun x=>x.1.isSome)&&decide ((e::es).length+([]:List Keyword).length+(if([]:List Keyword).isEmpty then 0 else 1)<30))=true:=by rfl)
  (hline:(apos.endLine==cpos.line)=true:=by rfl) (hs:starEach (e::es) X.env=(false,eval e X.env)::starEach es X.env:=by rfl) (hplain:(backTo cpos (starEach es X.env)).any (·.1)=false:=by rfl):PE X (.Call (.Attribute o "append" apos) (e::es) [] cpos) (tE X.K φ (.meth .append xo xs)) :=
 Us (rl fun _ _=>rfl) (W8 IA F.slot_list_append F.type_list_append Ly ho ha hbase hfew hline hs hplain)
theorem Ia {a:Expr} {xa:Ex} {p p2 pos pos2:Pos} {m:Mk} (hml:X.mg "list"=none) (hmr:X.mg "reversed"=none) (ha:PE X a (tE X.K φ xa)) (hgl:Gl X "list":=by rfl) (hgr:Gl X "reversed":=by rfl) (hc:X.calm=true:=by rfl)
  (hs:starEach [a] X.env=[(false,eval a X.env)]:=by rfl) (hs2:starEach [.Call (.Name "reversed" p2) [a] [] pos2] X.env=[(false,eval (.Call (.Name "reversed" p2) [a] [] pos2) X.env)]:=by rfl) :
  PE X (.Call (.Name "list" p) [.Call (.Name "reversed" p2) [a] [] pos2] [] pos) (tE X.K φ (.blt .listRev m (.cons xa .nil))):=Hy hml hmr ha hgl hgr hc hs hs2
end
end Lp
namespace Lp
open PySem PySem.Spec PyProof.Rows L2
section
variable {X : Cx} {φ : Phi} {a : Expr} {xa : Ex} {p p2 pos pos2 : Pos} {m : Mk}
theorem Ut (hu:X.A.units+64<cLine):Wf X (Yv X.K):=by
 intro pins s σ H o i v ov iv u Q I ro ri rv ⟨ι,a,b,d,μ,hS,ha,hb,hd,h⟩
 cases a with
 | loc n =>
  simp only[Bz]at h
  cases em:μ[n]? with
  | none=>rw[em]at h;exact h.elim
  | some ob =>
   rw[em]at h
   obtain⟨q,rfl,hq⟩:∃q,o=.ref q∧ι[n]? = some q:=by simpa[IsD]using ha
   obtain⟨q',eq',hob⟩:=hS.at em
   rw[hq]at eq';cases eq'
   have lst:∀(ob:O) (xs:List D),jx ob=some xs→μ[n]? = some ob→OIs X.K ι H q ob→ig X.K (fun _ _ _ (_:Unit)=>True) ι H (match some xs,b with
     | some xs,.int i=>match ixN xs.length i with
      | some j=>if fits ob d=true then(putL n ob (xs.set j d) .non μ).bind fun _ μ=>.ok () μ else .stuck
      | none=>.stuck
     | _,_=>.stuck) (fun _ H'=>Q H')→wpAny (model X.prog X.w) X.A (setItem ov iv u) (fun _ s'=>∃H',Inv X pins σ H' s'∧Q H') X.xe s:=by
    intro ob xs ei em ho h
    cases b with
    | int k =>
     simp only at h
     split at h
     ·rename_i j ej
      split at h
      ·rename_i hf
       obtain⟨a',vs,ea,hι,hH,h1,h2⟩:=N3 hS ha em ei
       cases ea
       cases fh hb
       refine set_list pins s σ H _ _ v ov iv u Q I ro ri rv ⟨_,vs,k,j,rfl,rfl,hH,by rw[h1.length];exact ej,?_⟩
       have h':ig X.K (RD X.K) ι H (putL n ob (xs.set j d) .non μ) fun _ H'=>Q H':=by
        cases ob with
        | l _=>exact fun ι' v' H' p e s' _=>h ι' () H' p e s' trivial
        | r _=>exact fun ι' v' H' p e s' _=>h ι' () H' p e s' trivial
        | d _=>exact h.elim
        | dt _=>exact h.elim
        | dead=>exact h.elim
       exact qb (v:=.non) hS hι hH (h1.set hd j) (fun es e=>(h2 es e).set (Am hf hd es e) j) (by simp[IsD]) h'
      ·exact h.elim
     ·exact h.elim
    | _=>exact h.elim
   cases ob with
   | l xs=>exact lst (.l xs) xs rfl em hob h
   | r xs=>exact lst (.r xs) xs rfl em hob h
   | d kvs =>
    simp only at h
    split at h
    ·rename_i hc
     obtain⟨hk,hv,hl⟩:=hc
     obtain⟨xs,hH,hkv⟩:=hob
     obtain⟨k,rfl,rfl⟩:=Hn hk hb
     cases(show ov=Value.ref q from ro)
     have hlen:xs.length=kvs.length:=(DW hkv).symm
     refine G9 (by lia) I (Wh.k (k:=k) (v:=v) hH (by rw[hlen,←mr];exact hl)) ri rv fun s' I'=>⟨_,I',?_⟩
     exact h ι () _ (AN _) (.dK hH) (hS.put hq (.dK hH) ⟨_,bh,Paired.mapP (Ds (IsD.pur hv hd) hkv) fun p r z=>⟨IsD.mono (AN _) (.dK hH) _ _ z.1,IsD.mono (AN _) (.dK hH) _ _ z.2⟩⟩) trivial
    ·exact h.elim
   | dt kvs=>simp only[jx]at h;exact h.elim
   | dead=>simp only[jx]at h;exact h.elim
 | _=>exact h.elim
theorem Aq (hu:X.A.units+64<cLine) {o i e:Expr} {xo xi x:Ex} {tp:Pos} (ho:PE X o (tE X.K φ xo)) (hi:PE X i (tE X.K φ xi)) (he:PE X e (tE X.K φ x))
  (ha:∀v,assign (.Subscript o i tp) X.env v=(do
   let ov ←holding [v] (eval o X.env)
   let iv ←holding [v,ov] (eval i X.env)
   standAt tp
   holding [v,ov,iv] (setItem ov iv v)
   release [v,ov,iv] []):=by intro _;rfl) (hs:swapsWithSole [.Subscript o i tp] e pos.line X.env=pure false:=by rfl) (hw:swappedStores [.Subscript o i tp] e X.env=pure none:=by rfl)
  (h1:(assignEach [.Subscript o i tp] X.env).map (·.2)=[assign (.Subscript o i tp) X.env]:=by rfl):PS X (.Assign [.Subscript o i tp] e pos) (tS X.K φ (.setx xo xi x)):=T7 (Ut hu) ho hi he ha hs hw h1
end
end Lp
namespace Lp
open PySem PySem.Spec PyProof.Rows L2
noncomputable def SI (b:Bool) (h:Heap) (it l:Addr) (i:Nat):Prop:=match b with
 | true=>h.IsListIter it l i
 | false=>h.IsTupleIter it l i
noncomputable def SQ (b:Bool) (h:Heap) (l:Addr) (xs:Array Value):Prop:=match b with
 | true=>h.IsList l xs
 | false=>h.IsTuple l xs
noncomputable def Uu:Bool→String
 | true=>"list_iterator"
 | false=>"tuple_iterator"
theorem SI.keep {b:Bool} {h h':Heap} {it l:Addr} {i:Nat} (x:SI b h it l i) (e:∀o,h.get? it=some o→h'.get? it=some o):SI b h' it l i:=by
 cases b
 ·exact Heap.IsTupleIter.at x e
 ·exact Heap.IsListIter.at x e
theorem SI.but {b:Bool} {h h':Heap} {it l c:Addr} {i:Nat} (x:SI b h it l i) (e:Heap.ExtBut c h h') (n:it≠c):SI b h' it l i:=x.keep fun o q=>e it o n q
theorem SI.obj {b:Bool} {h:Heap} {it l:Addr} {i:Nat} (x:SI b h it l i):∃o,h.get? it=some o∧o.cls=.type (Uu b)∧o.data=.fields #[.ref l,.int i 0]:=by
 cases b<;>exact x
theorem SQ.but {b:Bool} {h h':Heap} {l c:Addr} {xs:Array Value} (x:SQ b h l xs) (e:Heap.ExtBut c h h') (n:l≠c):SQ b h' l xs:=by
 cases b
 ·exact Heap.IsTuple.at x fun o q=>e l o n q
 ·exact Heap.IsList.at x fun o q=>e l o n q
theorem SQ.lt {b:Bool} {h:Heap} {l:Addr} {xs:Array Value} (x:SQ b h l xs):l<h.objs.size:=by
 cases b
 ·obtain⟨o,e,_⟩:=x;exact AL e
 ·obtain⟨o,e,_⟩:=x;exact AL e
theorem SQ.push {b:Bool} {h:Heap} {l:Addr} {xs:Array Value} (x:SQ b h l xs) (o:Obj):SQ b (h.push o) l xs:=by
 cases b
 ·exact Heap.IsTuple.push x o
 ·exact Heap.IsList.push x o
section
variable {prog : Program} {w : World} {A : Around} {E : Value → Shared → Prop} {s : Shared}
theorem Cb {b:Bool} {l:Addr} {xs:Array Value} {Q:Value→Shared→Prop} (x:SQ b s.heap l xs) (hQ:Q (.ref s.heap.objs.size) {s with heap:=s.heap.push {cls:=.type (Uu b),data:=.fields #[.ref l,.int 0 0]}}) :
  wpAny (model prog w) A (pyIter (.ref l)) Q E s:=by
 cases b
 ·exact Ev x hQ
 ·exact If x hQ
theorem yj {b:Bool} {it l:Addr} {i:Nat} {xs:Array Value} {x:Value} {Q:Value→Shared→Prop} (hit:SI b s.heap it l i) (hl:SQ b s.heap l xs) (hx:xs[i]? = some x)
  (hQ:∀h',SI b h' it l (i+1)→Heap.SameBut it s.heap h'→Q x {s with heap:=h'}):wpAny (model prog w) A (Builtin.SmallTypes.nextOf (.ref it)) Q E s:=by
 cases b
 ·obtain⟨o,ho,hc,hd⟩:=hit.obj
  obtain⟨ol,hol,_,nl,hdl⟩:=hl
  have ht:s.TypeIs (.ref it) "tuple_iterator":=⟨o,ho,hc⟩
  unfold Builtin.SmallTypes.nextOf
  refine AA (BJ (name:=Str.ofString "__next__") ht EA (BK EA ht HG ?_ (HC _)))
  show wpAny _ _ (field (.ref it) 0>>=_) _ _ s
  refine AA (CB ho hd (x:=.ref l) rfl ?_)
  show wpAny _ _ (if(Value.ref l==Value.none)=true then _ else _) _ _ s
  rw[if_neg (show ¬((Value.ref l==Value.none)=true)from AZ)]
  show wpAny _ _ (field (.ref it) 1>>=_) _ _ s
  refine AA (CB ho hd (x:=.int i 0) rfl ?_)
  show wpAny _ _ (seqItems? (.ref l)>>=_) _ _ s
  refine AA (Da hol hdl ?_)
  simp only[CD,hx]
  refine AA (wpAny_setField ho hd (by simp) (AD ⟨x,rfl,AD (hQ _ ?_ (FK ..))⟩))
  exact⟨_,DI _ ho (Obj.isFreed_of_fields (Obj.data_mapFields hd _)),(Obj.cls_mapFields ..).trans hc,by rw[Obj.data_mapFields hd];simp[rawInt]⟩
 ·exact wpAny_nextOf_list_item hit hl hx hQ
theorem Ib {b:Bool} {it l:Addr} {i:Nat} {xs:Array Value} {Q:Value→Shared→Prop} (hh:A.handled=none) (hit:SI b s.heap it l i) (hl:SQ b s.heap l xs) (hx:xs[i]? = none)
  (hE:∀h' e,Heap.ExtBut it s.heap h'→(∃o,h'.get? e=some o∧o.cls=.type "StopIteration")→E (.ref e) {s with heap:=h'}):wpAny (model prog w) A (Builtin.SmallTypes.nextOf (.ref it)) Q E s:=by
 cases b
 ·obtain⟨o,ho,hc,hd⟩:=hit.obj
  obtain⟨ol,hol,_,nl,hdl⟩:=hl
  have ht:s.TypeIs (.ref it) "tuple_iterator":=⟨o,ho,hc⟩
  unfold Builtin.SmallTypes.nextOf
  refine AA (BJ (name:=Str.ofString "__next__") ht EA (BK EA ht HG ?_ (HC _)))
  show wpAny _ _ (field (.ref it) 0>>=_) _ _ s
  refine AA (CB ho hd (x:=.ref l) rfl ?_)
  show wpAny _ _ (if(Value.ref l==Value.none)=true then _ else _) _ _ s
  rw[if_neg (show ¬((Value.ref l==Value.none)=true)from AZ)]
  show wpAny _ _ (field (.ref it) 1>>=_) _ _ s
  refine AA (CB ho hd (x:=.int i 0) rfl ?_)
  show wpAny _ _ (seqItems? (.ref l)>>=_) _ _ s
  refine AA (Da hol hdl ?_)
  simp only[CD,hx]
  refine AA (FW (AA (wpAny_setField ho hd (by simp) ?_)))
  show wpAny _ _ (newExc (.type "StopIteration") []>>=_) _ _ _
  refine AA ?_
  simp only[newExc,newTuple]
  refine AA (BS ?_ (by size_fits))
  refine AA (m:=firstArgMember _ _) (IB (a:=Value.none) (by first | rfl | (simp only[firstArgMember];rfl)) ?_)
  refine BS ?_ (by size_fits)
  simp only[raiseNew]
  refine AA (wpAny_handled ?_)
  first | rw[show A.in1.handled=none from hh] | rw[hh]
  refine AA (AD (wpAny_throw ?_))
  exact hE _ _ (((FK ..).extBut.push _).push _) ⟨_,AH _ rfl,rfl⟩
 ·exact wpAny_nextOf_list_end hh hit hl hx hE
variable {b1 b2 : Bool} {z TI TO i1 i2 l1 l2 : Addr} {k1 k2 : Nat} {xs ys : Array Value} {x y a b : Value}
theorem Q6 {Q:Option Value→Shared→Prop} (D:ZipApart z TI TO i1 i2 l1 l2)
  (hz:IsZip s.heap z TI TO .none) (hTI:IsPair s.heap TI (.ref i1) (.ref i2)) (hTO:IsPair s.heap TO a b)
  (h1:SI b1 s.heap i1 l1 k1) (h2:SI b2 s.heap i2 l2 k2) (hl1:SQ b1 s.heap l1 xs) (hl2:SQ b2 s.heap l2 ys) (hx:xs[k1]? = some x) (hy:ys[k2]? = some y)
  (hQ:∀h',IsZip h' z TI TO (rawInt s.heap.objs.size)→IsPair h' TO x y→SI b1 h' i1 l1 (k1+1)→SI b2 h' i2 l2 (k2+1)→IsPair h' s.heap.objs.size x y →
   (∀c o,c≠z→c≠TO→c≠i1→c≠i2→s.heap.get? c=some o→h'.get? c=some o)→Q (some (.ref s.heap.objs.size)) {s with heap:=h'}) :
  wpAny (model prog w) A (pyNext (.ref z)) Q E s:=by
 have hT:s.TypeIs (.ref z) "zip":=⟨_,hz,rfl⟩
 unfold pyNext
 refine AA (EG (BJ (name:=Str.ofString "__next__") hT HD (BK HD hT F.entry_zip_next ?_ (F.args_zip_next_1 _))))
 show wpAny _ _ (field (.ref z) 2>>=_) _ _ _
 refine AA (CB hz rfl (x:=.bool false) rfl ?_)
 show wpAny _ _ (field (.ref z) 3>>=_) _ _ _
 refine AA (CB hz rfl (x:=.ref TI) rfl ?_)
 refine AA (Da hTI rfl ?_)
 show wpAny _ _ (Builtin.SmallTypes.ownedTupleIsFree (.ref z)>>=_) _ _ _
 refine AA ?_
 unfold Builtin.SmallTypes.ownedTupleIsFree
 refine AA (CB hz rfl (x:=.none) rfl (AD ?_))
 simp only[if_true]
 refine AA (FW ?_)
 refine AA (CB hz rfl (x:=.ref TO) rfl ?_)
 refine AA (BH hz (by simp) fun h₁ hz₁ hs₁=>?_)
 replace hz₁:IsZip h₁ z TI TO .ellipsis:=hz₁
 refine AA ?_
 simp only[List.zipIdx_cons,List.zipIdx_nil,FS,List.forIn_nil]
 refine AA (AA (IE ?_))
 show wpAny _ _ (Builtin.SmallTypes.nextOf (.ref i1)>>=_) _ _ _
 refine AA (yj (h1.but hs₁.extBut D.i1z) (hl1.but hs₁.extBut D.l1z) hx fun h₂ h1₂ hs₂=>AD ?_)
 have hTO₂:IsPair h₂ TO a b:=hs₂.extBut _ _ D.TOi1 (hs₁.extBut _ _ D.TOz hTO)
 refine AA (Da hTO₂ rfl ?_)
 refine AA (GX hTO₂ fun h₃ hTO₃ hs₃=>?_)
 replace hTO₃:IsPair h₃ TO x b:=hTO₃
 refine AA (Ix (AD ?_))
 refine AA (AA (IE ?_))
 show wpAny _ _ (Builtin.SmallTypes.nextOf (.ref i2)>>=_) _ _ _
 refine AA (yj (((h2.but hs₁.extBut D.i2z).but hs₂.extBut D.i12.symm).but hs₃.extBut D.TOi2.symm) (((hl2.but hs₁.extBut D.l2z).but hs₂.extBut D.l2i1).but hs₃.extBut D.l2TO) hy fun h₄ h2₄ hs₄=>AD ?_)
 have hTO₄:IsPair h₄ TO x b:=hs₄.extBut _ _ D.TOi2 hTO₃
 refine AA (Da hTO₄ rfl ?_)
 refine AA (GX hTO₄ fun h₅ hTO₅ hs₅=>?_)
 replace hTO₅:IsPair h₅ TO x y:=hTO₅
 refine AA (Ix (AD (AD ?_)))
 refine AA (Da hTO₅ rfl ?_)
 refine AA (HL ?_)
 have hsz:h₅.objs.size=s.heap.objs.size:=by rw[hs₅.1,hs₄.1,hs₃.1,hs₂.1,hs₁.1]
 have hz₅:IsZip h₅ z TI TO .ellipsis:=hs₅.extBut _ _ D.TOz.symm (hs₄.extBut _ _ D.i2z.symm (hs₃.extBut _ _ D.TOz.symm (hs₂.extBut _ _ D.i1z.symm hz₁)))
 have hk₅:∀c o,c≠z→c≠TO→c≠i1→c≠i2→s.heap.get? c=some o→h₅.get? c=some o:=fun c o c1 c2 c3 c4 e=>hs₅.extBut _ _ c2 (hs₄.extBut _ _ c4 (hs₃.extBut _ _ c2 (hs₂.extBut _ _ c3 (hs₁.extBut _ _ c1 e))))
 have h1₅:SI b1 h₅ i1 l1 (k1+1):=((h1₂.but hs₃.extBut D.TOi1.symm).but hs₄.extBut D.i12).but hs₅.extBut D.TOi1.symm
 have h2₅:SI b2 h₅ i2 l2 (k2+1):=h2₄.but hs₅.extBut D.TOi2.symm
 have hzlt:z<h₅.objs.size:=AL hz₅
 show wpAny _ _ (Builtin.SmallTypes.ownedTupleHandOut (.ref z) (.ref h₅.objs.size)>>=_) _ _ _
 refine AA ?_
 unfold Builtin.SmallTypes.ownedTupleHandOut
 have hz₆:IsZip (h₅.push {cls:=.type "tuple",data:=.seq #[x,y]}) z TI TO .ellipsis:=AC _ hz₅
 refine AA (BH hz₆ (by simp) fun h₇ hz₇ hs₇=>?_)
 replace hz₇:IsZip h₇ z TI TO (rawInt h₅.objs.size):=hz₇
 refine BH hz₇ (by simp) fun h₈ hz₈ hs₈=>?_
 replace hz₈:IsZip h₈ z TI TO (rawInt h₅.objs.size):=hz₈
 have up:∀c o,c≠z→h₅.get? c=some o→h₈.get? c=some o:=fun c o c1 e=>hs₈.extBut _ _ c1 (hs₇.extBut _ _ c1 (AC _ e))
 have hT₈:IsPair h₈ h₅.objs.size x y:=hs₈.extBut _ _ (CL hzlt) (hs₇.extBut _ _ (CL hzlt) (AH _ rfl))
 rw[hsz]at hz₈ hT₈
 refine AD ⟨_,rfl,?_⟩
 show wpAny _ _ (pure (some (Value.ref h₅.objs.size))) _ _ _
 rw[hsz]
 exact AD (hQ h₈ hz₈ (up _ _ D.TOz hTO₅) (h1₅.keep fun o e=>up _ o D.i1z e) (h2₅.keep fun o e=>up _ o D.i2z e) hT₈ fun c o c1 c2 c3 c4 e=>up c o c1 (hk₅ c o c1 c2 c3 c4 e))
theorem Q7 {Q:Fin→Shared→Prop} (hh:A.handled=none) (D:ZipApart z TI TO i1 i2 l1 l2)
  (hz:IsZip s.heap z TI TO .none) (hTI:IsPair s.heap TI (.ref i1) (.ref i2)) (hTO:IsPair s.heap TO a b)
  (h1:SI b1 s.heap i1 l1 k1) (h2:SI b2 s.heap i2 l2 k2) (hl1:SQ b1 s.heap l1 xs) (hl2:SQ b2 s.heap l2 ys) (hend:xs[k1]? = none∨ys[k2]? = none)
  (hE:∀h' e,(∀c o,c≠z→c≠TO→c≠i1→c≠i2→s.heap.get? c=some o→h'.get? c=some o)→(∃o,h'.get? e=some o∧o.cls=.type "StopIteration")→E (.ref e) {s with heap:=h'}) :
  wpAny (model prog w) A (Builtin.«zip.__next__» ⟨[.ref z],[]⟩) Q E s:=by
 show wpAny _ _ (field (.ref z) 2>>=_) _ _ _
 refine AA (CB hz rfl (x:=.bool false) rfl ?_)
 show wpAny _ _ (field (.ref z) 3>>=_) _ _ _
 refine AA (CB hz rfl (x:=.ref TI) rfl ?_)
 refine AA (Da hTI rfl ?_)
 show wpAny _ _ (Builtin.SmallTypes.ownedTupleIsFree (.ref z)>>=_) _ _ _
 refine AA ?_
 unfold Builtin.SmallTypes.ownedTupleIsFree
 refine AA (CB hz rfl (x:=.none) rfl (AD ?_))
 simp only[if_true]
 refine AA (FW ?_)
 refine AA (CB hz rfl (x:=.ref TO) rfl ?_)
 refine AA (BH hz (by simp) fun h₁ hz₁ hs₁=>?_)
 replace hz₁:IsZip h₁ z TI TO .ellipsis:=hz₁
 refine AA ?_
 simp only[List.zipIdx_cons,List.zipIdx_nil,FS,List.forIn_nil]
 refine AA (AA (IE ?_))
 show wpAny _ _ (Builtin.SmallTypes.nextOf (.ref i1)>>=_) _ _ _
 cases hx:xs[k1]? with
 | none =>
  refine AA (Ib hh (h1.but hs₁.extBut D.i1z) (hl1.but hs₁.extBut D.l1z) hx fun h₂ e hs₂ ⟨oe,hoe,hce⟩=>?_)
  have hz₂:IsZip h₂ z TI TO .ellipsis:=hs₂ _ _ D.i1z.symm hz₁
  have hez:e≠z:=fun x=>by subst x;rw[hz₂]at hoe;cases hoe;simp at hce
  exact BH hz₂ (by simp) fun h₃ _ hs₃=>hE h₃ e (fun c o c1 _ c3 _ x=>hs₃.extBut _ _ c1 (hs₂ _ _ c3 (hs₁.extBut _ _ c1 x))) ⟨oe,hs₃.extBut _ _ hez hoe,hce⟩
 | some x =>
  have hy:ys[k2]? = none:=by rcases hend with h | h;rw[hx]at h;cases h;exact h
  refine AA (yj (h1.but hs₁.extBut D.i1z) (hl1.but hs₁.extBut D.l1z) hx fun h₂ h1₂ hs₂=>AD ?_)
  have hTO₂:IsPair h₂ TO a b:=hs₂.extBut _ _ D.TOi1 (hs₁.extBut _ _ D.TOz hTO)
  refine AA (Da hTO₂ rfl ?_)
  refine AA (GX hTO₂ fun h₃ hTO₃ hs₃=>?_)
  refine AA (Ix (AD ?_))
  refine AA (AA (IE ?_))
  show wpAny _ _ (Builtin.SmallTypes.nextOf (.ref i2)>>=_) _ _ _
  refine AA (Ib hh (((h2.but hs₁.extBut D.i2z).but hs₂.extBut D.i12.symm).but hs₃.extBut D.TOi2.symm) (((hl2.but hs₁.extBut D.l2z).but hs₂.extBut D.l2i1).but hs₃.extBut D.l2TO) hy fun h₄ e hs₄ ⟨oe,hoe,hce⟩=>?_)
  have hz₄:IsZip h₄ z TI TO .ellipsis:=hs₄ _ _ D.i2z.symm (hs₃.extBut _ _ D.TOz.symm (hs₂.extBut _ _ D.i1z.symm hz₁))
  have hez:e≠z:=fun x=>by subst x;rw[hz₄]at hoe;cases hoe;simp at hce
  exact BH hz₄ (by simp) fun h₅ _ hs₅=>hE h₅ e (fun c o c1 c2 c3 c4 x=>hs₅.extBut _ _ c1 (hs₄ _ _ c4 (hs₃.extBut _ _ c2 (hs₂.extBut _ _ c3 (hs₁.extBut _ _ c1 x))))) ⟨oe,hs₅.extBut _ _ hez hoe,hce⟩
theorem Uv {Q:Option Value→Shared→Prop} (hh:A.handled=none) (D:ZipApart z TI TO i1 i2 l1 l2)
  (hz:IsZip s.heap z TI TO .none) (hTI:IsPair s.heap TI (.ref i1) (.ref i2)) (hTO:IsPair s.heap TO a b)
  (h1:SI b1 s.heap i1 l1 k1) (h2:SI b2 s.heap i2 l2 k2) (hl1:SQ b1 s.heap l1 xs) (hl2:SQ b2 s.heap l2 ys) (hend:xs[k1]? = none∨ys[k2]? = none)
  (hQ:∀h',(∀c o,c≠z→c≠TO→c≠i1→c≠i2→s.heap.get? c=some o→h'.get? c=some o)→Q none {s with heap:=h'}):wpAny (model prog w) A (pyNext (.ref z)) Q E s:=by
 have hT:s.TypeIs (.ref z) "zip":=⟨_,hz,rfl⟩
 unfold pyNext
 refine AA (EG (BJ (name:=Str.ofString "__next__") hT HD
  (BK HD hT F.entry_zip_next (Q7 hh D hz hTI hTO h1 h2 hl1 hl2 hend fun h' e hk he=>?_) (F.args_zip_next_1 _))))
 obtain⟨o,ho,hc⟩:=he
 exact AA (EM (T:="StopIteration") (b:=true) ⟨o,ho,hc⟩ HM (AD (hQ _ hk)))
noncomputable abbrev zp1 (b1:Bool) (h:Heap) (l1:Addr):Heap:=h.push {cls:=.type (Uu b1),data:=.fields #[.ref l1,.int 0 0]}
noncomputable abbrev zp2 (b1 b2:Bool) (h:Heap) (l1 l2:Addr):Heap:=(zp1 b1 h l1).push {cls:=.type (Uu b2),data:=.fields #[.ref l2,.int 0 0]}
noncomputable abbrev zp3 (b1 b2:Bool) (h:Heap) (l1 l2:Addr):Heap:=(zp2 b1 b2 h l1 l2).push {cls:=.type "tuple",data:=.seq #[.ref h.objs.size,.ref (zp1 b1 h l1).objs.size]}
noncomputable abbrev zp4 (b1 b2:Bool) (h:Heap) (l1 l2:Addr):Heap:=(zp3 b1 b2 h l1 l2).push {cls:=.type "tuple",data:=.seq #[.none,.none]}
noncomputable abbrev zp5 (b1 b2:Bool) (h:Heap) (l1 l2:Addr):Heap:=(zp4 b1 b2 h l1 l2).push {cls:=.type "zip",data:=.fields #[.none,.bool false,.bool false,.ref (zp2 b1 b2 h l1 l2).objs.size,.ref (zp3 b1 b2 h l1 l2).objs.size]}
theorem Uw (b1 b2:Bool) (l1 l2:Addr) (xs ys:Array Value) :
  Meets (Builtin.«zip.__new__» ⟨[.type "zip",.ref l1,.ref l2],[]⟩) (fun _ R s=>SQ b1 s.heap l1 xs∧SQ b2 s.heap l2 ys ∧
   R (.ok (.ret (.ref (zp4 b1 b2 s.heap l1 l2).objs.size))) {s with heap:=zp5 b1 b2 s.heap l1 l2}) :=
 .of_wp fun prog w A R s h=>by
  obtain⟨hp,g,d,tk,os⟩:=s;obtain⟨hl1,hl2,h⟩:=h
  have hsub:=sub_zip
  have hL1:SQ b1 (Shared.heap ⟨hp,g,d,tk,os⟩) l1 xs:=hl1
  have hL2:SQ b2 (Shared.heap ⟨hp.push {cls:=.type (Uu b1),data:=.fields #[.ref l1,.int 0 0]},g,d,tk,os⟩) l2 ys:=SQ.push hl2 _
  wp_walk using Cb hL1,Cb hL2
  exact⟨_,rfl,h⟩
theorem Q8 {Q:Value→Shared→Prop} (hl1:SQ b1 s.heap l1 xs) (hl2:SQ b2 s.heap l2 ys)
  (h:∀h',IsZip h' (s.heap.objs.size+4) (s.heap.objs.size+2) (s.heap.objs.size+3) .none→IsPair h' (s.heap.objs.size+2) (.ref s.heap.objs.size) (.ref (s.heap.objs.size+1)) →
   IsPair h' (s.heap.objs.size+3) .none .none→SI b1 h' s.heap.objs.size l1 0→SI b2 h' (s.heap.objs.size+1) l2 0 →
   (∀c o,s.heap.get? c=some o→h'.get? c=some o)→Q (.ref (s.heap.objs.size+4)) {s with heap:=h'}) :
  wpAny (model prog w) A (call (.type "zip") [.ref l1,.ref l2]) Q E s:=by
 refine callType_new F.called_zip (by decide) (F.typeCall_zip_2 _ _) (F.newCall_zip_2 _ _) (fun obj=>F.args_object_init_3 obj _ _) F.entry_zip_new (Uw b1 b2 l1 l2 xs ys) ⟨hl1,hl2,?_⟩
 have z1:(zp1 b1 s.heap l1).objs.size=s.heap.objs.size+1:=CZ ..
 have z2:(zp2 b1 b2 s.heap l1 l2).objs.size=s.heap.objs.size+2:=by rw[CZ,z1]
 have z3:(zp3 b1 b2 s.heap l1 l2).objs.size=s.heap.objs.size+3:=by rw[CZ,z2]
 have z4:(zp4 b1 b2 s.heap l1 l2).objs.size=s.heap.objs.size+4:=by rw[CZ,z3]
 have g5:(zp5 b1 b2 s.heap l1 l2).get? (zp4 b1 b2 s.heap l1 l2).objs.size=some _:=AH _ rfl
 have g4:(zp5 b1 b2 s.heap l1 l2).get? (zp3 b1 b2 s.heap l1 l2).objs.size=some _:=AC _ (AH _ rfl)
 have g3:(zp5 b1 b2 s.heap l1 l2).get? (zp2 b1 b2 s.heap l1 l2).objs.size=some _:=AC _ (AC _ (AH _ rfl))
 have g2:(zp5 b1 b2 s.heap l1 l2).get? (zp1 b1 s.heap l1).objs.size=some _:=AC _ (AC _ (AC _ (AH _ rfl)))
 have g1:(zp5 b1 b2 s.heap l1 l2).get? s.heap.objs.size=some _:=AC _ (AC _ (AC _ (AC _ (AH _ rfl))))
 have s1:SI b1 (zp5 b1 b2 s.heap l1 l2) s.heap.objs.size l1 0:=by cases b1<;>exact⟨_,g1,rfl,rfl⟩
 have s2:SI b2 (zp5 b1 b2 s.heap l1 l2) (zp1 b1 s.heap l1).objs.size l2 0:=by cases b2<;>exact⟨_,g2,rfl,rfl⟩
 show _∧_
 rw[z2,z3,z4]at g5
 rw[z1,z2]at g3
 rw[z3]at g4
 rw[z1]at s2
 rw[z4]
 exact⟨⟨_,g5,rfl⟩,h _ g5 g3 g4 s1 s2 fun c o x=>AC _ (AC _ (AC _ (AC _ (AC _ x))))⟩
end
end Lp
namespace Lp
open PySem PySem.Spec PyProof.Rows L2
section
variable {X : Cx} {pins : List (Addr × Obj)} {σ : St} {H : Hp} {s : Shared} {φ : Phi}
theorem yk {h':Heap} {t':Nat} {ch:List Addr} (I:Inv X pins σ H s) (k:∀b o,b∉ch→s.heap.get? b=some o→h'.get? b=some o) (hf:∀b∈ch,E8 X pins H b):Inv X pins σ H {s with heap:=h',toks:=t'}:=by
 have nit:∀b u,H b=some u→b∉ch:=fun b u e z=>by rw[(hf b z).1]at e;cases e
 refine I.step (g':=s.gens) (d':=s.drawn) (ch:=ch) (fun b hb=>⟨(hf b hb).2.2.2.1,(hf b hb).2.1,(hf b hb).2.2.2.2.1,(hf b hb).2.2.2.2.2⟩) (fun b o _ _ hc e _=>k b o hc e) (fun b o _ _ hc e _=>⟨o.slots,k b o hc e⟩) (fun _ _ _ _ n=>n)
  (fun b o hc e=>⟨o,k b o hc e⟩) (fun _ _ e=>e) (fun _ _ _ e=>e) (fun b ps e=>⟨#[],by rw[e];simp⟩) (fun m hm=>?_) (fun b u e=>?_) I.bare
 ·obtain⟨o,es,ep,ho,r⟩:=hm
  exact⟨o,es,ep,k _ o (fun z=>(hf _ z).2.1 rfl) ho,r⟩
 ·refine(I.hok b u e).stay (fun c v hc q=>k c v ?_ q) (fun _ q=>q) fun _ _ q=>q
  rcases hc with z | z
  ·rw[z];exact nit b u e
  ·exact nit c _ z
noncomputable def Sq (b:Bool) (K:PySem.W.Frag) (H:Hp) (a:Addr) (xs:List V):Prop:=match b with
 | true=>SqL K H a xs
 | false=>SqT K H a xs
theorem Sq.vals {b:Bool} {a:Addr} {xs:List V} (h:Sq b X.K H a xs) (I:Inv X pins σ H s):∃its:List Value,cq xs its∧SQ b s.heap a its.toArray∧xs.length≤sizeLine:=by
 cases b
 ·obtain⟨its,rv,p,hz⟩:=I.tuple h
  exact⟨its,rv,p,hz⟩
 ·obtain⟨its,rv,p,hz⟩:=I.list h
  exact⟨its,rv,p.isList,hz⟩
theorem Sq.inj {b:Bool} {a:Addr} {xs ys:List V} (h:Sq b X.K H a xs) (I:Inv X pins σ H s) (h':Sq b X.K H a ys):ys=xs:=by
 cases b
 ·exact I.tuple_inj h' h
 ·exact I.list_inj h' h
noncomputable def Itz (K:PySem.W.Frag) (b1 b2:Bool) (a1 a2:Addr):L2.It :=
 ⟨fun i H=>∃xs ys x y,Sq b1 K H a1 xs∧Sq b2 K H a2 ys∧xs[i]? = some x∧ys[i]? = some y,
 fun i H v H'=>∃p x y,v=.ref p∧H p=none∧H'=upd H p (.tup [x,y])∧(∀xs,Sq b1 K H a1 xs→xs[i]? = some x)∧(∀ys,Sq b2 K H a2 ys→ys[i]? = some y),
 fun i H=>∃xs ys,Sq b1 K H a1 xs∧Sq b2 K H a2 ys∧(xs.length≤i∨ys.length≤i)⟩
theorem L5 {P:Program} {w:World} {K:PySem.W.Frag} {elts:List Expr} {k:Nat} {tp:Pos} {b1 b2:Bool} {z TI TO i1 i2 a1 a2:Addr} (D:ZipApart z TI TO i1 i2 a1 a2) :
  Turn P w K (.Tuple elts k tp) (Itz K b1 b2 a1 a2) [z,TI,TO,i1,i2] z (fun i h=>IsZip h z TI TO .none∧IsPair h TI (.ref i1) (.ref i2)∧(∃a b,IsPair h TO a b)∧SI b1 h i1 a1 i∧SI b2 h i2 a2 i) where
 mem:=by simp
 obj:=fun i h ⟨hz,hTI,⟨ta,tb,hTO⟩,s1,s2⟩ b hb=>by
  simp only[AM,BF,or_false]at hb
  rcases hb with rfl | rfl | rfl | rfl | rfl
  ·exact⟨_,hz,fun v e=>by cases e⟩
  ·exact⟨_,hTI,fun v e=>by cases e⟩
  ·exact⟨_,hTO,fun v e=>by cases e⟩
  ·obtain⟨o,e,_,d⟩:=s1.obj
   exact⟨o,e,fun v q=>by rw[d]at q;cases q⟩
  ·obtain⟨o,e,_,d⟩:=s2.obj
   exact⟨o,e,fun v q=>by rw[d]at q;cases q⟩
 keep:=fun i h h' ⟨hz,hTI,⟨ta,tb,hTO⟩,s1,s2⟩ k=>⟨k z (by simp) _ hz,k TI (by simp) _ hTI,⟨ta,tb,k TO (by simp) _ hTO⟩,s1.keep fun o e=>k i1 (by simp) o e,s2.keep fun o e=>k i2 (by simp) o e⟩
 item:=by
  intro X hP hw hK hc i pins s σ H E I hf ⟨hz,hTI,⟨ta,tb,hTO⟩,s1,s2⟩ hg
  subst hP hw hK
  obtain⟨xs,ys,x,y,q1,q2,ex,ey⟩:=hg
  obtain⟨is1,rv1,p1,_⟩:=q1.vals I
  obtain⟨is2,rv2,p2,_⟩:=q2.vals I
  obtain⟨u1,hu1,ru1⟩:=rv1.get ex
  obtain⟨u2,hu2,ru2⟩:=rv2.get ey
  refine Q6 D hz hTI hTO s1 s2 p1 p2 (x:=u1) (y:=u2) (by simpa using hu1) (by simpa using hu2) fun h' c1 c2 c3 c4 c5 kk=>⟨_,rfl,wpAny_letOwnedTupleGo_zip c1 fun h'' z'' sb=>?_⟩
  have fr:H s.heap.objs.size=none:=I.hok.fresh (AI _)
  have lt:∀b∈[z,TI,TO,i1,i2],b≠s.heap.objs.size:=by
   intro b hb
   simp only[AM,BF,or_false]at hb
   rcases hb with rfl | rfl | rfl | rfl | rfl
   ·exact AR (AL hz)
   ·exact AR (AL hTI)
   ·exact AR (AL hTO)
   ·obtain⟨o,e,_⟩:=s1.obj;exact AR (AL e)
   ·obtain⟨o,e,_⟩:=s2.obj;exact AR (AL e)
  have I1:Inv X pins σ (upd H s.heap.objs.size (.tup [x,y])) {s with heap:=s.heap.push {cls:=.type "tuple",data:=.seq #[u1,u2]},toks:=s.toks} :=
   I.laid (fun b u e=>AC _ e) (AI _) ⟨by show 2≤sizeLine;rw[DP];decide,[u1,u2],.cons ru1 (.cons ru2 .nil),⟨_,AH _ rfl,rfl,rfl,_,rfl⟩⟩
  have hf':∀b∈[z,TI,TO,i1,i2],E8 X pins (upd H s.heap.objs.size (.tup [x,y])) b:=fun b hb=>by
   obtain⟨f0,f⟩:=hf b hb
   exact⟨by rw[a9 (lt b hb)];exact f0,f⟩
  have up:∀c o,c≠z→h'.get? c=some o→h''.get? c=some o:=fun c o n e=>sb.extBut _ _ n e
  have I2:=yk (s:={s with heap:=s.heap.push {cls:=.type "tuple",data:=.seq #[u1,u2]},toks:=s.toks}) (h':=h'') (t':=s.toks) (ch:=[z,TI,TO,i1,i2]) I1 (fun b o hb e=>by
   simp only[AM,BF,or_false,not_or]at hb
   rcases Heap.get?_push_cases e with⟨rfl,rfl⟩ | e
   ·exact up _ _ hb.1 c5
   ·exact up _ _ hb.1 (kk b o hb.1 hb.2.2.1 hb.2.2.2.1 hb.2.2.2.2 e)) hf'
  refine⟨.ref s.heap.objs.size,_,I2,rfl,⟨_,x,y,rfl,fr,rfl,fun zs hz'=>by rw[q1.inj I hz'];exact ex,fun zs hz'=>by rw[q2.inj I hz'];exact ey⟩,?_,fun b hb=>(hf' b hb).1⟩
  ·exact⟨z'',up _ _ D.TIz (kk _ _ D.TIz D.TITO D.TIi1 D.TIi2 hTI),⟨u1,u2,up _ _ D.TOz c2⟩,c3.keep fun o e=>up _ o D.i1z e,c4.keep fun o e=>up _ o D.i2z e⟩
 done:=by
  intro X hP hw hK hc i pins s σ H E I hf ⟨hz,hTI,⟨ta,tb,hTO⟩,s1,s2⟩ hg
  subst hP hw hK
  obtain⟨xs,ys,q1,q2,en⟩:=hg
  obtain⟨is1,rv1,p1,_⟩:=q1.vals I
  obtain⟨is2,rv2,p2,_⟩:=q2.vals I
  have l1:=rv1.length
  have l2:=rv2.length
  refine Uv (I.ok.hd hc) D hz hTI hTO s1 s2 p1 p2 (by rcases en with en | en;exact .inl (by simp;lia);exact .inr (by simp;lia)) fun h' kk=>⟨rfl,yk I (h':=h') (t':=s.toks) (ch:=[z,TI,TO,i1,i2]) (fun b o hb e=>?_) hf⟩
  simp only[AM,BF,or_false,not_or]at hb
  exact kk b o hb.1 hb.2.2.1 hb.2.2.2.1 hb.2.2.2.2 e
 self:=fun _ _ _ _ _ st h=>wpAny_pyIter_zip st.1 h
theorem Cc {K:PySem.W.Frag} {ι:List Addr} {H:Hp} {μ:Sto} {d:D} {v:V} {ds:List D} {g:Gd} (S:Sim K ι H μ) (hd:IsD K ι H d v) (hw:dk μ d=some (ds,g)) :
  ∃b a xs,v=.ref a∧Sq b K H a xs∧aq K ι H ds xs∧∀ι2 H2 μ2,ι <+: ι2→Ext H H2→Sim K ι2 H2 μ2→gd g μ2→∃ys,Sq b K H2 a ys∧aq K ι2 H2 ds ys:=by
 cases d with
 | tup es =>
  simp only[dk,BU,GV]at hw
  obtain⟨rfl,rfl⟩:=hw
  obtain⟨a,xs,rfl,hq,hds⟩:=jd hd
  exact⟨false,a,xs,rfl,hq,hds,fun ι2 H2 μ2 q1 q2 q3 q4=>⟨xs,hq.ext q2,aq.mono q1 q2 _ _ hds⟩⟩
 | lst es =>
  simp only[dk,BU,GV]at hw
  obtain⟨rfl,rfl⟩:=hw
  obtain⟨a,xs,rfl,hq,hds⟩:∃a xs,v=.ref a∧FzL K H a xs∧aq K ι H es xs:=by simpa[IsD]using hd
  exact⟨true,a,xs,rfl,hq.sq,hds,fun ι2 H2 μ2 q1 q2 q3 q4=>⟨xs,(hq.ext q2).sq,aq.mono q1 q2 _ _ hds⟩⟩
 | loc n =>
  obtain⟨a,rfl,hn⟩:∃a,v=.ref a∧ι[n]? = some a:=by simpa[IsD]using hd
  have pre:∀{ι2:List Addr},ι <+: ι2→ι2[n]? = some a:=fun hp=>by
   obtain⟨t,rfl⟩:=hp
   rw[AW (AG.mp hn).1];exact hn
  cases em:μ[n]? with
  | none=>simp[dk,em]at hw
  | some o =>
   cases o with
   | l es =>
    simp only[dk,em,BU,GV]at hw
    obtain⟨rfl,rfl⟩:=hw
    obtain⟨a',q',ho⟩:=S.at em
    rw[hn]at q';cases q'
    obtain⟨xs,f1,f2⟩:=ho
    refine⟨true,a,xs,rfl,(show LsL K H a xs from .inl f1).sq,aq.mono (CN) (.refl _) _ _ f2,fun ι2 H2 μ2 q1 q2 q3 q4=>?_⟩
    obtain⟨a2,e2,o2⟩:=q3.at (show μ2[n]? = some (.l es)from q4)
    rw[pre q1]at e2;cases e2
    obtain⟨ys,g1,g2⟩:=o2
    exact⟨ys,(show LsL K H2 a ys from .inl g1).sq,aq.mono (CN) (.refl _) _ _ g2⟩
   | r es =>
    simp only[dk,em,BU,GV]at hw
    obtain⟨rfl,rfl⟩:=hw
    obtain⟨a',q',ho⟩:=S.at em
    rw[hn]at q';cases q'
    obtain⟨xs,f1,f2⟩:=ho
    refine⟨true,a,xs,rfl,(show LsL K H a xs from .inl f1).sq,f2,fun ι2 H2 μ2 q1 q2 q3 q4=>?_⟩
    obtain⟨a2,e2,o2⟩:=q3.at (show μ2[n]? = some (.r es)from q4)
    rw[pre q1]at e2;cases e2
    obtain⟨ys,g1,g2⟩:=o2
    exact⟨ys,(show LsL K H2 a ys from .inl g1).sq,g2⟩
   | d kvs=>simp[dk,em]at hw
   | dt kvs=>simp[dk,em]at hw
   | dead=>simp[dk,em]at hw
 | _=>simp[dk]at hw
theorem L6 {y:D} {ys:List D} (h:dq [] y=some ys) (μ:Sto):dk μ y=some (ys,none):=by
 cases y<;>simp_all[dq,dk]
theorem Ux {a b:Expr} {xa xb:Ex} {elts:List Expr} {k:Nat} {tp:Pos} {p pos:Pos} (hg:Gl X "zip") (hm:X.mg "zip"=none) (ha:PE X a (tE X.K φ xa)) (hb:PE X b (tE X.K φ xb)) (hs:starEach [a,b] X.env=[(false,eval a X.env),(false,eval b X.env)])
  (hs2:starEach [b] X.env=[(false,eval b X.env)]):PI X (.Tuple elts k tp) (.Call (.Name "zip" p) [a,b] [] pos) (tI X.K φ (.zip xa xb)):=by
 intro pins s σv H R I ⟨ι,σ,μ,hS,hL,h⟩
 simp only[evI]at h
 cases e1:evE φ xa σ μ with
 | exc _ _ _=>rw[e1]at h;exact h.elim
 | stuck=>rw[e1]at h;exact h.elim
 | ok d μ1 =>
 rw[e1]at h
 simp only[Res.bo]at h
 cases e2:evE φ xb σ μ1 with
 | exc _ _ _=>rw[e2]at h;exact h.elim
 | stuck=>rw[e2]at h;exact h.elim
 | ok d2 μ2 =>
 rw[e2]at h
 simp only[Res.bo]at h
 have hq:tEs X.K φ (.cons xa (.cons xb .nil)) σv H (fun vs H1=>∃ι1,ι <+: ι1∧Ext H H1∧Sim X.K ι1 H1 μ2∧aq X.K ι1 H1 [d,d2] vs):=⟨ι,σ,μ,hS,hL,by
  simp only[iu,e1,e2,Res.bo]
  exact fun ι1 v H1 p1 x1 s1 d1=>⟨ι1,p1,x1,s1,d1⟩⟩
 refine Call_ (o5 I hg hm PyProof.Rows.boot_zip (CF (thn (Ac ha (Ac hb Ln hs2) (by rw[hs,hs2]) pos pins s σv H _ I hq) fun us s1 ⟨vs,H1,I1,r1,ι1,p1,x1,S1,d1⟩=>?_) (by rw[hs,hs2]) (by rw[hs2];rfl)))
 simp only[aq]at d1
 obtain⟨v1,_,rfl,q1,v2,_,rfl,q2,rfl⟩:=d1
 cases r1 with
 | cons ra rr =>
 cases rr with
 | cons rb rr =>
 cases rr
 cases ew:dk μ2 d with
 | none=>simp only[ew]at h
 | some wg =>
 obtain⟨ds,g⟩:=wg
 cases ey:dq [] d2 with
 | none=>simp only[ew,ey]at h
 | some es =>
 simp only[ew,ey]at h
 obtain⟨b1,a1,xs,rfl,sq1,ds1,st1⟩:=Cc S1 q1 ew
 obtain⟨b2,a2,ys,rfl,sq2,ds2,st2⟩:=Cc S1 q2 (L6 ey μ2)
 cases ra
 cases rb
 obtain⟨i1,rv1,p1',z1⟩:=sq1.vals I1
 obtain⟨i2,rv2,p2',z2⟩:=sq2.vals I1
 refine Q8 p1' p2' fun h' c1 c2 c3 c4 c5 kk=>?_
 refine wpAny_pyIter_zip c1 ?_
 have I2:Inv X pins σv H1 {s1 with heap:=h'}:=I1.kept (t':=s1.toks) kk
 refine⟨_,[s1.heap.objs.size+4,s1.heap.objs.size+2,s1.heap.objs.size+3,s1.heap.objs.size,s1.heap.objs.size+1],_,_,H1,rfl,I2,L5 (b1:=b1) (b2:=b2) (zipApart_new p1'.lt p2'.lt),⟨c1,c2,⟨_,_,c3⟩,c4,c5⟩,fun b hb=>?_,h ι1 H1 _ p1 x1 S1 ?_⟩
 ·have hb':s1.heap.objs.size≤b:=by
   simp only[AM,BF,or_false]at hb
   rcases hb with rfl | rfl | rfl | rfl | rfl<;>first | exact AI _ | exact IM _ _
  exact I1.fpOk hb' (I1.hok.fresh hb')
 ·have hlen:((ds.zip es).map fun p=>D.tup [p.1,p.2]).length=min ds.length es.length:=by simp
  have n1:=ds1.length
  have n2:=ds2.length
  refine⟨by rw[hlen];lia,fun i ι2 H2 μ3 q1 q2 q3 q4 hi=>?_,fun i ι2 H2 μ3 w H3 q1 q2 q3 q4 hi hy=>?_,fun ι2 H2 μ3 q1 q2 q3 q4=>?_⟩
  ·rw[hlen]at hi
   obtain⟨xs',y1,y2⟩:=st1 ι2 H2 μ3 q1 q2 q3 q4
   obtain⟨ys',y3,y4⟩:=st2 ι2 H2 μ3 q1 q2 q3 trivial
   obtain⟨v,ev,_⟩:=y2.get (AB (by lia:i<ds.length))
   obtain⟨v',ev',_⟩:=y4.get (AB (by lia:i<es.length))
   exact⟨xs',ys',v,v',y1,y3,ev,ev'⟩
  ·rw[hlen]at hi
   obtain⟨xs',y1,y2⟩:=st1 ι2 H2 μ3 q1 q2 q3 q4
   obtain⟨ys',y3,y4⟩:=st2 ι2 H2 μ3 q1 q2 q3 trivial
   have hi1:i<ds.length:=by lia
   have hi2:i<es.length:=by lia
   obtain⟨v,ev,hv⟩:=y2.get (AB hi1)
   obtain⟨v',ev',hv'⟩:=y4.get (AB hi2)
   obtain⟨p,x,y,rfl,hp,rfl,f1,f2⟩:=hy
   have e1':=f1 _ y1
   rw[ev]at e1';cases e1'
   have e2':=f2 _ y3
   rw[ev']at e2';cases e2'
   have X1:Ext H2 (upd H2 p (.tup [v,v'])):=Ext.new hp
   refine⟨X1,q3.new hp,.tup [ds[i],es[i]],by simp[CW,hi1,hi2],tup_is (xs:=[v,v']) (.inl ?_) ?_⟩
   ·exact .inl bh
   ·simp only[aq]
    exact⟨v,_,rfl,IsD.mono (AN _) X1 _ _ hv,v',_,rfl,IsD.mono (AN _) X1 _ _ hv',rfl⟩
  ·obtain⟨xs',y1,y2⟩:=st1 ι2 H2 μ3 q1 q2 q3 q4
   obtain⟨ys',y3,y4⟩:=st2 ι2 H2 μ3 q1 q2 q3 trivial
   have m1:=y2.length
   have m2:=y4.length
   rw[hlen]
   exact⟨xs',ys',y1,y3,by lia⟩
theorem wu {a b:Expr} {xa xb:Ex} {elts:List Expr} {k:Nat} {tp:Pos} {p pos:Pos} (hm:X.mg "zip"=none) (ha:PE X a (tE X.K φ xa)) (hb:PE X b (tE X.K φ xb)) (hg:Gl X "zip":=by rfl) (hs:starEach [a,b] X.env=[(false,eval a X.env),(false,eval b X.env)]:=by rfl) (hs2:starEach [b] X.env=[(false,eval b X.env)]:=by rfl) :
  PI X (.Tuple elts k tp) (.Call (.Name "zip" p) [a,b] [] pos) (tI X.K φ (.zip xa xb)):=Ux hg hm ha hb hs hs2
end
end Lp
namespace Lp
open PySem PySem.Spec PyProof.Rows L2
open AutoSeq1 (wpAny_loadPart')
theorem Q9 (l:Addr) (items:Array Value) (n:Nat) (dct:Option Addr) (sl:Array (Option Value)) :
  Meets (Builtin.«enumerate.__new__» ⟨[.type "enumerate",.ref l],[]⟩) (fun _ R s=>s.heap.get? l=some {cls:=.type "tuple",dict:=dct,data:=.seq items n,slots:=sl} ∧
   R (.ok (.ret (.ref (s.heap.push {cls:=.type "tuple_iterator",data:=.fields #[.ref l,.int 0 0]}).objs.size)))
    {s with heap:=(s.heap.push {cls:=.type "tuple_iterator",data:=.fields #[.ref l,.int 0 0]}).push {cls:=.type "enumerate",data:=.fields #[.none,.bool false,.ref s.heap.objs.size,rawInt 0,.none,.none]}}) :=
 .of_wp fun prog w A R s h=>by
  obtain⟨hp,g,d,tk,os⟩:=s;obtain⟨hl,h⟩:=h
  have hsub:=sub_enumerate
  have hL:Heap.IsTuple (Shared.heap ⟨hp,g,d,tk,os⟩) l items:=⟨_,hl,rfl,n,rfl⟩
  wp_walk using DA hl
  refine wpAny_stack_any fun st=>AD ?_
  split
  ·rename_i c _ _ _ _ _
   cases(c==Value.type "enumerate")
   ·wp_walk using DA hl,Ev hL
    exact⟨_,rfl,h⟩
   ·wp_walk using DA hl,Ev hL
    exact⟨_,rfl,h⟩
  ·wp_walk using DA hl,Ev hL
   exact⟨_,rfl,h⟩
section
variable {prog : Program} {w : World} {A : Around} {E : Value → Shared → Prop} {s : Shared} {b : Bool}
theorem Ra {l:Addr} {items:Array Value} {Q:Value→Shared→Prop} (hL:SQ b s.heap l items)
  (h:∀h',IsEnum h' (s.heap.objs.size+1) s.heap.objs.size 0 .none→SI b h' s.heap.objs.size l 0→(∀b o,s.heap.get? b=some o→h'.get? b=some o)→Q (.ref (s.heap.objs.size+1)) {s with heap:=h'}) :
  wpAny (model prog w) A (call (.type "enumerate") [.ref l]) Q E s:=by
 cases b
 ·obtain⟨⟨c,dct,dt,sl⟩,hl,hc,n,hd⟩:=hL
  replace hc:c=.type "tuple":=hc
  replace hd:dt=.seq items n:=hd
  subst hc hd
  refine callType_new F.called_enumerate (by decide) (F.typeCall_enumerate_1 _) (F.newCall_enumerate_1 _) (fun obj=>F.args_object_init_2 obj _) F.entry_enumerate_new (Q9 l items n dct sl) ⟨hl,?_⟩
  have hz:(s.heap.push {cls:=.type "tuple_iterator",data:=.fields #[.ref l,.int 0 0]}).objs.size=s.heap.objs.size+1:=CZ ..
  show _∧_
  rw[hz]
  have he:IsEnum ((s.heap.push {cls:=.type "tuple_iterator",data:=.fields #[.ref l,.int 0 0]}).push
    {cls:=.type "enumerate",data:=.fields #[.none,.bool false,.ref s.heap.objs.size,rawInt 0,.none,.none]}) (s.heap.objs.size+1) s.heap.objs.size 0 .none:=by
   have:=AH (s.heap.push {cls:=.type "tuple_iterator",data:=.fields #[.ref l,.int 0 0]})
    (o:={cls:=.type "enumerate",data:=.fields #[.none,.bool false,.ref s.heap.objs.size,rawInt 0,.none,.none]}) rfl
   rw[hz]at this;exact this
  exact⟨⟨_,he,rfl⟩,h _ he ⟨_,AC _ (AH _ rfl),rfl,rfl⟩ fun b o x=>AC _ (AC _ x)⟩
 ·exact call_enumerate_list hL fun h' a1 a2 _ a3=>h h' a1 a2 a3
theorem Rb {e it l:Addr} {i:Nat} {items:Array Value} {x old:Value} {Q:Option Value→Shared→Prop}
  (he:IsEnum s.heap e it i old) (hit:SI b s.heap it l i) (hl:SQ b s.heap l items) (hx:items[i]? = some x) (hne:e≠it)
  (hQ:∀h',IsEnumOut h' e it ((i:Int)+1) x s.heap.objs.size→SI b h' it l (i+1)→h'.get? s.heap.objs.size=some {cls:=.type "tuple",data:=.seq #[.int i s.toks,x]} →
   (∀b o,b≠e→b≠it→s.heap.get? b=some o→h'.get? b=some o)→Q (some (.ref s.heap.objs.size)) {s with heap:=h',toks:=s.toks+1}) :
  wpAny (model prog w) A (pyNext (.ref e)) Q E s:=by
 have hT:s.TypeIs (.ref e) "enumerate":=⟨_,he,rfl⟩
 unfold pyNext
 refine AA (EG (BJ (name:=Str.ofString "__next__") hT FF (BK FF hT F.entry_enumerate_next ?_ (F.args_enumerate_next_1 _))))
 obtain⟨hp,g,d,tk,os⟩:=s
 show wpAny _ _ (field (.ref e) 2>>=_) _ _ _
 refine AA (CB he rfl (x:=.ref it) rfl ?_)
 refine AA (yj hit hl hx fun h₁ hit₁ hs₁=>?_)
 replace hs₁:Heap.SameBut it hp h₁:=hs₁
 have he₁:IsEnum h₁ e it i old:=(hs₁.2 e hne).trans he
 show wpAny _ _ (field (.ref e) 3>>=_) _ _ ⟨h₁,g,d,tk,os⟩
 refine AA (CB he₁ rfl (x:=rawInt i) rfl ?_)
 show wpAny _ _ (field (.ref e) 4>>=_) _ _ ⟨h₁,g,d,tk,os⟩
 refine AA (CB he₁ rfl (x:=.none) rfl ?_)
 show wpAny _ _ (mkInt i>>=_) _ _ ⟨h₁,g,d,tk,os⟩
 refine AA (wpAny_mkInt ?_)
 show wpAny _ _ (setField (.ref e) 3 (rawInt ((i:Int)+1))>>=_) _ _ ⟨h₁,g,d,tk+1,os⟩
 refine AA (BH he₁ (by simp) fun h₂ he₂ hs₂=>?_)
 replace hs₂:Heap.SameBut e h₁ h₂:=hs₂
 replace he₂:IsEnum h₂ e it ((i:Int)+1) old:=he₂
 show wpAny _ _ (setField (.ref e) 4 .none>>=_) _ _ ⟨h₂,g,d,tk+1,os⟩
 refine AA (BH he₂ (by simp) fun h₃ he₃ hs₃=>?_)
 replace hs₃:Heap.SameBut e h₂ h₃:=hs₃
 replace he₃:IsEnum h₃ e it ((i:Int)+1) old:=he₃
 show wpAny _ _ (newTuple [.int i tk,x]>>=_) _ _ ⟨h₃,g,d,tk+1,os⟩
 refine AA (HL ?_)
 have he₄:IsEnum (h₃.push {cls:=.type "tuple",data:=.seq #[.int i tk,x]}) e it ((i:Int)+1) old:=AC _ he₃
 generalize hh₄:h₃.push {cls:=.type "tuple",data:=.seq #[.int i tk,x]}=h₄ at he₄
 have hsz:h₃.objs.size=hp.objs.size:=by rw[hs₃.1,hs₂.1,hs₁.1]
 have hel:e<hp.objs.size:=AL he
 have ht₄:h₄.get? hp.objs.size=some {cls:=.type "tuple",data:=.seq #[.int i tk,x]}:=by rw[←hh₄,←hsz];exact AH _ rfl
 have hk₄:∀b o,b≠e→b≠it→hp.get? b=some o→h₄.get? b=some o:=fun b o hbe hbi hb=>by
  rw[←hh₄];exact AC _ (hs₃.extBut b o hbe (hs₂.extBut b o hbe (hs₁.extBut b o hbi hb)))
 have hit₄:SI b h₄ it l (i+1):=by
  rw[←hh₄];exact((hit₁.but hs₂.extBut (Ne.symm hne)).but hs₃.extBut (Ne.symm hne)).keep fun o ho=>AC _ ho
 show wpAny _ _ (Builtin.SmallTypes.ownedTupleIsFree (.ref e)>>=_) _ _ ⟨h₄,g,d,tk+1,os⟩
 rw[hsz]
 clear hh₄ he₃ hs₃ he₂ hs₂ he₁ hs₁ hit₁ hsz h₃ h₂ h₁
 refine AA ?_
 unfold Builtin.SmallTypes.ownedTupleIsFree
 refine AA (CB he₄ rfl (x:=.none) rfl (AD ?_))
 simp only[if_true]
 refine AA (FW ?_)
 refine AA (CB he₄ rfl (x:=old) rfl ?_)
 refine AA (BH he₄ (by simp) fun h₅ he₅ hs₅=>?_)
 replace hs₅:Heap.SameBut e h₄ h₅:=hs₅
 replace he₅:IsEnum h₅ e it ((i:Int)+1) x:=he₅
 show wpAny _ _ (Builtin.SmallTypes.ownedTupleHandOut (.ref e) (.ref hp.objs.size)>>=_) _ _ ⟨h₅,g,d,tk+1,os⟩
 refine AA ?_
 unfold Builtin.SmallTypes.ownedTupleHandOut
 refine AA (BH he₅ (by simp) fun h₆ he₆ hs₆=>?_)
 replace hs₆:Heap.SameBut e h₅ h₆:=hs₆
 replace he₆:IsEnumOut h₆ e it ((i:Int)+1) x hp.objs.size:=he₆
 refine BH he₆ (by simp) fun h₇ he₇ hs₇=>?_
 replace hs₇:Heap.SameBut e h₆ h₇:=hs₇
 replace he₇:IsEnumOut h₇ e it ((i:Int)+1) x hp.objs.size:=he₇
 refine AA (Ix (AD ⟨_,rfl,AD (hQ h₇ he₇ ?_ ?_ ?_)⟩))
 ·exact((hit₄.but hs₅.extBut (Ne.symm hne)).but hs₆.extBut (Ne.symm hne)).but hs₇.extBut (Ne.symm hne)
 ·exact hs₇.extBut _ _ (CL hel) (hs₆.extBut _ _ (CL hel) (hs₅.extBut _ _ (CL hel) ht₄))
 ·exact fun b o hbe hbi hb=>hs₇.extBut b o hbe (hs₆.extBut b o hbe (hs₅.extBut b o hbe (hk₄ b o hbe hbi hb)))
theorem Uy {e it l:Addr} {i:Nat} {items:Array Value} {old:Value} {Q:Option Value→Shared→Prop} (hh:A.handled=none)
  (he:IsEnum s.heap e it i old) (hit:SI b s.heap it l i) (hl:SQ b s.heap l items) (hx:items[i]? = none)
  (hQ:∀h',Heap.ExtBut it s.heap h'→Q none {s with heap:=h'}):wpAny (model prog w) A (pyNext (.ref e)) Q E s:=by
 have hT:s.TypeIs (.ref e) "enumerate":=⟨_,he,rfl⟩
 unfold pyNext
 refine AA (EG (BJ (name:=Str.ofString "__next__") hT FF (BK FF hT F.entry_enumerate_next ?_ (F.args_enumerate_next_1 _))))
 show wpAny _ _ (field (.ref e) 2>>=_) _ _ _
 refine AA (CB he rfl (x:=.ref it) rfl ?_)
 refine AA (Ib hh hit hl hx fun h' x he' hx'=>?_)
 obtain⟨o,ho,hc⟩:=hx'
 refine AA (EM (T:="StopIteration") (b:=true) ⟨o,ho,hc⟩ HM ?_)
 exact AD (hQ _ he')
end
section
variable {X : Cx} {pins : List (Addr × Obj)} {σ : St} {H : Hp} {s : Shared} {φ : Phi}
noncomputable def Ite (K:PySem.W.Frag) (b:Bool) (a:Addr):L2.It :=
 ⟨fun i H=>∃xs x,Sq b K H a xs∧xs[i]? = some x,
 fun i H v H'=>∃p x,v=.ref p∧H p=none∧H'=upd H p (.tup [.int i,x])∧∀xs,Sq b K H a xs→xs[i]? = some x,
 fun i H=>∃xs,Sq b K H a xs∧xs.length≤i⟩
theorem Ic {P:Program} {w:World} {K:PySem.W.Frag} {elts:List Expr} {k:Nat} {tp:Pos} {b:Bool} {e it a:Addr} (hne:e≠it) :
  Turn P w K (.Tuple elts k tp) (Ite K b a) [e,it] e (fun i h=>(∃old,IsEnum h e it i old)∧SI b h it a i) where
 mem:=by simp
 obj:=fun i h ⟨⟨old,he⟩,s1⟩ c hc=>by
  simp only[AM,BF,or_false]at hc
  rcases hc with rfl | rfl
  ·exact⟨_,he,fun v e=>by cases e⟩
  ·obtain⟨o,e,_,d⟩:=s1.obj
   exact⟨o,e,fun v q=>by rw[d]at q;cases q⟩
 keep:=fun i h h' ⟨⟨old,he⟩,s1⟩ k=>⟨⟨old,k e (by simp) _ he⟩,s1.keep fun o q=>k it (by simp) o q⟩
 item:=by
  intro X hP hw hK hc i pins s σ H E I hf ⟨⟨old,he⟩,s1⟩ hg
  subst hP hw hK
  obtain⟨xs,x,q1,ex⟩:=hg
  obtain⟨is1,rv1,p1,_⟩:=q1.vals I
  obtain⟨u1,hu1,ru1⟩:=rv1.get ex
  refine Rb he s1 p1 (x:=u1) (by simpa using hu1) hne fun h' c1 c2 c3 kk=>⟨_,rfl,wpAny_letOwnedTupleGo_enum c1 fun h'' z'' sb=>?_⟩
  have fr:H s.heap.objs.size=none:=I.hok.fresh (AI _)
  have lt:∀c∈[e,it],c≠s.heap.objs.size:=by
   intro c hc
   simp only[AM,BF,or_false]at hc
   rcases hc with rfl | rfl
   ·exact AR (AL he)
   ·obtain⟨o,q,_⟩:=s1.obj;exact AR (AL q)
  have I1:Inv X pins σ (upd H s.heap.objs.size (.tup [.int i,x])) {s with heap:=s.heap.push {cls:=.type "tuple",data:=.seq #[.int i s.toks,u1]},toks:=s.toks+1} :=
   I.laid (fun b u e=>AC _ e) (AI _) ⟨by show 2≤sizeLine;rw[DP];decide,[.int i s.toks,u1],.cons ⟨s.toks,rfl⟩ (.cons ru1 .nil),⟨_,AH _ rfl,rfl,rfl,_,rfl⟩⟩
  have hf':∀c∈[e,it],E8 X pins (upd H s.heap.objs.size (.tup [.int i,x])) c:=fun c hc=>by
   obtain⟨f0,f⟩:=hf c hc
   exact⟨by rw[a9 (lt c hc)];exact f0,f⟩
  have up:∀c o,c≠e→h'.get? c=some o→h''.get? c=some o:=fun c o n q=>sb.extBut _ _ n q
  have I2:=yk (s:={s with heap:=s.heap.push {cls:=.type "tuple",data:=.seq #[.int i s.toks,u1]},toks:=s.toks+1}) (h':=h'') (t':=s.toks+1) (ch:=[e,it]) I1 (fun c o hc q=>by
   simp only[AM,BF,or_false,not_or]at hc
   rcases Heap.get?_push_cases q with⟨rfl,rfl⟩ | q
   ·exact up _ _ hc.1 c3
   ·exact up _ _ hc.1 (kk c o hc.1 hc.2 q)) hf'
  refine⟨.ref s.heap.objs.size,_,I2,rfl,⟨_,x,rfl,fr,rfl,fun zs hz'=>by rw[q1.inj I hz'];exact ex⟩,⟨⟨u1,?_⟩,c2.keep fun o q=>up _ o (Ne.symm hne) q⟩,fun c hc=>(hf' c hc).1⟩
  exact z''
 done:=by
  intro X hP hw hK hc i pins s σ H E I hf ⟨⟨old,he⟩,s1⟩ hg
  subst hP hw hK
  obtain⟨xs,q1,en⟩:=hg
  obtain⟨is1,rv1,p1,_⟩:=q1.vals I
  have l1:=rv1.length
  refine Uy (I.ok.hd hc) he s1 p1 (by simp;lia) fun h' kk=>⟨rfl,yk I (h':=h') (t':=s.toks) (ch:=[e,it]) (fun c o hc q=>?_) hf⟩
  simp only[AM,BF,or_false,not_or]at hc
  exact kk c o hc.2 q
 self:=fun _ _ _ _ _ st h=>wpAny_pyIter_enum st.1.choose_spec h
theorem Rc {a:Expr} {xa:Ex} {elts:List Expr} {k:Nat} {tp:Pos} {p pos:Pos} (hg:Gl X "enumerate") (hm:X.mg "enumerate"=none) (ha:PE X a (tE X.K φ xa)) (hs:starEach [a] X.env=[(false,eval a X.env)]) :
  PI X (.Tuple elts k tp) (.Call (.Name "enumerate" p) [a] [] pos) (tI X.K φ (.enum xa)):=by
 intro pins s σv H R I ⟨ι,σ,μ,hS,hL,h⟩
 simp only[evI]at h
 cases e1:evE φ xa σ μ with
 | exc _ _ _=>rw[e1]at h;exact h.elim
 | stuck=>rw[e1]at h;exact h.elim
 | ok d μ2 =>
 rw[e1]at h
 simp only[Res.bo]at h
 have hq:tEs X.K φ (.cons xa .nil) σv H (fun vs H1=>∃ι1,ι <+: ι1∧Ext H H1∧Sim X.K ι1 H1 μ2∧aq X.K ι1 H1 [d] vs):=⟨ι,σ,μ,hS,hL,by
  simp only[iu,e1,Res.bo]
  exact fun ι1 v H1 p1 x1 s1 d1=>⟨ι1,p1,x1,s1,d1⟩⟩
 refine Call_ (o5 I hg hm PyProof.Rows.boot_enumerate (CF (thn (Ac ha Ln hs pos pins s σv H _ I hq) fun us s1 ⟨vs,H1,I1,r1,ι1,p1,x1,S1,d1⟩=>?_) hs rfl))
 simp only[aq]at d1
 obtain⟨v1,_,rfl,q1,rfl⟩:=d1
 cases r1 with
 | cons ra rr =>
 cases rr
 cases ew:dk μ2 d with
 | none=>simp only[ew]at h
 | some wg =>
 obtain⟨ds,g⟩:=wg
 simp only[ew]at h
 obtain⟨b1,a1,xs,rfl,sq1,ds1,st1⟩:=Cc S1 q1 ew
 cases ra
 obtain⟨i1,rv1,p1',z1⟩:=sq1.vals I1
 refine Ra p1' fun h' c1 c2 kk=>?_
 refine wpAny_pyIter_enum c1 ?_
 have I2:Inv X pins σv H1 {s1 with heap:=h'}:=I1.kept (t':=s1.toks) kk
 refine⟨_,[s1.heap.objs.size+1,s1.heap.objs.size],_,_,H1,rfl,I2,Ic (b:=b1) (a:=a1) (Nat.succ_ne_self _),⟨⟨_,c1⟩,c2⟩,fun c hc=>?_,h ι1 H1 _ p1 x1 S1 ?_⟩
 ·have hc':s1.heap.objs.size≤c:=by
   simp only[AM,BF,or_false]at hc
   rcases hc with rfl | rfl<;>first | exact AI _ | exact IM _ _
  exact I1.fpOk hc' (I1.hok.fresh hc')
 ·have hlen:(((List.range ds.length).zip ds).map fun(p:Nat×D)=>D.tup [.int p.1,p.2]).length=ds.length:=by simp
  have n1:=ds1.length
  refine⟨by rw[hlen];lia,fun i ι2 H2 μ3 q1 q2 q3 q4 hi=>?_,fun i ι2 H2 μ3 w H3 q1 q2 q3 q4 hi hy=>?_,fun ι2 H2 μ3 q1 q2 q3 q4=>?_⟩
  ·rw[hlen]at hi
   obtain⟨xs',y1,y2⟩:=st1 ι2 H2 μ3 q1 q2 q3 q4
   obtain⟨v,ev,_⟩:=y2.get (AB hi)
   exact⟨xs',v,y1,ev⟩
  ·rw[hlen]at hi
   obtain⟨xs',y1,y2⟩:=st1 ι2 H2 μ3 q1 q2 q3 q4
   obtain⟨v,ev,hv⟩:=y2.get (AB hi)
   obtain⟨p,x,rfl,hp,rfl,f1⟩:=hy
   have e1':=f1 _ y1
   rw[ev]at e1';cases e1'
   have X1:Ext H2 (upd H2 p (.tup [.int i,v])):=Ext.new hp
   refine⟨X1,q3.new hp,.tup [.int i,ds[i]],by simp[CW,hi],tup_is (xs:=[.int i,v]) (.inl ?_) ?_⟩
   ·exact .inl bh
   ·simp only[aq]
    exact⟨.int i,_,rfl,by simp[IsD],v,_,rfl,IsD.mono (AN _) X1 _ _ hv,rfl⟩
  ·obtain⟨xs',y1,y2⟩:=st1 ι2 H2 μ3 q1 q2 q3 q4
   have m1:=y2.length
   rw[hlen]
   exact⟨xs',y1,by lia⟩
theorem Rf {a:Expr} {xa:Ex} {elts:List Expr} {k:Nat} {tp:Pos} {p pos:Pos} (hm:X.mg "enumerate"=none) (ha:PE X a (tE X.K φ xa)) (hg:Gl X "enumerate":=by rfl) (hs:starEach [a] X.env=[(false,eval a X.env)]:=by rfl) :
  PI X (.Tuple elts k tp) (.Call (.Name "enumerate" p) [a] [] pos) (tI X.K φ (.enum xa)):=Rc hg hm ha hs
end
end Lp
namespace Lp
open PySem PySem.Spec PyProof.Rows L2
section
variable {X : Cx} {φ : Phi} {o e f : Expr} {xo xe xf : Ex} {pos apos cpos : Pos}
theorem Uz (t:Bool):PE X (.Dict [] [] pos) (tE X.K φ (.dic t .nil)):=by
 cases t with
 | false =>
  refine PE.imp Lg fun σv H Q ⟨ι,σ,μ,hS,hL,h⟩=>?_
  simp only[evE,iu,Res.bo,Nx,AT,if_false]at h
  intro p hp
  refine h (ι++[p]) _ _ (HN _ _) (Ext.new hp) (hS.push hp ⟨[],bh,Paired.nil⟩) ?_
  simp only[Lp.IsD]
  exact⟨p,rfl,by rw[←hS.len];simp⟩
 | true =>
  refine PE.imp Lh fun σv H Q ⟨ι,σ,μ,hS,hL,h⟩=>?_
  simp only[evE,iu,Res.bo,Nx,if_true]at h
  intro p hp
  refine h (ι++[p]) _ _ (HN _ _) (Ext.new hp) (hS.push hp ⟨[],bh,Paired.nil⟩) ?_
  simp only[Lp.IsD]
  exact⟨p,rfl,by rw[←hS.len];simp⟩
theorem yl (hu:X.A.units+64<cLine) (ho:PE X o (tE X.K φ xo)) (he:PE X e (tE X.K φ xe)) (hf:PE X f (tE X.K φ xf)) (m:M2 X o "get" apos e f cpos:=by exact⟨rfl,rfl,rfl,rfl⟩) :
  PE X (.Call (.Attribute o "get" apos) [e,f] [] cpos) (tE X.K φ (.meth .get xo (.cons xe (.cons xf .nil)))):=by
 refine PE.imp (Li (by lia) ho he hf m) fun σv H Q ⟨ι,σ,μ,hS,hL,h⟩=>?_
 simp only[evE,iu]at h
 obtain⟨d,μ1,e1,h⟩:=h.bind
 refine⟨ι,σ,μ,hS,hL,?_⟩
 rw[e1]
 intro ι1 x H1 p1 x1 s1 d1
 cases d with
 | loc n =>
  obtain⟨a,rfl,hn⟩:∃a,x=.ref a∧ι1[n]? = some a:=by simpa[Lp.IsD]using d1
  cases em:μ1[n]? with
  | none=>simp[jc,em,ig]at h
  | some ob =>
   cases ob with
   | d kvs =>
    simp only[jc,em,if_true,Res.bind_assoc,Res.bo]at h
    obtain⟨a',q',kx,hk1,hk2⟩:=s1.at em
    rw[hn]at q';cases q'
    obtain⟨y,μ2,e2,h⟩:=h.bind
    refine⟨a,rfl,.inl ⟨_,.inl hk1⟩,ι1,σ,μ1,s1,hL.mono p1 x1,?_⟩
    rw[e2]
    intro ι2 yv H2 p2 x2 s2 d2
    obtain⟨z,μ3,e3,h⟩:=h.bind
    refine⟨ι2,σ,μ2,s2,(hL.mono p1 x1).mono p2 x2,?_⟩
    rw[e3]
    intro ι3 zv H3 p3 x3 s3 d3
    simp only[mtD,Qj]at h
    cases ed:dictAt μ3 (.loc n) y with
    | none=>simp only[ed]at h;exact h.elim
    | some kvs3 =>
     simp only[ed]at h
     obtain⟨p,q,xs,e4,rfl,rfl,hp,hk⟩:=B6 s3 (IsD.mono p3 x3 _ _ (IsD.mono p2 x2 _ _ d1)) (IsD.mono p3 x3 _ _ d2) ed
     cases e4
     exact⟨_,Ld.k hp,h ι3 _ H3 ((p1.trans p2).trans p3) ((x1.trans x2).trans x3) s3 ((tm hk).getD d3)⟩
   | _=>simp[jc,em,ig]at h
 | _=>simp[jc,ig]at h
end
end Lp
namespace Lp
open PySem PySem.Spec PyProof.Rows L2
section
variable {X : Cx} {pins : List (Addr × Obj)} {σ : St} {H : Hp} {s : Shared} {φ : Phi}
theorem Rg {p:Addr} {xs:List (Key×V)} (I:Inv X pins σ H s) (h:H p=some (.dK xs)):∃o,Inv X pins σ (upd H p (.frz o (.dK xs))) s:=by
 have hp:=I.hok p _ h
 obtain⟨hz,hsys,vs,rel,o,es,ep,hget,r⟩:=id hp
 refine⟨o,I.ok,I.os,I.bare,⟨I.base.keep,I.base.slot,fun b o e hn hx=>?_,I.base.there,fun b ys e=>?_,fun b o u e=>?_,fun b ps e=>?_⟩,I.loc,I.cell,?_,fun x c e=>?_,fun q hq=>?_,fun b u e=>?_,I.len⟩
 ·have q:=I.base.free b o e hn hx
  rw[a9 (fun z=>by subst z;rw[h]at q;cases q)]
  exact q
 ·have q:=I.base.tups b ys e
  rw[a9 (pd q h (by intro z;cases z))];exact q
 ·have q:=I.base.frzs b o u e
  rw[a9 (pd q h (by intro z;cases z))];exact q
 ·obtain⟨more,q⟩:=I.base.tbls b ps e
  exact⟨more,by rw[a9 (pd q h (by intro z;cases z))];exact q⟩
 ·rw[a9 (fun z=>by rw[←z,I.free]at h;cases h)];exact I.free
 ·rw[a9 (fun z=>by rw[←z,I.freeC x c e]at h;cases h)];exact I.freeC x c e
 ·obtain⟨e1,e2,e3⟩:=I.pin q hq
  refine⟨e1,?_,e3⟩
  rw[a9 (fun z=>by rw[←z,e2]at h;cases h)];exact e2
 ·by_cases hb:b=p
  ·subst hb
   rw[bh]at e;cases e
   exact⟨hget,hz,hsys,vs,rel,o,es,ep,hget,r⟩
  ·rw[a9 hb]at e
   refine(I.hok b u e).stay (fun c v _ q=>q) (fun c q=>?_) (fun c ys q=>?_)
   ·rw[a9 (pd q h (by intro z;cases z))];exact q
   ·rw[a9 (pd q h (by intro z;cases z))];exact q
theorem wx {α β:Type} {F:α→β→Prop}:∀{xs:List α} {ys:List β} {i:Nat} {y:β},Paired F xs ys→ys[i]? = some y→∃x,xs[i]? = some x∧F x y
 | _,_,_,_,.nil,e=>by simp at e
 | x::_,_::_,0,_,.cons h _,e=>by simp at e;subst e;exact⟨x,rfl,h⟩
 | _::_,_::_,i+1,_,.cons _ t,e=>by
  obtain⟨x,h1,h2⟩:=wx (i:=i) t (by simpa using e)
  exact⟨x,by simpa using h1,h2⟩
theorem ym:entryFor table "dict_valueiterator.__iter__"=some Builtin.«dict_keyiterator.__iter__» :=
 entryFor_alias (id':="dict_keyiterator.__iter__") (by kernel_rfl) (by first | rfl | decide +kernel | (unfold String.splitOn;simp +decide [String.splitOnAux])) (by decide +kernel) (by kernel_rfl)
noncomputable def Itv (a:Addr) (o:Obj) (xs:List (Key×V)):L2.It :=
 ⟨fun i H=>H a=some (.frz o (.dK xs))∧i<xs.length,fun i H x H'=>H'=H∧∃k,xs[i]? = some (k,x),fun i H=>H a=some (.frz o (.dK xs))∧xs.length≤i⟩
theorem N7:∀{kvs:List (Key×V)} {vs:List (Key×Value)} {i:Nat} {p:Key×V},KV kvs vs→kvs[i]? = some p→∃u,vs[i]? = some (p.1,u)∧RelV p.2 u
 | _,_,_,_,.nil,e=>by simp at e
 | q::_,r::_,0,p,.cons h _,e=>by
  simp at e;subst e
  exact⟨r.2,by rw[h.1];rfl,h.2⟩
 | q::kvs,r::vs,i+1,p,.cons _ t,e=>by
  obtain⟨u,h1,h2⟩:=N7 (i:=i) t (by simpa using e)
  exact⟨u,by simpa using h1,h2⟩
theorem N8 {a:Addr} {o:Obj} {xs:List (Key×V)} {ep:Nat} (I:Inv X pins σ H s) (hep:∃es,o.data=.dict es ep) (e:H a=some (.frz o (.dK xs))):∃vs,KV xs vs∧s.heap.DictAt (c8 X.prog X.w) a vs ep:=by
 obtain⟨hget,hz,hsys,vs,rel,o',es',ep',hget',r1,r2,r3⟩:=(show iz X.prog X.w H s.heap a (.frz o (.dK xs))from I.hok a _ e)
 rw[hget]at hget';cases hget'
 obtain⟨es,h⟩:=hep
 rw[h]at r2;cases r2
 exact⟨vs,rel,o,_,hget,r1,h,r3⟩
theorem Ie {P:Program} {w:World} {K:PySem.W.Frag} {tg:Expr} {a it:Addr} {o:Obj} {xs:List (Key×V)} {ep:Nat} (hep:∃es,o.data=.dict es ep) :
  Turn P w K tg (Itv a o xs) [it] it (fun i h=>h.IsValIter it a i xs.length ep) where
 mem:=by simp
 obj:=fun i h st b hb=>by
  have e:b=it:=by simpa using hb
  subst e
  obtain⟨o,e,c,d⟩:=st
  exact⟨o,e,fun v z=>by rw[d]at z;cases z⟩
 keep:=fun i h h' ⟨o,e,r⟩ k=>⟨o,k it (by simp) o e,r⟩
 item:=by
  intro X hP hw hK hc i pins s σ H E I hf st hg
  subst hP hw hK
  obtain⟨hq,hi⟩:=hg
  obtain⟨vs,rel,dd⟩:=N8 I hep hq
  have hl:vs.length=xs.length:=(DW rel).symm
  obtain⟨u,hu,ru⟩:=N7 rel (AB hi)
  obtain⟨f0,f1,f2,f3,f4,f5⟩:=hf it (by simp)
  refine wpAny_pyNext_values_item (by rw[hl];exact st) dd hu fun h' st' sb=>?_
  rw[hl]at st'
  have I1:Inv X pins σ H {s with heap:=h'}:=I.turned (t':=s.toks) (fun b o hb e=>(sb.2 b hb).trans e) f0 f1 f3 f4 f5
  obtain⟨o',e',c',d'⟩:=id st'
  exact⟨u,rfl,K4 (s:={s with heap:=h'}) e' c' d' (by decide) ⟨_,H,I1,ru,⟨rfl,_,AB hi⟩,st',fun b hb=>(hf b hb).1⟩⟩
 done:=by
  intro X hP hw hK hc i pins s σ H E I hf st hg
  subst hP hw hK
  obtain⟨hq,hi⟩:=hg
  obtain⟨vs,rel,dd⟩:=N8 I hep hq
  have hl:vs.length=xs.length:=(DW rel).symm
  obtain⟨f0,f1,f2,f3,f4,f5⟩:=hf it (by simp)
  exact wpAny_pyNext_values_end (I.ok.hd hc) (by rw[hl];exact st) dd (AX (by lia)) fun h' eb=>⟨rfl,I.turned (t':=s.toks) (fun b o hb e=>eb b o hb e) f0 f1 f3 f4 f5⟩
 self:=fun A i s Q E st h=>by
  have hT:s.TypeIs (.ref it) "dict_valueiterator":=st.typeIs
  refine IC hT GR (BK GR hT ym ?_ (F.args_dict_valueiterator_iter_1 _))
  show wpAny _ _ (ret (.ref it)) _ _ s
  exact AD ⟨_,rfl,"dict_valueiterator",_,hT,F.slot_dict_valueiterator_next.lookup,h⟩
theorem Rh {o tg:Expr} {xo:Ex} {apos cpos:Pos} (ho:PE X o (tE X.K φ xo)) (hbase:attributeBase o "values" X.env (eval o X.env)=eval o X.env) (hline:(apos.endLine==cpos.line)=true) :
  PI X tg (.Call (.Attribute o "values" apos) [] [] cpos) (tI X.K φ (.vals xo)):=by
 intro pins s σv H R I ⟨ι,σ,μ,hS,hL,h⟩
 simp only[evI]at h
 cases e1:evE φ xo σ μ with
 | exc _ _ _=>rw[e1]at h;exact h.elim
 | stuck=>rw[e1]at h;exact h.elim
 | ok d μ1 =>
 rw[e1]at h
 simp only[Res.bo]at h
 cases d with
 | loc n =>
  simp only at h
  cases em:μ1[n]? with
  | none=>rw[em]at h;exact h.elim
  | some ob =>
   rw[em]at h
   cases ob with
   | d kvs =>
    simp only at h
    have hq:tE X.K φ xo σv H (fun v H1=>∃ι1,ι <+: ι1∧Ext H H1∧Sim X.K ι1 H1 μ1∧Lp.IsD X.K ι1 H1 (.loc n) v):=⟨ι,σ,μ,hS,hL,by rw[e1];exact fun ι1 v H1 p1 x1 s1 d1=>⟨ι1,p1,x1,s1,d1⟩⟩
    refine wpAny_Call_method0_late hbase hline (thn (ho pins s σv H _ I hq) fun u s1 ⟨v,H1,I1,r1,ι1,p1,x1,S1,d1⟩=>?_)
    obtain⟨a,rfl,hn⟩:∃a,v=.ref a∧ι1[n]? = some a:=by simpa[Lp.IsD]using d1
    obtain⟨a',q',xs,hH,hkv⟩:=S1.at em
    rw[hn]at q';cases q'
    obtain rfl:u=Value.ref a:=r1
    obtain⟨t1,t2,hsys⟩:=Nr I1 (.inl ⟨_,.inl hH⟩)
    obtain⟨_,_,vs0,_,dd0⟩:=Qb I1.hok hH
    refine⟨"dict","dict.values",IL,IF,PySem.F.type_dict_values,t1,t2,EU rfl (PySem.evalArgs_none ?_)⟩
    refine call_meetsIn IF t1 PySem.F.entry_dict_values (PySem.F.args_dict_values_1 _) (meets_dict_values (c8 X.prog X.w) a hsys) ⟨⟨vs0,dd0⟩,?_⟩
    have I1':Inv X pins σv H1 {s1 with heap:=s1.heap.push {cls:=.type "dict_values",data:=.fields #[.ref a]}}:=I1.kept (t':=s1.toks) fun b o e=>AC _ e
    obtain⟨fo,I2⟩:=Rg I1' hH
    obtain⟨hget,hz,_,vs,rel,o',es,ep,hget',r⟩:=(show iz X.prog X.w _ _ a (.frz fo (.dK xs))from I2.hok a _ bh)
    rw[hget]at hget';cases hget'
    have dat:Heap.DictAt (c8 X.prog X.w) (s1.heap.push {cls:=.type "dict_values",data:=.fields #[.ref a]}) a vs ep:=⟨fo,es,hget,r⟩
    have hl:vs.length=xs.length:=(DW rel).symm
    show wpAny _ _ (pyIter (.ref s1.heap.objs.size)) _ _ _
    refine wpAny_pyIter_values (s:={s1 with heap:=s1.heap.push {cls:=.type "dict_values",data:=.fields #[.ref a]}}) (knd:=c8 X.prog X.w) (v:=s1.heap.objs.size) ⟨_,AH _ rfl,rfl,rfl⟩ dat ?_
    have X2:Ext H1 (upd H1 a (.frz fo (.dK xs))):=.dK hH
    refine⟨_,[(s1.heap.push {cls:=.type "dict_values",data:=.fields #[.ref a]}).objs.size],_,_,_,rfl,I2.kept (t':=s1.toks) fun b o e=>AC _ e,Ie (a:=a) (o:=fo) (xs:=xs) (ep:=ep) ⟨es,r.2.1⟩,⟨_,AH _ rfl,rfl,by rw[hl];rfl⟩,fun b hb=>?_,h ι1 _ _ p1 (x1.trans X2) (S1.put hn X2 ⟨_,bh⟩) ?_⟩
    ·have e:b=(s1.heap.push {cls:=.type "dict_values",data:=.fields #[.ref a]}).objs.size:=by simpa using hb
     subst e
     exact I2.fpOk (AI _) (I2.hok.fresh (AI _))
    ·have hk:kvs.length=xs.length:=DW hkv
     have get:∀(i:Nat) (hi:i<xs.length) k x,xs[i]? = some (k,x)→∃d,(kvs.map (·.2))[i]? = some d∧Lp.IsD X.K [] H1 d x:=fun i hi k x e=>by
      obtain⟨p,e1,_,q⟩:=wx hkv e
      exact⟨p.2,by rw[BA,e1];rfl,q⟩
     refine⟨by rw[AF,hk];exact hz,fun i ι2 H2 μ3 q1 q2 q3 q4 hi=>?_,fun i ι2 H2 μ3 w H3 q1 q2 q3 q4 hi hy=>?_,fun ι2 H2 μ3 q1 q2 q3 q4=>?_⟩
     ·exact⟨q2.frzs _ _ _ bh,by rw[AF,hk]at hi;exact hi⟩
     ·obtain⟨rfl,k,e⟩:=hy
      rw[AF,hk]at hi
      obtain⟨d,e2,hd⟩:=get i hi k w e
      exact⟨.refl _,q3,d,e2,IsD.mono CN (X2.trans q2) _ _ hd⟩
     ·exact⟨q2.frzs _ _ _ bh,by rw[AF,hk];exact AI _⟩
   | _=>exact h.elim
 | _=>exact h.elim
theorem Ri {o tg:Expr} {xo:Ex} {apos cpos:Pos} (ho:PE X o (tE X.K φ xo)) (hbase:attributeBase o "values" X.env (eval o X.env)=eval o X.env:=by rfl) (hline:(apos.endLine==cpos.line)=true:=by rfl) :
  PI X tg (.Call (.Attribute o "values" apos) [] [] cpos) (tI X.K φ (.vals xo)):=Rh ho hbase hline
theorem U0 (iw il iw':Nat) {c:Int} {j:Nat} {xw xl xw':Str} {p0 p1 p2 p3 p4 pos:Pos}
  (hNw:X.N[iw]? = some xw:=by rfl) (hvw:Vis X.env.scope xw:=by first | exact Or.inl rfl | exact Or.inr (Or.inl rfl) | exact Or.inr (Or.inr rfl)) (hdw:(xw==("__debug__":Str))=false:=by decide) (hcw:(xw==("__classdict__":Str))=false:=by decide)
  (hNl:X.N[il]? = some xl:=by rfl) (hvl:Vis X.env.scope xl:=by first | exact Or.inl rfl | exact Or.inr (Or.inl rfl) | exact Or.inr (Or.inr rfl)) (hdl:(xl==("__debug__":Str))=false:=by decide) (hcl:(xl==("__classdict__":Str))=false:=by decide)
  (hNv:X.N[iw']? = some xw':=by rfl) (hvv:Vis X.env.scope xw':=by first | exact Or.inl rfl | exact Or.inr (Or.inl rfl) | exact Or.inr (Or.inr rfl)) (hdv:(xw'==("__debug__":Str))=false:=by decide) (hcv:(xw'==("__classdict__":Str))=false:=by decide) :
  PE X (.Dict [some (.Constant (.int c) j p0),some (.Name xl p1)] [.UnaryOp .USub (.Name xw p2) p3,.Name xw' p4] pos)
   (tE X.K φ (.dic false (.cons (.cst (.int c)) (.cons (.neg (.var iw)) (.cons (.var il) (.cons (.var iw') .nil)))))):=by
 refine PE.imp (Qe (Dk Nf (Wx S6 (vz hNw hvw hdw hcw)) (Dk (vz hNl hvl hdl hcl) (vz hNv hvv hdv hcv) Qd)) rfl rfl (by simp) (by simp)) fun σv H Q ⟨ι,σ,μ,hS,hL,h⟩=>?_
 simp only[evE,iu,Res.bo]at h
 intro p hp
 cases ew:σ[iw]? with
 | none=>rw[ew]at h;exact h.elim
 | some ow =>
 cases ow with
 | none=>rw[ew]at h;exact h.elim
 | some dw =>
 rw[ew]at h
 simp only[Res.bo]at h
 cases dw with
 | int w =>
  simp only[Res.bo]at h
  cases el:σ[il]? with
  | none=>rw[el]at h;exact h.elim
  | some ol =>
  cases ol with
  | none=>rw[el]at h;exact h.elim
  | some dl =>
  rw[el]at h
  simp only[Res.bo]at h
  cases ev:σ[iw']? with
  | none=>rw[ev]at h;exact h.elim
  | some ov =>
  cases ov with
  | none=>rw[ev]at h;exact h.elim
  | some dv =>
  rw[ev]at h
  simp only[Res.bo]at h
  cases dl with
  | int l =>
   simp only[Nx]at h
   split at h
   ·rename_i hc
    obtain⟨_,_,hpv⟩:=hc
    obtain⟨vw,e1,q1⟩:=hL _ _ ew
    obtain⟨vl,e2,q2⟩:=hL _ _ el
    obtain⟨vv,e3,q3⟩:=hL _ _ ev
    cases fh q1
    cases fh q2
    refine⟨.int w,e1,w,rfl,.int l,e2,vv,e3,bh,[(.inl c,.int (-w)),(.inl l,vv)],rfl,by simp,?_⟩
    rw[Gs]
    refine h (ι++[p]) _ _ (HN _ _) (Ext.new hp) (hS.push hp ⟨_,bh,?_⟩) ?_
    ·have X1:Ext H (upd H p (.dK (ud [] [(.inl c,.int (-w)),(.inl l,vv)]))):=Ext.new hp
     have k0:Lm X.K (upd H p (.dK (ud [] [(.inl c,.int (-w)),(.inl l,vv)]))) [(.int c,.int (-w))] [(.inl c,.int (-w))]:=.cons ⟨by simp[Lp.IsD,kV],by simp[Lp.IsD]⟩ .nil
     exact Ds (k:=.inl l) (IsD.mono CN X1 _ _ (IsD.pur hpv q3)) k0
    ·simp only[Lp.IsD]
     exact⟨p,rfl,by rw[←hS.len];simp⟩
   ·exact h.elim
  | _=>exact h.elim
 | _=>exact h.elim
end
end Lp
namespace Lp
open PySem PySem.Spec PyProof.Rows L2
section
variable {X : Cx} {φ : Phi} {pos : Pos}
theorem uy:∀(r:List Int) (x:Int),He x r≤x∧(∀y∈r,He x r≤y)∧(He x r=x∨He x r∈r)
 | [],x=>⟨FZ _,by simp,.inl rfl⟩
 | y::r,x=>by
  have ih:=uy r (if y<x then y else x)
  simp only[He]
  split at ih
  ·rename_i hlt
   rw[if_pos hlt]
   refine⟨by lia,fun z hz=>?_,?_⟩
   ·rcases AM.mp hz with rfl | hz
    ·exact ih.1
    ·exact ih.2.1 z hz
   ·rcases ih.2.2 with e | e
    ·exact .inr (by rw[e];simp)
    ·exact .inr (AJ _ e)
  ·rename_i hlt
   rw[if_neg hlt]
   refine⟨ih.1,fun z hz=>?_,?_⟩
   ·rcases AM.mp hz with rfl | hz
    ·lia
    ·exact ih.2.1 z hz
   ·rcases ih.2.2 with e | e
    ·exact .inl e
    ·exact .inr (AJ _ e)
theorem Rj {m:Mk} (hc:X.calm=true):gm X (.builtin "min") (uo X.K (btD .min1 m)):=by
 intro pins s σ H xs us Q I r ⟨ι,ds,μ,hS,hds,h⟩
 obtain⟨d,v,rfl,hv,h⟩:=mz hds h
 obtain⟨a,ns,rfl,hq,h⟩:=B8 hS hv h
 obtain⟨u,rfl,ru⟩:=vals1 r
 cases(show u=Value.ref a from ru)
 cases ns with
 | nil=>exact h.elim
 | cons n0 r0 =>
 refine call_min_walk (tq I hq (show X.A.in1.handled=none from I.ok.hd hc) fun it fp its St s2 hvs W st hfp hI=>?_)
 have hl:(n0::r0).length=its.length:=by have:=hvs.length;simpa using this
 have at_:∀(i:Nat) w,its[i]? = some w→∃t,w=.int ((n0::r0).getD i 0) t:=fun i w e=>by
  have hi:i<(n0::r0).length:=by rw[hl];exact(AG.mp e).1
  obtain⟨u',e1,⟨t,e2⟩⟩:=hvs.get (i:=i) (x:=.int (n0::r0)[i]) (by rw[BA,AB hi];rfl)
  rw[e]at e1;cases e1
  exact⟨t,by rw[e2];simp[AV,AB hi]⟩
 refine⟨it,fp,[it],its.length,_,St,fun i j=>decide ((n0::r0).getD i 0<(n0::r0).getD j 0),rfl,W,st,hfp,by rw[←hl];simp,CmpOf.ints_lt (fun i=>(n0::r0).getD i 0) at_,fun w h' tk hw hk=>?_⟩
 ·obtain⟨t,rfl⟩:=at_ _ w hw
  have ab:=argBest_lt (fun i=>(n0::r0).getD i 0) (its.length-1)
  have ml:=uy r0 n0
  have hl':r0.length+1=its.length:=by simpa using hl
  have e:(n0::r0).getD (argBest (fun i j=>decide ((n0::r0).getD i 0<(n0::r0).getD j 0)) (its.length-1)) 0=He n0 r0:=by
   apply Int.le_antisymm
   ·have mem:He n0 r0∈n0::r0:=by rcases ml.2.2 with e | e;(rw[e];simp);exact AJ _ e
    obtain⟨k,hk,ek⟩:=BY.mp mem
    have:=ab.2 k (by simp at hk;lia)
    rw[←ek]
    simpa[AV,AB hk]using this
   ·have hb:argBest (fun i j=>decide ((n0::r0).getD i 0<(n0::r0).getD j 0)) (its.length-1)<(n0::r0).length:=by
     have:=ab.1
     simp only[BN];lia
    generalize argBest (fun i j=>decide ((n0::r0).getD i 0<(n0::r0).getD j 0)) (its.length-1)=b at hb
    have mem:(n0::r0).getD b 0∈n0::r0:=by
     rw[AV,AB hb]
     exact BL hb
    rcases AM.mp mem with e | e
    ·rw[e];exact ml.1
    ·exact ml.2.1 _ e
  exact⟨.int (He n0 r0),H,hI h' tk hk,⟨t,by rw[e]⟩,h.ok hS (by simp[IsD])⟩
theorem L7 {m:Mk} {p:Pos} {e:Expr} {xs:Exs} (hm:X.mg "min"=none) (ha:PA X [e] (tEs X.K φ xs)) (hc:X.calm=true:=by rfl) (hg:Gl X "min":=by rfl) (he:starEach [e] X.env=(false,eval e X.env)::starEach [] X.env:=by rfl) (hpl:(backTo pos (starEach [] X.env)).any (·.1)=false:=by rfl) :
  PE X (.Call (.Name "min" p) [e] [] pos) (tE X.K φ (.blt .min1 m xs)):=lr (r:=fun _ _ _=>True) (es:=[]) (je (Rj hc) hg hm (by first | exact JD | decide +kernel) ha (by decide) (by decide) he hpl)
end
end Lp
namespace Lp.Srt
open PySem PySem.W PyProof.Rows
noncomputable def KW {α:Type} (lt:Nat→Nat→Bool) (n:Nat):KasT α→(α→Prop)→Prop
 | .ret a,Q=>Q a
 | .ask i j k,Q=>i<n∧j<n∧KW lt n (k (lt i j)) Q
theorem KW.bd {α β:Type} {lt:Nat→Nat→Bool} {n:Nat} {f:α→KasT β} {Q:β→Prop}:∀{t:KasT α},KW lt n t (fun a=>KW lt n (f a) Q)→KW lt n (t.bind f) Q
 | .ret _,h=>h
 | .ask i j k,h=>⟨h.1,h.2.1,KW.bd h.2.2⟩
theorem KW.weak {α:Type} {lt:Nat→Nat→Bool} {n:Nat} {Q Q':α→Prop} (hq:∀a,Q a→Q' a):∀{t:KasT α},KW lt n t Q→KW lt n t Q'
 | .ret _,h=>hq _ h
 | .ask _ _ _,h=>⟨h.1,h.2.1,KW.weak hq h.2.2⟩
section
variable {r : Nat → Nat} {n : Nat}
noncomputable abbrev ltR (r:Nat→Nat) (i j:Nat):Bool:=decide (r i<r j)
noncomputable def PP (n:Nat) (p:Array Nat):Prop:=p.toList.Perm (List.range n)
noncomputable def Ky (r:Nat→Nat) (p:Array Nat) (x:Nat):Nat:=r (p.getD x 0)
noncomputable def Up (r:Nat→Nat) (p:Array Nat) (k:Nat):Prop:=∀i j,i≤j→j<k→Ky r p i≤Ky r p j
noncomputable def Dn (r:Nat→Nat) (p:Array Nat) (k:Nat):Prop:=∀i j,i≤j→j<k→Ky r p j≤Ky r p i
theorem PP.sz {p:Array Nat} (h:PP n p):p.size=n:=by
 have:=h.length_eq
 simpa using this
theorem PP.inb {p:Array Nat} (h:PP n p) (hn:0<n) (x:Nat):p.getD x 0<n:=by
 by_cases hx:x<p.size
 ·have e:p.getD x 0=p[x]:=by simp[hx]
  rw[e]
  have:p[x]∈List.range n:=h.mem_iff.mp (by simp)
  simpa using this
 ·have e:p.getD x 0=0:=by simp[hx]
  rw[e];exact hn
theorem Ar (p:Array Nat) (x:Nat):Ky r p x=r ((p[x]?).getD 0):=by
 unfold Ky
 rw[Array.getD_eq_getD_getElem?]
theorem PP.rev {p:Array Nat} (h:PP n p) (i j:Nat):PP n (kas_rev p i j):=(HP.mp (mirror_perm p i j ((j-i) / 2))).trans h
theorem PP.bub {p:Array Nat} (h:PP n p) (i d:Nat):PP n (bubble p i d):=(HP.mp (bubble_perm p i d)).trans h
theorem Dz {p:Array Nat} {i j:Nat} (hj:j≤p.size) (hij:i≤j) (x:Nat):Ky r (kas_rev p i j) x=if i≤x∧x<j then Ky r p (i+j-1-x)else Ky r p x:=by
 rw[Ar]
 unfold kas_rev
 rw[getElem?_mirror hj ((j-i) / 2) (by lia) x]
 by_cases h:i≤x∧x<j
 ·rw[if_pos h]
  split
  ·rw[Ar]
  ·rename_i hm
   have:x=i+j-1-x:=by lia
   rw[Ar,←this]
 ·rw[if_neg h,if_neg (by lia),Ar]
theorem N9 {p:Array Nat} {k d:Nat} (hk:k<p.size) (hd:d≤k) (x:Nat):Ky r (bubble p k d) x=if x=k-d then Ky r p k else if k-d<x∧x≤k then Ky r p (x-1)else Ky r p x:=by
 rw[Ar,getElem?_bubble hk d hd x]
 split
 ·rw[Ar]
 ·split
  ·rw[Ar]
  ·rw[Ar]
theorem Ig {p:Array Nat} (hp:PP n p) (hn:0<n):∀(f m:Nat),1≤m→m+f≤n→Up r p m→KW (ltR r) n (kas_asc p f m) (fun q=>m≤q∧q≤m+f∧Up r p q∧(q<m+f→Ky r p q<Ky r p (q-1)))
 | 0,m,_,_,hu=>⟨AI _,AI _,hu,fun h=>absurd h (by lia)⟩
 | f+1,m,h1,h2,hu=>by
  refine⟨hp.inb hn _,hp.inb hn _,?_⟩
  by_cases hc:Ky r p m<Ky r p (m-1)
  ·have e:ltR r (p.getD m 0) (p.getD (m-1) 0)=true:=decide_eq_true hc
   (rw[e];dsimp only;rw[if_pos rfl])
   exact⟨AI _,by lia,hu,fun _=>hc⟩
  ·have e:ltR r (p.getD m 0) (p.getD (m-1) 0)=false:=decide_eq_false hc
   (rw[e];dsimp only;rw[if_neg AZ])
   refine(Ig hp hn f (m+1) (by lia) (by lia) fun i j hij hj=>?_).weak fun q hq=>⟨by lia,by lia,hq.2.2.1,fun h=>hq.2.2.2 (by lia)⟩
   by_cases hj':j<m
   ·exact hu i j hij hj'
   ·have ej:j=m:=by lia
    subst ej
    by_cases hi:i=j
    ·rw[hi];exact AI _
    ·have:=hu i (j-1) (by lia) (by lia)
     lia
noncomputable def Bk (r:Nat→Nat) (p:Array Nat) (m q:Nat):Prop:=∀x,m-(q+1)≤x→x<m→Ky r p x=Ky r p (m-1)
theorem Ih {p:Array Nat} {m q:Nat} (hm:m≤p.size) (hq:q+1≤m) (hb:Bk r p m q) (x:Nat):Ky r (kas_rev p (m-(q+1)) m) x=Ky r p x:=by
 rw[Dz hm (by lia)]
 split
 ·rename_i h
  rw[hb x h.1 h.2,hb _ (by lia) (by lia)]
 ·rfl
theorem yn (hn:0<n):∀(f:Nat) (p:Array Nat) (m q:Nat),PP n p→1≤m→m+f≤n→q+1≤m→Dn r p m→Bk r p m q →
  KW (ltR r) n (kas_desc f p m q) (fun z=>PP n z.1∧m≤z.2.1∧z.2.1≤m+f∧z.2.2+1≤z.2.1∧Dn r z.1 z.2.1∧Bk r z.1 z.2.1 z.2.2)
 | 0,p,m,q,hp,h1,h2,hq,hd,hb=>⟨hp,AI _,AI _,hq,hd,hb⟩
 | f+1,p,m,q,hp,h1,h2,hq,hd,hb=>by
  have hsz:=hp.sz
  have dn1:∀p':Array Nat,(∀x,Ky r p' x=Ky r p x)→Ky r p m≤Ky r p (m-1)→Dn r p' (m+1):=fun p' he hle i j hij hj=>by
   rw[he,he]
   by_cases hj':j<m
   ·exact hd i j hij hj'
   ·have ej:j=m:=by lia
    subst ej
    by_cases hi:i=j
    ·rw[hi];exact AI _
    ·have:=hd i (j-1) (by lia) (by lia)
     lia
  have bk0:∀p':Array Nat,Bk r p' (m+1) 0:=fun p' x hx hx'=>by
   have:x=m:=by lia
   rw[this];rfl
  refine⟨hp.inb hn _,hp.inb hn _,?_⟩
  by_cases hc:Ky r p m<Ky r p (m-1)
  ·have e:ltR r (p.getD m 0) (p.getD (m-1) 0)=true:=decide_eq_true hc
   (rw[e];dsimp only;rw[if_pos rfl])
   by_cases h0:q > 0
   ·rw[if_pos h0]
    exact(yn hn f _ (m+1) 0 (hp.rev _ _) (by lia) (by lia) (by lia) (dn1 _ (Ih (by lia) hq hb) (by lia)) (bk0 _)).weak fun z hz=>⟨hz.1,by lia,by lia,hz.2.2.2⟩
   ·rw[if_neg h0]
    exact(yn hn f p (m+1) 0 hp (by lia) (by lia) (by lia) (dn1 p (fun _=>rfl) (by lia)) (bk0 _)).weak fun z hz=>⟨hz.1,by lia,by lia,hz.2.2.2⟩
  ·have e:ltR r (p.getD m 0) (p.getD (m-1) 0)=false:=decide_eq_false hc
   (rw[e];dsimp only;rw[if_neg AZ])
   refine⟨hp.inb hn _,hp.inb hn _,?_⟩
   by_cases hc2:Ky r p (m-1)<Ky r p m
   ·have e2:ltR r (p.getD (m-1) 0) (p.getD m 0)=true:=decide_eq_true hc2
    (rw[e2];dsimp only;rw[if_pos rfl])
    exact⟨hp,AI _,IM _ _,hq,hd,hb⟩
   ·have e2:ltR r (p.getD (m-1) 0) (p.getD m 0)=false:=decide_eq_false hc2
    (rw[e2];dsimp only;rw[if_neg AZ])
    refine(yn hn f p (m+1) (q+1) hp (by lia) (by lia) (by lia) (dn1 p (fun _=>rfl) (by lia)) fun x hx hx'=>?_).weak fun z hz=>⟨hz.1,by lia,by lia,hz.2.2.2⟩
    show Ky r p x=Ky r p m
    by_cases hx2:x=m
    ·rw[hx2]
    ·rw[hb x (by lia) (by lia)];lia
theorem U1 {p:Array Nat} {m:Nat} (hm:m≤p.size) (hd:Dn r p m):Up r (kas_rev p 0 m) m:=fun i j hij hj=>by
 rw[Dz hm (CQ _),Dz hm (CQ _),if_pos (by lia),if_pos (by lia)]
 exact hd _ _ (by lia) (by lia)
theorem Ii {p:Array Nat} {m:Nat} (hp:PP n p) (hn:0<n) (h1:1≤m) (h2:m≤n) (hd:Dn r p m):KW (ltR r) n (kas_tail3 m n p) (fun z=>1≤z.1∧z.1≤n∧PP n z.2∧Up r z.2 z.1):=by
 unfold kas_tail3
 refine KW.bd ((Ig (hp.rev _ _) hn (n-m) m h1 (by lia) (U1 (by rw[hp.sz];exact h2) hd)).weak fun q hq=>?_)
 exact⟨by lia,by lia,hp.rev _ _,hq.2.2.1⟩
theorem Ij {p:Array Nat} {m:Nat} (hp:PP n p) (hn:0<n) (h1:1≤m) (h2:m<n) (hd:Dn r p m) (hlt:Ky r p m<Ky r p (m-1)):KW (ltR r) n (kas_descPart m n p) (fun z=>1≤z.1∧z.1≤n∧PP n z.2∧Up r z.2 z.1):=by
 unfold kas_descPart
 have hd1:Dn r p (m+1):=fun i j hij hj=>by
  by_cases hj':j<m
  ·exact hd i j hij hj'
  ·have ej:j=m:=by lia
   subst ej
   by_cases hi:i=j
   ·rw[hi];exact AI _
   ·have:=hd i (j-1) (by lia) (by lia)
    lia
 refine KW.bd ((yn hn (n-(m+1)) p (m+1) 0 hp (by lia) (by lia) (by lia) hd1 fun x hx hx'=>by rw[show x=m by lia];rfl).weak fun z hz=>?_)
 obtain⟨hp',g1,g2,g3,g4,g5⟩:=hz
 by_cases h0:z.2.2 > 0
 ·rw[if_pos h0]
  refine Ii (hp'.rev _ _) hn (by lia) (by lia) fun i j hij hj=>?_
  rw[Ih (by rw[hp'.sz];lia) g3 g5,Ih (by rw[hp'.sz];lia) g3 g5]
  exact g4 i j hij hj
 ·rw[if_neg h0]
  exact Ii hp' hn (by lia) (by lia) g4
theorem L8 {p:Array Nat} (hp:PP n p) (hn:2≤n):KW (ltR r) n (kas_count n p) (fun z=>1≤z.1∧z.1≤n∧PP n z.2∧Up r z.2 z.1):=by
 unfold kas_count
 have hn0:0<n:=by lia
 refine KW.bd ((Ig hp hn0 (n-1) 1 (AI _) (by lia) fun i j hij hj=>by rw[show i=j by lia];exact AI _).weak fun q hq=>?_)
 obtain⟨g1,g2,g3,g4⟩:=hq
 by_cases h0:q=n
 ·rw[if_pos (by simp[h0])]
  exact⟨by lia,by lia,hp,g3⟩
 ·rw[if_neg (by simp[h0])]
  have hlt:=g4 (by lia)
  by_cases h1:q > 1
  ·rw[if_pos h1]
   refine⟨hp.inb hn0 _,hp.inb hn0 _,?_⟩
   by_cases hc:Ky r p 0<Ky r p (q-1)
   ·have e:ltR r (p.getD 0 0) (p.getD (q-1) 0)=true:=decide_eq_true hc
    (rw[e];dsimp only;rw[if_pos rfl])
    exact⟨by lia,by lia,hp,g3⟩
   ·have e:ltR r (p.getD 0 0) (p.getD (q-1) 0)=false:=decide_eq_false hc
    (rw[e];dsimp only;rw[if_neg AZ])
    have all:∀x,x<q→Ky r p x=Ky r p 0:=fun x hx=>by
     have a:=g3 0 x (by lia) hx
     have b:=g3 x (q-1) (by lia) (by lia)
     lia
    have same:∀x,Ky r (kas_rev p 0 q) x=Ky r p x:=fun x=>by
     rw[Dz (by rw[hp.sz];lia) (by lia)]
     split
     ·rw[all x (by lia),all _ (by lia)]
     ·rfl
    refine Ij (hp.rev _ _) hn0 (by lia) (by lia) (fun i j hij hj=>?_) ?_
    ·rw[same,same,all i (by lia),all j hj]
     exact AI _
    ·rw[same,same];exact hlt
  ·rw[if_neg h1]
   have e1:q=1:=by lia
   subst e1
   exact Ij hp hn0 (by lia) (by lia) (fun i j hij hj=>by rw[show i=j by lia];exact AI _) hlt
theorem yo {p:Array Nat} {k:Nat} (hp:PP n p) (hn:0<n) (hu:Up r p k):∀(f l q:Nat),l≤q→q≤k→q-l≤f→(∀x,x<l→Ky r p x≤Ky r p k)→(∀x,q≤x→x<k→Ky r p k<Ky r p x) →
  KW (ltR r) n (kas_place p k f l q) (fun z=>z≤k∧(∀x,x<z→Ky r p x≤Ky r p k)∧∀x,z≤x→x<k→Ky r p k<Ky r p x)
 | 0,l,q,h1,h2,h3,ha,hb=>⟨by lia,ha,fun x hx=>hb x (by lia)⟩
 | f+1,l,q,h1,h2,h3,ha,hb=>by
  unfold kas_place
  by_cases h0:l≥q
  ·rw[if_pos h0]
   exact⟨by lia,ha,fun x hx=>hb x (by lia)⟩
  ·rw[if_neg h0]
   refine⟨hp.inb hn _,hp.inb hn _,?_⟩
   by_cases hc:Ky r p k<Ky r p ((l+q) / 2)
   ·have e:ltR r (p.getD k 0) (p.getD ((l+q) / 2) 0)=true:=decide_eq_true hc
    (rw[e];dsimp only;rw[if_pos rfl])
    refine yo hp hn hu f l ((l+q) / 2) (by lia) (by lia) (by lia) ha fun x hx hx'=>?_
    have:=hu ((l+q) / 2) x hx hx'
    lia
   ·have e:ltR r (p.getD k 0) (p.getD ((l+q) / 2) 0)=false:=decide_eq_false hc
    (rw[e];dsimp only;rw[if_neg AZ])
    refine yo hp hn hu f ((l+q) / 2+1) q (by lia) h2 (by lia) (fun x hx=>?_) hb
    have:=hu x ((l+q) / 2) (by lia) (by lia)
    lia
theorem Oa (hn:0<n):∀(f:Nat) (p:Array Nat) (k:Nat),PP n p→k+f=n→1≤k→Up r p k→KW (ltR r) n (kas_bin f p k) (fun z=>PP n z∧Up r z n)
 | 0,p,k,hp,h1,_,hu=>⟨hp,by rw[←h1];exact hu⟩
 | f+1,p,k,hp,h1,h2,hu=>by
  unfold kas_bin
  refine KW.bd ((yo hp hn hu k 0 k (by lia) (AI _) (by lia) (fun x hx=>absurd hx (by lia)) (fun x hx hx'=>absurd hx' (by lia))).weak fun l hl=>?_)
  obtain⟨g1,g2,g3⟩:=hl
  refine Oa hn f _ (k+1) (hp.bub _ _) (by lia) (by lia) fun i j hij hj=>?_
  have hsz:=hp.sz
  have ek:k-(k-l)=l:=by lia
  rw[N9 (by lia) (by lia),N9 (by lia) (by lia),ek]
  by_cases i1:i=l
  ·rw[if_pos i1]
   by_cases j1:j=l
   ·rw[if_pos j1];exact AI _
   ·rw[if_neg j1,if_pos (by lia)]
    exact ET (g3 (j-1) (by lia) (by lia))
  ·rw[if_neg i1]
   by_cases i2:l<i∧i≤k
   ·rw[if_pos i2,if_neg (show ¬j=l by lia),if_pos (by lia)]
    exact hu (i-1) (j-1) (by lia) (by lia)
   ·rw[if_neg i2]
    by_cases j1:j=l
    ·rw[if_pos j1];exact g2 i (by lia)
    ·rw[if_neg j1]
     by_cases j2:l<j∧j≤k
     ·rw[if_pos j2]
      exact hu i (j-1) (by lia) (by lia)
     ·rw[if_neg j2]
      exact hu i j hij (by lia)
theorem Rk (hn:2≤n):KW (ltR r) n (kas_sort n) (fun z=>PP n z∧Up r z n):=by
 unfold kas_sort
 have hp:PP n (List.toArray (List.range n)):=by unfold PP;rw[HF]
 refine KW.bd ((L8 hp hn).weak fun z hz=>?_)
 obtain⟨g1,g2,g3,g4⟩:=hz
 by_cases h:z.1<n
 ·rw[if_pos h]
  have em:max z.1 1=z.1:=by lia
  rw[em]
  exact Oa (by lia) (n-z.1) z.2 z.1 g3 (by lia) g1 g4
 ·rw[if_neg h]
  have:z.1=n:=by lia
  rw[this]at g4
  exact⟨g3,g4⟩
end
end Lp.Srt
namespace Lp.Srt
open PySem PySem.W PyProof.Rows PySem.Calls
section
variable {prog : Program} {w : World} {A : Around} {E : Value → Shared → Prop} {s : Shared}
theorem U2 {α:Type} {lt:Nat→Nat→Bool} {n:Nat} {cmp:Nat→Nat→(Bool→Shared→Prop)→Shared→Prop} {s1:Shared} {Q:α→Prop} (hc:∀i j C,i<n→j<n→C (lt i j) s1→cmp i j C s1) :
  ∀{t:KasT α},KW lt n t Q→t.kasWp cmp (fun a s'=>s'=s1∧Q a) s1
 | .ret _,h=>⟨rfl,h⟩
 | .ask i j _,h=>hc i j _ h.1 h.2.1 (U2 hc h.2.2)
theorem o8 (vs:List Value):(List.range vs.length).map (fun i=>vs.getD i Value.none)=vs:=by
 apply BV
 intro i
 by_cases h:i<vs.length
 ·simp[h]
 ·simp[h]
theorem As {a:Addr} {vs:List Value} {c0:Nat} {P:PySem.Fin→Shared→Prop} (q0:s.heap.get? a=some (seqObj "list" vs.toArray c0)) (hsm:vs.length<64) (rk:Nat→Nat)
  (hk:2≤vs.length→∀g:Heap,(∀b o,b≠a→s.heap.get? b=some o→g.get? b=some o)→∃κ:SortKind,(∀(Q:SortKind→Shared→Prop) (E':Value→Shared→Prop),Q κ {s with heap:=g}→wpAny (model prog w) A (keyKind' vs.toArray) Q E' {s with heap:=g}) ∧
   ∀(i j:Nat) (C:Bool→Shared→Prop),i<vs.length→j<vs.length→C (decide (rk i<rk j)) {s with heap:=g}→wpAny (model prog w) A (keyLt' κ (vs.getD i Value.none) (vs.getD j Value.none)) C (fun _ _=>False) {s with heap:=g})
  (fin:∀p:Array Nat,PP vs.length p→Up rk p vs.length→P (.done (.ret .none)) {s with heap:=sortedHeap s.heap a vs (List.toArray (p.toList.map fun i=>vs.getD i Value.none))}) :
  wpAny (model prog w) A (Builtin.«list.sort» ⟨[.ref a],[]⟩) P E s:=by
 rw[list_sort_plain]
 have lta:a<s.heap.objs.size:=AL q0
 have small:vs.toArray.size≤sizeLine:=by rw[AE,DP];lia
 refine AA (listItems_at q0 rfl (AA (listUpdate_at q0 rfl ?_ small (CQ _))))
 obtain⟨e1,q1⟩:∃e1,(s.heap.update a (Obj.mapSeq fun _=>(#[]:Array Value))).get? a=some (seqObj "list" #[] e1):=⟨_,IZ q0 (fun _=>#[])⟩
 refine AA (seqEpoch_at q1 rfl (AA (HL (AA (wpAny_newList (CS ?_) (CQ _))) (by simpa using small))))
 have sz1:(s.heap.update a (Obj.mapSeq fun _=>(#[]:Array Value))).objs.size=s.heap.objs.size:=Heap.size_update _ _ _
 have q6:(((s.heap.update a (Obj.mapSeq fun _=>(#[]:Array Value))).push (seqObj "tuple" vs.toArray 0)).push (seqObj "list" #[] 0)).get? a=some (seqObj "list" #[] e1):=AC _ (AC _ q1)
 have old:∀b o,b≠a→s.heap.get? b=some o→(((s.heap.update a (Obj.mapSeq fun _=>(#[]:Array Value))).push (seqObj "tuple" vs.toArray 0)).push (seqObj "list" #[] 0)).get? b=some o:=fun b o hb e =>
  AC _ (AC _ (by rw[DU _ _ _ _ hb];exact e))
 show wpAny (model prog w) A _ P E {s with heap:=((s.heap.update a (Obj.mapSeq fun _=>(#[]:Array Value))).push (seqObj "tuple" vs.toArray 0)).push (seqObj "list" #[] 0)}
 dsimp only
 by_cases hs2:vs.toArray.size<2
 ·have hs2':vs.length<2:=by simpa using hs2
  rw[if_pos hs2,if_pos hs2]
  refine AA (AD ?_)
  rw[StateT.run_pure]
  refine AA (AD ?_)
  dsimp only
  have eo:(arrOf (SortSt.mk' general' (vs.toArray.zip vs.toArray) #[] 7 none)).map (·.2)=List.toArray ((List.toArray (List.range vs.length)).toList.map fun i=>vs.getD i Value.none):=by
   show(vs.toArray.zip vs.toArray).map (·.2)=_
   rw[HF,o8]
   apply Array.toList_inj.mp
   simp[List.map_snd_zip]
  rw[eo]
  refine AA (seqEpoch_at q6 rfl (AA (listUpdate_at q6 rfl ?_ (CQ _) (by rw[HF,o8];lia))))
  simp only[bne_self_eq_false,AT,if_false]
  refine AD (fin (List.toArray (List.range vs.length)) (List.Perm.refl _) fun i j hij hj=>?_)
  rw[show i=j by lia]
  exact AI _
 ·have h2:2≤vs.length:=by simp at hs2;lia
  rw[if_neg hs2,if_neg hs2]
  obtain⟨κ,k1,k2⟩:=hk h2 _ old
  refine AA (k1 _ _ ?_)
  have run:=kat_run (prog:=prog) (w:=w) (A:=A) (E:=E) (κ:=κ) (ks:=vs) (vs:=vs) (s:={s with heap:=((s.heap.update a (Obj.mapSeq fun _=>(#[]:Array Value))).push (seqObj "tuple" vs.toArray 0)).push (seqObj "list" #[] 0)})
   (Q:=fun st' s'=>s'={s with heap:=((s.heap.update a (Obj.mapSeq fun _=>(#[]:Array Value))).push (seqObj "tuple" vs.toArray 0)).push (seqObj "list" #[] 0)}∧failedOf st'=none∧∃p:Array Nat,PP vs.length p∧Up rk p vs.length∧(arrOf st').map (·.2)=List.toArray (p.toList.map fun i=>vs.getD i Value.none))
   (G:=fun p s'=>s'={s with heap:=((s.heap.update a (Obj.mapSeq fun _=>(#[]:Array Value))).push (seqObj "tuple" vs.toArray 0)).push (seqObj "list" #[] 0)}∧PP vs.length p∧Up rk p vs.length)
   rfl h2 hsm (fun p st' s' _ har hf hg=>⟨hg.1,hf,p,hg.2.1,hg.2.2,kat_snds rfl har⟩) (U2 (lt:=ltR rk) (fun i j C hi hj hC=>k2 i j C hi hj hC) (Rk h2))
  refine AA (DZ run ?_ fun _ _ x=>x)
  rintro⟨⟨⟩,st'⟩ s' ⟨rfl,hf,p,hp,hu,ho⟩
  dsimp only
  rw[ho]
  refine AA (seqEpoch_at q6 rfl (AA (listUpdate_at q6 rfl ?_ (CQ _) (by rw[AE,AF,BP,hp.sz];simp at small;lia))))
  rw[hf]
  simp only[bne_self_eq_false,AT,if_false]
  exact AD (fin p hp hu)
theorem Ik {l:Addr} {vs:List Value} {Q:Value→Shared→Prop} (hl:s.heap.IsList l vs.toArray) (hsm:vs.length<64) (rk:Nat→Nat)
  (hk:2≤vs.length→∀(A':Around) (g:Heap),(∀b o,s.heap.get? b=some o→g.get? b=some o)→∃κ:SortKind,(∀(Q:SortKind→Shared→Prop) (E':Value→Shared→Prop),Q κ {s with heap:=g}→wpAny (model prog w) A' (keyKind' vs.toArray) Q E' {s with heap:=g}) ∧
   ∀(i j:Nat) (C:Bool→Shared→Prop),i<vs.length→j<vs.length→C (decide (rk i<rk j)) {s with heap:=g}→wpAny (model prog w) A' (keyLt' κ (vs.getD i Value.none) (vs.getD j Value.none)) C (fun _ _=>False) {s with heap:=g})
  (fin:∀p:Array Nat,PP vs.length p→Up rk p vs.length→Q (.ref (s.heap.objs.size+1)) {s with heap:=sortedAll s.heap vs (List.toArray (p.toList.map fun i=>vs.getD i Value.none))}) :
  wpAny (model prog w) A (call (.builtin "sorted") [.ref l]) Q E s:=by
 have small:vs.length≤sizeLine:=by rw[DP];lia
 refine HW kind_sorted plain_sorted entry_sorted (args_sorted1 _) ?_
 unfold Builtin.«sorted»
 refine AA (m:=checkCount "sorted" 1 1 _) (AD (AA (collect_list hl (AA (wpAny_newList ?_ small)) small)))
 have szL:((s.heap.push (seqObj "list" #[] 0)).update s.heap.objs.size (Obj.mapSeq (·++vs.toArray))).objs.size=s.heap.objs.size+1:=by rw[Heap.size_update,size_push']
 have qL:(((s.heap.push (seqObj "list" #[] 0)).update s.heap.objs.size (Obj.mapSeq (·++vs.toArray))).push (seqObj "list" vs.toArray 0)).get? (s.heap.objs.size+1)=some (seqObj "list" vs.toArray 0):=szL ▸ AH _ rfl
 have old:∀b o,s.heap.get? b=some o→(((s.heap.push (seqObj "list" #[] 0)).update s.heap.objs.size (Obj.mapSeq (·++vs.toArray))).push (seqObj "list" vs.toArray 0)).get? b=some o:=fun b o e =>
  AC _ (by rw[DU _ _ _ _ (AR (AL e))];exact AC _ e)
 show wpAny _ _ _ _ _ {s with heap:=(((s.heap.push (seqObj "list" #[] 0)).update s.heap.objs.size (Obj.mapSeq (·++vs.toArray))).push (seqObj "list" vs.toArray 0))}
 rw[szL]
 refine AA (CS (BK slot_list_sort ⟨_,qL,rfl⟩ entry_list_sort ?go (args_list_sort _)))
 case go =>
  refine As (s:={s with heap:=(((s.heap.push (seqObj "list" #[] 0)).update s.heap.objs.size (Obj.mapSeq (·++vs.toArray))).push (seqObj "list" vs.toArray 0))}) qL hsm rk (fun h2 g hg=>hk h2 _ g fun b o e=>hg b o (AR (DS (AL e))) (old b o e)) fun p hp hu=>⟨_,rfl,?_⟩
  exact AD ⟨_,rfl,fin p hp hu⟩
end
end Lp.Srt
namespace Lp.Srt
open PySem PySem.W PyProof.Rows PySem.Calls
theorem Cd:∀a:List Int,lexLt a a=false
 | []=>rfl
 | x::xs=>by simp[lexLt,Cd xs]
theorem D0:∀{a b c:List Int},lexLt a b=true→lexLt b c=true→lexLt a c=true
 | a,b,[],_,h=>by cases b<;>simp[lexLt]at h
 | [],_,_::_,_,_=>rfl
 | x::xs,[],c::cs,h,_=>by simp[lexLt]at h
 | x::xs,y::ys,z::zs,h1,h2=>by
  simp only[lexLt]at h1 h2 ⊢
  by_cases e1:x=y
  ·subst e1
   by_cases e2:x=z
   ·subst e2
    simp only[if_true]at h1 h2 ⊢
    exact D0 h1 h2
   ·simp only[if_true]at h1
    rw[if_neg e2]at h2 ⊢
    exact h2
  ·rw[if_neg e1]at h1
   have h1':=of_decide_eq_true h1
   by_cases e2:y=z
   ·subst e2
    rw[if_neg e1]
    exact h1
   ·rw[if_neg e2]at h2
    have h2':=of_decide_eq_true h2
    rw[if_neg (show ¬x=z by lia)]
    exact decide_eq_true (by lia)
theorem Ce:∀{a b:List Int},lexLt a b=false→lexLt b a=false→a=b
 | [],[],_,_=>rfl
 | [],_::_,h,_=>by simp[lexLt]at h
 | _::_,[],_,h=>by simp[lexLt]at h
 | x::xs,y::ys,h1,h2=>by
  simp only[lexLt]at h1 h2
  by_cases e:x=y
  ·subst e
   simp only[if_true]at h1 h2
   rw[Ce h1 h2]
  ·rw[if_neg e]at h1
   rw[if_neg (Ne.symm e)]at h2
   have a1:=of_decide_eq_false h1
   have a2:=of_decide_eq_false h2
   lia
theorem Ob {r a b:List Int} (h1:lexLt r b=true) (h2:lexLt a b=false):lexLt r a=true:=by
 cases e:lexLt r a with
 | true=>rfl
 | false =>
  cases e2:lexLt a r with
  | true=>rw[D0 e2 h1]at h2;cases h2
  | false=>rw[Ce e e2,h2]at h1;cases h1
theorem U3 {a b:List Int} (h:lexLt a b=true):lexLt b a=false:=by
 cases e:lexLt b a with
 | false=>rfl
 | true=>have:=D0 h e;rw[Cd]at this;cases this
theorem Au {α:Type} {p q:α→Bool}:∀{l:List α},(∀x∈l,p x=true→q x=true)→(∃x∈l,q x=true∧p x=false)→l.countP p<l.countP q
 | [],_,h=>by obtain⟨x,hx,_⟩:=h;simp at hx
 | y::r,h1,h2=>by
  have le:r.countP p≤r.countP q:=JE fun x hx=>h1 x (AJ _ hx)
  obtain⟨x,hx,hq,hp⟩:=h2
  rcases AM.mp hx with rfl | hx
  ·simp[DY,hq,hp];lia
  ·have:=Au (l:=r) (fun z hz=>h1 z (AJ _ hz)) ⟨x,hx,hq,hp⟩
   have h0:=h1 y AQ
   simp only[DY]
   cases e1:p y with
   | true=>simp[h0 e1];lia
   | false=>simp;lia
noncomputable def rkL (rs:List (List Int)) (i:Nat):Nat:=rs.countP fun r=>lexLt r (rs.getD i [])
theorem U4 {rs:List (List Int)} {i j:Nat} (hi:i<rs.length) (hj:j<rs.length):decide (rkL rs i<rkL rs j)=lexLt (rs.getD i []) (rs.getD j []):=by
 have mi:rs.getD i []∈rs:=by rw[show rs.getD i []=rs[i]by simp[hi]];exact BL hi
 cases e:lexLt (rs.getD i []) (rs.getD j [])with
 | true=>exact decide_eq_true (Au (fun x _ h=>D0 h e) ⟨_,mi,e,Cd _⟩)
 | false =>
  refine decide_eq_false (Nat.not_lt.mpr ?_)
  exact JE fun x _ h=>Ob h e
theorem yp (x:List Int):∀l:List (List Int),(Qi x l).Perm (x::l)
 | []=>.refl _
 | y::r=>by
  unfold Qi
  split
  ·exact((yp x r).cons y).trans (.swap x y r)
  ·exact .refl _
theorem jw:∀l:List (List Int),(vo l).Perm l
 | []=>.refl _
 | x::r=>(yp x (vo r)).trans ((jw r).cons x)
theorem Oc (x:List Int):∀l:List (List Int),l.Pairwise (fun a b=>lexLt b a=false)→(Qi x l).Pairwise (fun a b=>lexLt b a=false)
 | [],_=>by simp[Qi]
 | y::r,h=>by
  unfold Qi
  have h':=BO.mp h
  split
  ·rename_i hc
   refine BO.mpr ⟨fun z hz=>?_,Oc x r h'.2⟩
   rcases AM.mp ((yp x r).mem_iff.mp hz)with rfl | hz
   ·exact U3 hc
   ·exact h'.1 z hz
  ·rename_i hc
   have hc':lexLt y x=false:=by simpa using hc
   refine BO.mpr ⟨fun z hz=>?_,h⟩
   rcases AM.mp hz with rfl | hz
   ·exact hc'
   ·cases e:lexLt z x with
    | false=>rfl
    | true=>have:=Ob e hc';rw[h'.1 z hz]at this;cases this
theorem yq:∀l:List (List Int),(vo l).Pairwise (fun a b=>lexLt b a=false)
 | []=>.nil
 | x::r=>Oc x _ (yq r)
theorem range_getD {α:Type} (d:α) (l:List α):(List.range l.length).map (fun i=>l.getD i d)=l:=by
 apply BV
 intro i
 by_cases h:i<l.length<;>simp[h]
theorem Il {rs:List (List Int)} {p:Array Nat} (hp:PP rs.length p) (hu:Up (rkL rs) p rs.length):p.toList.map (fun i=>rs.getD i [])=vo rs:=by
 have p1:(p.toList.map fun i=>rs.getD i []).Perm rs:=by
  have:=hp.map fun i=>rs.getD i []
  rwa [range_getD]at this
 refine List.Perm.eq_of_pairwise (le:=fun a b=>lexLt b a=false) (fun a b _ _ h1 h2=>Ce h2 h1) ?_ (yq rs) (p1.trans (jw rs).symm)
 rw[CY]
 intro i j hi hj hij
 have hsz:=hp.sz
 simp only[AF,BP]at hi hj
 simp only[IN,Array.getElem_toList]
 have bi:p[i]<rs.length:=by simpa using hp.mem_iff.mp (show p[i]∈p.toList by simp)
 have bj:p[j]<rs.length:=by simpa using hp.mem_iff.mp (show p[j]∈p.toList by simp)
 rw[←U4 bj bi]
 refine decide_eq_false (Nat.not_lt.mpr ?_)
 have:=hu i j (by lia) (by lia)
 unfold Ky at this
 simpa[hi,hj]using this
end Lp.Srt
namespace Lp
open PySem PySem.Spec PyProof.Rows L2 Lp.Srt
section
variable {X : Cx} {φ : Phi} {pos : Pos}
theorem Im {prog:Program} {w:World} {A:Around} {s:Shared} {fin:Bool} {Q:Bool→Shared→Prop}:∀(r1 r2:List Int) (u1 u2:List Value) (i:Nat),cq (r1.map V.int) u1→cq (r2.map V.int) u2→fin=decide (r1.length<r2.length)→Q (lexLt r1 r2) s →
  PySem.W.KatLex prog w A true fin Q (u1.zip u2) i s
 | [],[],u1,u2,i,h1,h2,hf,q=>by
  cases h1;cases h2
  rw[hf];exact q
 | [],_::_,u1,u2,i,h1,h2,hf,q=>by
  cases h1
  rw[hf];simpa[PySem.W.KatLex,lexLt]using q
 | _::_,[],u1,u2,i,h1,h2,hf,q=>by
  cases h2
  rw[hf,FU];simpa[PySem.W.KatLex,lexLt]using q
 | x::r1,y::r2,u1,u2,i,h1,h2,hf,q=>by
  rw[AS]at h1 h2
  cases h1 with
  | cons a1 b1 =>
   cases h2 with
   | cons a2 b2 =>
    obtain⟨t1,rfl⟩:=a1
    obtain⟨t2,rfl⟩:=a2
    rw[DM]
    refine PySem.W.kat_cons (wpAny_eqBool_int (PySem.W.kat_go (fun e=>PySem.W.kat_yes ?_) fun e=>PySem.W.kat_no ?_))
    ·have e':x=y:=by simpa using e
     refine Im r1 r2 _ _ (i+1) b1 b2 (by rw[hf];simp) ?_
     simpa[lexLt,e']using q
    ·have e':¬x=y:=by simpa using e
     have q':Q (decide (x<y)) s:=by simpa[lexLt,e']using q
     cases hi:(true&&i==0)with
     | true=>exact oneLt_int q'
     | false=>exact PySem.W.kat_one _ _ (lt_int (show PySem.W.BoolBack Q (.bool (decide (x<y))) s from q'))
theorem L9 (ns:List Int):fu (ns.map D.int)=some ns:=by
 induction ns with
 | nil=>rfl
 | cons n r ih=>simp[fu,ih]
theorem D1:∀{ds:List D} {ns:List Int},fu ds=some ns→ns.map D.int=ds
 | [],ns,h=>by simp[fu]at h;subst h;rfl
 | .int i::r,ns,h=>by
  simp only[fu]at h
  cases e:fu r with
  | none=>rw[e]at h;simp at h
  | some q =>
   rw[e]at h
   simp at h
   subst h
   rw[AS,D1 e]
 | .non::_,_,h=>by simp[fu]at h
 | .bl _::_,_,h=>by simp[fu]at h
 | .str _::_,_,h=>by simp[fu]at h
 | .tup _::_,_,h=>by simp[fu]at h
 | .lst _::_,_,h=>by simp[fu]at h
 | .loc _::_,_,h=>by simp[fu]at h
theorem U5 {ι:List Addr} {H:Hp} {pins:List (Addr×Obj)} {σ:St} {s:Shared} (I:Inv X pins σ H s) {r:List Int} {v:V} {u:Value} (hd:IsD X.K ι H (.tup (r.map D.int)) v) (hu:RelV v u):∃a its,u=.ref a∧IsTup s.heap a (List.toArray its)∧cq (r.map V.int) its:=by
 simp only[IsD]at hd
 obtain⟨a,xs,rfl,hq,hx⟩:=hd
 cases(show u=Value.ref a from hu)
 obtain⟨its,rv,tp,_⟩:=I.tuple hq
 refine⟨a,its,rfl,tp,?_⟩
 have e:xs=r.map V.int:=ints_of hx (L9 r)
 rw[←e];exact rv
theorem Av:∀{xs:List D} {rs:List (List Int)},rowsOf xs=some rs→xs=rs.map fun r=>D.tup (r.map D.int)
 | [],rs,h=>by simp[rowsOf]at h;subst h;rfl
 | .tup ds::r,rs,h=>by
  simp only[rowsOf]at h
  cases e1:fu ds with
  | none=>rw[e1]at h;simp at h
  | some ns =>
   rw[e1]at h
   cases e2:rowsOf r with
   | none=>rw[e2]at h;simp at h
   | some q =>
    rw[e2]at h
    simp at h
    subst h
    rw[AS,D1 e1,←Av e2]
 | .non::_,_,h=>by simp[rowsOf]at h
 | .bl _::_,_,h=>by simp[rowsOf]at h
 | .int _::_,_,h=>by simp[rowsOf]at h
 | .str _::_,_,h=>by simp[rowsOf]at h
 | .lst _::_,_,h=>by simp[rowsOf]at h
 | .loc _::_,_,h=>by simp[rowsOf]at h
noncomputable def yr (g:Heap) (r:List Int) (u:Value):Prop:=r≠[]∧∃a its,u=Value.ref a∧IsTup g a (List.toArray its)∧cq (r.map V.int) its
theorem Io {ι:List Addr} {H:Hp} {pins:List (Addr×Obj)} {σ:St} {s:Shared} (I:Inv X pins σ H s):∀{rs:List (List Int)} {xs:List V} {us:List Value},(rs.all fun r=>!r.isEmpty)=true→aq X.K ι H (rs.map fun r=>D.tup (r.map D.int)) xs→cq xs us→Paired (yr s.heap) rs us
 | [],xs,us,_,h1,h2=>by
  have:xs=[]:=by simpa[aq]using h1
  subst this
  cases h2
  exact .nil
 | r::rs,xs,us,hn,h1,h2=>by
  rw[AS]at h1
  simp only[aq]at h1
  obtain⟨v,q,rfl,hd,ht⟩:=h1
  rw[BD,BC]at hn
  cases h2 with
  | cons a b=>exact .cons ⟨fun z=>by rw[z]at hn;simp at hn,U5 I hd a⟩ (Io I hn.2 ht b)
theorem yr.keep {g g':Heap} {r:List Int} {u:Value} (h:yr g r u) (k:∀b o,g.get? b=some o→g'.get? b=some o):yr g' r u:=by
 obtain⟨h0,a,its,e,⟨o,q1,q2,q3⟩,v⟩:=h
 exact⟨h0,a,its,e,⟨o,k _ _ q1,q2,q3⟩,v⟩
theorem Aw {g:Heap}:∀{rs:List (List Int)} {us:List Value},Paired (yr g) rs us→∃fs,PySem.W.KatTups g us fs∧fs.length=us.length∧∀v∈fs,∃i t,v=Value.int i t
 | _,_,.nil=>⟨[],.nil,rfl,by simp⟩
 | r::rs,_,.cons h t=>by
  obtain⟨fs,f1,f2,f3⟩:=Aw t
  obtain⟨h0,a,its,rfl,⟨o,q1,q2,n,q3⟩,v⟩:=h
  cases r with
  | nil=>exact absurd rfl h0
  | cons x r =>
   rw[AS]at v
   cases v with
   | cons a1 b1 =>
    obtain⟨t1,rfl⟩:=a1
    refine⟨.int x t1::fs,.cons q1 q2 q3 (by simp) f1,by simp[f2],fun z hz=>?_⟩
    rcases AM.mp hz with rfl | hz
    ·exact⟨_,_,rfl⟩
    ·exact f3 z hz
theorem qe {α β:Type} {R:α→β→Prop} {d:α} {e:β}:∀{xs:List α} {ys:List β},Paired R xs ys→∀i,i<xs.length→R (xs.getD i d) (ys.getD i e)
 | _,_,.nil,i,h=>by simp at h
 | _,_,.cons a _,0,_=>by simpa using a
 | _,_,.cons _ t,i+1,h=>by simpa using qe t i (by simpa using h)
theorem D2 {K:PySem.W.Frag} {ι:List Addr} {H:Hp} {f:Nat→D} {g:Nat→V}:∀{l:List Nat},(∀i∈l,IsD K ι H (f i) (g i))→aq K ι H (l.map f) (l.map g)
 | [],_=>by simp[aq]
 | i::l,h=>by
  rw[AS,AS]
  simp only[aq]
  exact⟨_,_,rfl,h i AQ,D2 fun j hj=>h j (AJ _ hj)⟩
theorem D3 {f:Nat→V} {g:Nat→Value}:∀{l:List Nat},(∀i∈l,RelV (f i) (g i))→cq (l.map f) (l.map g)
 | [],_=>.nil
 | i::l,h=>.cons (h i AQ) (D3 fun j hj=>h j (AJ _ hj))
theorem Rl {K:PySem.W.Frag} {ι:List Addr} {H:Hp} {ds:List D} {xs:List V} (h:aq K ι H ds xs) {i:Nat} (hi:i<ds.length):IsD K ι H (ds.getD i .non) (xs.getD i .non):=by
 obtain⟨v,e,q⟩:=h.get (show ds[i]? = some (ds.getD i .non)by simp[hi])
 have:xs.getD i .non=v:=by rw[AV,e];rfl
 rw[this];exact q
theorem Ip {m:Mk}:gm X (.builtin "sorted") (uo X.K (btD .sorted m)):=by
 intro pins s σ H xs us Q I r ⟨ι,ds,μ,hS,hds,h⟩
 obtain⟨d,v,rfl,hv,h⟩:=mz hds h
 unfold Hf at h
 cases el:Lp.listOf μ d with
 | none=>rw[el]at h;exact h.elim
 | some zs =>
 rw[el]at h
 simp only at h
 split at h
 ·rename_i h64
  unfold By at h
  cases er:rowsOf zs with
  | none=>rw[er]at h;exact h.elim
  | some rs =>
  rw[er]at h
  simp only at h
  split at h
  ·rename_i hne
   obtain⟨a,vV,rfl,hq,hz⟩:=mx hS hv el
   obtain⟨u,rfl,ru⟩:=vals1 r
   cases(show u=Value.ref a from ru)
   obtain⟨its,rv,pl,hlen⟩:=I.list hq.sq
   have ez:=Av er
   subst ez
   have l1:vV.length=rs.length:=by rw[hz.length,AF]
   have l2:its.length=rs.length:=by rw[←rv.length];exact l1
   have hrs:rs.length<64:=by simpa using h64
   have pr:=Io I hne hz rv
   refine Ik pl.isList (by lia) (rkL rs) (fun _ A' g hg=>⟨tuples' true,fun Q' E' q=>?_,fun i j C hi hj hC=>?_⟩) fun p hp hu=>Hg ?_
   ·have pg:Paired (yr g) rs its:=Paired.mapP pr fun r u h=>yr.keep h hg
    obtain⟨fs,f1,f2,f3⟩:=Aw pg
    exact PySem.W.kat_kind (s:={s with heap:=g}) (T:=.type "int") f1 (by lia) (fun v hv=>by obtain⟨i,t,rfl⟩:=f3 v hv;exact PySem.W.Looks.of_pure rfl) (by decide) q
   ·have pg:Paired (yr g) rs its:=Paired.mapP pr fun r u h=>yr.keep h hg
    rw[U4 (by lia) (by lia)]at hC
    obtain⟨_,a1,i1,e1,⟨o1,g1,_,n1,d1⟩,v1⟩:=qe (d:=[]) (e:=Value.none) pg i (by lia)
    obtain⟨_,a2,i2,e2,⟨o2,g2,_,n2,d2⟩,v2⟩:=qe (d:=[]) (e:=Value.none) pg j (by lia)
    rw[e1,e2]
    refine PySem.W.kat_lt (s:={s with heap:=g}) g1 d1 g2 d2 ?_
    have z1:=v1.length
    have z2:=v2.length
    rw[AF]at z1 z2
    exact Im _ _ i1 i2 0 v1 v2 (by simp only[AE,z1,z2]) hC
   ·rw[l2]at hp hu
    obtain⟨e',he⟩:=sortedAll_at s.heap its (List.toArray (p.toList.map fun i=>its.getD i Value.none))
    have mem:∀i∈p.toList,i<rs.length:=fun i hi=>by simpa using hp.mem_iff.mp hi
    have hd:aq X.K ι H ((vo rs).map fun r=>D.tup (r.map D.int)) (p.toList.map fun i=>vV.getD i .non):=by
     rw[←Il hp hu,BB]
     refine D2 fun i hi=>?_
     have:=Rl hz (i:=i) (by rw[AF];exact mem i hi)
     have e3:(rs.map fun r=>D.tup (r.map D.int)).getD i .non=D.tup ((rs.getD i []).map D.int):=by simp[mem i hi]
     rw[e3]at this
     exact this
    have hv2:cq (p.toList.map fun i=>vV.getD i .non) (p.toList.map fun i=>its.getD i Value.none):=D3 fun i hi=>qe rv i (by have:=mem i hi;lia)
    exact⟨.ref (s.heap.objs.size+1),upd H (s.heap.objs.size+1) (.lst (p.toList.map fun i=>vV.getD i .non)),I.laid (t':=s.toks) (fun b u e=>sortedAll_old e) (ES _) ⟨by rw[AF,BP,hp.sz,DP];lia,_,e',hv2,he⟩,rfl,mv hS hd h (I.hok.fresh (ES _))⟩
  ·exact h.elim
 ·exact h.elim
theorem Fu {m:Mk} {p:Pos} {e:Expr} {es:List Expr} {xs:Exs} (hm:X.mg "sorted"=none) (ha:PA X (e::es) (tEs X.K φ xs)) (hg:Gl X "sorted":=by rfl) (he:starEach (e::es) X.env=(false,eval e X.env)::starEach es X.env:=by rfl) (hpl:(backTo pos (starEach es X.env)).any (·.1)=false:=by rfl) :
  PE X (.Call (.Name "sorted" p) (e::es) [] pos) (tE X.K φ (.blt .sorted m xs)):=lr (r:=fun _ _ _=>True) (es:=es) (je Ip hg hm (by first | exact IG | decide +kernel) ha (by decide) (by decide) he hpl)
end
end Lp
namespace Lp.Sets
open PySem PySem.W PyProof.Rows
noncomputable def Rm (xs:Array Nat):Prop:=∀i j,i<j→j<xs.size→xs.getD i 0<xs.getD j 0
theorem getD_in {xs:Array Nat} {i:Nat} (d:Nat) (h:i<xs.size):xs.getD i d=xs.getD i 0:=by simp[h]
noncomputable def U6 (xs:Array Nat) (j p:Nat):Prop:=p≤xs.size∧(∀i,i<p→xs.getD i 0<j)∧∀i,p≤i→i<xs.size→j≤xs.getD i 0
theorem yt {xs:Array Nat} {j:Nat} (hr:Rm xs):∀(f lo hi:Nat),hi-lo≤f→lo≤hi→hi≤xs.size→(∀i,i<lo→xs.getD i 0<j)→(∀i,hi≤i→i<xs.size→j≤xs.getD i 0)→U6 xs j (SetTable.below.go xs j f lo hi)
 | 0,lo,hi,h1,h2,h3,ha,hb=>by
  have e:lo=hi:=by lia
  subst e
  exact⟨h3,ha,hb⟩
 | f+1,lo,hi,h1,h2,h3,ha,hb=>by
  unfold SetTable.below.go
  by_cases hlt:lo<hi
  ·rw[if_pos hlt]
   dsimp only
   have hm:(lo+hi) / 2<xs.size:=by lia
   rw[getD_in j hm]
   by_cases hc:xs.getD ((lo+hi) / 2) 0<j
   ·rw[if_pos hc]
    refine yt hr f _ hi (by lia) (by lia) h3 (fun i hi'=>?_) hb
    by_cases e:i=(lo+hi) / 2
    ·rw[e];exact hc
    ·have:=hr i ((lo+hi) / 2) (by lia) hm
     lia
   ·rw[if_neg hc]
    refine yt hr f lo _ (by lia) (by lia) (by lia) ha fun i hi' hs=>?_
    by_cases e:i=(lo+hi) / 2
    ·rw[e];lia
    ·have:=hr ((lo+hi) / 2) i (by lia) hs
     lia
  ·rw[if_neg hlt]
   have e:lo=hi:=by lia
   subst e
   exact⟨h3,ha,hb⟩
theorem uz {xs:Array Nat} (hr:Rm xs) (j:Nat):U6 xs j (SetTable.below xs j):=yt hr xs.size 0 xs.size (by lia) (by lia) (by lia) (fun i h=>absurd h (by lia)) fun i h h'=>absurd h' (by lia)
theorem yu {α:Type} (xs:Array α) (p:Nat) (x:α):(SetTable.insertAt xs p x).toList=xs.toList.take p++x::xs.toList.drop p:=by
 unfold SetTable.insertAt
 simp[Array.toList_extract,BX]
theorem qf {xs:Array Nat}:Rm xs↔xs.toList.Pairwise (· < ·):=by
 rw[CY]
 constructor
 ·intro h i j hi hj hij
  have h':=h i j hij (by simpa using hj)
  have e1:i<xs.size:=by simpa using hi
  have e2:j<xs.size:=by simpa using hj
  simpa[e1,e2]using h'
 ·intro h i j hij hj
  have:=h i j (by simp;lia) (by simpa using hj) hij
  have e1:i<xs.size:=by lia
  simpa[e1,hj]using this
theorem Cf {xs:Array Nat} {j:Nat} (hr:Rm xs) (hn:xs[SetTable.below xs j]?≠some j):Rm (SetTable.insertAt xs (SetTable.below xs j) j):=by
 obtain⟨h1,h2,h3⟩:=uz hr j
 have hr':=qf.mp hr
 generalize SetTable.below xs j=p at *
 rw[qf,yu,List.pairwise_append]
 have hd:∀b∈xs.toList.drop p,j<b:=by
  intro b hb
  obtain⟨i,hi,e⟩:=BY.mp hb
  rw[List.getElem_drop]at e
  have hs:p+i<xs.size:=by simp at hi;lia
  have g:=h3 (p+i) (by lia) hs
  have e':xs.getD (p+i) 0=b:=by simp[hs];simpa using e
  rw[e']at g
  by_cases h0:j=b
  ·exfalso
   subst h0
   have hp:xs[p]? = some (xs.getD p 0):=by
    have:p<xs.size:=by lia
    simp[this]
   have hjp:j≤xs.getD p 0:=h3 p (AI _) (by lia)
   have hpj:xs.getD p 0≤j:=by
    by_cases hi0:i=0
    ·subst hi0;rw[←e'];exact AI _
    ·have:=hr p (p+i) (by lia) hs
     lia
   exact hn (by rw[hp];congr 1;lia)
  ·lia
 refine⟨hr'.sublist (List.take_sublist _ _),BO.mpr ⟨hd,hr'.sublist (List.drop_sublist _ _)⟩,?_⟩
 intro a ha b hb
 have haj:a<j:=by
  obtain⟨i,hi,e⟩:=BY.mp ha
  rw[GH]at e
  have hs:i<xs.size:=by simp at hi;lia
  have g:=h2 i (by simp at hi;lia)
  have e':xs.getD i 0=a:=by simp[hs];simpa using e
  lia
 rcases AM.mp hb with rfl | hb
 ·exact haj
 ·have:=hd b hb
  lia
theorem Fv (n:Nat):Rm (Array.range n):=by
 rw[qf]
 simpa using IT
structure Tidy (t:SetTable) (l:Bool):Prop where
 rose:Rm t.place
 none:t.dummies=#[]
 led:t.led=l
theorem has_none (j:Nat):SetTable.has #[] j=false:=rfl
theorem wy {t:SetTable} {l:Bool} (h:Tidy t l) {k:Int}:∀(f:Nat) (p:SetTable.Probe),p.dummy=none→∀{j d},SetTable.probe.go t (fun _=>k+1) k f p=some (.empty j d)→d=none∧t.place[SetTable.below t.place j]?≠some j
 | 0,p,_,j,d,e=>by simp[SetTable.probe.go]at e
 | f+1,p,hp,j,d,e=>by
  unfold SetTable.probe.go at e
  have hs:t.slot p.j=if t.place[SetTable.below t.place p.j]?==some p.j then .live (SetTable.below t.place p.j)else .empty:=by
   unfold SetTable.slot
   rw[h.none]
   simp only[has_none,AT,if_false]
  rw[hs]at e
  by_cases hc:(t.place[SetTable.below t.place p.j]?==some p.j)=true
  ·rw[if_pos hc]at e
   dsimp only at e
   have hne:(k+1==k)=false:=by simp;lia
   rw[hne]at e
   refine wy h f (t.advance p) ?_ e
   unfold SetTable.advance
   split
   ·exact hp
   ·exact hp
  ·rw[if_neg hc]at e
   injection e with e
   injection e with e1 e2
   subst e1
   refine⟨by rw[←e2,hp],fun hx=>hc (by rw[hx];simp)⟩
theorem k9 {t:SetTable} {l:Bool} (h:Tidy t l) (n:Nat):Tidy (t.standIn n) l:=⟨Fv n,rfl,h.led⟩
theorem Rn {t:SetTable} {l:Bool} (h:Tidy t l) (n:Nat):Tidy (t.orStandIn n) l:=by
 unfold SetTable.orStandIn
 split
 ·exact h
 ·exact k9 h n
theorem Cg {t:SetTable} {l:Bool} (h:Tidy t l) (es:Array (Int×Value)) (k:Int) (x:Value):Tidy (layNew t es k x).2.1 l:=by
 unfold layNew
 cases e:t.freeSlot k with
 | none=>exact k9 h _
 | some z =>
  obtain⟨sl,wd⟩:=z
  dsimp only
  refine Rn ?_ _
  unfold SetTable.freeSlot at e
  have hr:t.place[SetTable.below t.place sl]?≠some sl:=by
   split at e
   ·rename_i j d em
    obtain⟨rfl,q⟩:=wy h _ _ rfl em
    simp at e
    rw[←e.1];exact q
   ·simp at e
  refine⟨Cf h.rose hr,?_,h.led⟩
  show(if SetTable.has t.dummies sl=true then _ else t.dummies)=#[]
  rw[h.none,has_none];rfl
theorem yw {t:SetTable} {l:Bool} (h:Tidy t l) (es:Array (Int×Value)) (n:Nat):Tidy (relayAll t es n).2.1 l:=by
 unfold relayAll
 split
 ·rename_i t' order e
  dsimp only
  split
  ·dsimp only
   unfold SetTable.relaid SetTable.laid at e
   simp only[Option.bind_eq_bind,Option.bind_eq_some_iff]at e
   obtain⟨owner,_,e⟩:=e
   simp only[Option.pure_def,BU,GV]at e
   obtain⟨rfl,_⟩:=e
   refine⟨?_,rfl,h.led⟩
   rw[qf]
   dsimp only
   rw[List.pairwise_map]
   refine List.Pairwise.filterMap _ (R:=(· < ·)) ?_ IT
   intro a a' hlt b hb b' hb'
   simp only[Option.mem_def,EX]at hb hb'
   obtain⟨_,_,rfl⟩:=hb
   obtain⟨_,_,rfl⟩:=hb'
   exact hlt
  ·exact k9 h _
 ·exact k9 h _
theorem Fw (l:Bool):Tidy (.fresh 0 0 l) l:=⟨fun i j _ h=>absurd h (by simp[SetTable.fresh]),rfl,rfl⟩
end Lp.Sets
namespace Lp.Sets
open PySem PySem.W PyProof.Rows PySem.Calls
structure Holds (prog:Program) (w:World) (o:Obj) (es:Array (Int×Value)) (ep:Nat) (t:SetTable) (σ:List Int) (l:Bool):Prop where
 set:o.ExactSet
 data:o.data=.set es ep t
 tidy:Tidy t l
 fits:t.fits es.size=true
 few:es.size<scanBound
 elems:ElemsOf (intKind prog w) es.toList
 vals:∃vs,(es.toList.map (·.2)).Perm vs∧IntsAre vs σ
noncomputable def Ci (prog:Program) (w:World) (h:Heap) (a:Addr) (σ:List Int) (l:Bool):Prop:=∃o es ep t,h.get? a=some o∧Holds prog w o es ep t σ l
theorem yx:∀{vs:List Value} {ns:List Int},IntsAre vs ns→vs.length=ns.length
 | _,_,.nil=>rfl
 | _,_,.cons n t r=>by simp[yx r]
theorem ints_snoc {n:Int} {t:Tok}:∀{vs:List Value} {ns:List Int},IntsAre vs ns→IntsAre (vs++[.int n t]) (ns++[n])
 | _,_,.nil=>.cons n t .nil
 | _,_,.cons m u r=>.cons m u (ints_snoc r)
theorem yy:∀{vs:List Value} {ns:List Int},IntsAre vs ns→∀k:Int,k∈ns↔∃v∈vs,Value.isInt k v=true
 | _,_,.nil,k=>by simp
 | _,_,.cons m u r,k=>by
  rw[AM,yy r k]
  constructor
  ·rintro(rfl | ⟨v,hv,e⟩)
   ·exact⟨_,AQ,by simp[Value.isInt]⟩
   ·exact⟨v,AJ _ hv,e⟩
  ·rintro⟨v,hv,e⟩
   rcases AM.mp hv with rfl | hv
   ·left;simp[Value.isInt]at e;exact e.symm
   ·exact .inr ⟨v,hv,e⟩
section
variable {prog : Program} {w : World} {A : Around} {E : Value → Shared → Prop} {s : Shared}
theorem Holds.len {o:Obj} {es:Array (Int×Value)} {ep:Nat} {t:SetTable} {σ:List Int} {l:Bool} (H:Holds prog w o es ep t σ l):es.size=σ.length:=by
 obtain⟨vs,p,i⟩:=H.vals
 rw[←yx i,←p.length_eq];simp
theorem Holds.found {o:Obj} {es:Array (Int×Value)} {ep:Nat} {t:SetTable} {σ:List Int} {l:Bool} (H:Holds prog w o es ep t σ l) (k:Int) :
  (es.toList.findIdx? fun e=>(intKind prog w).is k e.2).isSome=σ.any (·==k):=by
 obtain⟨vs,p,i⟩:=H.vals
 rw[Bool.eq_iff_iff,List.findIdx?_isSome,DN,DN]
 constructor
 ·rintro⟨e,he,q⟩
  exact⟨k,(yy i k).mpr ⟨e.2,p.mem_iff.mp (List.mem_map_of_mem he),q⟩,by simp⟩
 ·rintro⟨k',hk,q⟩
  have:k'=k:=by simpa using q
  subst this
  obtain⟨v,hv,q⟩:=(yy i k').mp hk
  obtain⟨e,he,rfl⟩:=AY.mp (p.mem_iff.mpr hv)
  exact⟨e,he,q⟩
theorem Holds.stored {h:Heap} {a:Addr} {o:Obj} {es es':Array (Int×Value)} {ep:Nat} {t t':SetTable} {σ σ':List Int} {l:Bool} (q:h.get? a=some o) (H:Holds prog w o es ep t σ l)
  (T:Tidy t' l) (F:t'.fits es'.size=true) (B:es'.size<scanBound) (L:ElemsOf (intKind prog w) es'.toList) (V:∃vs,(es'.toList.map (·.2)).Perm vs∧IntsAre vs σ') :
  ∃o',(h.update a (Obj.putSet es' t')).get? a=some o'∧Holds prog w o' es' (ep+1) t' σ' l:=by
 refine⟨{o with data:=.set es' (ep+1) t'},?_,⟨H.set,rfl,T,F,B,L,V⟩⟩
 have q':=DI (Obj.putSet es' t') q (by rw[putSet_of es' t' H.data];rfl)
 rwa [putSet_of es' t' H.data]at q'
theorem D4 {g:Bool→Sem Unit} (hg:∀(b:Bool) (s₁:Shared) (Q':Unit→Shared→Prop),Q' () s₁→wpAny (model prog w) A (g b) Q' E s₁) {a:Addr} {o:Obj} {es es':Array (Int×Value)} {ep:Nat} {t t':SetTable} {σ σ':List Int} {l wd:Bool} {R:Option Bool→Shared→Prop}
  (q:s.heap.get? a=some o) (H:Holds prog w o es ep t σ l) (T:Tidy t' l) (F:t'.fits es'.size=true) (B:es'.size<scanBound) (L:ElemsOf (intKind prog w) es'.toList) (V:∃vs,(es'.toList.map (·.2)).Perm vs∧IntsAre vs σ')
  (h:∀h',Heap.SameBut a s.heap h'→Ci prog w h' a σ' l→R (some true) {s with heap:=h'}) :
  wpAny (model prog w) A (do
   storeSet a es' t'
   if(!wd&&t'.tooFull)=true then do
    g (relayAll t' es' (SetTable.grown es'.size)).2.2
    storeSet a (relayAll t' es' (SetTable.grown es'.size)).1 (relayAll t' es' (SetTable.grown es'.size)).2.1
    pure (some true)
   else pure (some true)) R E s:=by
 refine AA (wpAny_storeSet_of q H.data ?_ (fits_of_scanBound B))
 obtain⟨o1,q1,H1⟩:=H.stored q T F B L V
 have b1:=FK s.heap a (Obj.putSet es' t')
 by_cases hc:(!wd&&t'.tooFull)=true
 ·rw[if_pos hc]
  have P2:=relayAll_perm t' es' (SetTable.grown es'.size)
  have F2:=relayAll_fits t' es' (SetTable.grown es'.size)
  have T2:=yw T es' (SetTable.grown es'.size)
  generalize relayAll t' es' (SetTable.grown es'.size)=z at P2 F2 T2 ⊢
  obtain⟨es2,t2,g2⟩:=z
  dsimp only at P2 F2 T2 ⊢
  have B2:es2.size<scanBound:=by
   have e:=P2.length_eq
   simp only[BP]at e
   lia
  obtain⟨vs,p,i⟩:=V
  obtain⟨o2,q2,H2⟩:=H1.stored q1 T2 F2 B2 (L.perm P2) ⟨vs,(P2.map _).trans p,i⟩
  exact AA (hg _ _ _ (AA (wpAny_storeSet_of q1 H1.data (AD (h _ (b1.trans (FK _ a _)) ⟨o2,_,_,_,q2,H2⟩)) (fits_of_scanBound B2))))
 ·rw[if_neg hc]
  exact AD (h _ b1 ⟨o1,_,_,_,q1,H1⟩)
theorem Ma {a:Addr} {σ:List Int} {l:Bool} {k:Int} {t:Tok} {Q:Bool→Shared→Prop} (hS:Ci prog w s.heap a σ l) (room:σ.length+1<scanBound)
  (h:∀b h',Heap.SameBut a s.heap h'→Ci prog w h' a (step_dedup σ k) l→Q b {s with heap:=h'}):wpAny (model prog w) A (setAddHashed a (.int k t) ((intKind prog w).hash k)) Q E s:=by
 obtain⟨o,es,ep,tb,q,H⟩:=hS
 have hlen:=H.len
 unfold setAddHashed setAddHashedIn
 refine CS (AA (ED q H.data H.fits ?_))
 dsimp only
 rw[byScan_of rfl H.few H.elems,if_pos rfl]
 refine AA ?_
 unfold setAddByScan
 refine AA (FW (AA (wpAny_setScan_of (intKind_is _ _ _ _) q H.data H.fits H.elems ?_)))
 have hf:=H.found k
 cases hr:List.findIdx? (fun e=>(intKind prog w).is k e.2) es.toList with
 | some j =>
  rw[hr]at hf
  dsimp only
  refine AD (AD (h _ s.heap (Heap.SameBut.refl a s.heap) ?_))
  have e:step_dedup σ k=σ:=by unfold step_dedup;rw[if_pos];exact hf.symm
  rw[e]
  exact⟨o,es,ep,tb,q,H⟩
 | none =>
  rw[hr]at hf
  dsimp only
  have e:step_dedup σ k=σ++[k]:=by
   unfold step_dedup;rw[if_neg]
   rw[←hf];simp
  have P1:=layNew_perm tb es ((intKind prog w).hash k) (.int k t)
  have F1:=layNew_fits tb es ((intKind prog w).hash k) (.int k t)
  have T1:=Cg H.tidy es ((intKind prog w).hash k) (.int k t)
  generalize layNew tb es ((intKind prog w).hash k) (.int k t)=z at P1 F1 T1 ⊢
  obtain⟨es1,t1,wd,gave⟩:=z
  dsimp only at P1 F1 T1 ⊢
  rw[Array.toList_push]at P1
  have B1:es1.size<scanBound:=by
   have e:=P1.length_eq
   simp only[BP,CP,JB]at e
   lia
  have V1:∃vs,(es1.toList.map (·.2)).Perm vs∧IntsAre vs (step_dedup σ k):=by
   obtain⟨vs,p,i⟩:=H.vals
   refine⟨vs++[.int k t],(P1.map _).trans ?_,by rw[e];exact ints_snoc i⟩
   rw[BW]
   exact p.append_right _
  have L1:=(H.elems.push (intKind_is prog w k t) rfl).perm P1
  refine AA ?_
  have gw:∀(b:Bool) (s₁:Shared) (Q':Unit→Shared→Prop),Q' () s₁→wpAny (model prog w) A (match b with | true=>rule "set.scan.the-table-gave-way" | false=>pure ()) Q' E s₁:=by
   intro b s₁ Q' hq
   cases b
   ·exact AD hq
   ·exact FW hq
  refine gw gave _ _ ?_
  split
  ·refine AA (IB (hashByValue_scannable 8 rfl) ?_)
   refine AA (m:=pure _) (AD ?_)
   exact D4 gw q H T1 F1 B1 L1 V1 fun h' hb hh=>AD (h _ h' hb hh)
  ·refine AA (AD ?_)
   exact D4 gw q H T1 F1 B1 L1 V1 fun h' hb hh=>AD (h _ h' hb hh)
end
end Lp.Sets
namespace Lp.Sets
open PySem PySem.W PyProof.Rows PySem.Calls
theorem Ci.at {prog:Program} {w:World} {h h':Heap} {a:Addr} {σ:List Int} {l:Bool} (H:Ci prog w h a σ l) (k:∀o,h.get? a=some o→h'.get? a=some o):Ci prog w h' a σ l:=by
 obtain⟨o,es,ep,t,q,z⟩:=H
 exact⟨o,es,ep,t,k o q,z⟩
section
variable {prog : Program} {w : World} {A : Around} {R : Result → Shared → Prop} {I : Addr} {fp wr : List Addr} {G : Array GenState → Array GenState → Prop} {n : Nat} {P : Nat → Value → Prop} {St : Nat → Shared → Prop} {l : Bool}
theorem Iq (W:WalksS prog w A.in1 I fp wr G n P St) (a:Addr) (af:a∉fp) (val:Nat→Int) (hv:∀i v,P i v→∃t,v=.int (val i) t) (few:n+1<scanBound) :
  ∀(d i:Nat) (s:Shared),n-i=d→i≤n→St i s→Ci prog w s.heap a (firstMet val i) l→(∀s',Moved (a::wr) G s s'→Ci prog w s'.heap a (firstMet val n) l→R (.ok (.ret .none)) s') →
   codeAny (model prog w) A (.builtin "set.update.loop" ⟨[.ref a,.ref I],[]⟩) R s:=by
 have aw:a∉wr:=fun z=>af (W.sub _ z)
 intro d
 induction d with
 | zero =>
  intro i s hd hi st H fin
  have e:i=n:=by lia
  subst e
  refine FC F.entry_set_update_loop ?_
  rw[EE Go]
  show wpAny (model prog w) A.in1 (pyNext (.ref I)>>=_) _ _ s
  refine AA (W.done s _ _ st fun s' m=>?_)
  show wpAny (model prog w) A.in1 (ret Value.none) _ _ s'
  exact AD (fin s' (m.mono fun b z=>AJ _ z) (H.at fun o z=>m.heap a o aw z))
 | succ d ih =>
  intro i s hd hi st H fin
  refine FC F.entry_set_update_loop ?_
  rw[EE Go]
  show wpAny (model prog w) A.in1 (pyNext (.ref I)>>=_) _ _ s
  refine AA (W.item i s _ _ (by lia) st fun v s' p st' m=>?_)
  obtain⟨t,rfl⟩:=hv i v p
  have H':Ci prog w s'.heap a (firstMet val i) l:=H.at fun o z=>m.heap a o aw z
  show wpAny (model prog w) A.in1 (holding [Value.int (val i) t] (setAdd a (.int (val i) t))>>=_) _ _ s'
  unfold setAdd
  refine AA (CS (CS (AA ((intKind prog w).pyHash (k:=val i) (intKind_is ..) ?_))))
  have:=firstMet_length_le val i
  refine Ma (s:={s' with toks:=s'.toks+1}) H' (by lia) fun b h' sb H2=>?_
  rw[←firstMet_succ]at H2
  refine AD ⟨GU Go _,ih (i+1) _ (by lia) (by lia) (W.frame _ s' _ _ st' (ES _) fun b hb o z=>?_) H2 fun s2 m2 H3=>?_⟩
  ·rw[sb.2 b fun e=>af (e ▸ hb)];exact z
  ·refine fin s2 (Moved.trans W.gtrans ((m.mono fun b z=>AJ _ z).then_heap (ES _) fun b o hb z=>?_) m2) H3
   rw[sb.2 b fun e=>hb (e ▸ AQ)];exact z
end
section
variable {prog : Program} {w : World} {A : Around} {E : Value → Shared → Prop} {s : Shared}
noncomputable abbrev qg (w:World):Bool:=!w.params.followText "set-order"
noncomputable abbrev lb (w:World):Obj:={cls:=.type "set",dict:=none,data:=.set #[] 0 (.fresh 0 0 (qg w))}
theorem Fx {h:Heap} {a:Addr} (q:h.get? a=some (lb w)):Ci prog w h a [] (qg w) :=
 ⟨_,#[],0,_,q,⟨⟨rfl,rfl,rfl⟩,rfl,Fw _,rfl,by decide,fun e z=>by simp at z,[],.refl _,.nil⟩⟩
theorem Ro (x:Value) {Q₁:Value→Shared→Prop} (h:Q₁ (.ref s.heap.objs.size) {s with heap:=s.heap.push (lb w)}) :
  codeAny (model prog w) A (.call (.builtin "set.__new__") ⟨[.type "set",x],[]⟩) (wants Q₁ E) s:=by
 refine codeAny_of_tree ?_
 show wpAny (model prog w) A.in1 (do checkBuiltinCall "set.__new__" ⟨[.type "set",x],[]⟩;again (.builtin "set.__new__" ⟨[.type "set",x],[]⟩)) _ _ s
 refine AA (IB (PySem.F.newCall_set_1 x) (AD ⟨GU JF _,FC PySem.F.entry_set_new ?_⟩))
 rw[EE JF]
 unfold Builtin.«set.__new__» Builtin.Frozenset.newClass
 have e1:=sub_set_self
 obtain⟨hp,g,d,tk,os⟩:=s
 dsimp only
 wp_walk
 refine EN (AD ?_)
 dsimp only
 simp only[newObj]
 exact AA (wpAny_alloc (AD (AD h)))
end
end Lp.Sets
namespace Lp.Sets
open PySem PySem.W PyProof.Rows PySem.Calls
theorem Rp {T:String} (e:T="list"∨T="tuple"):isSubtype (.type T) (.type "set")=pure false∧isSubtype (.type T) (.type "frozenset")=pure false:=by
 rcases e with rfl | rfl
 ·exact⟨PySem.F.sub_list_set,PySem.F.sub_list_frozenset⟩
 ·constructor
  ·rw[FI];kernel_rfl
  ·rw[FI];kernel_rfl
noncomputable def U7:Bool→String
 | true=>"list"
 | false=>"tuple"
theorem U8 {b:Bool} {h:Heap} {x:Addr} {items:Array Value} (q:SQ b h x items):∃o,h.get? x=some o∧o.cls=.type (U7 b):=by
 cases b
 ·obtain⟨o,e,c,_⟩:=q;exact⟨o,e,c⟩
 ·obtain⟨o,e,c,_⟩:=q;exact⟨o,e,c⟩
section
variable {prog : Program} {w : World} {A : Around} {E : Value → Shared → Prop} {s : Shared}
theorem Mb {b:Bool} (hh:A.handled=none) (I x:Addr) (ne:x≠I) (items:Array Value):Walks prog w A I [I,x] [I] items.size (fun i v=>items[i]? = some v) (fun i h=>SI b h I x i∧SQ b h x items):=by
 cases b
 ·exact Walks.tuple hh I x ne items
 ·exact Walks.list hh I x ne items
theorem Mc {b:Bool} {a x:Addr} {items:Array Value} {ns:List Int} {Q:Shared→Prop} {P:PySem.Fin→Shared→Prop} (hh:A.handled=none) (hL:SQ b s.heap x items) (hi:IntsAre items.toList ns) (few:items.size+1<scanBound)
  (q:s.heap.get? a=some (lb w)) (ne:a≠x)
  (fin:∀h' tk,Ci prog w h' a (firstMet (fun i=>ns.getD i 0) items.size) (qg w)→(∀c o,c≠a→s.heap.get? c=some o→h'.get? c=some o)→P (.done (.ret .none)) {s with heap:=h',toks:=tk}) :
  wpAny (model prog w) A (Builtin.«set.__init__» ⟨[.ref a,.ref x],[]⟩) P E s:=by
 obtain⟨ox,qx,cx⟩:=U8 hL
 obtain⟨n1,n2⟩:=Rp (T:=U7 b) (by cases b<;>simp[U7])
 have hT:s.TypeIs (.ref x) (U7 b):=⟨ox,qx,cx⟩
 have nd:(Value.type (U7 b)==Value.type "dict")=false:=by cases b<;>decide
 have hS:s.TypeIs (.ref a) "set":=⟨_,q,rfl⟩
 unfold Builtin.«set.__init__» noKeywords Builtin.Frozenset.updateFrom
 generalize hPI:pyIter=PI
 obtain⟨hp,g,d,tk,os⟩:=s
 wp_walk
 subst hPI
 refine Cb hL (AA (wpAny_runValue ?_))
 have lx:x<hp.objs.size:=SQ.lt hL
 have la:a<hp.objs.size:=AL q
 refine Iq ((Mb (b:=b) (A:=A.in1) (show A.in1.handled=none from hh) hp.objs.size x (AR lx) items).toS) a (l:=qg w) ?_ (fun i=>ns.getD i 0) (fun i v z=>IntsAre.int_at hi i v (by rw[DJ];exact z)) few items.size 0 _ (by lia) (CQ _)
  ⟨?_,SQ.push hL _⟩ (Fx (AC _ q)) fun s' m H=>?_
 ·simp only[AM,BF,or_false,not_or]
  exact⟨AR la,ne⟩
 ·cases b
  ·exact⟨_,AH _ rfl,rfl,rfl⟩
  ·exact⟨_,AH _ rfl,rfl,rfl⟩
 ·rw[JK m]
  refine AD (AD (fin s'.heap s'.toks H fun c o hc z=>m.heap c o ?_ (AC _ z)))
  simp only[AM,BF,or_false,not_or]
  exact⟨hc,AR (AL z)⟩
theorem Md {b:Bool} {x:Addr} {items:Array Value} {ns:List Int} {Q:Value→Shared→Prop} (hh:A.handled=none) (hL:SQ b s.heap x items) (hi:IntsAre items.toList ns) (few:items.size+1<scanBound)
  (h:∀h' tk,Ci prog w h' s.heap.objs.size (firstMet (fun i=>ns.getD i 0) items.size) (qg w)→(∀c o,s.heap.get? c=some o→h'.get? c=some o)→Q (.ref s.heap.objs.size) {s with heap:=h',toks:=tk}) :
  wpAny (model prog w) A (call (.type "set") [.ref x]) Q E s:=by
 obtain⟨c,tl,hmro⟩:=DB.mro
 have hm:=DB.made
 have hs:=DB.sub
 have hn:=DB.notType
 have hcc:=DB.canCreate
 have hct:=PySem.F.typeCall_set_1 (.ref x)
 refine wpAny_call (codeAny_of_tree ?_)
 show wpAny (model prog w) _ (callAny (.type "set") _) _ _ _
 refine AD ⟨Code.quiet_builtin _ (by decide +kernel),FC PySem.F.entry_type_call ?_⟩
 rw[Around.under_plain (weight_type_call_type "set" [.ref x] []) rfl]
 repeat (any_goals (first | assumption | wp_step))
 refine Gt (Ro (w:=w) (.ref x) (E:=E) (Q₁:=fun obj s₁=>obj=.ref s.heap.objs.size∧s₁={s with heap:=s.heap.push (lb w)}) ⟨rfl,rfl⟩) fun r s₁ hr=>?_
 cases r with
 | error e=>exact hr
 | ok fl =>
  cases fl with
  | ret obj =>
   obtain⟨rfl,rfl⟩:=hr
   have q:(s.heap.push (lb w)).get? s.heap.objs.size=some (lb w):=AH _ rfl
   have hT:Shared.TypeIs {s with heap:=s.heap.push (lb w)} (.ref s.heap.objs.size) "set":=⟨_,q,rfl⟩
   have hli:=DB.init.lookup
   have hbi:=DB.init.bind (.ref s.heap.objs.size)
   repeat (any_goals (first | assumption | wp_step))
   refine Gt (codeAny_call_builtin (R:=wants (fun r s₂=>r=.none∧Q (.ref s.heap.objs.size) s₂) E) DB.init.plain PySem.F.entry_set_init (check_set_init_1 hT ?_)) fun r₂ s₂ z=>?_
   ·refine Mc (Q:=fun _=>True) (b:=b) (s:={s with heap:=s.heap.push (lb w)}) (by simpa using hh) (SQ.push hL _) hi few q (CL (SQ.lt hL)) fun h' tk H k=>?_
    exact⟨rfl,h h' tk H fun c o e=>k c o (AR (AL e)) (AC _ e)⟩
   ·cases r₂ with
    | error e=>exact z
    | ok fl₂ =>
     cases fl₂ with
     | ret r =>
      obtain⟨rfl,z⟩:=z
      repeat (any_goals (first | assumption | wp_step))
     | _=>exact z
  | _=>exact hr
end
end Lp.Sets
namespace Lp.Sets
open PySem PySem.W PyProof.Rows PySem.Calls
section
theorem rm {α:Type}:∀(l:List α) (i:Nat) (h:i<l.length),(l[i]::l.eraseIdx i).Perm l
 | x::xs,0,_=>.refl _
 | x::xs,i+1,h=>by
  have hi:i<xs.length:=by simpa using h
  have ih:=rm xs i hi
  show(xs[i]::x::xs.eraseIdx i).Perm (x::xs)
  exact(List.Perm.swap ..).trans (ih.cons x)
theorem Ir {α:Type} (next:Nat→Nat):∀(f k:Nat) (left:List α) (out:Array α),left.length=f→(pickOrder.go next f k left out).toList.Perm (out.toList++left)
 | 0,k,left,out,h=>by
  have e:left=[]:=FY.mp h
  subst e
  simp[pickOrder.go]
 | f+1,k,left,out,h=>by
  unfold pickOrder.go
  have hl:next k % left.length<left.length:=Nat.mod_lt _ (by lia)
  rw[AB hl]
  dsimp only
  refine(Ir next f (k+1) _ _ (by rw[List.length_eraseIdx,if_pos hl];lia)).trans ?_
  rw[Array.toList_push,FH]
  refine List.Perm.append_left _ ?_
  show(left[next k % left.length]::left.eraseIdx (next k % left.length)).Perm left
  exact rm _ _ hl
theorem u0 {α:Type} (next:Nat→Nat) (xs:Array α):(pickOrder next xs).toList.Perm xs.toList:=by
 have:=Ir next xs.size 0 xs.toList #[] (by simp)
 simpa[pickOrder]using this
end
section
variable {prog : Program} {w : World} {A : Around} {E : Value → Shared → Prop} {s : Shared}
theorem Ax {α:Type}:∀(n:Nat) (xs:List α) (s:Shared) {Q:List α→Shared→Prop},xs.length=n→(∀ys d,ys.Perm xs→Q ys {s with drawn:=d})→wpAny (model prog w) A (drawOrder n xs) Q E s
 | 0,xs,s,Q,hn,h=>by
  have e:xs=[]:=FY.mp hn
  subst e
  unfold drawOrder
  exact AD (h [] s.drawn (.refl _))
 | n+1,[],s,Q,hn,h=>by simp at hn
 | n+1,x::xs,s,Q,hn,h=>by
  unfold drawOrder
  refine AA ?_
  have hc:∀(Q':Nat→Shared→Prop),(∀i,i<(x::xs).length→∀d,Q' i {s with drawn:=d})→wpAny (model prog w) A (choose .order (x::xs).length) Q' E s:=fun Q' hq Γ p _=>⟨by simp,hq _ (Nat.mod_lt _ (by simp)) _⟩
  refine hc _ fun i hi d=>?_
  rw[AB hi]
  dsimp only
  refine AA (Ax n _ _ (by rw[List.length_eraseIdx,if_pos hi];simp at hn ⊢;lia) fun ys d' p=>?_)
  exact AD (h _ d' ((p.cons _).trans (rm _ _ hi)))
theorem slot_next:Slot "set_iterator" "__next__" "set_iterator.__next__":=Slot.of (owner:="set_iterator") (n:="__next__")
 (by rw[HB,FE];kernel_rfl)
 (by decide +kernel)
 (by decide +kernel) (by decide +kernel)
 (by first | exact .inl (by decide +kernel) | exact .inr (by decide +kernel))
 (by rw[FI];kernel_rfl)
theorem entry_next:entryFor table "set_iterator.__next__"=some Builtin.«set_iterator.__next__»:=entryFor_of_tree (by kernel_rfl)
theorem Fy:entryFor table "set.__iter__"=some Builtin.«frozenset.__iter__»:=entryFor_alias (id':="frozenset.__iter__") (by kernel_rfl) rfl (by decide +kernel) (by kernel_rfl)
theorem args_next (a:Value):argsOk "set_iterator.__next__" ⟨[a],[]⟩:=by
 unfold argsOk
 kernel_rfl
end
end Lp.Sets
namespace Lp.Sets
open PySem PySem.W PyProof.Rows PySem.Calls
noncomputable abbrev sk (first:Value) (i:Nat) (a:Addr) (n ep:Nat):Obj:={cls:=.type "set_iterator",dict:=none,data:=.fields #[first,rawInt i,.ref a,rawInt n,rawInt ep],slots:=#[]}
section
variable {prog : Program} {w : World} {A : Around} {E : Value → Shared → Prop} {s : Shared} {I a : Addr} {first : Value} {i n slot : Nat} {o : Obj} {es : Array (Int × Value)} {ep : Nat} {t : SetTable} {σ : List Int} {l : Bool}
theorem Iu {x:Value} {nx:Nat} {Q:Option Value→Shared→Prop} (hI:s.heap.get? I=some (sk (rawInt slot) i a n ep)) (q:s.heap.get? a=some o) (H:Holds prog w o es ep t σ l) (hn:es.size=n)
  (hN:∀(A':Around) (E':Value→Shared→Prop) (Q':Option (Value×Nat)→Shared→Prop),Q' (some (x,nx)) s→wpAny (model prog w) A' (setNext a slot i ep) Q' E' s)
  (hQ:∀h',h'.get? I=some (sk (rawInt nx) (i+1) a n ep)→Heap.SameBut I s.heap h'→Q (some x) {s with heap:=h'}):wpAny (model prog w) A (pyNext (.ref I)) Q E s:=by
 have hT:s.TypeIs (.ref I) "set_iterator":=⟨_,hI,rfl⟩
 unfold pyNext
 refine AA (EG (BJ (name:=Str.ofString "__next__") hT slot_next (BK slot_next hT entry_next ?_ (args_next _))))
 unfold Builtin.«set_iterator.__next__»
 refine AA (m:=slotArgs _ _ _) (AD ?_)
 dsimp only
 refine AA (HQ hI rfl ?_)
 dsimp only[rawInt]
 refine AA (EI q H.data H.fits ?_)
 rw[hn]
 simp only[bne_self_eq_false,AT,if_false,CD]
 refine AA (hN _ _ _ ?_)
 dsimp only
 refine AA (BH hI (by simp) fun h1 q1 b1=>?_)
 refine AA (BH q1 (by simp) fun h2 q2 b2=>?_)
 exact AD ⟨_,rfl,AD (hQ h2 q2 (b1.trans b2))⟩
theorem Iv {Q:Option Value→Shared→Prop} (hh:A.handled=none) (hI:s.heap.get? I=some (sk (rawInt slot) i a n ep)) (q:s.heap.get? a=some o) (H:Holds prog w o es ep t σ l) (hn:es.size=n)
  (hN:∀(A':Around) (E':Value→Shared→Prop) (Q':Option (Value×Nat)→Shared→Prop),Q' none s→wpAny (model prog w) A' (setNext a slot i ep) Q' E' s)
  (hQ:∀h',Heap.ExtBut I s.heap h'→Q none {s with heap:=h'}):wpAny (model prog w) A (pyNext (.ref I)) Q E s:=by
 have hT:s.TypeIs (.ref I) "set_iterator":=⟨_,hI,rfl⟩
 unfold pyNext
 refine AA (EG (BJ (name:=Str.ofString "__next__") hT slot_next (BK slot_next hT entry_next ?_ (args_next _))))
 unfold Builtin.«set_iterator.__next__»
 refine AA (m:=slotArgs _ _ _) (AD ?_)
 dsimp only
 refine AA (HQ hI rfl ?_)
 dsimp only[rawInt]
 refine AA (EI q H.data H.fits ?_)
 rw[hn]
 simp only[bne_self_eq_false,AT,if_false,CD]
 refine AA (hN _ _ _ ?_)
 dsimp only
 refine AA (BH hI (by simp) fun h1 q1 b1=>AA ?_)
 simp only[newExc,newTuple]
 refine AA (BS (AA (m:=firstArgMember _ _) (IB (a:=Value.none) (by first | rfl | (simp only[firstArgMember];rfl)) (BS ?_ (by size_fits)))) (by size_fits))
 simp only[raiseNew]
 refine AA (wpAny_handled ?_)
 rw[show A.in1.handled=none from hh]
 refine AA (AD (wpAny_throw ?_))
 refine AA ?_
 refine EM (T:="StopIteration") (b:=true) ?_ HM ?_
 ·exact⟨_,AH _ rfl,rfl⟩
 exact AD (hQ _ ((b1.extBut.push _).push _))
theorem Ay (q:s.heap.get? a=some o) (H:Holds prog w o es ep t σ l) (ht:w.params.followText "set-order"=true) {Q:Option (Value×Nat)→Shared→Prop}
  (h:Q (((pickOrder (w.params.setOrder a ep) es)[i]?).map fun e=>(e.2,slot)) s):wpAny (model prog w) A (setNext a slot i ep) Q E s:=by
 unfold setNext setsByText setWalk setsByText
 refine AA (ED q H.data H.fits ?_)
 dsimp only
 refine AA (AA (EN (AD ?_)))
 show wpAny _ _ (if w.params.followText "set-order"=true then _ else _) _ _ _
 rw[if_pos ht]
 simp only[bne_self_eq_false,AT,if_false]
 refine AA (AA (ED q H.data H.fits ?_))
 dsimp only
 refine AA (AA (EN (AD ?_)))
 show wpAny _ _ (if w.params.followText "set-order"=true then _ else _) _ _ _
 rw[if_pos ht]
 refine AA (EN (AD ?_))
 exact AD h
theorem wz (q:s.heap.get? a=some o) (H:Holds prog w o es ep t σ (qg w)) (ht:w.params.followText "set-order"=false) (hp:(!t.plain&&decide (es.size > 1))=false) {Q:Option (Value×Nat)→Shared→Prop}
  (h:Q (match es[SetTable.below t.place slot]?,t.place[SetTable.below t.place slot]? with | some (_,x),some j=>some (x,j+1) | _,_=>none) s):wpAny (model prog w) A (setNext a slot i ep) Q E s:=by
 unfold setNext setsByText
 refine AA (ED q H.data H.fits ?_)
 dsimp only
 refine AA (AA (EN (AD ?_)))
 show wpAny _ _ (if w.params.followText "set-order"=true then _ else _) _ _ _
 rw[ht,if_neg AZ]
 show wpAny _ _ (if(!t.plain&&decide (es.size > 1))=true then _ else _) _ _ _
 rw[hp,if_neg AZ]
 refine AA ?_
 show wpAny _ _ (if(!t.led&&!es.isEmpty)=true then _ else _) _ _ _
 have hl:t.led=true:=by rw[H.tidy.led];simp[qg,ht]
 rw[hl]
 exact AD (AD h)
end
end Lp.Sets
namespace Lp.Sets
open PySem PySem.W PyProof.Rows PySem.Calls
theorem slot_self:Slot "set_iterator" "__iter__" "set_iterator.__iter__":=Slot.of (owner:="set_iterator") (n:="__iter__")
 (by rw[HB,FE];kernel_rfl)
 (by decide +kernel)
 (by decide +kernel) (by decide +kernel)
 (by first | exact .inl (by decide +kernel) | exact .inr (by decide +kernel))
 (by rw[FI];kernel_rfl)
theorem entry_self:entryFor table "set_iterator.__iter__"=some Builtin.«dict_keyiterator.__iter__»:=entryFor_alias (id':="dict_keyiterator.__iter__") (by kernel_rfl) rfl (by decide +kernel) (by kernel_rfl)
theorem args_self (a:Value):argsOk "set_iterator.__iter__" ⟨[a],[]⟩:=by
 unfold argsOk
 kernel_rfl
section
variable {prog : Program} {w : World} {A : Around} {E : Value → Shared → Prop} {s : Shared} {I a : Addr} {first : Value} {i n slot : Nat} {o : Obj} {es : Array (Int × Value)} {ep : Nat} {t : SetTable} {σ : List Int} {l : Bool}
theorem Cj {Q:Value→Shared→Prop} (hI:s.heap.get? I=some (sk first i a n ep)) (h:Q (.ref I) s):wpAny (model prog w) A (pyIter (.ref I)) Q E s:=by
 have hT:s.TypeIs (.ref I) "set_iterator":=⟨_,hI,rfl⟩
 refine IC hT slot_self (BK slot_self hT entry_self ?_ (args_self _))
 exact AD ⟨_,rfl,"set_iterator",_,hT,slot_next.lookup,h⟩
theorem Me {T:Addr} {ps:Array Value} {j:Nat} {e:Int×Value} {Q:Option Value→Shared→Prop} (hI:s.heap.get? I=some (sk (.ref T) i a n ep)) (q:s.heap.get? a=some o) (H:Holds prog w o es ep t σ l) (hn:es.size=n)
  (hT:s.heap.IsTuple T ps) (hp:ps[i]? = some (rawInt j)) (he:es[j]? = some e)
  (hQ:∀h',h'.get? I=some (sk (.ref T) (i+1) a n ep)→Heap.SameBut I s.heap h'→Q (some e.2) {s with heap:=h'}):wpAny (model prog w) A (pyNext (.ref I)) Q E s:=by
 have hTy:s.TypeIs (.ref I) "set_iterator":=⟨_,hI,rfl⟩
 obtain⟨ot,qt,_,nt,dt⟩:=hT
 unfold pyNext
 refine AA (EG (BJ (name:=Str.ofString "__next__") hTy slot_next (BK slot_next hTy entry_next ?_ (args_next _))))
 unfold Builtin.«set_iterator.__next__»
 refine AA (m:=slotArgs _ _ _) (AD ?_)
 dsimp only
 refine AA (HQ hI rfl ?_)
 dsimp only[rawInt]
 refine AA (EI q H.data H.fits ?_)
 rw[hn]
 simp only[bne_self_eq_false,AT,if_false,CD]
 refine AA (Da qt dt ?_)
 dsimp only
 rw[hp]
 dsimp only[rawInt]
 unfold setNextDrawn
 refine AA (AA (ED q H.data H.fits ?_))
 simp only[CD,bne_self_eq_false,AT,if_false]
 rw[he]
 refine AD (AA (BH hI (by simp) fun h1 q1 b1=>?_))
 exact AD ⟨_,rfl,AD (hQ h1 q1 b1)⟩
theorem Az {T:Addr} {ps:Array Value} {Q:Option Value→Shared→Prop} (hh:A.handled=none) (hI:s.heap.get? I=some (sk (.ref T) i a n ep)) (q:s.heap.get? a=some o) (H:Holds prog w o es ep t σ l) (hn:es.size=n)
  (hT:s.heap.IsTuple T ps) (hp:ps[i]? = none) (hQ:∀h',Heap.ExtBut I s.heap h'→Q none {s with heap:=h'}):wpAny (model prog w) A (pyNext (.ref I)) Q E s:=by
 have hTy:s.TypeIs (.ref I) "set_iterator":=⟨_,hI,rfl⟩
 obtain⟨ot,qt,_,nt,dt⟩:=hT
 unfold pyNext
 refine AA (EG (BJ (name:=Str.ofString "__next__") hTy slot_next (BK slot_next hTy entry_next ?_ (args_next _))))
 unfold Builtin.«set_iterator.__next__»
 refine AA (m:=slotArgs _ _ _) (AD ?_)
 dsimp only
 refine AA (HQ hI rfl ?_)
 dsimp only[rawInt]
 refine AA (EI q H.data H.fits ?_)
 rw[hn]
 simp only[bne_self_eq_false,AT,if_false,CD]
 refine AA (Da qt dt ?_)
 dsimp only
 rw[hp]
 dsimp only
 refine AA (BH hI (by simp) fun h1 q1 b1=>AA (BH q1 (by simp) fun h2 q2 b2=>AA ?_))
 simp only[newExc,newTuple]
 refine AA (BS (AA (m:=firstArgMember _ _) (IB (a:=Value.none) (by first | rfl | (simp only[firstArgMember];rfl)) (BS ?_ (by size_fits)))) (by size_fits))
 simp only[raiseNew]
 refine AA (wpAny_handled ?_)
 rw[show A.in1.handled=none from hh]
 refine AA (AD (wpAny_throw ?_))
 refine AA ?_
 refine EM (T:="StopIteration") (b:=true) ?_ HM ?_
 ·exact⟨_,AH _ rfl,rfl⟩
 exact AD (hQ _ (((b1.trans b2).extBut.push _).push _))
theorem Rq {Q:Value→Shared→Prop} (q:s.heap.get? a=some o) (H:Holds prog w o es ep t σ (qg w)) (few:es.size≤sizeLine)
  (hm:(w.params.followText "set-order"=true∨(!t.plain&&decide (es.size > 1))=false)→Q (.ref s.heap.objs.size) {s with heap:=s.heap.push (sk (rawInt (0:Nat)) 0 a es.size ep)})
  (hd:w.params.followText "set-order"=false→∀(ys:List Nat) d,ys.Perm (List.range es.size) →
   Q (.ref (s.heap.objs.size+1)) {s with heap:=(s.heap.push {cls:=.type "tuple",data:=.seq (ys.map fun(i:Nat)=>rawInt i).toArray}).push (sk (.ref s.heap.objs.size) 0 a es.size ep),drawn:=d}) :
  wpAny (model prog w) A (pyIter (.ref a)) Q E s:=by
 have hT:s.TypeIs (.ref a) "set":=⟨o,q,H.set.1⟩
 refine IC hT JG (BK JG hT Fy ?_ (PySem.F.args_set_iter_1 _))
 unfold Builtin.«frozenset.__iter__» Builtin.Frozenset.slot0 Builtin.Frozenset.sizeOf
 refine AA (AA (m:=slotArgs _ _ _) (AD (AD ?_)))
 refine AA (AA (EI q H.data H.fits (AD ?_)))
 unfold setDrawn setsByText
 refine AA (AA (ED q H.data H.fits ?_))
 dsimp only
 refine AA (AA (EN (AD (AD ?_))))
 show wpAny _ _ (if(!w.params.followText "set-order"&&(!t.plain&&decide (es.size > 1)))=true then _ else _) _ _ _
 by_cases hc:(!w.params.followText "set-order"&&(!t.plain&&decide (es.size > 1)))=true
 ·rw[if_pos hc]
  have ht:w.params.followText "set-order"=false:=by
   rw[BC]at hc
   simpa using hc.1
  refine AA (Ax _ _ _ (by simp) fun ys d p=>?_)
  refine AA (HL ?_ (by rw[AF,p.length_eq,DE];exact few))
  refine AA (wpAny_setEpoch_of (AC _ q) H.data H.fits ?_)
  refine AA (BS ?_ (by size_fits))
  have hz:(s.heap.push {cls:=.type "tuple",data:=.seq (ys.map fun(i:Nat)=>rawInt i).toArray}).objs.size=s.heap.objs.size+1:=CZ ..
  rw[hz]
  refine AD ⟨_,rfl,"set_iterator",_,?_,slot_next.lookup,hd ht ys d p⟩
  exact⟨_,hz ▸ AH _ rfl,rfl⟩
 ·rw[if_neg hc]
  refine AA (AD ?_)
  refine AA (wpAny_setEpoch_of q H.data H.fits ?_)
  refine AA (BS ?_ (by size_fits))
  refine AD ⟨_,rfl,"set_iterator",_,⟨_,AH _ rfl,rfl⟩,slot_next.lookup,hm ?_⟩
  cases ht:w.params.followText "set-order" with
  | true=>exact .inl rfl
  | false=>rw[ht]at hc;exact .inr (by simpa using hc)
end
end Lp.Sets
namespace Lp.Sets
open PySem PySem.W PyProof.Rows PySem.Calls
noncomputable def atOf (t:SetTable) (i:Nat):Nat:=if i=0 then 0 else t.place.getD (i-1) 0+1
theorem below_at {t:SetTable} {l:Bool} (T:Tidy t l) {i:Nat} (hi:i≤t.place.size):SetTable.below t.place (atOf t i)=i:=by
 obtain⟨p1,p2,p3⟩:=uz T.rose (atOf t i)
 generalize SetTable.below t.place (atOf t i)=p at *
 unfold atOf at p2 p3
 by_cases h0:i=0
 ·subst h0
  simp only[if_true]at p2
  by_cases hp:p=0
  ·exact hp
  ·have:=p2 0 (by lia)
   lia
 ·rw[if_neg h0]at p2 p3
  have a1:i≤p:=by
   by_cases h:i≤p
   ·exact h
   ·have:=p3 (i-1) (by lia) (by lia)
    lia
  have a2:p≤i:=by
   by_cases h:p≤i
   ·exact h
   ·have b1:=p2 i (by lia)
    have b2:=T.rose (i-1) i (by lia) (by lia)
    lia
  lia
section
variable {prog : Program} {w : World} {A : Around} {E : Value → Shared → Prop} {s : Shared} {I a T : Addr} {o : Obj} {es : Array (Int × Value)} {ep : Nat} {t : SetTable} {σ : List Int}
theorem Fz (hh:A.handled=none) (ne:a≠I) (H:Holds prog w o es ep t σ (qg w)) (ht:w.params.followText "set-order"=true) :
  Walks prog w A I [I,a] [I] es.size (fun i v=>((pickOrder (w.params.setOrder a ep) es)[i]?).map (·.2)=some v) (fun i h=>h.get? a=some o∧h.get? I=some (sk (rawInt (0:Nat)) i a es.size ep)) where
 sub:=fun b hb=>by simp at hb;simp[hb]
 frame:=fun i h h' st k=>⟨k a (by simp) _ st.1,k I (by simp) _ st.2⟩
 item:=fun i s Q E hi st hQ=>by
  have sz:(pickOrder (w.params.setOrder a ep) es).size=es.size:=by simpa using(u0 (w.params.setOrder a ep) es).length_eq
  have e:(pickOrder (w.params.setOrder a ep) es)[i]? = some ((pickOrder (w.params.setOrder a ep) es)[i]'(by lia)):=CV _
  refine Iu (slot:=0) (nx:=0) (x:=((pickOrder (w.params.setOrder a ep) es)[i]'(by lia)).2) st.2 st.1 H rfl (fun A' E' Q' hq=>Ay st.1 H ht (by rw[e];exact hq)) fun h' q' b'=>?_
  exact hQ _ h' s.toks (by rw[e];rfl) ⟨(b'.2 a ne).trans st.1,q'⟩ fun b o hb z=>b'.extBut b o (fun x=>hb (by simp[x])) z
 done:=fun s Q E st hQ=>by
  have sz:(pickOrder (w.params.setOrder a ep) es).size=es.size:=by simpa using(u0 (w.params.setOrder a ep) es).length_eq
  have e:(pickOrder (w.params.setOrder a ep) es)[es.size]? = none:=GG (by lia)
  exact Iv (slot:=0) hh st.2 st.1 H rfl (fun A' E' Q' hq=>Ay st.1 H ht (by rw[e];exact hq)) fun h' b'=>hQ h' s.toks fun b o hb z=>b' b o (fun x=>hb (by simp[x])) z
 self:=fun i s Q E st hQ=>Cj st.2 hQ
theorem Ck (hh:A.handled=none) (ne:a≠I) (H:Holds prog w o es ep t σ (qg w)) (ht:w.params.followText "set-order"=false) (hp:(!t.plain&&decide (es.size > 1))=false) :
  Walks prog w A I [I,a] [I] es.size (fun i v=>(es[i]?).map (·.2)=some v) (fun i h=>h.get? a=some o∧h.get? I=some (sk (rawInt (atOf t i:Nat)) i a es.size ep)):=by
 have sz:t.place.size=es.size:=by
  have:=H.fits
  simp only[SetTable.fits,BC,beq_iff_eq]at this
  exact this.1
 refine⟨fun b hb=>by simp at hb;simp[hb],fun i h h' st k=>⟨k a (by simp) _ st.1,k I (by simp) _ st.2⟩,fun i s Q E hi st hQ=>?_,fun s Q E st hQ=>?_,fun i s Q E st hQ=>Cj st.2 hQ⟩
 ·have e1:es[i]? = some es[i]:=CV hi
  have e2:t.place[i]? = some (t.place.getD i 0):=by
   have:i<t.place.size:=by lia
   simp[this]
  refine Iu (x:=es[i].2) (nx:=t.place.getD i 0+1) st.2 st.1 H rfl (fun A' E' Q' hq=>wz st.1 H ht hp (by rw[below_at H.tidy (by lia),e1,e2];exact hq)) fun h' q' b'=>?_
  refine hQ _ h' s.toks (by rw[e1];rfl) ⟨(b'.2 a ne).trans st.1,?_⟩ fun b o hb z=>b'.extBut b o (fun x=>hb (by simp[x])) z
  have e3:atOf t (i+1)=t.place.getD i 0+1:=by simp[atOf]
  rw[e3];exact q'
 ·have e1:es[es.size]? = none:=GG (AI _)
  exact Iv hh st.2 st.1 H rfl (fun A' E' Q' hq=>wz st.1 H ht hp (by rw[below_at H.tidy (by lia),e1];exact hq)) fun h' b'=>hQ h' s.toks fun b o hb z=>b' b o (fun x=>hb (by simp[x])) z
theorem Cm (hh:A.handled=none) (ne:a≠I) (nt:T≠I) (H:Holds prog w o es ep t σ (qg w)) {ys:List Nat} (hy:ys.Perm (List.range es.size)) :
  Walks prog w A I [I,a,T] [I] es.size (fun i v=>((ys[i]?).bind fun j=>es[j]?).map (·.2)=some v) (fun i h=>h.get? a=some o∧h.get? I=some (sk (.ref T) i a es.size ep)∧h.IsTuple T (ys.map fun(i:Nat)=>rawInt i).toArray):=by
 have sz:ys.length=es.size:=by simpa using hy.length_eq
 refine⟨fun b hb=>by simp at hb;simp[hb],fun i h h' st k=>⟨k a (by simp) _ st.1,k I (by simp) _ st.2.1,st.2.2.at fun o e=>k T (by simp) o e⟩,fun i s Q E hi st hQ=>?_,fun s Q E st hQ=>?_,fun i s Q E st hQ=>Cj st.2.1 hQ⟩
 ·have hi':i<ys.length:=by lia
  have e1:ys[i]? = some ys[i]:=AB hi'
  have hj:ys[i]<es.size:=by
   have:ys[i]∈List.range es.size:=hy.mem_iff.mp (BL hi')
   simpa using this
  have e2:es[ys[i]]? = some es[ys[i]]:=CV hj
  refine Me (j:=ys[i]) (e:=es[ys[i]]) st.2.1 st.1 H rfl st.2.2 (by simp[e1]) e2 fun h' q' b'=>?_
  exact hQ _ h' s.toks (by rw[e1];show(es[ys[i]]?).map (·.2)=_;rw[e2];rfl) ⟨(b'.2 a ne).trans st.1,q',st.2.2.at fun o e=>b'.extBut T o nt e⟩ fun b o hb z=>b'.extBut b o (fun x=>hb (by simp[x])) z
 ·exact Az hh st.2.1 st.1 H rfl st.2.2 (by simp[sz]) fun h' b'=>hQ h' s.toks fun b o hb z=>b' b o (fun x=>hb (by simp[x])) z
theorem Mf {Q:Bool→Shared→Prop} (q:s.heap.get? a=some o) (H:o.cls=.type "set") (h:Q false s):wpAny (model prog w) A (Builtin.List.listLengthHint (.ref a)) Q E s:=by
 have hT:s.TypeIs (.ref a) "set":=⟨o,q,H⟩
 unfold Builtin.List.listLengthHint
 refine AA (IX hT PySem.F.slot_set_len.lookup ?_)
 generalize hid:("set.__len__":String)=z
 wp_delta
 rw[show splitId z=some ("set","__len__")from by subst hid;decide +kernel]
 subst hid
 refine AA (EM (T:="set") (b:=true) hT (by rw[FI];kernel_rfl) ?_)
 refine FB (fun x=>absurd x (by decide)) fun _=>?_
 refine FB (fun _=>?_) fun x=>absurd (by decide +kernel) x
 refine AA (GC hT ?_)
 exact AD h
end
end Lp.Sets
namespace Lp.Sets
open PySem PySem.W PyProof.Rows PySem.Calls
noncomputable def intOf:Value→Int
 | .int n _=>n
 | _=>0
theorem ints_of:∀{vs:List Value} {ns:List Int},IntsAre vs ns→ns=vs.map intOf∧∀v∈vs,∃n t,v=.int n t
 | _,_,.nil=>⟨rfl,fun v h=>by simp at h⟩
 | _,_,.cons n t r=>by
  obtain⟨e,h⟩:=ints_of r
  refine⟨by rw[AS,←e];rfl,fun v hv=>?_⟩
  rcases AM.mp hv with rfl | hv
  ·exact⟨n,t,rfl⟩
  ·exact h v hv
theorem Iw:∀{vs:List Value},(∀v∈vs,∃n t,v=Value.int n t)→IntsAre vs (vs.map intOf)
 | [],_=>.nil
 | v::vs,h=>by
  obtain⟨n,t,rfl⟩:=h v AQ
  exact .cons n t (Iw fun u hu=>h u (AJ _ hu))
theorem Iy {us vs:List Value} {ns:List Int} (h:IntsAre vs ns) (p:us.Perm vs):∃ms,IntsAre us ms∧ms.Perm ns:=by
 obtain⟨e,hv⟩:=ints_of h
 refine⟨us.map intOf,Iw fun u hu=>hv u (p.mem_iff.mp hu),?_⟩
 rw[e];exact p.map _
theorem yz {f:Nat→Option Value} {acc:Array Value} {n:Nat} {ord:List Value} (h:ItemsOf (fun i v=>f i=some v) acc n) (ho:ord.length=n) (hf:∀i,i<n→f i=ord[i]?):acc.toList=ord:=by
 obtain⟨h1,h2⟩:=h
 apply BV
 intro i
 by_cases hi:i<n
 ·have e:acc.toList[i]? = some acc[i]:=by
   rw[DJ];exact CV (by lia)
  rw[e,←hf i hi]
  exact(h2 i _ (CV (by lia))).symm
 ·rw[AX (by simp;lia),AX (by lia)]
section
variable {prog : Program} {w : World} {A : Around} {E : Value → Shared → Prop} {s : Shared} {a : Addr} {σ : List Int}
theorem F0 {R:Result→Shared→Prop} (hh:A.handled=none) (hS:Ci prog w s.heap a σ (qg w)) (D:Addr) (res:Value) (qD:s.heap.get? D=some {cls:=.type "list",dict:=none,data:=.seq #[] 0,slots:=#[]}) (ne:D≠a) (few:σ.length≤sizeLine)
  (hR:∀(h':Heap) tk d acc c',(∀b o,b≠D→s.heap.get? b=some o→h'.get? b=some o)→h'.get? D=some {cls:=.type "list",dict:=none,data:=.seq acc c',slots:=#[]}→(∃ms,IntsAre acc.toList ms∧ms.Perm σ) →
   R (.ok (.ret res)) {s with heap:=h',toks:=tk,drawn:=d}) :
  wpAny (model prog w) A.in1 (Builtin.List.listExtendWith (.ref D) (.ref a) res) (fun fin s'=>match fin with | .done f=>R (.ok f) s' | .again c'=>c'.quiet=true∧codeAny (model prog w) A c' R s') (fun e s'=>R (.error e) s') s:=by
 obtain⟨o,es,ep,t,q,H⟩:=hS
 obtain⟨vs,pv,iv⟩:=H.vals
 have hn:es.size=σ.length:=H.len
 have lD:D<s.heap.objs.size:=AL qD
 have la:a<s.heap.objs.size:=AL q
 have perm:∀{acc:Array Value} {ord:List Value},acc.toList=ord→ord.Perm (es.toList.map (·.2))→∃ms,IntsAre acc.toList ms∧ms.Perm σ:=fun e p=>by
  rw[e];exact Iy iv (p.trans pv)
 -- behind the iterator: the list is touched,and the loop runs
 have go:∀(h1:Heap) (d:Drawn) (I:Addr) (fp:List Addr) (P:Nat→Value→Prop) (St:Nat→Heap→Prop),Walks prog w A.in1 I fp [I] es.size P St→D∉fp→(∀b o,s.heap.get? b=some o→h1.get? b=some o)→s.heap.objs.size≤I →
   (∀h2:Heap,(∀b o,b≠D→h1.get? b=some o→h2.get? b=some o)→St 0 h2)→(∀acc,ItemsOf P acc es.size→∃ms,IntsAre acc.toList ms∧ms.Perm σ) →
   wpAny (model prog w) A.in1 (holding [.ref I] (Builtin.List.listLengthHint (.ref a))>>=fun room=>if(room || ["set","frozenset","dict","dict_keys","dict_values","dict_items"].any (Value.type "set"==.type ·))=true then do
     rule "list.extend.makes-room"
     Builtin.List.listTouch (.ref D)
     again (.builtin "list.extend.loop" ⟨[.ref D,.ref I,res],[]⟩)
    else again (.builtin "list.extend.loop" ⟨[.ref D,.ref I,res],[]⟩)) (fun fin s'=>match fin with | .done f=>R (.ok f) s' | .again c'=>c'.quiet=true∧codeAny (model prog w) A c' R s') (fun e s'=>R (.error e) s') {s with heap:=h1,drawn:=d}:=by
  intro h1 d I fp P St W df k1 lI st0 hacc
  refine AA (CS (Mf (s:={s with heap:=h1,drawn:=d}) (k1 a o q) H.set.1 ?_))
  rw[if_pos (by decide)]
  refine AA (FW ?_)
  have q1:=k1 D _ qD
  refine AA ?_
  show wpAny _ _ (updateSeq D (·.push .none)>>=fun _=>updateSeq D (·.pop)) _ _ _
  refine AA (IY q1 rfl ?_)
  have q2:=DI (Obj.mapSeq (·.push Value.none)) q1 rfl
  refine IY (hz:=by seq_fits) q2 rfl ?_
  have q3:=DI (Obj.mapSeq (·.pop)) q2 rfl
  have k3:∀b o,b≠D→h1.get? b=some o→((h1.update D (Obj.mapSeq (·.push Value.none))).update D (Obj.mapSeq (·.pop))).get? b=some o:=fun b o hb z=>by
   rw[DU _ _ _ _ hb,DU _ _ _ _ hb];exact z
  refine AD ⟨GU HV _,codeAny_extend_loopS W.toS (by lia) D df res es.size 0 _ #[] _ (by lia) (CQ _) (st0 _ k3) q3 (ItemsOf.nil _) fun s' acc c' m qD' ha=>?_⟩
  rw[JK m]
  refine hR s'.heap s'.toks d acc c' (fun b o hb z=>m.heap b o ?_ (k3 b o hb (k1 b o z))) qD' (hacc acc ha)
  simp only[AM,BF,or_false,not_or]
  exact⟨hb,AR (AU (AL z) lI)⟩
 unfold Builtin.List.listExtendWith
 refine AA (GC (T:="set") ⟨o,q,H.set.1⟩ ?_)
 have e1:Builtin.List.listSameRef (.ref D) (.ref a)=false:=by simp[Builtin.List.listSameRef,ne]
 have e2:(Value.type "set"==Value.type "list")=false:=by decide
 have e3:(Value.type "set"==Value.type "tuple")=false:=by decide
 simp only[e1,e2,e3,JJ,AT,if_false]
 refine AA (Rq q H (by lia) (fun hm=>?_) fun ht ys d py=>?_)
 ·cases ht:w.params.followText "set-order" with
  | true =>
   refine go _ s.drawn _ _ _ _ (Fz hh (AR la) H ht) (by simp;exact⟨AR lD,ne⟩) (fun b o z=>AC _ z) (AI _) (fun h2 k=>⟨k a o (Ne.symm ne) (AC _ q),k _ _ (CL lD) (AH _ rfl)⟩) fun acc ha=>?_
   have pp:=u0 (w.params.setOrder a ep) es
   refine perm (yz (ord:=(pickOrder (w.params.setOrder a ep) es).toList.map (·.2)) ha (by rw[AF,pp.length_eq,BP]) fun i _=>by simp) (pp.map _)
  | false =>
   rcases hm with z | hp
   ·rw[ht]at z;exact absurd z (by decide)
   refine go _ s.drawn _ _ _ _ (Ck hh (AR la) H ht hp) (by simp;exact⟨AR lD,ne⟩) (fun b o z=>AC _ z) (AI _) (fun h2 k=>⟨k a o (Ne.symm ne) (AC _ q),k _ _ (CL lD) (AH _ rfl)⟩) fun acc ha=>?_
   exact perm (yz (ord:=es.toList.map (·.2)) ha (by simp) fun i _=>by simp) (.refl _)
 ·have hz:(s.heap.push {cls:=.type "tuple",data:=.seq (ys.map fun(i:Nat)=>rawInt i).toArray}).objs.size=s.heap.objs.size+1:=CZ ..
  have sy:ys.length=es.size:=by simpa using py.length_eq
  refine go _ d _ _ _ _ (Cm (A:=A.in1) (I:=s.heap.objs.size+1) (T:=s.heap.objs.size) (show A.in1.handled=none from hh) (AR (DS la)) (AR (GP _)) H py) (by simp;exact⟨AR (DS lD),ne,AR lD⟩) (fun b o z=>AC _ (AC _ z)) (ES _)
   (fun h2 k=>⟨k a o (Ne.symm ne) (AC _ (AC _ q)),k _ _ (CL (DS lD)) (hz ▸ AH _ rfl),⟨_,k _ _ (CL lD) (AC _ (AH _ rfl)),rfl,_,rfl⟩⟩) fun acc ha=>?_
  refine perm (yz (ord:=ys.map fun j=>(es.getD j (0,.none)).2) ha (by rw[AF];exact sy) fun i hi=>?_) ?_
  ·have hi':i<ys.length:=by lia
   have hj:ys[i]<es.size:=by
    have:ys[i]∈List.range es.size:=py.mem_iff.mp (BL hi')
    simpa using this
   simp[hi',hj]
  ·have e:es.toList.map (·.2)=(List.range es.size).map fun j=>(es.getD j (0,.none)).2:=by
    apply BV
    intro i
    by_cases hi:i<es.size
    ·simp[hi]
    ·simp[hi]
   rw[e]
   exact py.map _
end
end Lp.Sets
namespace Lp.Sets
open PySem PySem.W PyProof.Rows PySem.Calls
section
variable {prog : Program} {w : World} {A : Around} {E : Value → Shared → Prop} {s : Shared} {a : Addr} {σ : List Int}
theorem Co {Q:List Value→Shared→Prop} (hh:A.handled=none) (hS:Ci prog w s.heap a σ (qg w)) (few:σ.length≤sizeLine)
  (hQ:∀(h':Heap) tk d us ms,(∀b o,s.heap.get? b=some o→h'.get? b=some o)→s.heap.objs.size<h'.objs.size→IntsAre us ms→ms.Perm σ→Q us {s with heap:=h',toks:=tk,drawn:=d}):wpAny (model prog w) A (collect (.ref a)) Q E s:=by
 have la:a<s.heap.objs.size:=by obtain⟨o,_,_,_,q,_⟩:=hS;exact AL q
 unfold collect
 refine AA (wpAny_runValue (FC PySem.F.entry_proto_collect ?_))
 rw[EE PySem.F.plain_proto_collect]
 show wpAny (model prog w) A.in1 (newList []>>=fun z=>again (.builtin "list.__iadd__" ⟨[z,.ref a],[]⟩)) _ _ s
 refine AA (BS (AD ⟨GU IP _,FC PySem.F.entry_list_iadd ?_⟩))
 rw[EE IP]
 have qD:(s.heap.push {cls:=.type "list",data:=.seq ([]:List Value).toArray}).get? s.heap.objs.size=some {cls:=.type "list",dict:=none,data:=.seq #[] 0,slots:=#[]}:=AH _ rfl
 refine DZ (F0 (A:=A) (s:={s with heap:=s.heap.push {cls:=.type "list",data:=.seq ([]:List Value).toArray}}) (R:=fun r' s'=>r'=.ok (.ret (.ref s.heap.objs.size))∧∃(h':Heap) (tk:Nat) (d:Drawn) (acc:Array Value) (c':Nat),s'={s with heap:=h',toks:=tk,drawn:=d}∧(∀b o',s.heap.get? b=some o'→h'.get? b=some o') ∧
   h'.get? s.heap.objs.size=some {cls:=.type "list",dict:=none,data:=.seq acc c',slots:=#[]}∧∃ms,IntsAre acc.toList ms∧ms.Perm σ) hh (hS.at fun o z=>AC _ z) s.heap.objs.size (.ref s.heap.objs.size) qD (CL la) few
   fun h' tk d acc c' k q m=>⟨rfl,h',tk,d,acc,c',rfl,fun b o z=>k b o (AR (AL z)) (AC _ z),q,m⟩) (fun fin s' h=>?_) fun e s' h=>absurd h.1 (by simp)
 have fin':∀(r':Result) (s'':Shared),(r'=.ok (.ret (.ref s.heap.objs.size))∧∃(h':Heap) (tk:Nat) (d:Drawn) (acc:Array Value) (c':Nat),s''={s with heap:=h',toks:=tk,drawn:=d}∧(∀b o',s.heap.get? b=some o'→h'.get? b=some o') ∧
   h'.get? s.heap.objs.size=some {cls:=.type "list",dict:=none,data:=.seq acc c',slots:=#[]}∧∃ms,IntsAre acc.toList ms∧ms.Perm σ)→wpAny (model prog w) A (match Value.ref s.heap.objs.size with
   | Value.ref a=>do
    match(←load a).data with
     | Data.seq xs _=>pure xs.toList
     | _=>unsupported "internal:collect"
   | _=>unsupported "internal:collect") Q E s'':=by
  rintro r' s'' ⟨rfl,h',tk,d,acc,c',rfl,k,q,ms,i,p⟩
  show wpAny (model prog w) A (load s.heap.objs.size>>=_) _ _ _
  exact AA (wpAny_load q (AD (hQ h' tk d _ ms k (AL q) i p)))
 cases fin with
 | done f =>
  have e:f=.ret (.ref s.heap.objs.size):=by have:=h.1;cases this;rfl
  subst e
  exact fin' _ _ h
 | again c'=>exact⟨h.1,Gt h.2 fun r' s'' hr=>by obtain⟨rfl,z⟩:=hr;exact fin' _ _ ⟨rfl,z⟩⟩
theorem F3 {Q:Value→Shared→Prop} (hh:A.handled=none) (hS:Ci prog w s.heap a σ (qg w)) (few:σ.length<64)
  (h:∀(h':Heap) tk d p out ns c,(∀b o,s.heap.get? b=some o→h'.get? b=some o)→s.heap.objs.size≤p→h'.get? p=some (seqObj "list" out c)→IntsAre out.toList ns→ns.Perm σ→ns.Pairwise (·≤·)→Q (.ref p) {s with heap:=h',toks:=tk,drawn:=d}) :
  wpAny (model prog w) A (call (.builtin "sorted") [.ref a]) Q E s:=by
 have small:σ.length≤sizeLine:=by rw[DP];lia
 refine HW kind_sorted plain_sorted entry_sorted (args_sorted1 _) ?_
 unfold Builtin.«sorted»
 refine AA (m:=checkCount "sorted" 1 1 _) (AD (AA (Co (show A.in1.handled=none from hh) hS small fun h1 tk d us ms k lz i p=>?_)))
 have lu:us.length=σ.length:=by rw[yx i,p.length_eq]
 refine AA (wpAny_newList ?_ (by lia))
 have qL:(h1.push (seqObj "list" us.toArray 0)).get? h1.objs.size=some (seqObj "list" us.toArray 0):=AH _ rfl
 refine AA (CS (BK slot_list_sort ⟨_,qL,rfl⟩ entry_list_sort (list_sort_tree (s:={s with heap:=h1.push (seqObj "list" us.toArray 0),toks:=tk,drawn:=d}) qL i (by lia) fun out ns j1 j2 j3=>⟨_,rfl,?_⟩) (args_list_sort _)))
 obtain⟨c,qc⟩:∃c,(sortedHeap (h1.push (seqObj "list" us.toArray 0)) h1.objs.size us out).get? h1.objs.size=some (seqObj "list" out c) :=
  ⟨_,IZ (AC _ (AC _ (IZ qL fun _=>#[]))) fun _=>out⟩
 refine AD ⟨_,rfl,h _ tk d _ out ns c (fun b o z=>?_) (ET lz) qc j1 (j2.trans p) j3⟩
 have zb:b≠h1.objs.size:=AR (AL (k b o z))
 unfold sortedHeap
 rw[DU _ _ _ _ zb]
 refine AC _ (AC _ ?_)
 rw[DU _ _ _ _ zb]
 exact AC _ (k b o z)
end
end Lp.Sets
namespace Lp
open PySem PySem.Spec PyProof.Rows L2
namespace Sets
theorem insI_perm (x:Int):∀l:List Int,(insI x l).Perm (x::l)
 | []=>.refl _
 | y::r=>by
  unfold insI
  split
  ·exact .refl _
  ·exact((insI_perm x r).cons y).trans (List.Perm.swap ..)
theorem sortI_perm:∀l:List Int,(sortI l).Perm l
 | []=>.refl _
 | x::r=>(insI_perm x (sortI r)).trans ((sortI_perm r).cons x)
theorem Iz (x:Int):∀l:List Int,l.Pairwise (·≤·)→(insI x l).Pairwise (·≤·)
 | [],_=>by simp[insI]
 | y::r,h=>by
  obtain⟨h1,h2⟩:=BO.mp h
  unfold insI
  split
  ·rename_i hc
   refine BO.mpr ⟨fun z hz=>?_,h⟩
   rcases AM.mp hz with rfl | hz
   ·exact hc
   ·exact Int.le_trans hc (h1 z hz)
  ·rename_i hc
   refine BO.mpr ⟨fun z hz=>?_,Iz x r h2⟩
   rcases AM.mp ((insI_perm x r).mem_iff.mp hz)with rfl | hz
   ·lia
   ·exact h1 z hz
theorem D5:∀l:List Int,(sortI l).Pairwise (·≤·)
 | []=>.nil
 | x::r=>Iz x _ (D5 r)
theorem I0:∀{l m:List Int},l.Perm m→l.Pairwise (·≤·)→m.Pairwise (·≤·)→l=m
 | [],m,p,_,_=>(List.nil_perm.mp p).symm
 | x::l,[],p,_,_=>by have:=p.length_eq;simp at this
 | x::l,y::m,p,h1,h2=>by
  obtain⟨a1,a2⟩:=BO.mp h1
  obtain⟨b1,b2⟩:=BO.mp h2
  have e:x=y:=by
   have hx:x∈y::m:=p.mem_iff.mp AQ
   have hy:y∈x::l:=p.mem_iff.mpr AQ
   rcases AM.mp hx with e | hx
   ·exact e
   ·rcases AM.mp hy with e | hy
    ·exact e.symm
    ·exact Int.le_antisymm (a1 y hy) (b1 x hx)
  subst e
  rw[I0 (List.Perm.cons_inv p) a2 b2]
theorem sd (ns:List Int):firstMet (fun i=>ns.getD i 0) ns.length=Dl ns:=by
 unfold firstMet Dl
 have e:(List.range ns.length).map (fun i=>ns.getD i 0)=ns:=by
  apply BV
  intro i
  by_cases h:i<ns.length
  ·simp[h]
  ·simp[h]
 rw[e]
 rfl
theorem Rr (ns:List Int):(Dl ns).length≤ns.length:=by
 rw[←sd];exact firstMet_length_le _ _
theorem vals_ints:∀{ns:List Int} {us:List Value},cq (ns.map V.int) us→IntsAre us ns
 | [],[],_=>.nil
 | n::r,u::us,h=>by
  cases h with
  | cons h1 h2 =>
   obtain⟨t,rfl⟩:=h1
   exact .cons n t (vals_ints h2)
 | [],u::us,h=>by cases h
 | n::r,[],h=>by cases h
theorem A0:∀{us:List Value} {ns:List Int},IntsAre us ns→cq (ns.map V.int) us
 | _,_,.nil=>.nil
 | _,_,.cons n t r=>.cons ⟨t,rfl⟩ (A0 r)
theorem drew {X:Cx} {pins:List (Addr×Obj)} {σ:List (Option V)} {H:Hp} {s:Shared} {d:Drawn} (I:Inv X pins σ H s):Inv X pins σ H {s with drawn:=d} :=
 ⟨I.ok,I.os,I.bare,I.base,I.loc,I.cell,I.free,I.freeC,I.pin,I.hok,I.len⟩
end Sets
section
variable {X : Cx} {φ : Phi} {a : Expr} {xa : Ex} {p p2 pos pos2 : Pos} {m : Mk}
noncomputable def Yw (K:PySem.W.Frag) (ta:TE) (k:List Int→Hp→VK→Prop):TE:=fun σ H Q=>ta σ H fun v H1=>∃(b:Addr) (ns:List Int),v=.ref b∧(LsL K H1 b (ns.map V.int)∨SqT K H1 b (ns.map V.int))∧ns.length<64∧k ns H1 Q
theorem Mg {σv:St} {H:Hp} {Q:VK} (h:tE X.K φ (.blt .sortedSet m (.cons xa .nil)) σv H Q) :
  Yw X.K (tE X.K φ xa) (fun ns H Q=>∀q,H q=none→FQ Q (.ref q) (upd H q (.lst ((sortI (Dl ns)).map V.int)))) σv H Q:=by
 obtain⟨ι,σ,μ,hS,hL,h⟩:=h
 simp only[evE,iu]at h
 rw[Res.bind_assoc]at h
 obtain⟨d,μ1,e1,h⟩:=h.bind
 refine⟨ι,σ,μ,hS,hL,?_⟩
 rw[e1]
 intro ι1 v H1 p1 x1 s1 d1
 have h:=h.mono p1 x1
 simp only[Res.bo]at h
 simp only[btD,ie]at h
 obtain⟨b,ns,rfl,hq,h⟩:=B8 s1 d1 h
 split at h
 ·rename_i h64
  exact⟨b,ns,rfl,hq,h64,fun q z=>mv s1 (aq.ints _) h z⟩
 ·exact h.elim
theorem Cq (hms:X.mg "sorted"=none) (hmt:X.mg "set"=none) (ha:PE X a (tE X.K φ xa)) (hgs:Gl X "sorted":=by rfl) (hgt:Gl X "set":=by rfl) (hc:X.calm=true:=by rfl)
  (hs:starEach [a] X.env=[(false,eval a X.env)]:=by rfl) (hs2:starEach [.Call (.Name "set" p2) [a] [] pos2] X.env=[(false,eval (.Call (.Name "set" p2) [a] [] pos2) X.env)]:=by rfl) :
  PE X (.Call (.Name "sorted" p) [.Call (.Name "set" p2) [a] [] pos2] [] pos) (tE X.K φ (.blt .sortedSet m (.cons xa .nil))):=by
 refine PE.imp (t:=Yw X.K (tE X.K φ xa) fun ns H Q=>∀q,H q=none→FQ Q (.ref q) (upd H q (.lst ((sortI (Dl ns)).map V.int)))) ?_ fun σv H Q h=>Mg h
 intro pins s σ H Q I h
 refine DL (o5 I hgs hms (by first | exact IG | decide +kernel) ?_ (by decide) (by decide))
 refine GO ?_ hs2 rfl
 rw[hs2]
 refine DK ?_
 refine DL (o5 I hgt hmt (by first | exact PyProof.Rows.boot_set | decide +kernel) ?_ (by decide) (by decide))
 refine CF ?_ hs rfl
 rw[hs]
 refine DK (thn (ha pins s σ H _ I h) fun u s1 ⟨v,H1,I1,r1,b,ns,ev,hq,h64,q⟩=>EC ?_)
 subst ev
 cases(show u=Value.ref b from r1)
 obtain⟨bb,its,hv,hsq⟩:∃(bb:Bool) (its:List Value),cq (ns.map V.int) its∧SQ bb s1.heap b its.toArray:=by
  rcases hq with hq | hq
  ·obtain⟨z,its,n,hv,hl,hg⟩:=I1.ls hq
   exact⟨true,its,hv,⟨_,hg,rfl,n,rfl⟩⟩
  ·obtain⟨its,hv,ht,hz⟩:=I1.tuple hq
   exact⟨false,its,hv,ht⟩
 have ln:its.length=ns.length:=by have:=hv.length;simpa using this.symm
 refine Sets.Md (ns:=ns) (I1.ok.hd hc) hsq (by simpa using Sets.vals_ints hv) (by rw[AE];unfold scanBound;lia) fun h1 tk1 hH k1=>EC ?_
 have hsz:its.toArray.size=ns.length:=by rw[AE];exact ln
 rw[hsz,Sets.sd]at hH
 have hd:=Sets.Rr ns
 refine Dm (Sets.F3 (s:={s1 with heap:=h1,toks:=tk1}) (I1.ok.hd hc) hH (by lia) fun h2 tk2 d pq out ms c k2 lp qp i1 i2 i3=>?_)
 have e:ms=sortI (Dl ns):=Sets.I0 (i2.trans (Sets.sortI_perm _).symm) i3 (Sets.D5 _)
 subst e
 have l1:s1.heap.objs.size<h1.objs.size:=by obtain⟨o,_,_,_,z,_⟩:=hH;exact AL z
 have lp':s1.heap.objs.size≤pq:=by
  have:h1.objs.size≤pq:=lp
  lia
 have lz:(sortI (Dl ns)).length≤ns.length:=by rw[(Sets.sortI_perm _).length_eq];exact hd
 have I2:=I1.laid (a:=pq) (o:=.lst ((sortI (Dl ns)).map V.int)) (h':=h2) (t':=tk2) (fun b o z=>k2 b o (k1 b o z)) lp' ⟨by rw[AF,DP];lia,out.toList,c,Sets.A0 i1,by rw[JI];exact qp⟩
 exact⟨.ref pq,_,Sets.drew I2,rfl,q pq (I1.hok.fresh lp')⟩
end
end Lp
namespace Lp
open PySem
noncomputable abbrev ou:Nat:=2
noncomputable abbrev dh:Nat:=3
noncomputable abbrev fc:Nat:=4
noncomputable abbrev ib:Nat:=5
noncomputable abbrev j0:Nat:=6
noncomputable abbrev u3:Nat:=13
noncomputable abbrev di:Nat:=34
noncomputable abbrev j4:Nat:=37
noncomputable abbrev j5:Nat:=38
noncomputable abbrev ng:Nat:=39
noncomputable abbrev lg:Nat:=41
noncomputable abbrev c6:Nat:=42
noncomputable abbrev cg:Nat:=53
noncomputable abbrev ee:Nat:=54
noncomputable abbrev cm:Nat:=55
noncomputable abbrev fk:Nat:=56
noncomputable abbrev qh:Nat:=57
noncomputable abbrev gn:Nat:=58
noncomputable abbrev jf:Nat:=59
noncomputable abbrev nh:Nat:=60
noncomputable abbrev rn:Nat:=61
noncomputable abbrev u4:Nat:=62
noncomputable abbrev f9:Nat:=64
noncomputable abbrev l9:Nat:=65
noncomputable abbrev oy:Nat:=66
noncomputable abbrev jg:Nat:=142
noncomputable abbrev lh:Nat:=143
noncomputable abbrev ij:Nat:=161
noncomputable abbrev ik:Nat:=162
noncomputable abbrev cj:Nat:=163
noncomputable abbrev p5:Nat:=164
noncomputable def D_can_burn:Df:=⟨3,6,(.cons (.unp [3,4,5] (.ix (.ix (.var 0) (.cst (.int 2))) (.var 1))) (.cons (.ret (.cmp (.var 2) (.cons .notin (.var 5) .nil))) .nil))⟩
noncomputable def D_law_next:Df:=⟨1,1,(.cons (.ite (.cmp (.blt .len .z (.cons (.var 0) .nil)) (.cons .gt (.cst (.int 0)) .nil)) (.cons (.ret (.meth .pop (.var 0) .nil)) .nil) .nil) (.cons (.ret (.cst (.int 0))) .nil))⟩
noncomputable def D_law_turn:Df:=⟨1,2,(.cons (.set 1 (.bin .Mod .z (.bin .Mult .z (.bin .Add .z (.bin .Mod .z (.var 0) (.bin .Pow .z (.cst (.int 10)) (.cst (.int 60)))) (.cst (.int 1))) (.cst (.int 69621))) (.cst (.int 2147483647)))) (.cons (.ret (.bin .FloorDiv .z (.bin .Mod .z (.bin .Mult .z (.var 1) (.var 1)) (.cst (.int 1000000007))) (.cst (.int 7)))) .nil))⟩
noncomputable def D_law_size:Df:=⟨2,3,(.cons (.set 2 (.call false fc (.cons (.var 0) .nil))) (.cons (.ite (.cmp (.bin .Mod .z (.var 2) (.cst (.int 8))) (.cons .lt (.cst (.int 6)) .nil)) (.cons (.ret (.blt .min .z (.cons (.var 1) (.cons (.bin .Mod .z (.bin .FloorDiv .z (.var 2) (.cst (.int 8))) (.cst (.int 13))) .nil)))) .nil) .nil) (.cons (.ite (.cmp (.bin .Mod .z (.var 2) (.cst (.int 8))) (.cons .eq (.cst (.int 6)) .nil)) (.cons (.ret (.bin .Sub .z (.var 1) (.bin .Mod .z (.bin .FloorDiv .z (.var 2) (.cst (.int 8))) (.cst (.int 2))))) .nil) .nil) (.cons (.ret (.bin .Mod .z (.var 0) (.bin .Add .z (.var 1) (.cst (.int 1))))) .nil))))⟩
noncomputable def D_law_whole:Df:=⟨1,1,(.cons (.ret (.and (.isi (.var 0) .int) (.not (.isi (.var 0) .bool)))) .nil)⟩
noncomputable def ma:Ex:=(.cmp (.var 0) (.cons .lt (.var 1) .nil))
noncomputable def D_rises:Df:=⟨1,1,(.cons (.ret (.blt .all .z (.cons (.comp .z [] 2 (.many [0,1]) (.zip (.var 0) (.sl .z (.var 0) (.so (.cst (.int 1))) .no)) .nil ma) .nil))) .nil)⟩
noncomputable def gc:Sms:=(.cons (.setx (.var 2) (.var 3) (.bin .Sub .z (.bin .Add .z (.meth .get (.var 2) (.cons (.var 3) (.cons (.cst (.int 0)) .nil))) (.var 5)) (.var 4))) .nil)
noncomputable def gf:Ex:=(.meth .get (.var 0) (.cons (.var 1) (.cons (.cst (.int 0)) .nil)))
noncomputable def D_ticks_of_spans:Df:=⟨2,6,(.cons (.set 2 (.dic false .nil)) (.cons (.loop (.many [3,4,5]) (.seq (.var 1)) gc) (.cons (.ret (.blt .tuple .z (.cons (.comp .z [2] 1 (.one 1) (.rng (.var 0)) .nil gf) .nil))) .nil)))⟩
noncomputable def D_law_share:Df:=⟨3,3,(.cons (.ite (.cmp (.bin .Mod .z (.var 0) (.cst (.int 4))) (.cons .lt (.cst (.int 2)) .nil)) (.cons (.ret (.bin .Add .z (.var 1) (.bin .Mod .z (.bin .Mult .z (.bin .FloorDiv .z (.var 0) (.cst (.int 4))) (.cst (.int 1000003))) (.bin .Add .z (.bin .Sub .z (.var 2) (.var 1)) (.cst (.int 1)))))) .nil) .nil) (.cons (.ret (.ix (.lst .z (.cons (.var 1) (.cons (.var 2) .nil))) (.bin .Mod .z (.var 0) (.cst (.int 2))))) .nil))⟩
noncomputable def ly:Ex:=(.ix (.var 0) (.bin .Mod .z (.bin .Add .z (.var 2) (.var 1)) (.blt .len .z (.cons (.var 0) .nil))))
noncomputable def l4:Sms:=(.cons (.set 8 (.blt .max .z (.cons (.cst (.int 0)) (.cons (.bin .Sub .z (.var 5) (.bin .Mult .z (.var 2) (.bin .Sub .z (.bin .Sub .z (.blt .len .z (.cons (.var 4) .nil)) (.var 7)) (.cst (.int 1))))) .nil)))) (.cons (.set 9 (.call false j4 (.cons (.bin .Add .z (.bin .Add .z (.bin .FloorDiv .z (.var 0) (.cst (.int 8))) (.bin .Mult .z (.bin .Mult .z (.cst (.int 7919)) (.var 7)) (.var 7))) (.var 7)) (.cons (.var 8) (.cons (.blt .min .z (.cons (.var 2) (.cons (.var 5) .nil))) .nil))))) (.cons (.ex (.meth .append (.var 6) (.cons (.tup (.cons (.ix (.var 4) (.var 7)) (.cons (.var 9) .nil))) .nil))) (.cons (.set 5 (.bin .Sub .z (.var 5) (.var 9))) .nil))))
noncomputable def D_law_ticks:Df:=⟨4,10,(.cons (.set 4 (.comp .z [1,0] 1 (.one 2) (.rng (.blt .len .z (.cons (.var 1) .nil))) .nil ly)) (.cons (.set 5 (.bin .Mult .z (.var 3) (.var 2))) (.cons (.set 6 (.lst .l .nil)) (.cons (.loop (.one 7) (.rng (.blt .len .z (.cons (.var 4) .nil))) l4) (.cons (.ret (.frz 6)) .nil)))))⟩
noncomputable def ff:Sms:=(.cons (.set 6 (.bin .Add .z (.var 3) (.var 5))) (.cons (.ite (.cmp (.var 5) (.cons .gt (.cst (.int 0)) .nil)) (.cons (.ex (.meth .append (.var 2) (.cons (.tup (.cons (.var 4) (.cons (.var 3) (.cons (.blt .min .z (.cons (.var 6) (.cons (.var 0) .nil))) .nil)))) .nil))) .nil) .nil) (.cons (.ite (.cmp (.var 6) (.cons .gt (.var 0) .nil)) (.cons (.ex (.meth .append (.var 2) (.cons (.tup (.cons (.var 4) (.cons (.cst (.int 0)) (.cons (.bin .Sub .z (.var 6) (.var 0)) .nil)))) .nil))) .nil) .nil) (.cons (.set 3 (.bin .Mod .z (.var 6) (.var 0))) .nil))))
noncomputable def D_law_spans:Df:=⟨2,7,(.cons (.set 2 (.lst .l .nil)) (.cons (.set 3 (.cst (.int 0))) (.cons (.loop (.many [4,5]) (.seq (.var 1)) ff) (.cons (.ret (.blt .tuple .z (.cons (.blt .sorted .z (.cons (.var 2) .nil)) .nil))) .nil))))⟩
noncomputable def gp:Exs:=(.cons (.cmp (.var 0) (.cons .notin (.ix (.ix (.var 1) (.cst (.int 2))) (.var 2)) .nil)) .nil)
noncomputable def gq:Ex:=(.var 2)
noncomputable def j6:Sms:=(.cons (.set 4 (.comp .z [3,1] 1 (.one 2) (.rng (.ix (.var 1) (.cst (.int 0)))) gp gq)) (.cons (.set 5 (.blt .max .z (.cons (.cst (.int 1)) (.cons (.call false ib (.cons (.call false dh (.cons (.var 0) .nil)) (.cons (.bin .Pow .z (.cst (.int 10)) (.cst (.int 15))) .nil))) .nil)))) (.cons (.set 6 (.call false fc (.cons (.call false dh (.cons (.var 0) .nil)) .nil))) (.cons (.set 7 (.bin .Mod .z (.var 6) (.bin .Add .z (.blt .len .z (.cons (.var 4) .nil)) (.cst (.int 1))))) (.cons (.set 8 (.lst .z .nil)) (.cons (.ite (.cmp (.blt .len .z (.cons (.var 4) .nil)) (.cons .gt (.cst (.int 0)) .nil)) (.cons (.set 8 (.call false j5 (.cons (.bin .FloorDiv .z (.var 6) (.cst (.int 16))) (.cons (.var 4) (.cons (.var 5) (.cons (.var 7) .nil)))))) .nil) .nil) (.cons (.ex (.meth .append (.var 2) (.cons (.tup (.cons (.var 5) (.cons (.var 7) (.cons (.var 8) (.cons (.call false ng (.cons (.var 5) (.cons (.var 8) .nil))) .nil))))) .nil))) .nil)))))))
noncomputable def D_law_nights:Df:=⟨2,9,(.cons (.set 2 (.lst .l .nil)) (.cons (.loop (.one 3) (.rng (.ix (.var 1) (.cst (.int 1)))) j6) (.cons (.ret (.frz 2)) .nil)))⟩
noncomputable def D_law_slack:Df:=⟨1,2,(.cons (.set 1 (.call false fc (.cons (.call false dh (.cons (.var 0) .nil)) .nil))) (.cons (.ite (.cmp (.bin .Mod .z (.var 1) (.cst (.int 3))) (.cons .lt (.cst (.int 2)) .nil)) (.cons (.ret (.cst (.int 0))) .nil) .nil) (.cons (.ret (.bin .Mod .z (.bin .FloorDiv .z (.var 1) (.cst (.int 3))) (.cst (.int 7)))) .nil)))⟩
noncomputable def D_have_tick_in_common:Df:=⟨2,2,(.cons (.ret (.and (.cmp (.ix (.var 0) (.cst (.int 0))) (.cons .eq (.ix (.var 1) (.cst (.int 0))) .nil)) (.cmp (.ix (.var 1) (.cst (.int 1))) (.cons .lt (.ix (.var 0) (.cst (.int 2))) .nil)))) .nil)⟩
noncomputable def a7:Sms:=(.cons (.ite (.not (.and (.cmp (.cst (.int 0)) (.cons .le (.var 3) (.cons .lt (.var 1) .nil))) (.cmp (.cst (.int 0)) (.cons .le (.var 4) (.cons .lt (.var 5) (.cons .le (.var 0) .nil)))))) (.cons (.ret (.cst (.bl true))) .nil) .nil) .nil)
noncomputable def c7:Ex:=(.call false cg (.cons (.var 0) (.cons (.var 1) .nil)))
noncomputable def D_has_span_fault:Df:=⟨3,6,(.cons (.loop (.many [3,4,5]) (.seq (.var 2)) a7) (.cons (.ret (.or (.not (.call false u3 (.cons (.var 2) .nil))) (.blt .any .z (.cons (.comp .z [] 2 (.many [0,1]) (.zip (.var 2) (.sl .z (.var 2) (.so (.cst (.int 1))) .no)) .nil c7) .nil)))) .nil))⟩
noncomputable def gg:Sms:=(.cons (.setx (.var 3) (.var 5) (.bin .Add .z (.meth .get (.var 3) (.cons (.var 5) (.cons (.cst (.int 0)) .nil))) (.cst (.int 1)))) (.cons (.setx (.var 3) (.var 6) (.bin .Sub .z (.meth .get (.var 3) (.cons (.var 6) (.cons (.cst (.int 0)) .nil))) (.cst (.int 1)))) .nil))
noncomputable def gh:Ex:=(.cmp (.var 0) (.cons .ne (.cst (.int 0)) .nil))
noncomputable def D_has_dark_fault:Df:=⟨3,7,(.cons (.set 3 (.dic false (.cons (.cst (.int 0)) (.cons (.neg (.var 1)) (.cons (.var 0) (.cons (.var 1) .nil)))))) (.cons (.loop (.many [4,5,6]) (.seq (.var 2)) gg) (.cons (.ret (.blt .any .z (.cons (.comp .z [] 1 (.one 0) (.vals (.var 3)) .nil gh) .nil))) .nil)))⟩
noncomputable def gr:Ex:=(.var 1)
noncomputable def D_held_at_first:Df:=⟨1,1,(.cons (.ret (.tup (.cons (.ix (.var 0) (.cst (.int 1))) (.cons (.blt .tuple .z (.cons (.comp .z [] 3 (.many [0,1,2]) (.seq (.ix (.var 0) (.cst (.int 2)))) .nil gr) .nil)) .nil)))) .nil)⟩
noncomputable def p6:Ex:=(.bin .Add .z (.var 0) (.var 1))
noncomputable def D_filled:Df:=⟨2,2,(.cons (.ret (.blt .tuple .z (.cons (.comp .z [] 2 (.many [0,1]) (.zip (.var 0) (.var 1)) .nil p6) .nil))) .nil)⟩
noncomputable def i5:Ex:=(.bin .Sub .z (.var 0) (.var 1))
noncomputable def D_held_behind:Df:=⟨3,11,(.cons (.unp [3,4] (.var 1)) (.cons (.unp [5,6,7,8] (.var 2)) (.cons (.set 9 (.bin .Sub .z (.bin .Add .z (.bin .Add .z (.var 3) (.var 5)) (.var 6)) (.blt .sum .z (.cons (.var 7) .nil)))) (.cons (.set 10 (.call false di (.cons (.blt .len .z (.cons (.var 4) .nil)) (.cons (.var 8) .nil)))) (.cons (.ret (.tup (.cons (.blt .min .z (.cons (.var 9) (.cons (.ix (.var 0) (.cst (.int 0))) .nil))) (.cons (.blt .tuple .z (.cons (.comp .z [] 2 (.many [0,1]) (.zip (.call false qh (.cons (.var 4) (.cons (.var 7) .nil))) (.var 10)) .nil i5) .nil)) .nil)))) .nil)))))⟩
noncomputable def i6:Ex:=(.not (.call false ou (.cons (.var 0) (.cons (.var 2) (.cons (.var 1) .nil)))))
noncomputable def i7:Ex:=(.cmp (.var 0) (.cons .gt (.var 1) .nil))
noncomputable def D_night_fault:Df:=⟨4,10,(.cons (.unp [4,5,6,7,8] (.ix (.ix (.var 0) (.cst (.int 3))) (.var 1))) (.cons (.ite (.call false ee (.cons (.var 7) (.cons (.blt .len .z (.cons (.var 2) .nil)) (.cons (.var 3) .nil)))) (.cons (.ret (.cst (.str (PySem.Str.ofString "span")))) .nil) .nil) (.cons (.ite (.blt .any .z (.cons (.comp .z [0,1] 3 (.many [2,3,4]) (.seq (.var 3)) .nil i6) .nil)) (.cons (.ret (.cst (.str (PySem.Str.ofString "away")))) .nil) .nil) (.cons (.set 9 (.call false di (.cons (.blt .len .z (.cons (.var 2) .nil)) (.cons (.var 3) .nil)))) (.cons (.ite (.blt .any .z (.cons (.comp .z [] 2 (.many [0,1]) (.zip (.var 9) (.var 2)) .nil i7) .nil)) (.cons (.ret (.cst (.str (PySem.Str.ofString "oil")))) .nil) .nil) (.cons (.ite (.call false cm (.cons (.var 7) (.cons (.var 8) (.cons (.var 3) .nil)))) (.cons (.ret (.cst (.str (PySem.Str.ofString "dark")))) .nil) .nil) (.cons (.ret (.cst .non)) .nil)))))))⟩
noncomputable def l5:Ex:=(.cmp (.var 0) (.cons .gt (.ix (.var 1) (.cst (.int 0))) .nil))
noncomputable def D_day_fault:Df:=⟨4,16,(.cons (.unp [4,5,6,7,8] (.ix (.ix (.var 0) (.cst (.int 3))) (.var 1))) (.cons (.unp [9,10] (.var 2)) (.cons (.unp [11,12,13,14] (.var 3)) (.cons (.ite (.not (.cmp (.cst (.int 0)) (.cons .le (.var 11) (.cons .le (.var 4) .nil)))) (.cons (.ret (.cst (.str (PySem.Str.ofString "boat")))) .nil) .nil) (.cons (.ite (.not (.cmp (.cst (.int 0)) (.cons .le (.var 12) (.cons .le (.var 5) .nil)))) (.cons (.ret (.cst (.str (PySem.Str.ofString "market")))) .nil) .nil) (.cons (.ite (.or (.cmp (.blt .min1 .z (.cons (.var 13) .nil)) (.cons .lt (.cst (.int 0)) .nil)) (.cmp (.blt .sum .z (.cons (.var 13) .nil)) (.cons .gt (.bin .Add .z (.bin .Add .z (.var 9) (.var 11)) (.var 12)) .nil))) (.cons (.ret (.cst (.str (PySem.Str.ofString "pour")))) .nil) .nil) (.cons (.set 15 (.call false qh (.cons (.var 10) (.cons (.var 13) .nil)))) (.cons (.ite (.blt .any .z (.cons (.comp .z [] 2 (.many [0,1]) (.zip (.var 15) (.ix (.var 0) (.cst (.int 2)))) .nil l5) .nil)) (.cons (.ret (.cst (.str (PySem.Str.ofString "tank")))) .nil) .nil) (.cons (.ret (.call false jf (.cons (.var 0) (.cons (.var 1) (.cons (.var 15) (.cons (.var 14) .nil)))))) .nil)))))))))⟩
noncomputable def oz:Sms:=(.cons (.set 5 (.call false nh (.cons (.var 0) (.cons (.var 3) (.cons (.var 2) (.cons (.var 4) .nil)))))) (.cons (.ite (.cmp (.var 5) (.cons .isnot (.cst .non) .nil)) (.cons (.ret (.tup (.cons (.var 3) (.cons (.var 5) .nil)))) .nil) .nil) (.cons (.set 2 (.call false gn (.cons (.var 0) (.cons (.var 2) (.cons (.var 4) .nil))))) .nil)))
noncomputable def D_fault:Df:=⟨2,6,(.cons (.set 2 (.call false fk (.cons (.var 0) .nil))) (.cons (.loop (.many [3,4]) (.enum (.var 1)) oz) (.cons (.ret (.cst .non)) .nil)))⟩
noncomputable def D_keeps:Df:=⟨2,2,(.cons (.ret (.cmp (.call false rn (.cons (.var 0) (.cons (.var 1) .nil))) (.cons .is (.cst .non) .nil))) .nil)⟩
noncomputable def cf:Sms:=(.cons (.ite (.or (.cmp (.var 7) (.cons .ge (.ix (.var 2) (.var 3)) .nil)) (.and (.cmp (.ix (.var 7) (.cst (.int 0))) (.cons .eq (.var 4) .nil)) (.and (.cmp (.ix (.var 7) (.cst (.int 1))) (.cons .lt (.var 6) .nil)) (.cmp (.var 5) (.cons .lt (.ix (.var 7) (.cst (.int 2))) .nil))))) (.cons (.ret (.cst (.bl true))) .nil) .nil) .nil)
noncomputable def bp:Sms:=(.cons (.unp [4,5,6] (.ix (.var 2) (.var 3))) (.cons (.ite (.or (.not (.cmp (.cst (.int 0)) (.cons .le (.var 4) (.cons .lt (.var 1) .nil)))) (.not (.cmp (.cst (.int 0)) (.cons .le (.var 5) (.cons .lt (.var 6) (.cons .le (.var 0) .nil)))))) (.cons (.ret (.cst (.bl true))) .nil) .nil) (.cons (.loop (.one 7) (.seq (.sl .z (.var 2) .no (.so (.var 3)))) cf) .nil)))
noncomputable def D_law_span_bad:Df:=⟨3,8,(.cons (.loop (.one 3) (.rng (.blt .len .z (.cons (.var 2) .nil))) bp) (.cons (.ret (.cst (.bl false))) .nil))⟩
noncomputable def ni:Ex:=(.ix (.var 0) (.cst (.int 1)))
noncomputable def nj:Ex:=(.ix (.var 0) (.cst (.int 2)))
noncomputable def gs:Exs:=(.cons (.and (.cmp (.ix (.var 1) (.cst (.int 1))) (.cons .le (.var 0) .nil)) (.cmp (.var 0) (.cons .lt (.ix (.var 1) (.cst (.int 2))) .nil))) .nil)
noncomputable def gu:Ex:=(.var 1)
noncomputable def gv:Sms:=(.cons (.ite (.cmp (.var 4) (.cons .lt (.var 0) .nil)) (.cons (.ite (.cmp (.blt .len .z (.cons (.comp .z [4] 1 (.one 1) (.seq (.var 2)) gs gu) .nil)) (.cons .ne (.var 1) .nil)) (.cons (.ret (.cst (.bl true))) .nil) .nil) .nil) .nil) .nil)
noncomputable def D_law_dark:Df:=⟨3,5,(.cons (.set 3 (.blt .sortedSet .z (.cons (.bin .Add .z (.bin .Add .z (.lst .z (.cons (.cst (.int 0)) .nil)) (.comp .z [] 1 (.one 0) (.seq (.var 2)) .nil ni)) (.comp .z [] 1 (.one 0) (.seq (.var 2)) .nil nj)) .nil))) (.cons (.loop (.one 4) (.seq (.var 3)) gv) (.cons (.ret (.cst (.bl false))) .nil)))⟩
noncomputable def jh:Exs:=(.cons (.cmp (.var 0) (.cons .lt (.cst (.int 0)) .nil)) .nil)
noncomputable def ji:Ex:=(.var 0)
noncomputable def nk:Ex:=(.bin .Add .z (.ix (.var 0) (.var 2)) (.ix (.var 1) (.var 2)))
noncomputable def jk:Exs:=(.cons (.cmp (.ix (.var 0) (.var 2)) (.cons .gt (.ix (.ix (.ix (.var 1) (.cst (.int 2))) (.var 2)) (.cst (.int 0))) .nil)) .nil)
noncomputable def jl:Ex:=(.var 2)
noncomputable def jm:Exs:=(.cons (.cmp (.var 0) (.cons .in_ (.ix (.ix (.ix (.var 1) (.cst (.int 2))) (.ix (.var 2) (.cst (.int 0)))) (.cst (.int 2))) .nil)) .nil)
noncomputable def jn:Ex:=(.var 2)
noncomputable def jo:Exs:=(.cons (.cmp (.ix (.var 1) (.cst (.int 0))) (.cons .eq (.var 0) .nil)) .nil)
noncomputable def jq:Ex:=(.bin .Sub .z (.ix (.var 1) (.cst (.int 2))) (.ix (.var 1) (.cst (.int 1))))
noncomputable def jr:Sms:=(.cons (.ite (.cmp (.blt .sum .z (.cons (.comp .z [15] 1 (.one 1) (.seq (.var 13)) jo jq) .nil)) (.cons .gt (.ix (.var 14) (.var 15)) .nil)) (.cons (.ret (.cst (.str (PySem.Str.ofString "oil")))) .nil) .nil) .nil)
noncomputable def D_law_word:Df:=⟨5,16,(.cons (.unp [5,6,7,8,9] (.ix (.ix (.var 0) (.cst (.int 3))) (.var 1))) (.cons (.unp [10,11,12,13] (.var 4)) (.cons (.ite (.or (.cmp (.var 10) (.cons .lt (.cst (.int 0)) .nil)) (.cmp (.var 10) (.cons .gt (.var 5) .nil))) (.cons (.ret (.cst (.str (PySem.Str.ofString "boat")))) .nil) .nil) (.cons (.ite (.or (.cmp (.var 11) (.cons .lt (.cst (.int 0)) .nil)) (.cmp (.var 11) (.cons .gt (.var 6) .nil))) (.cons (.ret (.cst (.str (PySem.Str.ofString "market")))) .nil) .nil) (.cons (.ite (.or (.cmp (.blt .len .z (.cons (.comp .z [] 1 (.one 0) (.seq (.var 12)) jh ji) .nil)) (.cons .gt (.cst (.int 0)) .nil)) (.cmp (.blt .sum .z (.cons (.var 12) .nil)) (.cons .gt (.bin .Add .z (.bin .Add .z (.var 2) (.var 10)) (.var 11)) .nil))) (.cons (.ret (.cst (.str (PySem.Str.ofString "pour")))) .nil) .nil) (.cons (.set 14 (.comp .z [3,12] 1 (.one 2) (.rng (.blt .len .z (.cons (.var 3) .nil))) .nil nk)) (.cons (.ite (.cmp (.blt .len .z (.cons (.comp .z [14,0] 1 (.one 2) (.rng (.blt .len .z (.cons (.var 14) .nil))) jk jl) .nil)) (.cons .gt (.cst (.int 0)) .nil)) (.cons (.ret (.cst (.str (PySem.Str.ofString "tank")))) .nil) .nil) (.cons (.ite (.call false f9 (.cons (.var 8) (.cons (.blt .len .z (.cons (.var 3) .nil)) (.cons (.var 13) .nil)))) (.cons (.ret (.cst (.str (PySem.Str.ofString "span")))) .nil) .nil) (.cons (.ite (.cmp (.blt .len .z (.cons (.comp .z [1,0] 1 (.one 2) (.seq (.var 13)) jm jn) .nil)) (.cons .gt (.cst (.int 0)) .nil)) (.cons (.ret (.cst (.str (PySem.Str.ofString "away")))) .nil) .nil) (.cons (.loop (.one 15) (.rng (.blt .len .z (.cons (.var 14) .nil))) jr) (.cons (.ite (.call false l9 (.cons (.var 8) (.cons (.var 9) (.cons (.var 13) .nil)))) (.cons (.ret (.cst (.str (PySem.Str.ofString "dark")))) .nil) .nil) (.cons (.ret (.cst (.str (PySem.Str.ofString "")))) .nil))))))))))))⟩
noncomputable def eh:Exs:=(.cons (.and (.cmp (.bin .Mod .z (.var 0) (.cst (.int 3))) (.cons .eq (.cst (.int 1)) .nil)) (.cmp (.bin .Mod .z (.bin .RShift .z (.var 0) (.bin .Add .z (.var 1) (.cst (.int 2)))) (.cst (.int 2))) (.cons .eq (.cst (.int 1)) .nil))) .nil)
noncomputable def eu:Ex:=(.var 1)
noncomputable def gb:Sms:=(.cons (.set 6 (.call false fc (.cons (.call false dh (.cons (.var 0) .nil)) .nil))) (.cons (.ex (.meth .append (.var 4) (.cons (.comp .z [6] 1 (.one 1) (.rng (.var 3)) eh eu) .nil))) .nil))
noncomputable def D_law_frame_2:Df:=⟨1,7,(.cons (.set 1 (.call false fc (.cons (.call false dh (.cons (.var 0) .nil)) .nil))) (.cons (.set 2 (.bin .Add .z (.cst (.int 1)) (.bin .Mod .z (.var 1) (.cst (.int 3))))) (.cons (.set 3 (.bin .Add .z (.cst (.int 1)) (.bin .Mod .z (.bin .FloorDiv .z (.var 1) (.cst (.int 3))) (.cst (.int 4))))) (.cons (.ite (.cmp (.bin .Mod .z (.bin .FloorDiv .z (.var 1) (.cst (.int 12))) (.cst (.int 7))) (.cons .eq (.cst (.int 1)) .nil)) (.cons (.set 2 (.bin .Add .z (.cst (.int 1)) (.bin .Mod .z (.bin .FloorDiv .z (.var 1) (.cst (.int 84))) (.cst (.int 8))))) (.cons (.set 3 (.bin .Add .z (.cst (.int 1)) (.bin .Mod .z (.bin .FloorDiv .z (.var 1) (.cst (.int 672))) (.cst (.int 16))))) .nil)) .nil) (.cons (.set 4 (.lst .l .nil)) (.cons (.loop (.one 5) (.rng (.var 2)) gb) (.cons (.ret (.tup (.cons (.var 2) (.cons (.var 3) (.cons (.frz 4) .nil))))) .nil)))))))⟩
noncomputable def j7:Ex:=(.call false c6 (.cons (.var 0) .nil))
noncomputable def j8:Ex:=(.cst (.int 0))
noncomputable def j9:Sms:=(.cons (.setx (.var 15) (.var 16) (.var 17)) .nil)
noncomputable def ka:Ex:=(.bin .Add .z (.blt .max .z (.cons (.cst (.int 0)) (.cons (.bin .Sub .z (.ix (.var 0) (.var 3)) (.ix (.var 1) (.var 3))) .nil))) (.call false c6 (.cons (.var 2) .nil)))
noncomputable def kc:Ex:=(.bin .Add .z (.ix (.var 0) (.var 2)) (.ix (.var 1) (.var 2)))
noncomputable def kg:Ex:=(.blt .max .z (.cons (.ix (.var 0) (.var 2)) (.cons (.ix (.var 1) (.var 2)) .nil)))
noncomputable def kh:Ex:=(.bin .Sub .z (.ix (.var 0) (.var 2)) (.ix (.var 1) (.var 2)))
noncomputable def gx:Sms:=(.cons (.set 15 (.comp .l [] 1 (.one 0) (.rng (.ix (.var 1) (.cst (.int 0)))) .nil j8)) (.cons (.loop (.many [16,17]) (.seq (.var 13)) j9) (.cons (.set 18 (.comp .z [15,6,0] 1 (.one 3) (.rng (.ix (.var 1) (.cst (.int 0)))) .nil ka)) (.cons (.set 19 (.bin .Add .z (.blt .max .z (.cons (.cst (.int 0)) (.cons (.bin .Sub .z (.blt .sum .z (.cons (.var 18) .nil)) (.var 10)) .nil))) (.call false c6 (.cons (.var 0) .nil)))) (.cons (.set 20 (.call false j4 (.cons (.call false fc (.cons (.call false dh (.cons (.var 0) .nil)) .nil)) (.cons (.cst (.int 0)) (.cons (.var 19) .nil))))) (.cons (.set 6 (.comp .z [6,18] 1 (.one 2) (.rng (.ix (.var 1) (.cst (.int 0)))) .nil kc)) (.cons (.set 7 (.comp .z [7,6] 1 (.one 2) (.rng (.ix (.var 1) (.cst (.int 0)))) .nil kg)) (.cons (.set 6 (.comp .z [6,15] 1 (.one 2) (.rng (.ix (.var 1) (.cst (.int 0)))) .nil kh)) (.cons (.set 10 (.blt .min .z (.cons (.var 3) (.cons (.bin .Sub .z (.bin .Add .z (.var 10) (.var 19)) (.blt .sum .z (.cons (.var 18) .nil))) .nil)))) (.cons (.set 21 (.call false ib (.cons (.call false dh (.cons (.var 0) .nil)) (.cons (.bin .Pow .z (.cst (.int 10)) (.cst (.int 15))) .nil)))) (.cons (.ex (.meth .append (.var 8) (.cons (.tup (.cons (.bin .Add .z (.var 20) (.call false c6 (.cons (.var 0) .nil))) (.cons (.bin .Add .z (.bin .Sub .z (.var 19) (.var 20)) (.call false c6 (.cons (.var 0) .nil))) (.cons (.var 21) (.cons (.var 11) (.cons (.var 12) .nil)))))) .nil))) (.cons (.ex (.meth .append (.var 9) (.cons (.tup (.cons (.var 20) (.cons (.bin .Sub .z (.var 19) (.var 20)) (.cons (.blt .tuple .z (.cons (.var 18) .nil)) (.cons (.var 14) .nil))))) .nil))) .nil))))))))))))
noncomputable def ki:Sms:=(.cons (.ex (.meth .append (.var 22) (.cons (.tup (.cons (.bin .Add .z (.ix (.var 7) (.var 16)) (.call false c6 (.cons (.var 0) .nil))) (.cons (.ix (.var 5) (.var 16)) (.cons (.blt .tuple .z (.cons (.ix (.ix (.var 1) (.cst (.int 2))) (.var 16)) .nil)) .nil)))) .nil))) .nil)
noncomputable def D_law_kept_3:Df:=⟨1,23,(.cons (.set 1 (.call false jg (.cons (.var 0) .nil))) (.cons (.set 2 (.call false lg (.cons (.var 0) (.cons (.var 1) .nil)))) (.cons (.set 3 (.call false ib (.cons (.call false dh (.cons (.var 0) .nil)) (.cons (.bin .Pow .z (.cst (.int 10)) (.cst (.int 30))) .nil)))) (.cons (.set 4 (.call false c6 (.cons (.var 0) .nil))) (.cons (.set 5 (.comp .z [0] 1 (.one 1) (.rng (.ix (.var 1) (.cst (.int 0)))) .nil j7)) (.cons (.set 6 (.blt .list .z (.cons (.var 5) .nil))) (.cons (.set 7 (.blt .list .z (.cons (.var 5) .nil))) (.cons (.set 8 (.lst .l .nil)) (.cons (.set 9 (.lst .l .nil)) (.cons (.set 10 (.var 4)) (.cons (.loop (.many [11,12,13,14]) (.seq (.var 2)) gx) (.cons (.set 22 (.lst .l .nil)) (.cons (.loop (.one 16) (.rng (.ix (.var 1) (.cst (.int 0)))) ki) (.cons (.ret (.tup (.cons (.tup (.cons (.var 3) (.cons (.var 4) (.cons (.blt .tuple .z (.cons (.var 22) .nil)) (.cons (.blt .tuple .z (.cons (.var 8) .nil)) .nil))))) (.cons (.blt .tuple .z (.cons (.var 9) .nil)) .nil)))) .nil))))))))))))))⟩
noncomputable def kj:Sms:=(.cons (.set 2 (.call false gn (.cons (.var 0) (.cons (.var 2) (.cons (.var 4) .nil))))) (.cons (.ex (.meth .append (.var 3) (.cons (.var 2) .nil))) .nil))
noncomputable def D_evenings_2:Df:=⟨2,5,(.cons (.set 2 (.call false fk (.cons (.var 0) .nil))) (.cons (.set 3 (.lst .l .nil)) (.cons (.loop (.one 4) (.seq (.var 1)) kj) (.cons (.ret (.var 3)) .nil))))⟩
noncomputable def ko:Ex:=(.ix (.var 0) (.cst (.int 1)))
noncomputable def ku:Ex:=(.bin .Add .z (.ix (.var 0) (.var 2)) (.ix (.var 1) (.var 2)))
noncomputable def ky:Sms:=(.cons (.setx (.var 3) (.var 11) (.bin .Sub .z (.ix (.var 3) (.var 11)) (.bin .Sub .z (.var 13) (.var 12)))) .nil)
noncomputable def gy:Sms:=(.cons (.set 6 (.call false oy (.cons (.var 0) (.cons (.var 5) (.cons (.var 2) (.cons (.var 3) (.cons (.ix (.var 1) (.var 5)) .nil))))))) (.cons (.ite (.cmp (.var 6) (.cons .ne (.cst (.str (PySem.Str.ofString ""))) .nil)) (.cons (.ret (.tup (.cons (.tup (.cons (.var 5) (.cons (.var 6) .nil))) (.cons (.frz 4) .nil)))) .nil) .nil) (.cons (.unp [7,8,9,10] (.ix (.var 1) (.var 5))) (.cons (.set 2 (.blt .min .z (.cons (.ix (.var 0) (.cst (.int 0))) (.cons (.bin .Sub .z (.bin .Add .z (.bin .Add .z (.var 2) (.var 7)) (.var 8)) (.blt .sum .z (.cons (.var 9) .nil))) .nil)))) (.cons (.set 3 (.comp .l [3,9] 1 (.one 2) (.rng (.blt .len .z (.cons (.var 3) .nil))) .nil ku)) (.cons (.loop (.many [11,12,13]) (.seq (.var 10)) ky) (.cons (.ex (.meth .append (.var 4) (.cons (.tup (.cons (.var 2) (.cons (.blt .tuple .z (.cons (.var 3) .nil)) .nil))) .nil))) .nil)))))))
noncomputable def D_law_walk_2:Df:=⟨2,14,(.cons (.set 2 (.ix (.var 0) (.cst (.int 1)))) (.cons (.set 3 (.comp .l [] 1 (.one 0) (.seq (.ix (.var 0) (.cst (.int 2)))) .nil ko)) (.cons (.set 4 (.lst .l .nil)) (.cons (.loop (.one 5) (.rng (.blt .len .z (.cons (.var 1) .nil))) gy) (.cons (.ret (.tup (.cons (.cst .non) (.cons (.frz 4) .nil)))) .nil)))))⟩
noncomputable def dz:Exs:=(.cons (.not (.call false j0 (.cons (.var 0) .nil))) .nil)
noncomputable def gj:Ex:=(.var 0)
noncomputable def ck:Sms:=(.cons (.ite (.or (.not (.isi (.var 2) .tuple)) (.or (.not (.isi (.ix (.var 2) (.cst (.int 1))) .tuple)) (.not (.call false j0 (.cons (.ix (.var 2) (.cst (.int 0))) .nil))))) (.cons (.ret (.cst (.bl false))) .nil) .nil) (.cons (.ite (.cmp (.blt .len .z (.cons (.comp .z [] 1 (.one 0) (.seq (.ix (.var 2) (.cst (.int 1)))) dz gj) .nil)) (.cons .gt (.cst (.int 0)) .nil)) (.cons (.ret (.cst (.bl false))) .nil) .nil) .nil))
noncomputable def D_law_same_evenings_2:Df:=⟨2,3,(.cons (.ite (.or (.not (.isi (.var 0) .list)) (.cmp (.var 0) (.cons .neM (.var 1) .nil))) (.cons (.ret (.cst (.bl false))) .nil) .nil) (.cons (.loop (.one 2) (.seq (.var 0)) ck) (.cons (.ret (.cst (.bl true))) .nil)))⟩
noncomputable def D_law_k07_3:Df:=⟨1,5,(.cons (.unp [1,2] (.call false lh (.cons (.blt .listRev .l (.cons (.var 0) .nil)) .nil))) (.cons (.set 3 (.call false ik (.cons (.var 1) (.cons (.var 2) .nil)))) (.cons (.ite (.or (.cmp (.ix (.var 3) (.cst (.int 0))) (.cons .isnot (.cst .non) .nil)) (.or (.cmp (.call false rn (.cons (.var 1) (.cons (.var 2) .nil))) (.cons .isnot (.cst .non) .nil)) (.cmp (.call false u4 (.cons (.var 1) (.cons (.var 2) .nil))) (.cons .isnot (.cst (.bl true)) .nil)))) (.cons (.ret (.cst (.bl false))) .nil) .nil) (.cons (.set 4 (.call true ij (.cons (.var 1) (.cons (.var 2) .nil)))) (.cons (.ite (.not (.call false cj (.cons (.var 4) (.cons (.ix (.var 3) (.cst (.int 1))) .nil)))) (.cons (.ret (.cst (.bl false))) .nil) .nil) (.cons (.ex (.meth .clear (.var 4) .nil)) (.cons (.ret (.call false cj (.cons (.call true ij (.cons (.var 1) (.cons (.var 2) .nil))) (.cons (.ix (.var 3) (.cst (.int 1))) .nil)))) .nil)))))))⟩
noncomputable def GL:List Df:=[⟨0,0,.nil⟩,⟨0,0,.nil⟩,D_can_burn,D_law_next,D_law_turn,D_law_size,D_law_whole,⟨0,0,.nil⟩,⟨0,0,.nil⟩,⟨0,0,.nil⟩,⟨0,0,.nil⟩,⟨0,0,.nil⟩,⟨0,0,.nil⟩,D_rises,⟨0,0,.nil⟩,⟨0,0,.nil⟩,⟨0,0,.nil⟩,⟨0,0,.nil⟩,⟨0,0,.nil⟩,⟨0,0,.nil⟩,⟨0,0,.nil⟩,⟨0,0,.nil⟩,⟨0,0,.nil⟩,⟨0,0,.nil⟩,⟨0,0,.nil⟩,⟨0,0,.nil⟩,⟨0,0,.nil⟩,⟨0,0,.nil⟩,⟨0,0,.nil⟩,⟨0,0,.nil⟩,⟨0,0,.nil⟩,⟨0,0,.nil⟩,⟨0,0,.nil⟩,⟨0,0,.nil⟩,D_ticks_of_spans,⟨0,0,.nil⟩,⟨0,0,.nil⟩,D_law_share,D_law_ticks,D_law_spans,⟨0,0,.nil⟩,D_law_nights,D_law_slack,⟨0,0,.nil⟩,⟨0,0,.nil⟩,⟨0,0,.nil⟩,⟨0,0,.nil⟩,⟨0,0,.nil⟩,⟨0,0,.nil⟩,⟨0,0,.nil⟩,⟨0,0,.nil⟩,⟨0,0,.nil⟩,⟨0,0,.nil⟩,D_have_tick_in_common,D_has_span_fault,D_has_dark_fault,D_held_at_first,D_filled,D_held_behind,D_night_fault,D_day_fault,D_fault,D_keeps,⟨0,0,.nil⟩,D_law_span_bad,D_law_dark,D_law_word,⟨0,0,.nil⟩,⟨0,0,.nil⟩,⟨0,0,.nil⟩,⟨0,0,.nil⟩,⟨0,0,.nil⟩,⟨0,0,.nil⟩,⟨0,0,.nil⟩,⟨0,0,.nil⟩,⟨0,0,.nil⟩,⟨0,0,.nil⟩,⟨0,0,.nil⟩,⟨0,0,.nil⟩,⟨0,0,.nil⟩,⟨0,0,.nil⟩,⟨0,0,.nil⟩,⟨0,0,.nil⟩,⟨0,0,.nil⟩,⟨0,0,.nil⟩,⟨0,0,.nil⟩,⟨0,0,.nil⟩,⟨0,0,.nil⟩,⟨0,0,.nil⟩,⟨0,0,.nil⟩,⟨0,0,.nil⟩,⟨0,0,.nil⟩,⟨0,0,.nil⟩,⟨0,0,.nil⟩,⟨0,0,.nil⟩,⟨0,0,.nil⟩,⟨0,0,.nil⟩,⟨0,0,.nil⟩,⟨0,0,.nil⟩,⟨0,0,.nil⟩,⟨0,0,.nil⟩,⟨0,0,.nil⟩,⟨0,0,.nil⟩,⟨0,0,.nil⟩,⟨0,0,.nil⟩,⟨0,0,.nil⟩,⟨0,0,.nil⟩,⟨0,0,.nil⟩,⟨0,0,.nil⟩,⟨0,0,.nil⟩,⟨0,0,.nil⟩,⟨0,0,.nil⟩,⟨0,0,.nil⟩,⟨0,0,.nil⟩,⟨0,0,.nil⟩,⟨0,0,.nil⟩,⟨0,0,.nil⟩,⟨0,0,.nil⟩,⟨0,0,.nil⟩,⟨0,0,.nil⟩,⟨0,0,.nil⟩,⟨0,0,.nil⟩,⟨0,0,.nil⟩,⟨0,0,.nil⟩,⟨0,0,.nil⟩,⟨0,0,.nil⟩,⟨0,0,.nil⟩,⟨0,0,.nil⟩,⟨0,0,.nil⟩,⟨0,0,.nil⟩,⟨0,0,.nil⟩,⟨0,0,.nil⟩,⟨0,0,.nil⟩,⟨0,0,.nil⟩,⟨0,0,.nil⟩,⟨0,0,.nil⟩,⟨0,0,.nil⟩,⟨0,0,.nil⟩,⟨0,0,.nil⟩,⟨0,0,.nil⟩,⟨0,0,.nil⟩,⟨0,0,.nil⟩,D_law_frame_2,D_law_kept_3,⟨0,0,.nil⟩,⟨0,0,.nil⟩,⟨0,0,.nil⟩,⟨0,0,.nil⟩,⟨0,0,.nil⟩,⟨0,0,.nil⟩,⟨0,0,.nil⟩,⟨0,0,.nil⟩,⟨0,0,.nil⟩,⟨0,0,.nil⟩,⟨0,0,.nil⟩,⟨0,0,.nil⟩,⟨0,0,.nil⟩,⟨0,0,.nil⟩,⟨0,0,.nil⟩,⟨0,0,.nil⟩,⟨0,0,.nil⟩,D_evenings_2,D_law_walk_2,D_law_same_evenings_2,D_law_k07_3,⟨0,0,.nil⟩,⟨0,0,.nil⟩]
theorem F4:GL[ou]? = some D_can_burn:=rfl
theorem F5:GL[dh]? = some D_law_next:=rfl
theorem F6:GL[fc]? = some D_law_turn:=rfl
theorem F7:GL[ib]? = some D_law_size:=rfl
theorem Cr:GL[j0]? = some D_law_whole:=rfl
theorem Ja:GL[u3]? = some D_rises:=rfl
theorem sm:GL[di]? = some D_ticks_of_spans:=rfl
theorem u5:GL[j4]? = some D_law_share:=rfl
theorem Cs:GL[j5]? = some D_law_ticks:=rfl
theorem Ct:GL[ng]? = some D_law_spans:=rfl
theorem A1:GL[lg]? = some D_law_nights:=rfl
theorem Cu:GL[c6]? = some D_law_slack:=rfl
theorem ip:GL[cg]? = some D_have_tick_in_common:=rfl
theorem ny:GL[ee]? = some D_has_span_fault:=rfl
theorem sr:GL[cm]? = some D_has_dark_fault:=rfl
theorem u6:GL[fk]? = some D_held_at_first:=rfl
theorem Mh:GL[qh]? = some D_filled:=rfl
theorem y0:GL[gn]? = some D_held_behind:=rfl
theorem y6:GL[jf]? = some D_night_fault:=rfl
theorem Cv:GL[nh]? = some D_day_fault:=rfl
theorem Rt:GL[rn]? = some D_fault:=rfl
theorem Ru:GL[u4]? = some D_keeps:=rfl
theorem vp:GL[f9]? = some D_law_span_bad:=rfl
theorem F8:GL[l9]? = some D_law_dark:=rfl
theorem F9:GL[oy]? = some D_law_word:=rfl
theorem qi:GL[jg]? = some D_law_frame_2:=rfl
theorem A2:GL[lh]? = some D_law_kept_3:=rfl
theorem A3:GL[ij]? = some D_evenings_2:=rfl
theorem A4:GL[ik]? = some D_law_walk_2:=rfl
theorem oa:GL[cj]? = some D_law_same_evenings_2:=rfl
theorem Cw:GL[p5]? = some D_law_k07_3:=rfl
end Lp
namespace Lr
open Lp
open PySem
theorem y8 {f:D→Sl→Sto→Res Fl} (I:Nat→Sl→Sto→Prop):∀{ds:List D} {σ:Sl} {μ:Sto} (k:Nat),I k σ μ →
  (∀(j:Nat) d σ μ,ds[j]? = some d→I (k+j) σ μ→∃σ' μ',f d σ μ=.ok (.nx σ') μ'∧I (k+j+1) σ' μ') →
  ∃σ' μ',jy none f ds σ μ=.ok (.nx σ') μ'∧I (k+ds.length) σ' μ'
 | [],σ,μ,k,h,_=>⟨σ,μ,by simp[jy],h⟩
 | d::ds,σ,μ,k,h,st=>by
  obtain⟨σ1,μ1,e1,h1⟩:=st 0 d σ μ rfl h
  obtain⟨σ2,μ2,e2,h2⟩:=y8 I (ds:=ds) (σ:=σ1) (μ:=μ1) (k+1) h1 fun j d σ μ e i=>by
   obtain⟨σ',μ',a,b⟩:=st (j+1) d σ μ (by simpa using e) (by rw[show k+(j+1)=k+1+j by omega];exact i)
   exact⟨σ',μ',a,by rw[show k+1+j+1=k+(j+1)+1 by omega];exact b⟩
  refine⟨σ2,μ2,?_,by rw[show k+(d::ds).length=k+1+ds.length by simp;omega];exact h2⟩
  simp only[jy,uf,if_true,e1,Res.bo,e2]
theorem u7 {g:Gd} {f:D→Sl→Sto→Res Fl} (I:Nat→Sl→Sto→Prop) (R:Fl→Sto→Prop):∀{ds:List D} {σ:Sl} {μ:Sto} (k:Nat),(∀j σ μ,I j σ μ→gd g μ)→I k σ μ →
  (∀(j:Nat) d σ μ,ds[j]? = some d→I (k+j) σ μ→∃fl μ',f d σ μ=.ok fl μ'∧match fl with
   | .nx σ'=>I (k+j+1) σ' μ'
   | .ct σ'=>I (k+j+1) σ' μ'
   | .bk σ'=>R (.nx σ') μ'
   | .rt v=>R (.rt v) μ')→(∀σ μ,I (k+ds.length) σ μ→R (.nx σ) μ) →
  ∃fl μ',jy g f ds σ μ=.ok fl μ'∧R fl μ'
 | [],σ,μ,k,hg,h,_,fin=>⟨.nx σ,μ,by simp[jy,hg k σ μ h],fin σ μ h⟩
 | d::ds,σ,μ,k,hg,h,st,fin=>by
  obtain⟨fl,μ1,e1,h1⟩:=st 0 d σ μ rfl h
  have rest:∀σ1,I (k+1) σ1 μ1→∃fl μ',jy g f ds σ1 μ1=.ok fl μ'∧R fl μ':=fun σ1 i=>u7 I R (ds:=ds) (k+1) hg i (fun j d σ μ e i=>by
   obtain⟨fl,μ',a,b⟩:=st (j+1) d σ μ (by simpa using e) (by rw[show k+(j+1)=k+1+j by omega];exact i)
   refine⟨fl,μ',a,?_⟩
   rw[show k+(j+1)+1=k+1+j+1 by omega]at b
   exact b) fun σ μ i=>fin σ μ (by rw[show k+(d::ds).length=k+1+ds.length by simp;omega];exact i)
  cases fl with
  | nx σ1 =>
   obtain⟨fl,μ',a,b⟩:=rest σ1 h1
   exact⟨fl,μ',by simp only[jy,hg k σ μ h,if_true,e1,Res.bo,a],b⟩
  | ct σ1 =>
   obtain⟨fl,μ',a,b⟩:=rest σ1 h1
   exact⟨fl,μ',by simp only[jy,hg k σ μ h,if_true,e1,Res.bo,a],b⟩
  | bk σ1=>exact⟨.nx σ1,μ1,by simp only[jy,hg k σ μ h,if_true,e1,Res.bo],h1⟩
  | rt v=>exact⟨.rt v,μ1,by simp only[jy,hg k σ μ h,if_true,e1,Res.bo],h1⟩
theorem ak {T:List Df} {n i:Nat} {d:Df} {ds:List D} {μ:Sto} (h:T[i]? = some d):aj T (n+1) i ds μ=Sj (aj T n) d ds μ:=by
 simp only[aj,h]
noncomputable def finD (fl:Fl) (μ:Sto):Res D:=match fl with
 | .nx _=>.ok .non μ
 | .rt d=>.ok d μ
 | _=>.stuck
@[simp] theorem Jb (d:D) (μ:Sto):finD (.rt d) μ=.ok d μ:=rfl
@[simp] theorem Jc (σ:Sl) (μ:Sto):finD (.nx σ) μ=.ok .non μ:=rfl
theorem run_eq {φ:Phi} {f:Df} {ds:List D} {μ:Sto} (h:ds.length=f.np):Sj φ f ds μ=(qy φ f.body (ds.map some++List.replicate (f.nn-f.np) none) μ).bind finD:=by
 rw[Sj,if_pos h];rfl
theorem md (b:Nat):∀(k:Nat) (d:D),D.pureN k d=true→D.belowN b k d=true
 | 0,d,h=>by cases d<;>simp_all[D.pureN,D.belowN]
 | k+1,d,h=>by
  cases d with
  | tup ds =>
   simp only[D.pureN,D.belowN,AO]at h ⊢
   exact fun x hx=>md b k x (h x hx)
  | lst ds =>
   simp only[D.pureN,D.belowN,AO]at h ⊢
   exact fun x hx=>md b k x (h x hx)
  | loc n=>simp[D.pureN]at h
  | _=>rfl
theorem dr {k:Nat} {ds:List D}:D.pureN (k+1) (.tup ds)=ds.all (D.pureN k):=rfl
theorem nq {k:Nat} {ds:List D}:D.pureN (k+1) (.lst ds)=ds.all (D.pureN k):=rfl
theorem fb {k:Nat} {i:Int}:D.pureN k (.int i)=true:=by cases k<;>rfl
theorem Jd {k:Nat}:D.pureN k .non=true:=by cases k<;>rfl
theorem w4 (b:Nat) (o:O) (h:noR o=true):jz b o=true:=by cases o<;>simp_all[noR,jz]
noncomputable abbrev l6 (μ:Sto):Prop:=μ.all (jz μ.length)=true
theorem Ga {d:D} {μ:Sto} {b:Nat} (hd:d.pure=true) (hb:μ.length=b) (hr:l6 μ):sg false b (.ok d μ)=.ok d μ:=by
 have e:μ.take b=μ:=BX (by omega)
 have hr':μ.all (jz b)=true:=by rw[←hb];exact hr
 simp only[sg,AT,if_false,e,md b 8 d hd,hr',and_self,if_true]
@[simp] theorem rp {d:D} {μ:Sto} {b:Nat}:sg true b (.ok d μ)=.ok d μ:=by simp[sg]
theorem op_mul {i j:Int} {μ:Sto} (h:CMul i j):opI .Mult i j μ=.ok (.int (i*j)) μ:=by simp[opI,h]
theorem me {i j:Int} {μ:Sto} (h:0<j) (h2:j<1073741824):opI .FloorDiv i j μ=.ok (.int (i / j)) μ:=by simp[opI,h,h2]
theorem op_mod {i j:Int} {μ:Sto} (h:0<j):opI .Mod i j μ=.ok (.int (i % j)) μ:=by simp[opI,h]
theorem op_add {i j:Int} {μ:Sto}:opI .Add i j μ=.ok (.int (i+j)) μ:=rfl
theorem op_sub {i j:Int} {μ:Sto}:opI .Sub i j μ=.ok (.int (i-j)) μ:=rfl
theorem op_pow {i:Int} {j:Int} {μ:Sto} (h:0≤j∧j≤1000000∧i.natAbs<2 ^ 64):opI .Pow i j μ=.ok (.int (i ^ j.toNat)) μ:=by simp[opI,h]
theorem op_shr {i j:Int} {μ:Sto} (h:0≤j):opI .RShift i j μ=.ok (.int (i / 2 ^ j.toNat)) μ:=by simp[opI,h]
theorem Cy {op:Operator} {m:Mk} {i j:Int} {μ:Sto}:opD op m (.int i) (.int j) μ=opI op i j μ:=rfl
theorem _root_.Lp.CMul.left {i j:Int} (h:-(2 ^ 64)<i) (h2:i<2 ^ 64):CMul i j:=.inl ⟨h,h2⟩
theorem _root_.Lp.CMul.right {i j:Int} (h:-(2 ^ 64)<j) (h2:j<2 ^ 64):CMul i j:=.inr ⟨h,h2⟩
theorem k6 (ns:List Int):fu (ns.map D.int)=some ns:=by
 induction ns with
 | nil=>rfl
 | cons n r ih=>simp[fu,ih]
theorem gk (ns:List Bool):o7 (ns.map D.bl)=some ns:=by
 induction ns with
 | nil=>rfl
 | cons n r ih=>simp[o7,ih]
theorem tu (i:Int):(D.int i).pure=true:=rfl
end Lr
namespace Lr
open Lp
open PySem
section
variable (φ : Phi)
noncomputable def Yx (o:Option (Option D)) (μ:Sto):Res D:=match o with
 | some (some d)=>.ok d μ
 | _=>.stuck
noncomputable def kB (op:Operator) (m:Mk) (b:Ex) (σ:Sl) (x:D) (μ:Sto):Res D:=(evE φ b σ μ).bind (opD op m x)
noncomputable def kNeg (x:D) (μ:Sto):Res D:=match x with
 | .int i=>.ok (.int (-i)) μ
 | _=>.stuck
noncomputable def kNot (x:D) (μ:Sto):Res D:=match x with
 | .bl b=>.ok (.bl (!b)) μ
 | _=>.stuck
noncomputable def X7 (b:Ex) (σ:Sl) (x:D) (μ:Sto):Res D:=match x with
 | .bl c=>if c=true then evE φ b σ μ else .ok (.bl false) μ
 | _=>.stuck
noncomputable def kOr (b:Ex) (σ:Sl) (x:D) (μ:Sto):Res D:=match x with
 | .bl c=>if c=true then .ok (.bl true) μ else evE φ b σ μ
 | _=>.stuck
noncomputable def X8 (a b:Ex) (σ:Sl) (x:D) (μ:Sto):Res D:=match x with
 | .bl c=>if c=true then evE φ a σ μ else evE φ b σ μ
 | _=>.stuck
noncomputable def Yy (r:Cps) (σ:Sl) (x:D) (μ:Sto):Res D:=evC φ r x σ μ
noncomputable def Wj (r:Cps) (y:D) (σ:Sl) (z:D) (μ:Sto):Res D:=match z with
 | .bl b=>if b=true then evC φ r y σ μ else .ok (.bl false) μ
 | _=>.stuck
noncomputable def kCh (op:Cp) (x:D) (r:Cps) (σ:Sl) (y:D) (μ:Sto):Res D:=(cpD op x y μ).bind (Wj φ r y σ)
noncomputable def rq (keep:Bool) (f:Nat) (ds:List D) (μ:Sto):Res D:=sg keep μ.length (φ f ds μ)
noncomputable def kM (mt:Mt) (es:Exs) (σ:Sl) (x:D) (μ:Sto):Res D:=if jc mt x μ=true then(iu φ es σ μ).bind (mtD mt x)else .stuck
noncomputable def kIx (b:Ex) (σ:Sl) (x:D) (μ:Sto):Res D:=(evE φ b σ μ).bind (ixD x)
noncomputable def X9 (m:Mk) (hi:ExO) (σ:Sl) (x:D) (l:Option Int) (μ:Sto):Res D:=(evO φ hi σ μ).bind (slD m x l)
noncomputable def kSl (m:Mk) (lo hi:ExO) (σ:Sl) (x:D) (μ:Sto):Res D:=(evO φ lo σ μ).bind (X9 φ m hi σ x)
noncomputable def kTup (ds:List D) (μ:Sto):Res D:=.ok (.tup ds) μ
noncomputable def Ya (d:D) (ds:List D) (μ:Sto):Res (List D):=.ok (d::ds) μ
noncomputable def kEs (es:Exs) (σ:Sl) (d:D) (μ:Sto):Res (List D):=(iu φ es σ μ).bind (Ya d)
noncomputable def kInt (x:D) (μ:Sto):Res (Option Int):=match x with
 | .int i=>.ok (some i) μ
 | _=>.stuck
noncomputable def kOne (x:D) (μ:Sto):Res (List D):=.ok [x] μ
noncomputable def Wk (elt:Ex) (σ:Sl) (b:Bool) (μ:Sto):Res (List D):=if b=true then(evE φ elt σ μ).bind kOne else .ok [] μ
noncomputable def Yz (cs:Exs) (elt:Ex) (μ:Sto) (σ:Sl):Res (List D):=(Fm φ cs σ μ).bind (Wk φ elt σ)
noncomputable def iy (tg:Tg) (cs:Exs) (elt:Ex) (σ0:Sl) (d:D) (μ:Sto):Res (List D):=o6 (fw tg d σ0) (Yz φ cs elt μ)
noncomputable def iq (m:Mk) (tg:Tg) (cs:Exs) (elt:Ex) (σ0:Sl) (w:List D×Gd) (μ:Sto):Res D:=(mapR w.2 (iy φ tg cs elt σ0) w.1 μ).bind (mkL m)
noncomputable def kCs (es:Exs) (σ:Sl) (x:D) (μ:Sto):Res Bool:=match x with
 | .bl b=>if b=true then Fm φ es σ μ else .ok false μ
 | _=>.stuck
noncomputable def kSeq (x:D) (μ:Sto):Res (List D×Gd):=match dk μ x with
 | some w=>.ok w μ
 | none=>.stuck
noncomputable def kRng (x:D) (μ:Sto):Res (List D×Gd):=match x with
 | .int j=>if -(lim:Int)≤j∧j≤lim then .ok ((List.range j.toNat).map fun(i:Nat)=>D.int i,none) μ else .stuck
 | _=>.stuck
noncomputable def Od (x y:D) (μ:Sto):Res (List D×Gd):=match x,y with
 | .int i,.int j=>if -(lim:Int)≤i∧i≤lim∧j≤lim ∧ -(lim:Int)≤j∧(j-i)≤lim then .ok ((List.range (j-i).toNat).map fun(k:Nat)=>D.int (i+k),none) μ else .stuck
 | _,_=>.stuck
noncomputable def U9 (b:Ex) (σ:Sl) (x:D) (μ:Sto):Res (List D×Gd):=(evE φ b σ μ).bind (Od x)
noncomputable def su (x y:D) (μ:Sto):Res (List D×Gd):=match dk μ x,dq [] y with
 | some w,some ys=>.ok ((w.1.zip ys).map fun p=>.tup [p.1,p.2],w.2) μ
 | _,_=>.stuck
noncomputable def Y0 (b:Ex) (σ:Sl) (x:D) (μ:Sto):Res (List D×Gd):=(evE φ b σ μ).bind (su x)
noncomputable def kEnum (x:D) (μ:Sto):Res (List D×Gd):=match dk μ x with
 | some w=>.ok ((List.range w.1.length |>.zip w.1).map fun(p:Nat×D)=>.tup [.int p.1,p.2],w.2) μ
 | none=>.stuck
noncomputable def kVals (x:D) (μ:Sto):Res (List D×Gd):=match x with
 | .loc n=>match μ[n]? with
  | some (.d kvs)=>.ok (kvs.map (·.2),none) (μ.set n .dead)
  | _=>.stuck
 | _=>.stuck
noncomputable def Y1 (i:Nat) (σ:Sl) (d:D) (μ:Sto):Res Fl:=.ok (.nx (σ.set i (some d))) μ
noncomputable def Yb (o:Option Sl) (μ:Sto):Res Fl:=match o with
 | some σ'=>.ok (.nx σ') μ
 | none=>.stuck
noncomputable def Y2 (is:List Nat) (σ:Sl) (d:D) (μ:Sto):Res Fl:=Yb (fw (.many is) d σ) μ
noncomputable def kNx {α:Type} (σ:Sl) (_:α) (μ:Sto):Res Fl:=.ok (.nx σ) μ
noncomputable def Yc (σ:Sl) (d x:D) (y:D) (μ:Sto):Res Fl:=(Bz x y d μ).bind (kNx σ)
noncomputable def Yd (i:Ex) (σ:Sl) (d:D) (x:D) (μ:Sto):Res Fl:=(evE φ i σ μ).bind (Yc σ d x)
noncomputable def kSx (o i:Ex) (σ:Sl) (d:D) (μ:Sto):Res Fl:=(evE φ o σ μ).bind (Yd φ i σ d)
noncomputable def kIf (a b:Sms) (σ:Sl) (x:D) (μ:Sto):Res Fl:=match x with
 | .bl k=>if k=true then qy φ a σ μ else qy φ b σ μ
 | _=>.stuck
noncomputable def kLp (b:Sms) (μ:Sto) (σ:Sl):Res Fl:=qy φ b σ μ
noncomputable def fLp (tg:Tg) (b:Sms) (d:D) (σ:Sl) (μ:Sto):Res Fl:=o6 (fw tg d σ) (kLp φ b μ)
noncomputable def qj (tg:Tg) (b:Sms) (σ:Sl) (w:List D×Gd) (μ:Sto):Res Fl:=jy w.2 (fLp φ tg b) w.1 σ μ
noncomputable def kRet (d:D) (μ:Sto):Res Fl:=.ok (.rt d) μ
noncomputable def kSs (r:Sms) (fl:Fl) (μ:Sto):Res Fl:=match fl with
 | .nx σ'=>qy φ r σ' μ
 | fl=>.ok fl μ
end
section
variable {φ : Phi} {σ : Sl} {μ : Sto} {a b c e o i : Ex} {es : Exs} {m : Mk} {op : Operator} {r : Cps} {s : Sm} {rs : Sms}
theorem Va {i:Nat}:evE φ (.var i) σ μ=Yx σ[i]? μ:=rfl
theorem Vb {d:D}:evE φ (.cst d) σ μ=.ok d μ:=rfl
theorem Vc:evE φ (.bin op m a b) σ μ=(evE φ a σ μ).bind (kB φ op m b σ):=rfl
theorem Vd:evE φ (.neg a) σ μ=(evE φ a σ μ).bind kNeg:=rfl
theorem Ve:evE φ (.not a) σ μ=(evE φ a σ μ).bind kNot:=rfl
theorem Vf:evE φ (.and a b) σ μ=(evE φ a σ μ).bind (X7 φ b σ):=rfl
theorem Y3:evE φ (.or a b) σ μ=(evE φ a σ μ).bind (kOr φ b σ):=rfl
theorem Vg:evE φ (.ite c a b) σ μ=(evE φ c σ μ).bind (X8 φ a b σ):=rfl
theorem Vh:evE φ (.cmp a r) σ μ=(evE φ a σ μ).bind (Yy φ r σ):=rfl
theorem Mi {α:Type} (x:Res α):(x.bind fun a μ=>.ok a μ)=x:=by cases x<;>rfl
theorem Vi {op:Cp} {x:D}:evC φ (.cons op e .nil) x σ μ=(evE φ e σ μ).bind (cpD op x):=by
 simp only[evC,Mi]
theorem Oe {op op':Cp} {x:D} {e':Ex}:evC φ (.cons op e (.cons op' e' r)) x σ μ=(evE φ e σ μ).bind (kCh φ op x (.cons op' e' r) σ):=by
 rw[evC]
 all_goals rfl
theorem Of {keep:Bool} {f:Nat}:evE φ (.call keep f es) σ μ=(iu φ es σ μ).bind (rq φ keep f):=rfl
theorem Vj {b:Bt}:evE φ (.blt b m es) σ μ=(iu φ es σ μ).bind (btD b m):=rfl
theorem Vk {c:Cl}:evE φ (.isi a c) σ μ=(evE φ a σ μ).bind (Ll c):=rfl
theorem Og {mt:Mt}:evE φ (.meth mt o es) σ μ=(evE φ o σ μ).bind (kM φ mt es σ):=rfl
theorem Y4:evE φ (.ix a b) σ μ=(evE φ a σ μ).bind (kIx φ b σ):=rfl
theorem Y5 {lo hi:ExO}:evE φ (.sl m a lo hi) σ μ=(evE φ a σ μ).bind (kSl φ m lo hi σ):=rfl
theorem Vl:evE φ (.tup es) σ μ=(iu φ es σ μ).bind kTup:=rfl
theorem Vm:evE φ (.lst m es) σ μ=(iu φ es σ μ).bind (mkL m):=rfl
theorem Vn {t:Bool}:evE φ (.dic t es) σ μ=(iu φ es σ μ).bind (Nx t):=rfl
theorem Oh {cap:List Nat} {nl:Nat} {tg:Tg} {it:It} {cs:Exs} {elt:Ex}:evE φ (.comp m cap nl tg it cs elt) σ μ=(evI φ it σ μ).bind (iq φ m tg cs elt (cap.map (fun i=>(σ[i]?).getD none)++List.replicate nl none)):=rfl
theorem Oi:iu φ .nil σ μ=.ok [] μ:=rfl
theorem Je:iu φ (.cons e es) σ μ=(evE φ e σ μ).bind (kEs φ es σ):=rfl
theorem Y6:evO φ .no σ μ=.ok none μ:=rfl
theorem Y7:evO φ (.so e) σ μ=(evE φ e σ μ).bind kInt:=rfl
theorem Oj:Fm φ .nil σ μ=.ok true μ:=rfl
theorem Jf:Fm φ (.cons e es) σ μ=(evE φ e σ μ).bind (kCs φ es σ):=rfl
theorem Vo:evI φ (.seq e) σ μ=(evE φ e σ μ).bind kSeq:=rfl
theorem Vp:evI φ (.rng e) σ μ=(evE φ e σ μ).bind kRng:=rfl
theorem Ol:evI φ (.rng2 a b) σ μ=(evE φ a σ μ).bind (U9 φ b σ):=rfl
theorem Vq:evI φ (.zip a b) σ μ=(evE φ a σ μ).bind (Y0 φ b σ):=rfl
theorem Om:evI φ (.enum a) σ μ=(evE φ a σ μ).bind kEnum:=rfl
theorem Oo:evI φ (.vals a) σ μ=(evE φ a σ μ).bind kVals:=rfl
theorem Vr {i:Nat}:evS φ (.set i e) σ μ=(evE φ e σ μ).bind (Y1 i σ):=rfl
theorem Vs {is:List Nat}:evS φ (.unp is e) σ μ=(evE φ e σ μ).bind (Y2 is σ):=rfl
theorem Oq:evS φ (.setx o i e) σ μ=(evE φ e σ μ).bind (kSx φ o i σ):=rfl
theorem Y8:evS φ (.ex e) σ μ=(evE φ e σ μ).bind (kNx σ):=rfl
theorem Vt {x y:Sms}:evS φ (.ite c x y) σ μ=(evE φ c σ μ).bind (kIf φ x y σ):=rfl
theorem Ot {tg:Tg} {it:It} {b:Sms}:evS φ (.loop tg it b) σ μ=(evI φ it σ μ).bind (qj φ tg b σ):=rfl
theorem Vu:evS φ (.ret e) σ μ=(evE φ e σ μ).bind kRet:=rfl
theorem Ou:evS φ .pass σ μ=.ok (.nx σ) μ:=rfl
theorem Vv:evS φ .brk σ μ=.ok (.bk σ) μ:=rfl
theorem Ov:evS φ .cont σ μ=.ok (.ct σ) μ:=rfl
theorem Ow:qy φ .nil σ μ=.ok (.nx σ) μ:=rfl
theorem Jg:qy φ (.cons s rs) σ μ=(evS φ s σ μ).bind (kSs φ rs):=rfl
theorem a8 {f:Nat} {ds:List D} {d:D} {μ':Sto} (h:φ f ds μ=.ok d μ') (hd:d.pure=true) (hl:μ'.length=μ.length) (hr:l6 μ'):rq φ false f ds μ=.ok d μ':=by
 rw[rq,h,Ga hd hl hr]
theorem w6 {f:Nat} {ds:List D} {d:D} {μ':Sto} (h:φ f ds μ=.ok d μ'):rq φ true f ds μ=.ok d μ':=by
 rw[rq,h];simp
theorem Cz {mt:Mt} {x:D} (h:jc mt x μ=true):kM φ mt es σ x μ=(iu φ es σ μ).bind (mtD mt x):=by rw[kM,if_pos h]
theorem A5 {d:D}:Yx (some (some d)) μ=.ok d μ:=rfl
theorem D6 {i:Int}:kNeg (.int i) μ=.ok (.int (-i)) μ:=rfl
theorem Jh {b:Bool}:kNot (.bl b) μ=.ok (.bl (!b)) μ:=rfl
theorem Ox {b:Ex}:X7 φ b σ (.bl true) μ=evE φ b σ μ:=rfl
theorem Oy {b:Ex}:X7 φ b σ (.bl false) μ=.ok (.bl false) μ:=rfl
theorem Vw {b:Ex}:kOr φ b σ (.bl true) μ=.ok (.bl true) μ:=rfl
theorem Vx {b:Ex}:kOr φ b σ (.bl false) μ=evE φ b σ μ:=rfl
theorem Oz:X8 φ a b σ (.bl true) μ=evE φ a σ μ:=rfl
theorem O0:X8 φ a b σ (.bl false) μ=evE φ b σ μ:=rfl
theorem O1 {y:D}:Wj φ r y σ (.bl true) μ=evC φ r y σ μ:=rfl
theorem O2 {y:D}:Wj φ r y σ (.bl false) μ=.ok (.bl false) μ:=rfl
theorem Vy:kCs φ es σ (.bl true) μ=Fm φ es σ μ:=rfl
theorem Vz:kCs φ es σ (.bl false) μ=.ok false μ:=rfl
theorem O3 {elt:Ex}:Wk φ elt σ true μ=(evE φ elt σ μ).bind kOne:=rfl
theorem O4 {elt:Ex}:Wk φ elt σ false μ=.ok [] μ:=rfl
theorem D7 {i:Int}:kInt (.int i) μ=.ok (some i) μ:=rfl
theorem V0 {x y:Sms}:kIf φ x y σ (.bl true) μ=qy φ x σ μ:=rfl
theorem V2 {x y:Sms}:kIf φ x y σ (.bl false) μ=qy φ y σ μ:=rfl
theorem O5 {σ':Sl}:kSs φ rs (.nx σ') μ=qy φ rs σ' μ:=rfl
theorem O6 {d:D}:kSs φ rs (.rt d) μ=.ok (.rt d) μ:=rfl
theorem O7 {σ':Sl}:kSs φ rs (.bk σ') μ=.ok (.bk σ') μ:=rfl
theorem O8 {σ':Sl}:kSs φ rs (.ct σ') μ=.ok (.ct σ') μ:=rfl
theorem A6 {σ':Sl}:Yb (some σ') μ=.ok (.nx σ') μ:=rfl
theorem D8 {ds:List D}:kSeq (.tup ds) μ=.ok (ds,none) μ:=rfl
theorem D9 {ds:List D}:kSeq (.lst ds) μ=.ok (ds,none) μ:=rfl
theorem Rv {j:Int} (h:-1000000≤j∧j≤1000000):kRng (.int j) μ=.ok ((List.range j.toNat).map fun(i:Nat)=>D.int i,none) μ:=by
 have:=rg
 simp only[kRng]
 rw[if_pos ⟨by lia,by lia⟩]
theorem du {n:Nat} (h:n≤1000000):kRng (.int n) μ=.ok ((List.range n).map fun(i:Nat)=>D.int i,none) μ:=by
 rw[Rv ⟨by lia,by lia⟩,CD]
theorem A7 {i:Nat} {d:D}:fw (.one i) d σ=some (σ.set i (some d)):=rfl
theorem V3 {i j:Int}:cpD .lt (.int i) (.int j) μ=.ok (.bl (decide (i<j))) μ:=rfl
theorem V4 {i j:Int}:cpD .le (.int i) (.int j) μ=.ok (.bl (decide (i≤j))) μ:=rfl
theorem V5 {i j:Int}:cpD .gt (.int i) (.int j) μ=.ok (.bl (decide (j<i))) μ:=rfl
theorem V6 {i j:Int}:cpD .ge (.int i) (.int j) μ=.ok (.bl (decide (j≤i))) μ:=rfl
theorem O9 {i j:Int}:cpD .eq (.int i) (.int j) μ=.ok (.bl (decide (i=j))) μ:=rfl
theorem Mj {x y:D} (hx:x.pure=true) (hy:y.pure=true):cpD .ne x y μ=.ok (.bl (!deq x y)) μ:=by simp[cpD,hx,hy]
theorem Pa {i j:Int}:cpD .ne (.int i) (.int j) μ=.ok (.bl (!decide (i=j))) μ:=Mj rfl rfl
theorem Pb {i j:Bool}:cpD .ne (.bl i) (.bl j) μ=.ok (.bl (!(i==j))) μ:=Mj rfl rfl
theorem bt_len {x:D} {xs:List D} (h:dq μ x=some xs):btD .len m [x] μ=.ok (.int xs.length) μ:=by simp[btD,seq1,h]
theorem bt_tuple {x:D} {xs:List D} (h:dq μ x=some xs):btD .tuple m [x] μ=.ok (.tup xs) μ:=by simp[btD,seq1,h]
theorem bt_list {x:D} {xs:List D} (h:dq μ x=some xs):btD .list m [x] μ=mkL m xs μ:=by simp[btD,seq1,h]
theorem Gb {x:D} {xs:List D} (h:listOf μ x=some xs):btD .listRev m [x] μ=mkL m xs.reverse μ:=by simp[btD,yb,h]
theorem bt_sum {x:D} {xs:List D} {ns:List Int} (h:dq μ x=some xs) (h2:fu xs=some ns):btD .sum m [x] μ=.ok (.int ns.sum) μ:=by simp[btD,Nu,h,h2]
theorem bt_all {x:D} {xs:List D} {ns:List Bool} (h:dq μ x=some xs) (h2:o7 xs=some ns):btD .all m [x] μ=.ok (.bl (ns.all id)) μ:=by simp[btD,Fk,h,h2]
theorem bt_any {x:D} {xs:List D} {ns:List Bool} (h:dq μ x=some xs) (h2:o7 xs=some ns):btD .any m [x] μ=.ok (.bl (ns.any id)) μ:=by simp[btD,Fk,h,h2]
theorem bt_min {i j:Int}:btD .min m [.int i,.int j] μ=.ok (.int (min i j)) μ:=by
 simp only[btD,minD]
 congr 2
 split<;>lia
theorem bt_max {i j:Int}:btD .max m [.int i,.int j] μ=.ok (.int (max i j)) μ:=by
 simp only[btD,maxD]
 congr 2
 split<;>lia
theorem gz {ds:List D}:dq μ (.tup ds)=some ds:=rfl
theorem ax {ds:List D}:dq μ (.lst ds)=some ds:=rfl
theorem k7 {ds:List D}:mkL .z ds μ=.ok (.lst ds) μ:=rfl
theorem A8 {x:D} {xs:List D} {k:Nat} {d:D} (h:dq μ x=some xs) (hd:xs[k]? = some d):ixD x (.int k) μ=.ok d μ:=by
 have hk:k<xs.length:=(AG.mp hd).1
 have e:ixN xs.length (k:Int)=some k:=by simp[ixN,hk]
 simp only[ixD,h,e,hd]
theorem V7 {x:D} {xs:List D} {i:Int} {d:D} (h:dq μ x=some xs) (hi:0≤i) (hd:xs[i.toNat]? = some d):ixD x (.int i) μ=.ok d μ:=by
 have hk:i.toNat<xs.length:=(AG.mp hd).1
 have e:ixN xs.length i=some i.toNat:=by simp[ixN,hi,show i<xs.length by lia]
 simp only[ixD,h,e,hd]
theorem og {i j:Nat} {a b:D}:fw (.many [i,j]) (.tup [a,b]) σ=some ((σ.set i (some a)).set j (some b)):=rfl
theorem Ji {i j k:Nat} {a b c:D}:fw (.many [i,j,k]) (.tup [a,b,c]) σ=some (((σ.set i (some a)).set j (some b)).set k (some c)):=rfl
theorem Jj {i j k l:Nat} {a b c d:D}:fw (.many [i,j,k,l]) (.tup [a,b,c,d]) σ=some ((((σ.set i (some a)).set j (some b)).set k (some c)).set l (some d)):=rfl
theorem Jk {i j k l m:Nat} {a b c d e:D}:fw (.many [i,j,k,l,m]) (.tup [a,b,c,d,e]) σ=some (((((σ.set i (some a)).set j (some b)).set k (some c)).set l (some d)).set m (some e)):=rfl
theorem cu {α:Type} {xs:List α} {en:α→D} {k:Nat} {a:α} (h:xs[k]? = some a):ixD (.tup (xs.map en)) (.int k) μ=.ok (en a) μ:=A8 gz (by rw[BA,h];rfl)
theorem Rw {α:Type} {xs:List α} {en:α→D} {k:Nat} {a:α} (h:xs[k]? = some a):ixD (.lst (xs.map en)) (.int k) μ=.ok (en a) μ:=A8 ax (by rw[BA,h];rfl)
theorem Rx {α:Type} {tg:Tg} {b:Sms} {xs:List α} {en:α→D} (I:Nat→Sl→Prop) (h0:I 0 σ) (st:∀(k:Nat) a σ,xs[k]? = some a→I k σ→∃σ',fLp φ tg b (en a) σ μ=.ok (.nx σ') μ∧I (k+1) σ') :
  ∃σ',qj φ tg b σ (xs.map en,none) μ=.ok (.nx σ') μ∧I xs.length σ':=by
 obtain⟨σ',μ',e,rfl,i⟩:=y8 (f:=fLp φ tg b) (fun k σ μ'=>μ'=μ∧I k σ) (ds:=xs.map en) (σ:=σ) (μ:=μ) 0 ⟨rfl,h0⟩ fun j d σ μ' e ⟨q,i⟩=>by
  subst q
  rw[BA]at e
  cases ex:xs[j]? with
  | none=>rw[ex]at e;cases e
  | some a =>
   rw[ex]at e
   cases e
   obtain⟨σ',e',i'⟩:=st j a σ ex (by simpa using i)
   exact⟨σ',_,e',rfl,by simpa using i'⟩
 exact⟨σ',e,by simpa using i⟩
theorem comp_map {α:Type} {tg:Tg} {cs:Exs} {elt:Ex} {σ0:Sl} {xs:List α} {en:α→D} {g:α→D} (h:∀a∈xs,iy φ tg cs elt σ0 (en a) μ=.ok [g a] μ):iq φ m tg cs elt σ0 (xs.map en,none) μ=mkL m (xs.map g) μ:=by
 have e:mapR none (iy φ tg cs elt σ0) (xs.map en) μ=.ok (xs.map g) μ:=by
  induction xs with
  | nil=>simp[mapR]
  | cons a r ih =>
   simp only[AS,mapR,uf,if_true,h a AQ,Res.bo,ih fun x hx=>h x (AJ _ hx)]
   rfl
 rw[iq]
 show(mapR none _ (xs.map en) μ).bind _=_
 rw[e];rfl
theorem fm {α:Type} {tg:Tg} {cs:Exs} {elt:Ex} {σ0:Sl} {xs:List α} {en:α→D} {g:α→D} {p:α→Bool} (h:∀a∈xs,iy φ tg cs elt σ0 (en a) μ=.ok (if p a=true then [g a]else []) μ):iq φ m tg cs elt σ0 (xs.map en,none) μ=mkL m ((xs.filter p).map g) μ:=by
 have e:mapR none (iy φ tg cs elt σ0) (xs.map en) μ=.ok ((xs.filter p).map g) μ:=by
  induction xs with
  | nil=>simp[mapR]
  | cons a r ih =>
   simp only[AS,mapR,uf,if_true,h a AQ,Res.bo,ih fun x hx=>h x (AJ _ hx)]
   by_cases hp:p a=true
   ·simp[hp]
   ·simp[hp]
 rw[iq]
 show(mapR none _ (xs.map en) μ).bind _=_
 rw[e];rfl
noncomputable def many {S α:Type} (G:S→α×S):Nat→S→List α×S
 | 0,s=>([],s)
 | n+1,s=>((G s).1::(many G n (G s).2).1,(many G n (G s).2).2)
theorem V8 {x:D}:kB φ op m b σ x μ=(evE φ b σ μ).bind (opD op m x):=rfl
theorem Jl {x:D}:Yy φ r σ x μ=evC φ r x σ μ:=rfl
theorem Pc {o:Cp} {x y:D}:kCh φ o x r σ y μ=(cpD o x y μ).bind (Wj φ r y σ):=rfl
theorem Pd {x:D}:kIx φ b σ x μ=(evE φ b σ μ).bind (ixD x):=rfl
theorem Jm {hi:ExO} {x:D} {l:Option Int}:X9 φ m hi σ x l μ=(evO φ hi σ μ).bind (slD m x l):=rfl
theorem Pe {lo hi:ExO} {x:D}:kSl φ m lo hi σ x μ=(evO φ lo σ μ).bind (X9 φ m hi σ x):=rfl
theorem Jn {ds:List D}:kTup ds μ=.ok (.tup ds) μ:=rfl
theorem Jo {d:D} {ds:List D}:Ya d ds μ=.ok (d::ds) μ:=rfl
theorem Pf {d:D}:kEs φ es σ d μ=(iu φ es σ μ).bind (Ya d):=rfl
theorem Jp {x:D}:kOne x μ=.ok [x] μ:=rfl
theorem Jq {cs:Exs} {elt:Ex}:Yz φ cs elt μ σ=(Fm φ cs σ μ).bind (Wk φ elt σ):=rfl
theorem Ea {x:D}:U9 φ b σ x μ=(evE φ b σ μ).bind (Od x):=rfl
theorem Jr {x:D}:Y0 φ b σ x μ=(evE φ b σ μ).bind (su x):=rfl
theorem Js {i:Nat} {d:D}:Y1 i σ d μ=.ok (.nx (σ.set i (some d))) μ:=rfl
theorem Jt {is:List Nat} {d:D}:Y2 is σ d μ=Yb (fw (.many is) d σ) μ:=rfl
theorem Ju {d:D}:kNx σ d μ=.ok (.nx σ) μ:=rfl
theorem Jv {d:Unit}:kNx σ d μ=.ok (.nx σ) μ:=rfl
theorem Jw {d x y:D}:Yc σ d x y μ=(Bz x y d μ).bind (kNx σ):=rfl
theorem Jx {i:Ex} {d x:D}:Yd φ i σ d x μ=(evE φ i σ μ).bind (Yc σ d x):=rfl
theorem Pg {o i:Ex} {d:D}:kSx φ o i σ d μ=(evE φ o σ μ).bind (Yd φ i σ d):=rfl
theorem Ph {b:Sms}:kLp φ b μ σ=qy φ b σ μ:=rfl
theorem Jy {d:D}:kRet d μ=.ok (.rt d) μ:=rfl
theorem Eb {n:Nat}:List.replicate (n+1) (none:Option D)=none::List.replicate n none:=rfl
theorem Ec:List.replicate 0 (none:Option D)=[]:=rfl
end
section
variable {φ : Phi} {σ : Sl} {μ : Sto}
noncomputable def Y9 (φ:Phi) (b:Ex) (σ:Sl) (x:D) (μ:Sto):Res D:=(evE φ b σ μ).bind (Xe x)
noncomputable def Wl (σ:Sl) (x y z:D) (μ:Sto):Res Fl:=(Bz x y z μ).bind (kNx σ)
noncomputable def Wm (op:Operator) (σ:Sl) (x y old d:D) (μ:Sto):Res Fl:=(Yt op old d μ).bind (Wl σ x y)
noncomputable def Ye (φ:Phi) (op:Operator) (e:Ex) (σ:Sl) (x y old:D) (μ:Sto):Res Fl:=(evE φ e σ μ).bind (Wm op σ x y old)
noncomputable def Yf (φ:Phi) (op:Operator) (e:Ex) (σ:Sl) (x y:D) (μ:Sto):Res Fl:=(ixL x y μ).bind (Ye φ op e σ x y)
noncomputable def Za (φ:Phi) (op:Operator) (i e:Ex) (σ:Sl) (x:D) (μ:Sto):Res Fl:=(evE φ i σ μ).bind (Yf φ op e σ x)
theorem V9 {a b:Ex}:evE φ (.dix a b) σ μ=(evE φ a σ μ).bind (Y9 φ b σ):=rfl
theorem Jz {b:Ex} {x:D}:Y9 φ b σ x μ=(evE φ b σ μ).bind (Xe x):=rfl
theorem Pj {op:Operator} {o i e:Ex}:evS φ (.augx op o i e) σ μ=(evE φ o σ μ).bind (Za φ op i e σ):=rfl
theorem J0 {op:Operator} {i e:Ex} {x:D}:Za φ op i e σ x μ=(evE φ i σ μ).bind (Yf φ op e σ x):=rfl
theorem J1 {op:Operator} {e:Ex} {x y:D}:Yf φ op e σ x y μ=(ixL x y μ).bind (Ye φ op e σ x y):=rfl
theorem J2 {op:Operator} {e:Ex} {x y old:D}:Ye φ op e σ x y old μ=(evE φ e σ μ).bind (Wm op σ x y old):=rfl
theorem Ed {x y:D} {i j:Int}:Wm .Add σ x y (.int i) (.int j) μ=Wl σ x y (.int (i+j)) μ:=rfl
theorem Ee {x y:D} {i j:Int}:Wm .Sub σ x y (.int i) (.int j) μ=Wl σ x y (.int (i-j)) μ:=rfl
theorem J3 {x y z:D}:Wl σ x y z μ=(Bz x y z μ).bind (kNx σ):=rfl
end
section
variable {μ : Sto}
theorem Zb {α β:Type} (a:α) (f:α→Sto→Res β):(Res.ok a μ).bind f=f a μ:=rfl
theorem Zc {α β:Type} (a:α) (k:α→Res β):o6 (some a) k=k a:=rfl
theorem abr (d:D):finD (.rt d) μ=.ok d μ:=rfl
theorem abt (σ:Sl):finD (.nx σ) μ=.ok .non μ:=rfl
theorem abu {α β:Type} (f:α→β) (a:α) (l:List α):(a::l).map f=f a::l.map f:=rfl
theorem abv {α β:Type} (f:α→β):([]:List α).map f=[]:=rfl
theorem abw {α:Type} (a:α) (l m:List α):a::l++m=a::(l++m):=rfl
theorem abx {α:Type} (m:List α):[]++m=m:=rfl
theorem aby {α:Type} (a:α) (l:List α):(a::l)[0]? = some a:=rfl
theorem abz {α:Type} (a:α) (l:List α) (i:Nat):(a::l)[i+1]? = l[i]?:=rfl
theorem ab0 {α:Type} (a b:α) (l:List α):(a::l).set 0 b=b::l:=rfl
theorem ab1 {α:Type} (a b:α) (l:List α) (i:Nat):(a::l).set (i+1) b=a::l.set i b:=rfl
theorem ab2 {α:Type} (a b:α):(some a).getD b=a:=rfl
theorem ab3 {op:Operator} {m:Mk} {i j:Int}:opD op m (.int i) (.int j) μ=opI op i j μ:=Cy
theorem ab4 {i j:Int}:opI .Add i j μ=.ok (.int (i+j)) μ:=op_add
theorem ab5 {i j:Int}:opI .Sub i j μ=.ok (.int (i-j)) μ:=op_sub
theorem ab6 {d:D} {b:Nat}:sg true b (.ok d μ)=.ok d μ:=rp
end
theorem EV1:type_of% (@Va)∧type_of% (@Vb)∧type_of% (@Vc)∧type_of% (@Vd)∧type_of% (@Ve)∧type_of% (@Vf)∧type_of% (@Y3)∧type_of% (@Vg)∧type_of% (@Vh)∧type_of% (@Vi)∧type_of% (@Oe)∧type_of% (@Of)∧type_of% (@Vj)∧type_of% (@Vk)∧type_of% (@Og)∧type_of% (@Y4)∧type_of% (@Y5)∧type_of% (@Vl)∧type_of% (@Vm)∧type_of% (@Vn)∧type_of% (@Oh)∧type_of% (@Oi)∧type_of% (@Je)∧type_of% (@Y6)∧type_of% (@Y7)∧type_of% (@Oj)∧type_of% (@Jf)∧type_of% (@Vo)∧type_of% (@Vp)∧type_of% (@Ol)∧type_of% (@Vq)∧type_of% (@Om):=⟨@Va,@Vb,@Vc,@Vd,@Ve,@Vf,@Y3,@Vg,@Vh,@Vi,@Oe,@Of,@Vj,@Vk,@Og,@Y4,@Y5,@Vl,@Vm,@Vn,@Oh,@Oi,@Je,@Y6,@Y7,@Oj,@Jf,@Vo,@Vp,@Ol,@Vq,@Om⟩
theorem EV2:type_of% (@Oo)∧type_of% (@Vr)∧type_of% (@Vs)∧type_of% (@Oq)∧type_of% (@Y8)∧type_of% (@Vt)∧type_of% (@Ot)∧type_of% (@Vu)∧type_of% (@Ou)∧type_of% (@Vv)∧type_of% (@Ov)∧type_of% (@Ow)∧type_of% (@Jg)∧type_of% (@A5)∧type_of% (@V8)∧type_of% (@D6)∧type_of% (@Jh)∧type_of% (@Ox)∧type_of% (@Oy)∧type_of% (@Vw)∧type_of% (@Vx)∧type_of% (@Oz)∧type_of% (@O0)∧type_of% (@Jl)∧type_of% (@O1)∧type_of% (@O2)∧type_of% (@Pc)∧type_of% (@Pd)∧type_of% (@Pe)∧type_of% (@Jm)∧type_of% (@Jn)∧type_of% (@Pf):=⟨@Oo,@Vr,@Vs,@Oq,@Y8,@Vt,@Ot,@Vu,@Ou,@Vv,@Ov,@Ow,@Jg,@A5,@V8,@D6,@Jh,@Ox,@Oy,@Vw,@Vx,@Oz,@O0,@Jl,@O1,@O2,@Pc,@Pd,@Pe,@Jm,@Jn,@Pf⟩
theorem EV3:type_of% (@Jo)∧type_of% (@D7)∧type_of% (@Jp)∧type_of% (@O3)∧type_of% (@O4)∧type_of% (@Jq)∧type_of% (@Vy)∧type_of% (@Vz)∧type_of% (@D8)∧type_of% (@D9)∧type_of% (@Ea)∧type_of% (@Jr)∧type_of% (@Js)∧type_of% (@Jt)∧type_of% (@A6)∧type_of% (@Ju)∧type_of% (@Jv)∧type_of% (@Pg)∧type_of% (@Jx)∧type_of% (@Jw)∧type_of% (@V0)∧type_of% (@V2)∧type_of% (@Ph)∧type_of% (@Jy)∧type_of% (@O5)∧type_of% (@O6)∧type_of% (@O7)∧type_of% (@O8)∧type_of% (@Res.bo)∧type_of% (@pf)∧type_of% (@A7)∧type_of% (@og):=⟨@Jo,@D7,@Jp,@O3,@O4,@Jq,@Vy,@Vz,@D8,@D9,@Ea,@Jr,@Js,@Jt,@A6,@Ju,@Jv,@Pg,@Jx,@Jw,@V0,@V2,@Ph,@Jy,@O5,@O6,@O7,@O8,@Res.bo,@pf,@A7,@og⟩
theorem EV4:type_of% (@Ji)∧type_of% (@Jj)∧type_of% (@Jk)∧type_of% (@Cy)∧type_of% (@op_add)∧type_of% (@op_sub)∧type_of% (@V3)∧type_of% (@V4)∧type_of% (@V5)∧type_of% (@V6)∧type_of% (@O9)∧type_of% (@Pa)∧type_of% (@Pb)∧type_of% (@bt_min)∧type_of% (@bt_max)∧type_of% (@k7)∧type_of% (@Jb)∧type_of% (@Jc)∧type_of% (@AS.{0,0})∧type_of% (@CU.{0,0})∧type_of% (@Eb)∧type_of% (@Ec)∧type_of% (@DX.{0})∧type_of% (@HA.{0})∧type_of% (@EO.{0})∧type_of% (@ER.{0})∧type_of% (@EV.{0})∧type_of% (@EW.{0})∧type_of% (@EL.{0})∧type_of% (@rp):=⟨@Ji,@Jj,@Jk,@Cy,@op_add,@op_sub,@V3,@V4,@V5,@V6,@O9,@Pa,@Pb,@bt_min,@bt_max,@k7,@Jb,@Jc,@AS.{0,0},@CU.{0,0},@Eb,@Ec,@DX.{0},@HA.{0},@EO.{0},@ER.{0},@EV.{0},@EW.{0},@EL.{0},@rp⟩
theorem EV5:type_of% (@V9)∧type_of% (@Jz)∧type_of% (@Pj)∧type_of% (@J0)∧type_of% (@J1)∧type_of% (@J2)∧type_of% (@Ed)∧type_of% (@Ee)∧type_of% (@J3):=⟨@V9,@Jz,@Pj,@J0,@J1,@J2,@Ed,@Ee,@J3⟩
end Lr
local macro_rules | `(tactic| simp! only [$ls,*]) => do
  let mut a := ls.getElems
  for s in "Lr.Va Lr.Vb Lr.Vc Lr.Vd Lr.Ve Lr.Vf Lr.Y3 Lr.Vg Lr.Vh Lr.Vi Lr.Oe Lr.Of Lr.Vj Lr.Vk Lr.Og Lr.Y4 Lr.Y5 Lr.Vl Lr.Vm Lr.Vn Lr.Oh Lr.Oi Lr.Je Lr.Y6 Lr.Y7 Lr.Oj Lr.Jf Lr.Vo Lr.Vp Lr.Ol Lr.Vq Lr.Om Lr.Oo Lr.Vr Lr.Vs Lr.Oq Lr.Y8 Lr.Vt Lr.Ot Lr.Vu Lr.Ou Lr.Vv Lr.Ov Lr.Ow Lr.Jg Lr.A5 Lr.D6 Lr.Jh Lr.Ox Lr.Oy Lr.Vw Lr.Vx Lr.Oz Lr.O0 Lr.O1 Lr.O2 Lr.Vy Lr.Vz Lr.O3 Lr.O4 Lr.D7 Lr.V0 Lr.V2 Lr.O5 Lr.O6 Lr.O7 Lr.O8 Lr.A6 Lr.D8 Lr.D9 Lr.A7 Lr.V3 Lr.V4 Lr.V5 Lr.V6 Lr.O9 Lr.Pa Lr.Pb Lr.bt_min Lr.bt_max Lr.k7 Lr.og Lr.Ji Lr.Jj Lr.Jk Lr.V8 Lr.Jl Lr.Pc Lr.Pd Lr.Jm Lr.Pe Lr.Jn Lr.Jo Lr.Pf Lr.Jp Lr.Jq Lr.Ea Lr.Jr Lr.Js Lr.Jt Lr.Ju Lr.Jv Lr.Jw Lr.Jx Lr.Pg Lr.Ph Lr.Jy Lr.Eb Lr.Ec Lr.V9 Lr.Jz Lr.Pj Lr.J0 Lr.J1 Lr.J2 Lr.Ed Lr.Ee Lr.J3 Lr.Zb Lr.Zc Lr.abr Lr.abt Lr.abu Lr.abv Lr.abw Lr.abx Lr.aby Lr.abz Lr.ab0 Lr.ab1 Lr.ab2 Lr.ab3 Lr.ab4 Lr.ab5 Lr.ab6 Nat.reduceSub decide_true decide_false Bool.not_true Bool.not_false".splitOn " " do
    a := a.push ⟨(← `(Lean.Parser.Tactic.simpLemma| $(Lean.mkIdent ((s.splitOn ".").foldl Lean.Name.mkStr .anonymous)):ident)).raw⟩
  `(tactic| simp only [$a,*])
namespace Lr
open Lp
open PySem
noncomputable def g7 (c:Int):Int:=((c % 10 ^ 60+1)*69621 % 2147483647)*((c % 10 ^ 60+1)*69621 % 2147483647) % 1000000007 / 7
noncomputable def u9 (c most:Int):Int:=if g7 c % 8<6 then min most (g7 c / 8 % 13)else if g7 c % 8=6 then most-g7 c / 8 % 2 else c % (most+1)
noncomputable def Lf (cs:List Int):O:=.l (cs.reverse.map D.int)
@[simp] theorem Zd (cs:List Int):noR (Lf cs)=true:=rfl
section
variable {n : Nat} {μ ρ : Sto}
theorem Ry (cs:List Int):aj GL (n+1) dh [.loc 0] (Lf cs::ρ)=.ok (.int (cs.headD 0)) (Lf cs.tail::ρ):=by
 rw[ak F5,run_eq rfl]
 cases cs with
 | nil=>simp[D_law_next,qy,evS,evE,evC,iu,btD,seq1,dq,Lf,cpD]
 | cons c r=>simp[D_law_next,qy,evS,evE,evC,iu,btD,seq1,dq,Lf,cpD,jc,Lp.listOf,mtD,yc,mtL,jx,putL]
theorem oh (hr:∀cs,l6 (Lf cs::ρ)) (cs:List Int):rq (aj GL (n+1)) false dh [.loc 0] (Lf cs::ρ)=.ok (.int (cs.headD 0)) (Lf cs.tail::ρ) :=
 a8 (Ry cs) rfl rfl (hr _)
theorem Rz (c:Int):aj GL (n+1) fc [.int c] μ=.ok (.int (g7 c)) μ:=by
 rw[ak F6,run_eq rfl]
 have h1:(0:Int)≤(c % 10 ^ 60+1)*69621 % 2147483647:=CH _ (by decide)
 have h2:(c % 10 ^ 60+1)*69621 % 2147483647<2147483647:=BZ _ (by decide)
 have hm:CMul ((c % 10 ^ 60+1)*69621 % 2147483647) ((c % 10 ^ 60+1)*69621 % 2147483647):=.left (by lia) (by lia)
 have hm0:CMul (c % 10 ^ 60+1) 69621:=.right (by decide) (by decide)
 have e1:opI .Pow 10 60 μ=.ok (.int (10 ^ 60)) μ:=op_pow (by decide)
 simp! only[D_law_turn,e1,op_mod (show(0:Int)<10 ^ 60 by decide),op_mul hm0,op_mod (show(0:Int)<2147483647 by decide),op_mul hm,op_mod (show(0:Int)<1000000007 by decide),me (show(0:Int)<7 by decide) (by decide),g7]
theorem tw (c:Int):0≤g7 c:=Int.ediv_nonneg (CH _ (by decide)) (by decide)
theorem oi (hr:l6 μ) (c:Int):rq (aj GL (n+1)) false fc [.int c] μ=.ok (.int (g7 c)) μ:=a8 (Rz c) rfl rfl hr
theorem R0 (hr:l6 μ) (c most:Int) (hm:0≤most):aj GL (n+2) ib [.int c,.int most] μ=.ok (.int (u9 c most)) μ:=by
 rw[ak F7,run_eq rfl]
 have f8:∀x:Int,opI .Mod x 8 μ=.ok (.int (x % 8)) μ:=fun x=>op_mod (by decide)
 by_cases h1:g7 c % 8<6
 ·simp! only[D_law_size,oi hr,f8,h1,me (show(0:Int)<8 by decide) (by decide),op_mod (show(0:Int)<13 by decide),u9,if_true]
 ·by_cases h2:g7 c % 8=6
  ·simp! only[D_law_size,oi hr,f8,h1,h2,me (show(0:Int)<8 by decide) (by decide),op_mod (show(0:Int)<2 by decide),u9,if_true,if_false,Int.reduceLT]
  ·simp! only[D_law_size,oi hr,f8,h1,h2,op_mod (show(0:Int)<most+1 by lia),u9,if_false]
theorem C0 (hr:l6 μ) (c most:Int) (hm:0≤most):rq (aj GL (n+2)) false ib [.int c,.int most] μ=.ok (.int (u9 c most)) μ :=
 a8 (R0 hr c most hm) rfl rfl hr
theorem Ml {c most:Int} (hm:1≤most):0≤u9 c most∧u9 c most≤most:=by
 have h1:=tw c
 have h3:0≤c % (most+1):=CH _ (by lia)
 have h4:c % (most+1)<most+1:=BZ _ (by lia)
 unfold u9
 split
 ·lia
 ·split<;>lia
theorem Ef (c:Int):aj GL (n+1) j0 [.int c] μ=.ok (.bl true) μ:=by
 rw[ak Cr,run_eq rfl]
 simp! only[D_law_whole,Ll]
end
end Lr
namespace Lr
open Lp
open PySem
structure Lamp where
 tank:Int
 oil:Int
 away:List Int
structure Day where
 boat:Int
 most:Int
 price:Int
 length:Int
 wanted:Int
structure Book where
 store:Int
 oil:Int
 lamps:List Lamp
 days:List Day
noncomputable def cy (ns:List Int):D:=.tup (ns.map D.int)
noncomputable def i8 (l:Lamp):D:=.tup [.int l.tank,.int l.oil,cy l.away]
noncomputable def mj (d:Day):D:=.tup [.int d.boat,.int d.most,.int d.price,.int d.length,.int d.wanted]
noncomputable def de (b:Book):D:=.tup [.int b.store,.int b.oil,.tup (b.lamps.map i8),.tup (b.days.map mj)]
theorem mf {k:Nat} (ns:List Int):D.pureN (k+1) (cy ns)=true:=by
 simp only[cy,dr,FJ,AO]
 exact fun x _=>fb
theorem A9 {k:Nat} (l:Lamp):D.pureN (k+2) (i8 l)=true:=by
 simp only[i8,dr,BD,DV,FD,FN,fb,mf]
theorem Mm {k:Nat} (l:Day):D.pureN (k+1) (mj l)=true:=by
 simp only[mj,dr,BD,DV,FD,FN,fb]
theorem vq {b:Book} {μ:Sto}:ixD (de b) (.int 2) μ=.ok (.tup (b.lamps.map i8)) μ:=rfl
theorem i9 {b:Book} {μ:Sto}:ixD (de b) (.int 3) μ=.ok (.tup (b.days.map mj)) μ:=rfl
section
variable {n : Nat} {μ ρ : Sto}
theorem p30:opI .Pow 10 30 μ=.ok (.int (10 ^ 30)) μ:=op_pow (by decide)
theorem p15:opI .Pow 10 15 μ=.ok (.int (10 ^ 15)) μ:=op_pow (by decide)
end
section
variable {n : Nat} {μ : Sto}
theorem vc (ns:List Int):(ns.map D.int).all flat=true:=by
 rw[FJ,AO]
 exact fun _ _=>rfl
theorem any_ints (ns:List Int) (k:Int):((ns.map D.int).any fun y=>deq y (.int k))=decide (k∈ns):=by
 rw[JO]
 induction ns with
 | nil=>rfl
 | cons a r ih =>
  simp only[CT,ih,Function.comp,deq,AM]
  by_cases h:a=k
  ·simp[h]
  ·simp[h,Ne.symm h]
theorem y9 {ns:List Int} {k:Int}:cpD .notin (.int k) (cy ns) μ=.ok (.bl (!decide (k∈ns))) μ:=by
 simp only[cpD,cy,gz,flat,vc,and_self,if_true,any_ints]
theorem Gc {b:Book} {k:Nat} {l:Lamp} (hl:b.lamps[k]? = some l) (y:Int):aj GL (n+1) ou [de b,.int k,.int y] μ=.ok (.bl (!decide (y∈l.away))) μ:=by
 rw[ak F4,run_eq rfl]
 simp! only[D_can_burn,vq,cu hl,i8,y9]
end
end Lr
namespace Lr
open Lp
open PySem
theorem J4 (ns:List Int):mkL .l (ns.map D.int).reverse []=.ok (.loc 0) [Lf ns]:=by
 have hall:(ns.map D.int).reverse.all (D.pureN 8)=true:=by
  rw[←List.map_reverse,FJ,AO]
  exact fun _ _=>rfl
 simp only[mkL,hall,if_true,Lf,List.map_reverse,CM,HA]
theorem Ge {μ:Sto} {ds:List D}:listOf μ (.lst ds)=some ds:=rfl
theorem vd {k:Nat} (ih:∀d:D,D.pureN k d=true→deq d d=true):∀ds:List D,ds.all (D.pureN k)=true→Gn ds ds=true
 | [],_=>by rw[Gn]
 | d::r,h=>by
  simp only[BD,BC]at h
  rw[Gn,ih d h.1,vd ih r h.2];rfl
theorem za:∀(k:Nat) (d:D),D.pureN k d=true→deq d d=true
 | 0,d,h=>by cases d<;>simp_all[D.pureN,deq]
 | k+1,d,h=>by
  cases d with
  | tup ds=>rw[deq];exact vd (za k) ds h
  | lst ds=>rw[deq];exact vd (za k) ds h
  | loc n=>simp[D.pureN]at h
  | _=>simp[deq]
theorem Mn (xs:List D) (k:Nat):cut xs none (some (k:Int))=xs.take k:=by
 simp only[cut,sIx]
 rw[if_neg (by lia)]
 simp[List.take_eq_take_iff]
theorem Mo (xs:List D) (k:Nat):cut xs (some (k:Int)) none=xs.drop k:=by
 simp only[cut,sIx]
 rw[if_neg (by lia)]
 by_cases h:k≤xs.length
 ·rw[CD,Nat.min_eq_left h,BX (by simp)]
 ·rw[CD,Nat.min_eq_right (by lia),List.drop_eq_nil_of_le (show xs.length≤k by lia)];simp
section
variable {n : Nat} {μ ρ : Sto} {m : Mk} {φ : Phi} {σ : Sl} {es : Exs}
theorem J5 {xs:List D} {k:Nat}:slD m (.tup xs) none (some (k:Int)) μ=.ok (.tup (xs.take k)) μ:=by rw[slD,Mn]
theorem R1 {xs:List D} {k:Nat}:slD m (.tup xs) (some (k:Int)) none μ=.ok (.tup (xs.drop k)) μ:=by rw[slD,Mo]
theorem Mp {xs:List D}:slD m (.tup xs) (some 1) none μ=.ok (.tup (xs.drop 1)) μ:=R1 (k:=1)
theorem ic {f:Nat} {ds:List D} {d:D} (h:φ f ds μ=.ok d (μ++ρ)) (hd:d.pure=true) (hr:l6 μ):rq φ false f ds μ=.ok d μ:=by
 rw[rq,h]
 have e:(μ++ρ).take μ.length=μ:=by simp
 have hr':μ.all (jz μ.length)=true:=hr
 simp only[sg,AT,if_false,e,md _ 8 d hd,hr',and_self,if_true]
theorem g6 {o:O}:(μ++[o])[μ.length]? = some o:=by simp
theorem t6 {o o':O}:(μ++[o]).set μ.length o'=μ++[o']:=by simp
theorem J6 {ds:List D} (h:ds.all (D.pureN 8)=true):mkL .l ds μ=.ok (.loc μ.length) (μ++[.l ds]):=by simp only[mkL,h,if_true]
theorem Eg {ds:List D}:dq (μ++[.l ds]) (.loc μ.length)=some ds:=by simp only[dq,g6]
theorem R3 {mt:Mt} {ds:List D} (h:∀d μ,jc mt d μ=(Lp.listOf μ d).isSome):kM φ mt es σ (.loc μ.length) (μ++[.l ds])=(iu φ es σ (μ++[.l ds])).bind (mtD mt (.loc μ.length)):=by
 refine Cz ?_
 rw[h]
 simp only[Lp.listOf,g6];rfl
theorem ve {ds:List D}:kM φ .append es σ (.loc μ.length) (μ++[.l ds])=(iu φ es σ (μ++[.l ds])).bind (mtD .append (.loc μ.length)):=R3 fun _ _=>rfl
theorem Ba {ds:List D} {d:D} (hd:d.pure=true) (hl:ds.length<1000000):mtD .append (.loc μ.length) [d] (μ++[.l ds])=.ok .non (μ++[.l (ds++[d])]):=by
 have:=rg
 simp only[mtD,yc,g6,jx,mtL,ie,fits,hd,putL,t6]
 rw[if_pos ⟨trivial,by lia⟩]
theorem ja {α:Type} {tg:Tg} {b:Sms} {xs:List α} {en:α→D} (I:Nat→Sl→Sto→Prop) (h0:I 0 σ μ) (st:∀(k:Nat) a σ μ,xs[k]? = some a→I k σ μ→∃σ' μ',fLp φ tg b (en a) σ μ=.ok (.nx σ') μ'∧I (k+1) σ' μ') :
  ∃σ' μ',qj φ tg b σ (xs.map en,none) μ=.ok (.nx σ') μ'∧I xs.length σ' μ':=by
 obtain⟨σ',μ',e,i⟩:=y8 (f:=fLp φ tg b) I (ds:=xs.map en) (σ:=σ) (μ:=μ) 0 h0 fun j d σ μ' e i=>by
  rw[BA]at e
  cases ex:xs[j]? with
  | none=>rw[ex]at e;cases e
  | some a =>
   rw[ex]at e
   cases e
   obtain⟨σ',μ'',e',i'⟩:=st j a σ μ' ex (by simpa using i)
   exact⟨σ',μ'',e',by simpa using i'⟩
 exact⟨σ',μ',e,by simpa using i⟩
theorem J7 {α:Type} {tg:Tg} {cs:Exs} {elt:Ex} {σ0:Sl} {xs:List α} {en:α→D} (h:∀a∈xs,iy φ tg cs elt σ0 (en a) μ=.ok [] μ):iq φ m tg cs elt σ0 (xs.map en,none) μ=mkL m [] μ:=by
 have e:xs.filter (fun _=>false)=[]:=IU.mpr fun a _=>by simp
 rw[fm (g:=en) (p:=fun _=>false) fun a ha=>by rw[h a ha];rfl,e,CU]
end
end Lr
namespace Lr
open Lp
open PySem
noncomputable def sq (b:Bool) (ds:List D):D:=match b with
 | true=>.lst ds
 | false=>.tup ds
end Lr
namespace Lr
open Lp
open PySem
section
variable {n : Nat} {μ ρ : Sto}
theorem R4 {k i:Nat} {ds:List D} (h:μ[i]? = some (.l ds)):bu μ (k+1) (.loc i)=(d9 (ds.map (bu μ k))).map .lst:=by simp only[bu,h]
theorem p7 {f:D→Option D}:∀{ds:List D},(∀d∈ds,f d=some d)→d9 (ds.map f)=some ds
 | [],_=>rfl
 | d::r,h=>by simp only[AS,h d AQ,d9,p7 fun x hx=>h x (AJ _ hx)]
theorem r6:∀(k:Nat) (d:D),D.pureN k d=true→bu μ k d=some d
 | 0,d,h=>by cases d<;>simp_all[D.pureN,bu,flat]
 | k+1,d,h=>by
  cases d with
  | tup ds =>
   have h':ds.all (D.pureN k)=true:=h
   rw[AO]at h'
   simp only[bu,p7 fun d hd=>r6 k d (h' d hd),FT]
  | lst ds =>
   have h':ds.all (D.pureN k)=true:=h
   rw[AO]at h'
   simp only[bu,p7 fun d hd=>r6 k d (h' d hd),FT]
  | loc n=>simp[D.pureN]at h
  | _=>rfl
end
end Lr
namespace Lr
open Lp
open PySem
section
variable {n : Nat} {μ ρ : Sto}
structure Span where
 lamp:Int
 start:Int
 fin:Int
noncomputable def eSpan (s:Span):D:=.tup [.int s.lamp,.int s.start,.int s.fin]
noncomputable def d5 (k st much L:Int):List Span:=if much=0 then []else if st+much≤L then [⟨k,st,st+much⟩]else [⟨k,0,st+much-L⟩,⟨k,st,L⟩]
theorem vf {k:Nat} (s:Span):D.pureN (k+1) (eSpan s)=true:=by simp only[eSpan,dr,BD,DV,FD,fb]
structure Fit (L:Int) (ts:List Int) (w:Int):Prop where
 each:∀t∈ts,0≤t∧t≤L
 all:ts.sum=w*L
end
end Lr
namespace Lr
open Lp
open PySem
noncomputable def se (L:Int):List Int→Int→Int→List Span
 | [],_,_=>[]
 | t::r,k,st=>d5 k st t L++se L r (k+1) ((st+t) % L)
noncomputable def zc (L:Int):List Int→Int→Int
 | [],st=>st
 | t::r,st=>zc L r ((st+t) % L)
theorem t8 {b c:Nat} (h:b≤c):∀(k:Nat) (d:D),D.belowN b k d=true→D.belowN c k d=true
 | 0,d,e=>by cases d<;>simp_all[D.belowN];lia
 | k+1,d,e=>by
  cases d with
  | tup ds =>
   simp only[D.belowN,AO]at e ⊢
   exact fun x hx=>t8 h k x (e x hx)
  | lst ds =>
   simp only[D.belowN,AO]at e ⊢
   exact fun x hx=>t8 h k x (e x hx)
  | loc n=>simp_all[D.belowN];lia
  | _=>rfl
section
variable {n : Nat} {μ ρ : Sto} {φ : Phi} {es : Exs} {σ : Sl}
theorem w8 (hr:l6 μ) (ds:List D):l6 (μ++[.l ds]):=by
 unfold l6 at hr ⊢
 rw[AO]at hr ⊢
 intro o ho
 rcases DH.mp ho with h | h
 ·have:=hr o h
  cases o with
  | r xs =>
   simp only[jz,AO]at this ⊢
   exact fun x hx=>t8 (by simp) 8 x (this x hx)
  | _=>rfl
 ·simp only[DO]at h
  subst h;rfl
end
end Lr
namespace Lr
open Lp
open PySem
noncomputable def cov (ss:List Span) (t:Int):Nat:=ss.countP fun s=>decide (s.start≤t∧t<s.fin)
theorem Mq {L st x:Int} (h0:0≤st) (h1:st<L) (hx:0≤x) (hx2:x≤L):(st+x<L∧(st+x) % L=st+x)∨(L≤st+x∧(st+x) % L=st+x-L):=by
 by_cases h:st+x<L
 ·exact .inl ⟨h,GI (by lia) h⟩
 ·refine .inr ⟨by lia,?_⟩
  have e:(st+x) % L=(st+x-L) % L:=by rw[Int.sub_emod_right]
  rw[e]
  exact GI (by lia) (by lia)
theorem Mr {L k st x t:Int} (h0:0≤st) (h1:st<L) (hx:0≤x) (hx2:x≤L) (t0:0≤t) (t1:t<L) :
  ((cov (d5 k st x L) t:Nat):Int)=if x=0 then 0 else if st+x≤L then(if st≤t∧t<st+x then 1 else 0)else(if t<st+x-L then 1 else 0)+(if st≤t then 1 else 0):=by
 unfold d5
 by_cases hz:x=0
 ·simp[hz,cov]
 ·rw[if_neg hz,if_neg hz]
  by_cases hl:st+x≤L
  ·rw[if_pos hl,if_pos hl]
   simp only[cov,DY,List.countP_nil,decide_eq_true_eq]
   split<;>simp
  ·rw[if_neg hl,if_neg hl]
   simp only[cov,DY,List.countP_nil,decide_eq_true_eq]
   by_cases a:t<st+x-L<;>by_cases b:st≤t<;>simp[a,b,t0,t1]
theorem zd (a b:List Span) (t:Int):cov (a++b) t=cov a t+cov b t:=by simp[cov,List.countP_append]
theorem J8 {L t:Int} (t0:0≤t) (t1:t<L):∀(ts:List Int) (k st q:Int),0≤st→st<L→(∀x∈ts,0≤x∧x≤L) →
  ∃q',q'*L+zc L ts st=q*L+st+ts.sum∧0≤zc L ts st∧zc L ts st<L∧(cov (se L ts k st) t:Int)+q+(if t<st then 1 else 0)=q'+(if t<zc L ts st then 1 else 0)
 | [],k,st,q,h0,h1,_=>⟨q,by simp[zc],h0,h1,by by_cases h:t<st<;>simp[se,cov,zc,h]⟩
 | x::r,k,st,q,h0,h1,hb=>by
  have hx:=hb x AQ
  have c:=Mr (k:=k) h0 h1 hx.1 hx.2 t0 t1
  have hr:∀y∈r,0≤y∧y≤L:=fun y hy=>hb y (AJ _ hy)
  rcases Mq h0 h1 hx.1 hx.2 with⟨hl,e⟩ | ⟨hl,e⟩
  ·obtain⟨q',a1,a2,a3,a4⟩:=J8 t0 t1 r (k+1) (st+x) q (by lia) hl hr
   refine⟨q',?_,?_,?_,?_⟩
   ·simp only[zc,e,Db];lia
   ·simp only[zc,e];exact a2
   ·simp only[zc,e];exact a3
   ·simp only[zc,se,e,zd,Int.natCast_add]
    rw[c]
    split at a4<;>split at a4<;>(repeat' split)<;>lia
  ·obtain⟨q',a1,a2,a3,a4⟩:=J8 t0 t1 r (k+1) (st+x-L) (q+1) (by lia) (by lia) hr
   refine⟨q',?_,?_,?_,?_⟩
   ·simp only[zc,e,Db]
    rw[Int.add_mul]at a1;lia
   ·simp only[zc,e];exact a2
   ·simp only[zc,e];exact a3
   ·simp only[zc,se,e,zd,Int.natCast_add]
    rw[c]
    split at a4<;>split at a4<;>(repeat' split)<;>lia
theorem Ms {L w t:Int} {ts:List Int} (hf:Fit L ts w) (t0:0≤t) (t1:t<L):(cov (se L ts 0 0) t:Int)=w:=by
 obtain⟨q',a1,a2,a3,a4⟩:=J8 t0 t1 ts 0 0 0 (by lia) (by lia) hf.each
 have hL:L≠0:=by lia
 rw[hf.all]at a1
 have e0:zc L ts 0=0:=by
  have e1:zc L ts 0=(w-q')*L:=by rw[Int.sub_mul];lia
  have e2:zc L ts 0 % L=zc L ts 0:=GI a2 a3
  rw[e1,Int.mul_emod_left]at e2
  rw[e1];exact e2.symm
 have e3:q'=w:=by
  rw[e0]at a1
  have:q'*L=w*L:=by omega
  exact Int.eq_of_mul_eq_mul_right hL this
 rw[e0]at a4
 have z:¬t<0:=by lia
 rw[if_neg z]at a4
 lia
end Lr
namespace Lr
open Lp
open PySem
section
variable {n : Nat} {μ ρ : Sto} {φ : Phi} {σ : Sl}
theorem Wa {i:Nat} {k:Nat} {ds:List D} (h:σ[i]? = some (some (.loc k))) (h2:μ[k]? = some (.l ds)):evE φ (.frz i) σ μ=.ok (.lst ds) (μ.set k .dead):=by simp only[evE,h,h2]
end
end Lr
namespace Lr
open Lp
open PySem
noncomputable def encM (m:List (Int×Int)):List (D×D):=m.map fun p=>(D.int p.1,D.int p.2)
noncomputable def dg:List (Int×Int)→Int→Option Int
 | [],_=>none
 | p::r,k=>if p.1=k then some p.2 else dg r k
noncomputable def Bp (m:List (Int×Int)) (k v:Int):List (Int×Int):=if(m.any fun p=>decide (p.1=k))=true then m.map (fun p=>if p.1=k then(p.1,v)else p)else m++[(k,v)]
theorem Eh (k:Int):∀m:List (Int×Int),Hd (.int k) (encM m)=(dg m k).map D.int
 | []=>rfl
 | p::r=>by
  have ih:=Eh k r
  simp only[encM,AS]at ih ⊢
  rw[Hd,dg,deq]
  by_cases h:p.1=k
  ·simp[h]
  ·simp only[h,decide_false,if_false,AT];exact ih
theorem R5 (k:Int) (m:List (Int×Int)):((encM m).any fun p=>deq p.1 (.int k))=m.any fun p=>decide (p.1=k):=by
 simp only[encM,JO]
 congr 1
theorem Ei (m:List (Int×Int)) (k v:Int):dput (.int k) (.int v) (encM m)=encM (Bp m k v):=by
 unfold dput Bp
 rw[R5]
 split
 ·simp only[encM,BB]
  refine DG fun p _=>?_
  simp only[Function.comp,deq]
  by_cases h:p.1=k
  ·simp[h]
  ·simp[h]
 ·simp[encM]
theorem Ej:∀(m:List (Int×Int)) (k:Int),(m.any fun p=>decide (p.1=k))=(dg m k).isSome
 | [],_=>rfl
 | p::r,k=>by
  rw[CT,dg,Ej r k]
  by_cases h:p.1=k<;>simp[h]
theorem Ek (k v k':Int):∀m:List (Int×Int),dg (m.map fun p=>if p.1=k then(p.1,v)else p) k'=if k'=k then(dg m k).map fun _=>v else dg m k'
 | []=>by simp[dg]
 | p::r=>by
  have ih:=Ek k v k' r
  simp only[AS,dg]
  by_cases h:p.1=k
  ·by_cases h':k'=k
   ·subst h';simp[h]
   ·have:¬p.1=k':=fun z=>h' (z.symm.trans h)
    simp only[h,if_true,ih,h',if_false]
    have h2:¬k=k':=fun z=>h' z.symm
    simp[h2]
  ·by_cases h':k'=k
   ·subst h';simp only[h,if_false,ih,if_true]
   ·simp only[h,if_false,ih,h']
theorem Bb (k v k':Int):∀m:List (Int×Int),dg (m++[(k,v)]) k'=match dg m k' with
  | some x=>some x
  | none=>if k=k' then some v else none
 | []=>by simp[dg]
 | p::r=>by
  have ih:=Bb k v k' r
  simp only[DX,dg]
  by_cases h:p.1=k'
  ·simp[h]
  ·simp only[h,if_false,ih]
theorem nr (m:List (Int×Int)) (k v k':Int):dg (Bp m k v) k'=if k'=k then some v else dg m k':=by
 unfold Bp
 rw[Ej]
 split
 ·rename_i h
  rw[Ek]
  obtain⟨x,hx⟩:=EF.mp h
  simp[hx]
 ·rename_i h
  have hn:dg m k=none:=by simpa using h
  rw[Bb]
  by_cases h':k'=k
  ·subst h';simp[hn]
  ·have h2:¬k=k':=fun z=>h' z.symm
   simp only[h',h2,if_false]
   cases dg m k'<;>rfl
theorem t9 (m:List (Int×Int)) (k v:Int):(Bp m k v).length≤m.length+1:=by
 unfold Bp
 split<;>simp
section
variable {n : Nat} {μ ρ : Sto} {φ : Phi} {σ : Sl}
theorem ze {m:List (Int×Int)} {k x:Int}:mtD .get (.loc μ.length) [.int k,.int x] (μ++[.d (encM m)])=.ok (.int ((dg m k).getD x)) (μ++[.d (encM m)]):=by
 simp only[mtD,Qj,dictAt,g6,Lk,if_true,Eh]
 cases dg m k<;>rfl
theorem J9 {es:Exs} {m:List (Int×Int)}:kM φ .get es σ (.loc μ.length) (μ++[.d (encM m)])=(iu φ es σ (μ++[.d (encM m)])).bind (mtD .get (.loc μ.length)):=Cz (by simp only[jc,g6])
theorem set_dict {m:List (Int×Int)} {k v:Int} (h:m.length<1000000):Bz (.loc μ.length) (.int k) (.int v) (μ++[.d (encM m)])=.ok () (μ++[.d (encM (Bp m k v))]):=by
 have:=rg
 have hl:(encM m).length<lim:=by simp only[encM,AF];lia
 simp only[Bz,g6,Lk,tu,hl,and_self,if_true,Ei,t6]
noncomputable def ay (ss:List Span) (k:Int):Int:=(ss.map fun s=>if s.lamp=k then s.fin-s.start else 0).sum
theorem C1 (F:D) (lamps:Nat) (ss:List Span) (hF:∀ν:Sto,kSeq F ν=.ok (ss.map eSpan,none) ν) (hn:ss.length≤1000) (hl:lamps≤1000):∃ρ,aj GL (n+1) di [.int lamps,F] μ=.ok (cy ((List.range lamps).map fun(k:Nat)=>ay ss k)) (μ++ρ):=by
 rw[ak sm,run_eq rfl]
 obtain⟨σ',μ',el,m,⟨v3,v4,v5,rfl⟩,rfl,hm,hk⟩:=ja (φ:=aj GL n) (μ:=μ++[.d []]) (tg:=.many [3,4,5]) (b:=gc) (xs:=ss) (en:=eSpan)
  (σ:=[some (.int lamps),some (F),some (.loc μ.length),none,none,none])
  (fun j σ μ'=>∃m,(∃v3 v4 v5,σ=[some (.int lamps),some (F),some (.loc μ.length),v3,v4,v5])∧μ'=μ++[.d (encM m)]∧m.length≤j∧∀k,(dg m k).getD 0=ay (ss.take j) k)
  ⟨[],⟨none,none,none,rfl⟩,rfl,by simp,fun k=>by simp[dg,ay]⟩ (by
   rintro j s σ μ' hs ⟨m,⟨v3,v4,v5,rfl⟩,rfl,hm,hk⟩
   have hj:j<ss.length:=(AG.mp hs).1
   refine⟨[some (.int lamps),some (F),some (.loc μ.length),some (.int s.lamp),some (.int s.start),some (.int s.fin)],μ++[.d (encM (Bp m s.lamp ((dg m s.lamp).getD 0+s.fin-s.start)))],?_,Bp m s.lamp ((dg m s.lamp).getD 0+s.fin-s.start),⟨_,_,_,rfl⟩,rfl,?_,fun k=>?_⟩
   ·simp! only[fLp,gc,eSpan,J9,ze,set_dict (show m.length<1000000 by lia)]
   ·have:=t9 m s.lamp ((dg m s.lamp).getD 0+s.fin-s.start);lia
   ·have et:ay (ss.take (j+1)) k=ay (ss.take j) k+if s.lamp=k then s.fin-s.start else 0:=by
     rw[DF,hs]
     simp[ay,EB]
    rw[nr,et]
    by_cases h:k=s.lamp
    ·subst h
     have:=hk s.lamp
     simp only[if_true,EL]
     lia
    ·have h2:¬s.lamp=k:=fun z=>h z.symm
     simp only[h,h2,if_false,hk k];lia)
 rw[BX (AI _)]at hk
 have hc:iq (aj GL n) .z (.one 1) .nil gf [some (.loc μ.length),none] ((List.range lamps).map fun(k:Nat)=>D.int k,none) (μ++[.d (encM m)])=.ok (.lst (((List.range lamps).map fun(k:Nat)=>ay ss k).map D.int)) (μ++[.d (encM m)]):=by
  rw[comp_map (en:=fun(k:Nat)=>D.int k) (g:=fun(k:Nat)=>D.int (ay ss k)) fun k _=>by
   simp! only[iy,gf,J9,ze,hk]]
  rw[k7,BB];rfl
 refine⟨[.d (encM m)],?_⟩
 have d0:Nx false [] μ=.ok (.loc μ.length) (μ++[.d []]):=rfl
 simp! only[D_ticks_of_spans,d0,hF,el,du (show lamps≤1000000 by lia),hc,bt_tuple ax,cy]
theorem xg (lamps:Nat) (ss:List Span) (hn:ss.length≤1000) (hl:lamps≤1000):∃ρ,aj GL (n+1) di [.int lamps,.tup (ss.map eSpan)] μ=.ok (cy ((List.range lamps).map fun(k:Nat)=>ay ss k)) (μ++ρ):=C1 _ lamps ss (fun _=>rfl) hn hl
end
end Lr
namespace Lr
open Lp
open PySem
noncomputable def Nb (a b:Span):Prop:=a.lamp<b.lamp∨(a.lamp=b.lamp∧a.start<b.start∧a.fin≤b.start)
structure Good (L:Int) (lo hi:Int) (s:Span):Prop where
 lamp:lo≤s.lamp∧s.lamp<hi
 start:0≤s.start
 run:s.start<s.fin
 fin:s.fin≤L
theorem C2 {L k st x:Int} (h0:0≤st) (h1:st<L) (hx:0≤x) (hx2:x≤L):(d5 k st x L).Pairwise Nb∧∀s∈d5 k st x L,Good L k (k+1) s:=by
 unfold d5
 split
 ·exact⟨.nil,fun s h=>by simp at h⟩
 ·split
  ·refine⟨by simp,fun s h=>?_⟩
   simp only[DO]at h
   subst h
   exact⟨⟨FZ _,by show k<k+1;lia⟩,h0,by show st<st+x;lia,by show st+x≤L;lia⟩
  ·refine⟨?_,fun s h=>?_⟩
   ·simp only[BO,DO,BF,false_implies,implies_true,List.Pairwise.nil,and_true]
    rintro s rfl
    exact .inr ⟨rfl,by show(0:Int)<st;lia,by show st+x-L≤st;lia⟩
   ·simp only[AM,BF,or_false]at h
    rcases h with rfl | rfl
    ·exact⟨⟨FZ _,by show k<k+1;lia⟩,FZ _,by show(0:Int)<st+x-L;lia,by show st+x-L≤L;lia⟩
    ·exact⟨⟨FZ _,by show k<k+1;lia⟩,h0,by show st<L;lia,FZ _⟩
theorem C3:∀{ss:List Span},ss.Pairwise Nb→∀p∈ss.zip (ss.drop 1),Nb p.1 p.2
 | [],_,p,hp=>by simp at hp
 | [a],_,p,hp=>by simp at hp
 | a::c::r,h,p,hp=>by
  rcases AM.mp hp with rfl | hp
  ·exact(BO.mp h).1 c AQ
  ·exact C3 (BO.mp h).2 p hp
theorem Ka (a b:List Span) (k:Int):ay (a++b) k=ay a k+ay b k:=by simp[ay,EB]
theorem Gf {L k st x:Int} (k':Int) (hx:0≤x):ay (d5 k st x L) k'=if k=k' then x else 0:=by
 unfold d5
 by_cases hz:x=0
 ·subst hz;simp[ay]
 ·rw[if_neg hz]
  by_cases hl:st+x≤L
  ·rw[if_pos hl]
   by_cases hk:k=k'<;>simp[ay,hk]
   lia
  ·rw[if_neg hl]
   by_cases hk:k=k'<;>simp[ay,hk]
   lia
end Lr
namespace Lr
open Lp
open PySem
section
variable {n : Nat} {μ ρ : Sto} {φ : Phi} {σ : Sl}
theorem Pk (a b:Span):cpD .lt (eSpan a) (eSpan b) μ=.ok (.bl (lexLt [a.lamp,a.start,a.fin] [b.lamp,b.start,b.fin])) μ:=by
 have e:∀s:Span,fu [D.int s.lamp,.int s.start,.int s.fin]=some [s.lamp,s.start,s.fin]:=fun s=>k6 [s.lamp,s.start,s.fin]
 simp only[cpD,eSpan,e]
theorem Wb {a b:Span} (h:Nb a b):lexLt [a.lamp,a.start,a.fin] [b.lamp,b.start,b.fin]=true:=by
 rcases h with h | ⟨h1,h2,h3⟩
 ·have:¬a.lamp=b.lamp:=by lia
  simp[Lp.lexLt,this,h]
 ·have:¬a.start=b.start:=by lia
  simp[Lp.lexLt,h1,this,h2]
theorem qk (ss:List Span):(((ss.map eSpan).zip ((ss.map eSpan).drop 1)).map fun p=>D.tup [p.1,p.2])=(ss.zip (ss.drop 1)).map fun p:Span×Span=>D.tup [eSpan p.1,eSpan p.2]:=by
 rw[←List.map_drop,List.zip_map,BB];rfl
theorem Kb {ss:List Span} (h:ss.Pairwise Nb):aj GL (n+1) u3 [.tup (ss.map eSpan)] μ=.ok (.bl true) μ:=by
 rw[ak Ja,run_eq rfl]
 have hz:su (.tup (ss.map eSpan)) (.tup ((ss.map eSpan).drop 1)) μ=.ok (((ss.map eSpan).zip ((ss.map eSpan).drop 1)).map fun p=>.tup [p.1,p.2],none) μ:=rfl
 have hc:iq (aj GL n) .z (.many [0,1]) .nil ma [none,none] ((ss.zip (ss.drop 1)).map fun p:Span×Span=>D.tup [eSpan p.1,eSpan p.2],none) μ=.ok (.lst (((ss.zip (ss.drop 1)).map fun _=>true).map D.bl)) μ:=by
  rw[comp_map (g:=fun _=>D.bl true) fun p hp=>by
   have hlt:=Wb (C3 h p hp)
   simp! only[iy,ma,Pk,hlt]]
  rw[k7,BB];rfl
 have ha:((ss.zip (ss.drop 1)).map fun _=>true).all id=true:=by simp
 simp! only[D_rises,Mp,hz,qk,hc,bt_all ax (gk _),ha]
theorem sv {s:Span}:ixD (eSpan s) (.int 0) μ=.ok (.int s.lamp) μ:=rfl
theorem vt {s:Span}:ixD (eSpan s) (.int 1) μ=.ok (.int s.start) μ:=rfl
theorem Bc {s:Span}:ixD (eSpan s) (.int 2) μ=.ok (.int s.fin) μ:=rfl
theorem Mu {a b:Span} (h:Nb a b):aj GL (n+1) cg [eSpan a,eSpan b] μ=.ok (.bl false) μ:=by
 rw[ak ip,run_eq rfl]
 rcases h with h | ⟨h1,h2,h3⟩
 ·have:¬a.lamp=b.lamp:=by lia
  simp! only[D_have_tick_in_common,sv,this]
 ·have:¬b.start<a.fin:=by lia
  simp! only[D_have_tick_in_common,sv,vt,Bc,h1,this]
theorem Bd (hr:l6 μ) {L:Int} {lamps:Nat} {ss:List Span} (h:ss.Pairwise Nb) (hg:∀s∈ss,Good L 0 lamps s):aj GL (n+2) ee [.int L,.int lamps,.tup (ss.map eSpan)] μ=.ok (.bl false) μ:=by
 rw[ak ny,run_eq rfl]
 obtain⟨σ',el,v3,v4,v5,rfl⟩:=Rx (φ:=aj GL (n+1)) (μ:=μ) (tg:=.many [3,4,5]) (b:=a7) (xs:=ss) (en:=eSpan) (σ:=[some (.int L),some (.int lamps),some (.tup (ss.map eSpan)),none,none,none])
  (fun _ σ=>∃v3 v4 v5,σ=[some (.int L),some (.int lamps),some (.tup (ss.map eSpan)),v3,v4,v5]) ⟨none,none,none,rfl⟩ (by
   rintro j s σ hs ⟨v3,v4,v5,rfl⟩
   obtain⟨⟨a1,a2⟩,b,c,d⟩:=hg s (BR hs)
   refine⟨[some (.int L),some (.int lamps),some (.tup (ss.map eSpan)),some (.int s.lamp),some (.int s.start),some (.int s.fin)],?_,_,_,_,rfl⟩
   simp! only[fLp,a7,eSpan,a1,a2,b,c,d])
 have hz:su (.tup (ss.map eSpan)) (.tup ((ss.map eSpan).drop 1)) μ=.ok (((ss.map eSpan).zip ((ss.map eSpan).drop 1)).map fun p=>.tup [p.1,p.2],none) μ:=rfl
 have hc:iq (aj GL (n+1)) .z (.many [0,1]) .nil c7 [none,none] ((ss.zip (ss.drop 1)).map fun p:Span×Span=>D.tup [eSpan p.1,eSpan p.2],none) μ=.ok (.lst (((ss.zip (ss.drop 1)).map fun _=>false).map D.bl)) μ:=by
  rw[comp_map (g:=fun _=>D.bl false) fun p hp=>by
   simp! only[iy,c7,a8 (Mu (n:=n) (μ:=μ) (C3 h p hp)) rfl rfl hr]]
  rw[k7,BB];rfl
 have ha:((ss.zip (ss.drop 1)).map fun _=>false).any id=false:=by
  rw[GJ]
  intro x hx
  obtain⟨_,_,rfl⟩:=AY.mp hx
  simp
 simp! only[D_has_span_fault,el,a8 (Kb (n:=n) (μ:=μ) h) rfl rfl hr,Mp,hz,qk,hc,bt_any ax (gk _),ha]
end
noncomputable def dlt (ss:List Span) (x:Int):Int:=(ss.map fun s=>(if s.start=x then 1 else 0)-(if s.fin=x then 1 else 0)).sum
theorem El {L lo hi:Int}:∀(ss:List Span) (x:Int),(∀s∈ss,Good L lo hi s)→dlt ss x=(cov ss x:Int)-(cov ss (x-1):Int)
 | [],x,_=>by simp[dlt,cov]
 | s::r,x,h=>by
  have ih:=El r x fun y hy=>h y (AJ _ hy)
  have g:=(h s AQ).run
  have e1:(cov (s::r) x:Int)=cov r x+if s.start≤x∧x<s.fin then 1 else 0:=by
   simp only[cov,DY,decide_eq_true_eq];split<;>simp
  have e2:(cov (s::r) (x-1):Int)=cov r (x-1)+if s.start≤x-1∧x-1<s.fin then 1 else 0:=by
   simp only[cov,DY,decide_eq_true_eq];split<;>simp
  have e3:dlt (s::r) x=((if s.start=x then 1 else 0)-(if s.fin=x then 1 else 0))+dlt r x:=by simp[dlt]
  rw[e1,e2,e3,ih]
  clear e1 e2 e3 ih
  split<;>split<;>split<;>split<;>lia
end Lr
namespace Lr
open Lp
open PySem
theorem zf (m:List (Int×Int)) (k v:Int) (h:(m.map (·.1)).Nodup):((Bp m k v).map (·.1)).Nodup:=by
 unfold Bp
 split
 ·have e:(m.map fun p=>if p.1=k then(p.1,v)else p).map (·.1)=m.map (·.1):=by
   rw[BB]
   refine DG fun p _=>?_
   simp only[Function.comp]
   split<;>rfl
  rw[e];exact h
 ·rename_i hn
  rw[BW,List.nodup_append]
  refine⟨h,by simp,fun a ha b hb z=>hn ?_⟩
  simp only[AS,CU,DO]at hb
  obtain⟨p,hp,rfl⟩:=AY.mp ha
  rw[DN]
  exact⟨p,hp,by simp[z,hb]⟩
theorem Em:∀{m:List (Int×Int)},(m.map (·.1)).Nodup→∀p∈m,dg m p.1=some p.2
 | [],_,p,hp=>by simp at hp
 | q::r,h,p,hp=>by
  simp only[AS,EY]at h
  rw[dg]
  rcases AM.mp hp with rfl | hp
  ·simp
  ·have:¬q.1=p.1:=fun z=>h.1 (by rw[z];exact AY.mpr ⟨p,hp,rfl⟩)
   rw[if_neg this]
   exact Em h.2 p hp
theorem zg:∀{m:List (Int×Int)} {k v:Int},dg m k=some v→(k,v)∈m
 | [],_,_,h=>by simp[dg]at h
 | q::r,k,v,h=>by
  rw[dg]at h
  by_cases e:q.1=k
  ·rw[if_pos e]at h
   cases h
   subst e
   exact AQ
  ·rw[if_neg e]at h
   exact AJ _ (zg h)
theorem p8 {L lo hi x:Int}:∀{ss:List Span},(∀s∈ss,Good L lo hi s)→(x<0∨L≤x)→cov ss x=0:=fun {ss} h hx=>by
 unfold cov
 rw[List.countP_eq_zero]
 intro s hs
 obtain⟨_,b,c,d⟩:=h s hs
 simp only[decide_eq_true_eq]
 lia
theorem Wc {L lo hi c:Int} {ss:List Span} (h:∀s∈ss,Good L lo hi s) (hL:0<L) (hc:∀t,0≤t→t<L→(cov ss t:Int)=c) (x:Int):dlt ss x=if x=0 then c else if x=L then -c else 0:=by
 rw[El ss x h]
 by_cases h0:x=0
 ·subst h0
  rw[if_pos rfl,hc 0 (by lia) hL,p8 h (.inl (by lia))];simp
 ·rw[if_neg h0]
  by_cases h1:x=L
  ·subst h1
   rw[if_pos rfl,p8 h (.inr (FZ _)),hc (x-1) (by lia) (by lia)];simp
  ·rw[if_neg h1]
   by_cases h2:x<0
   ·rw[p8 h (.inl h2),p8 h (.inl (by lia))];simp
   ·by_cases h3:L<x
    ·rw[p8 h (.inr (by lia)),p8 h (.inr (by lia))];simp
    ·rw[hc x (by lia) (by lia),hc (x-1) (by lia) (by lia)];simp
section
variable {n : Nat} {μ ρ : Sto} {φ : Phi} {σ : Sl}
theorem En {L lo hi w:Int} {ss:List Span} (h:∀s∈ss,Good L lo hi s) (hL:0<L) (hn:ss.length≤1000) :
  ∃(m:List (Int×Int)) (ρ:Sto),(m.map (·.1)).Nodup∧(dg m 0).isSome=true∧(∀x,(dg m x).getD 0=(if x=L then w else if x=0 then -w else 0)+dlt ss x) ∧
   aj GL (n+1) cm [.int L,.int w,.tup (ss.map eSpan)] μ=.ok (.bl ((m.map fun p=>!decide (p.2=0)).any id)) (μ++ρ):=by
 rw[ak sr,run_eq rfl]
 have d0:Nx false [.int 0,.int (-w),.int L,.int w] μ=.ok (.loc μ.length) (μ++[.d (encM (Bp [(0,-w)] L w))]):=by
  have:=Ei [(0,-w)] L w
  simp only[Nx,tu,and_self,if_true]
  rw[←this];rfl
 obtain⟨σ',μ',el,m,⟨v4,v5,v6,rfl⟩,rfl,hm,hk,hs0,hv⟩:=ja (φ:=aj GL n) (μ:=μ++[.d (encM (Bp [(0,-w)] L w))]) (tg:=.many [4,5,6]) (b:=gg) (xs:=ss) (en:=eSpan)
  (σ:=[some (.int L),some (.int w),some (.tup (ss.map eSpan)),some (.loc μ.length),none,none,none])
  (fun j σ μ'=>∃m,(∃v4 v5 v6,σ=[some (.int L),some (.int w),some (.tup (ss.map eSpan)),some (.loc μ.length),v4,v5,v6])∧μ'=μ++[.d (encM m)]∧m.length≤2+2*j∧(m.map (·.1)).Nodup∧(dg m 0).isSome=true ∧
   ∀x,(dg m x).getD 0=(if x=L then w else if x=0 then -w else 0)+dlt (ss.take j) x)
  ⟨Bp [(0,-w)] L w,⟨none,none,none,rfl⟩,rfl,by have:=t9 [(0,-w)] L w;simpa using this,zf _ _ _ (by simp),by
   rw[nr,if_neg (by lia)];simp[dg],fun x=>by
   rw[nr]
   by_cases hx:x=L
   ·simp[hx,dlt]
   ·by_cases h0:x=0
    ·subst h0;simp[hx,dg,dlt]
    ·have:¬(0:Int)=x:=fun z=>h0 z.symm
     simp[hx,h0,dg,dlt,this]⟩ (by
   rintro j s σ μ' hs ⟨m,⟨v4,v5,v6,rfl⟩,rfl,hm,hk,hs0,hv⟩
   have hj:j<ss.length:=(AG.mp hs).1
   have g:=(h s (BR hs)).run
   generalize e1:Bp m s.start ((dg m s.start).getD 0+1)=m1
   have l1:m1.length≤m.length+1:=by rw[←e1];exact t9 _ _ _
   generalize e2:Bp m1 s.fin ((dg m1 s.fin).getD 0-1)=m2
   have l2:m2.length≤m1.length+1:=by rw[←e2];exact t9 _ _ _
   refine⟨[some (.int L),some (.int w),some (.tup (ss.map eSpan)),some (.loc μ.length),some (.int s.lamp),some (.int s.start),some (.int s.fin)],μ++[.d (encM m2)],?_,m2,⟨_,_,_,rfl⟩,rfl,by lia,?_,?_,fun x=>?_⟩
   ·simp! only[fLp,gg,eSpan,J9,ze,set_dict (show m.length<1000000 by lia),e1,set_dict (show m1.length<1000000 by lia),e2]
   ·rw[←e2];refine zf _ _ _ ?_
    rw[←e1];exact zf _ _ _ hk
   ·rw[←e2,nr]
    split
    ·rfl
    ·rw[←e1,nr]
     split
     ·rfl
     ·exact hs0
   ·have et:dlt (ss.take (j+1)) x=dlt (ss.take j) x+((if s.start=x then 1 else 0)-(if s.fin=x then 1 else 0)):=by
     rw[DF,hs]
     simp[dlt,EB]
    have q:∀y,(dg m1 y).getD 0=(dg m y).getD 0+if s.start=y then 1 else 0:=fun y=>by
     rw[←e1,nr]
     by_cases hy:y=s.start
     ·subst hy;simp
     ·have:¬s.start=y:=fun z=>hy z.symm
      simp[hy,this]
    have q2:(dg m2 x).getD 0=(dg m1 x).getD 0-if s.fin=x then 1 else 0:=by
     rw[←e2,nr]
     by_cases hy:x=s.fin
     ·subst hy;simp
     ·have:¬s.fin=x:=fun z=>hy z.symm
      simp[hy,this]
    rw[q2,q,hv x,et]
    lia)
 rw[BX (AI _)]at hv
 have kv:kVals (.loc μ.length) (μ++[.d (encM m)])=.ok (m.map (fun p=>D.int p.2),none) (μ++[.dead]):=by
  simp only[kVals,g6,t6,encM,BB];rfl
 have hcmp:iq (aj GL n) .z (.one 0) .nil gh [none] (m.map (fun p=>D.int p.2),none) (μ++[.dead])=.ok (.lst ((m.map fun p=>!decide (p.2=0)).map D.bl)) (μ++[.dead]):=by
  rw[comp_map (en:=fun p:Int×Int=>D.int p.2) (g:=fun p=>D.bl (!decide (p.2=0))) fun p _=>by simp! only[iy,gh]]
  rw[k7,BB];rfl
 refine⟨m,[.dead],hk,hs0,hv,?_⟩
 simp! only[D_has_dark_fault,d0,el,kv,hcmp,bt_any ax (gk _)]
theorem R6 {L lo hi c w:Int} {ss:List Span} (h:∀s∈ss,Good L lo hi s) (hL:0<L) (hc:∀t,0≤t→t<L→(cov ss t:Int)=c) (hn:ss.length≤1000) :
  ∃ρ,aj GL (n+1) cm [.int L,.int w,.tup (ss.map eSpan)] μ=.ok (.bl (!decide (w=c))) (μ++ρ):=by
 obtain⟨m,ρ,hk,hs0,hv,ed⟩:=En (n:=n) (μ:=μ) (w:=w) h hL hn
 have hd:=Wc h hL hc
 have hany:(m.map fun p=>!decide (p.2=0)).any id=!decide (w=c):=by
  by_cases e:w=c
  ·have:∀p∈m,p.2=0:=fun p hp=>by
    have a:=Em hk p hp
    have b:=hv p.1
    rw[a,hd]at b
    simp only[EL]at b
    rw[b]
    split<;>split<;>(try split)<;>lia
   simp only[e,decide_true,GW]
   rw[GJ]
   intro x hx
   obtain⟨p,hp,rfl⟩:=AY.mp hx
   simp[this p hp]
  ·simp only[e,decide_false,HR]
   rw[DN]
   obtain⟨v,hv0⟩:=EF.mp hs0
   have b:=hv 0
   rw[hv0,hd]at b
   simp only[EL,if_true]at b
   rw[if_neg (by lia)]at b
   refine⟨true,AY.mpr ⟨(0,v),zg hv0,?_⟩,rfl⟩
   have:¬v=0:=by lia
   simp[this]
 exact⟨ρ,by rw[ed,hany]⟩
end
end Lr
namespace Lr
open Lp
open PySem
noncomputable def g8 (c:Int):Int:=if g7 c % 3<2 then 0 else g7 c / 3 % 7
theorem qm (c:Int):0≤g8 c∧g8 c≤6:=by
 unfold g8
 split<;>lia
noncomputable def eP (p:Int×Int):D:=.tup [.int p.1,.int p.2]
theorem R7 (ts:List (Int×Int)):(D.lst (ts.map eP)).pure=true:=by
 rw[D.pure,nq,AO];intro x hx;obtain⟨i,_,rfl⟩:=AY.mp hx;rfl
theorem xj {N k a:Nat} (h:(List.range N)[k]? = some a):a=k∧k<N:=by
 obtain⟨h1,h2⟩:=AG.mp h
 simp at h1 h2
 lia
section
variable {n : Nat} {μ ρ : Sto} {φ : Phi}
theorem vg {f:Nat} {ds:List D} {d:D} {μ':Sto} (h:φ f ds μ=.ok d (μ'++ρ)) (hl:μ'.length=μ.length) (hd:d.pure=true) (hr:l6 μ'):rq φ false f ds μ=.ok d μ':=by
 rw[rq,h]
 have e:(μ'++ρ).take μ.length=μ':=by rw[←hl];simp
 have hr':μ'.all (jz μ.length)=true:=by rw[←hl];exact hr
 simp only[sg,AT,if_false,e,md _ 8 d hd,hr',and_self,if_true]
theorem C4 {cs cs':List Int} (h:l6 (Lf cs::ρ)):l6 (Lf cs'::ρ):=h
theorem Mv (hr:l6 (Lf []::ρ)) (cs:List Int):aj GL (n+2) c6 [.loc 0] (Lf cs::ρ)=.ok (.int (g8 (cs.headD 0))) (Lf cs.tail::ρ):=by
 rw[ak Cu,run_eq rfl]
 have k1:=oh (n:=n) (ρ:=ρ) (fun cs=>C4 hr) cs
 have k2:=oi (n:=n) (C4 (cs':=cs.tail) hr) (cs.headD 0)
 unfold g8
 by_cases h:g7 (cs.headD 0) % 3<2
 ·simp! only[D_law_slack,k1,k2,op_mod (show(0:Int)<3 by decide),h,if_true]
 ·simp! only[D_law_slack,k1,k2,op_mod (show(0:Int)<3 by decide),h,me (show(0:Int)<3 by decide) (by decide),op_mod (show(0:Int)<7 by decide),if_false]
theorem nu (hr:l6 (Lf []::ρ)) (cs:List Int):rq (aj GL (n+2)) false c6 [.loc 0] (Lf cs::ρ)=.ok (.int (g8 (cs.headD 0))) (Lf cs.tail::ρ):=a8 (Mv hr cs) rfl rfl (C4 hr)
theorem Wd {a b i:Int} (h0:0≤i) (h1:i<2):∃v,(v=a∨v=b)∧∀μ,ixD (.lst [.int a,.int b]) (.int i) μ=.ok (.int v) μ:=by
 have:i=0∨i=1:=by lia
 rcases this with rfl | rfl
 ·exact⟨a,.inl rfl,fun _=>rfl⟩
 ·exact⟨b,.inr rfl,fun _=>rfl⟩
theorem Eo (t lo hi:Int) (h:lo≤hi):∃v,lo≤v∧v≤hi∧∀μ,aj GL (n+1) j4 [.int t,.int lo,.int hi] μ=.ok (.int v) μ:=by
 have hm:CMul (t / 4) 1000003:=.right (by decide) (by decide)
 by_cases h1:t % 4<2
 ·have z0:0≤t / 4*1000003 % (hi-lo+1):=CH _ (by lia)
  have z1:t / 4*1000003 % (hi-lo+1)<hi-lo+1:=BZ _ (by lia)
  refine⟨lo+t / 4*1000003 % (hi-lo+1),by lia,by lia,fun μ=>?_⟩
  rw[ak u5,run_eq rfl]
  simp! only[D_law_share,op_mod (show(0:Int)<4 by decide),h1,me (show(0:Int)<4 by decide) (by decide),op_mul hm,op_mod (show(0:Int)<hi-lo+1 by lia)]
 ·obtain⟨v,hv,ev⟩:=Wd (a:=lo) (b:=hi) (i:=t % 2) (by lia) (by lia)
  refine⟨v,by rcases hv with rfl | rfl<;>lia,by rcases hv with rfl | rfl<;>lia,fun μ=>?_⟩
  rw[ak u5,run_eq rfl]
  simp! only[D_law_share,op_mod (show(0:Int)<4 by decide),h1,op_mod (show(0:Int)<2 by decide),ev]
noncomputable def zh (s:Span):List Int:=[s.lamp,s.start,s.fin]
noncomputable def unS (r:List Int):Span:=⟨r.getD 0 0,r.getD 1 0,r.getD 2 0⟩
theorem xk:∀ss:List Span,rowsOf (ss.map eSpan)=some (ss.map zh)
 | []=>rfl
 | s::r=>by simp[eSpan,rowsOf,fu,xk r,zh]
end
end Lr
namespace Lr
open Lp
open PySem
noncomputable def eIl (xs:List Int):D:=.lst (xs.map D.int)
noncomputable def fg (L N:Nat) (aw:List (List Int)):D:=.tup [.int L,.int N,.lst (aw.map eIl)]
theorem Ep {k:Nat} (xs:List Int):D.pureN (k+1) (eIl xs)=true:=by
 rw[eIl,nq,AO];intro x hx;obtain⟨i,_,rfl⟩:=AY.mp hx;exact fb
theorem Gg (L N:Nat) (aw:List (List Int)):(fg L N aw).pure=true:=by
 rw[D.pure,fg,dr]
 simp only[BD,fb,FN,nq,DV,FD]
 rw[AO];intro x hx;obtain⟨i,_,rfl⟩:=AY.mp hx;exact Ep i
structure Ngt where
 length:Int
 wanted:Int
 ticks:List (Int×Int)
 spans:List Span
noncomputable def o3 (g:Ngt):D:=.tup [.int g.length,.int g.wanted,.lst (g.ticks.map eP),.tup (g.spans.map eSpan)]
theorem Er {k:Nat} (g:Ngt):D.pureN (k+3) (o3 g)=true:=by
 rw[o3,dr]
 simp only[BD,fb,FN,nq,dr,DV,FD,BC]
 constructor
 ·rw[AO];intro x hx;obtain⟨i,_,rfl⟩:=AY.mp hx
  rw[eP,dr];simp[fb]
 ·rw[AO];intro x hx;obtain⟨i,_,rfl⟩:=AY.mp hx
  exact vf i
section
variable {n : Nat} {μ ρ : Sto} {φ : Phi}
theorem zi {cs:List Int} {xs:List D}:l6 [Lf cs,.l xs]:=rfl
theorem Kc {cs:List Int}:l6 [Lf cs]:=rfl
theorem Mw (cs:List Int):∃(L N:Nat) (aw:List (List Int)) (cs':List Int),(1≤L∧L≤8)∧(1≤N∧N≤16)∧aw.length=L∧aj GL (n+3) jg [.loc 0] [Lf cs]=.ok (fg L N aw) [Lf cs',.dead]:=by
 have k1:=oh (n:=n+1) (ρ:=[]) (fun cs=>Kc) cs
 have k2:=oi (n:=n+1) (Kc (cs:=cs.tail)) (cs.headD 0)
 obtain⟨hd,hhd⟩:∃hd,hd=g7 (cs.headD 0):=⟨_,rfl⟩
 have h0:0≤hd:=by rw[hhd];exact tw _
 rw[←hhd]at k2
 have loop:∀(L N:Nat),L≤8→N≤16→∃(aw:List (List Int)) (cs':List Int) (v5 v6:Option D),aw.length=L∧qj (aj GL (n+2)) (.one 5) gb [some (.loc 0),some (.int hd),some (.int L),some (.int N),some (.loc 1),none,none] ((List.range L).map (fun(j:Nat)=>D.int j),none) [Lf cs.tail,.l []] =
   .ok (.nx [some (.loc 0),some (.int hd),some (.int L),some (.int N),some (.loc 1),v5,v6]) [Lf cs',.l (aw.map eIl)]:=by
  intro L N hL hN
  obtain⟨σ',μ',e,aw,cs',v5,v6,hl,rfl,rfl⟩:=ja (φ:=aj GL (n+2)) (μ:=[Lf cs.tail,.l []]) (tg:=.one 5) (b:=gb) (xs:=List.range L) (en:=fun(j:Nat)=>D.int j)
   (σ:=[some (.loc 0),some (.int hd),some (.int L),some (.int N),some (.loc 1),none,none])
   (fun j σ μ'=>∃(aw:List (List Int)) (cs':List Int) (v5 v6:Option D),aw.length=j∧σ=[some (.loc 0),some (.int hd),some (.int L),some (.int N),some (.loc 1),v5,v6]∧μ'=[Lf cs',.l (aw.map eIl)])
   ⟨[],cs.tail,none,none,rfl,rfl,rfl⟩ (by
    rintro j a σ μ' ha ⟨aw,cs',v5,v6,hl,rfl,rfl⟩
    obtain⟨rfl,hk⟩:=xj ha
    have k1:=oh (n:=n+1) (ρ:=[.l (aw.map eIl)]) (fun cs=>zi) cs'
    have k2:=oi (n:=n+1) (zi (cs:=cs'.tail) (xs:=aw.map eIl)) (cs'.headD 0)
    have tn:=tw (cs'.headD 0)
    have c1:=fm (m:=.z) (μ:=[Lf cs'.tail,.l (aw.map eIl)]) (φ:=aj GL (n+2)) (tg:=.one 1) (cs:=eh) (elt:=eu) (σ0:=[some (.int (g7 (cs'.headD 0))),none]) (xs:=List.range N) (en:=fun(k:Nat)=>D.int k) (g:=fun k=>D.int k)
     (p:=fun k=>decide (g7 (cs'.headD 0) % 3=1)&&decide (g7 (cs'.headD 0) / 2 ^ (k+2) % 2=1)) (by
      intro k hk
      have e1:opI .RShift (g7 (cs'.headD 0)) ((k:Int)+2) [Lf cs'.tail,.l (aw.map eIl)]=.ok (.int (g7 (cs'.headD 0) / 2 ^ (k+2))) [Lf cs'.tail,.l (aw.map eIl)]:=by
       rw[op_shr (by lia)]
       rfl
      cases q1:decide (g7 (cs'.headD 0) % 3=1)with
      | false=>simp! only[iy,eh,eu,op_mod (show(0:Int)<3 by decide),q1,Bool.false_and,AT,if_false]
      | true =>
       cases q2:decide (g7 (cs'.headD 0) / 2 ^ (k+2) % 2=1)with
       | false=>simp! only[iy,eh,eu,op_mod (show(0:Int)<3 by decide),q1,e1,op_mod (show(0:Int)<2 by decide),q2,Bool.and_false,AT,if_false]
       | true=>simp! only[iy,eh,eu,op_mod (show(0:Int)<3 by decide),q1,e1,op_mod (show(0:Int)<2 by decide),q2,GS,if_true])
    obtain⟨as,eas⟩:∃as:List Int,((List.range N).filter fun k=>decide (g7 (cs'.headD 0) % 3=1)&&decide (g7 (cs'.headD 0) / 2 ^ (k+2) % 2=1)).map (fun(k:Nat)=>D.int k)=as.map D.int:=⟨((List.range N).filter fun k=>decide (g7 (cs'.headD 0) % 3=1)&&decide (g7 (cs'.headD 0) / 2 ^ (k+2) % 2=1)).map fun(k:Nat)=>(k:Int),by rw[BB];rfl⟩
    rw[eas]at c1
    have km:∀es σ,kM (aj GL (n+2)) .append es σ (.loc 1) [Lf cs'.tail,.l (aw.map eIl)]=(iu (aj GL (n+2)) es σ [Lf cs'.tail,.l (aw.map eIl)]).bind (mtD .append (.loc 1)):=fun es σ=>ve (μ:=[Lf cs'.tail])
    have ap:mtD .append (.loc 1) [.lst (as.map D.int)] [Lf cs'.tail,.l (aw.map eIl)]=.ok .non [Lf cs'.tail,.l ((aw++[as]).map eIl)]:=by
     have:=Ba (μ:=[Lf cs'.tail]) (ds:=aw.map eIl) (d:=eIl as) (Ep as) (by rw[AF];lia)
     rw[BW]
     exact this
    refine⟨_,_,?_,aw++[as],cs'.tail,some (.int a),some (.int (g7 (cs'.headD 0))),by simp[hl],rfl,rfl⟩
    simp! only[fLp,gb,k1,k2,du (show N≤1000000 by lia),c1,km,ap])
  exact⟨aw,cs',v5,v6,by simpa using hl,e⟩
 have e0:mkL .l [] [Lf cs.tail]=.ok (.loc 1) [Lf cs.tail,.l []]:=J6 rfl
 have fz:∀(L N:Nat) (aw:List (List Int)) (cs':List Int) (v5 v6:Option D),evE (aj GL (n+2)) (.frz 4) [some (.loc 0),some (.int hd),some (.int L),some (.int N),some (.loc 1),v5,v6] [Lf cs',.l (aw.map eIl)]=.ok (.lst (aw.map eIl)) [Lf cs',.dead]:=fun L N aw cs' v5 v6=>by simp[evE]
 by_cases h7:hd / 12 % 7=1
 ·obtain⟨L,hL⟩:∃L:Nat,(L:Int)=1+hd / 84 % 8:=⟨(1+hd / 84 % 8).toNat,by lia⟩
  obtain⟨N,hN⟩:∃N:Nat,(N:Int)=1+hd / 672 % 16:=⟨(1+hd / 672 % 16).toNat,by lia⟩
  obtain⟨aw,cs',v5,v6,hl,e⟩:=loop L N (by lia) (by lia)
  refine⟨L,N,aw,cs',by lia,by lia,hl,?_⟩
  rw[ak qi,run_eq rfl]
  simp! only[D_law_frame_2,k1,k2,op_mod (show(0:Int)<3 by decide),me (show(0:Int)<3 by decide) (by decide),op_mod (show(0:Int)<4 by decide),me (show(0:Int)<12 by decide) (by decide),op_mod (show(0:Int)<7 by decide),h7,
   me (show(0:Int)<84 by decide) (by decide),op_mod (show(0:Int)<8 by decide),me (show(0:Int)<672 by decide) (by decide),op_mod (show(0:Int)<16 by decide),←hL,←hN,e0,du (show L≤1000000 by lia),e,fz,fg]
 ·obtain⟨L,hL⟩:∃L:Nat,(L:Int)=1+hd % 3:=⟨(1+hd % 3).toNat,by lia⟩
  obtain⟨N,hN⟩:∃N:Nat,(N:Int)=1+hd / 3 % 4:=⟨(1+hd / 3 % 4).toNat,by lia⟩
  obtain⟨aw,cs',v5,v6,hl,e⟩:=loop L N (by lia) (by lia)
  refine⟨L,N,aw,cs',by lia,by lia,hl,?_⟩
  rw[ak qi,run_eq rfl]
  simp! only[D_law_frame_2,k1,k2,op_mod (show(0:Int)<3 by decide),me (show(0:Int)<3 by decide) (by decide),op_mod (show(0:Int)<4 by decide),me (show(0:Int)<12 by decide) (by decide),op_mod (show(0:Int)<7 by decide),h7,
   ←hL,←hN,e0,du (show L≤1000000 by lia),e,fz,fg]
theorem R8 {L N:Nat} {aw:List (List Int)}:ixD (fg L N aw) (.int 0) μ=.ok (.int L) μ:=rfl
theorem Yg {L N:Nat} {aw:List (List Int)}:ixD (fg L N aw) (.int 1) μ=.ok (.int N) μ:=rfl
theorem R9 {L N:Nat} {aw:List (List Int)}:ixD (fg L N aw) (.int 2) μ=.ok (.lst (aw.map eIl)) μ:=rfl
theorem Es (d:Int) (xs:List Int):cpD .notin (.int d) (eIl xs) μ=.ok (.bl (!(xs.map D.int).any fun y=>deq y (.int d))) μ:=by
 simp only[cpD,eIl,dq,flat,vc,and_self,if_true]
end
end Lr
namespace Lr
open Lp
open PySem
structure Tn where
 taken:Int
 bought:Int
 poured:List Int
 spans:List Span
noncomputable def eTn (t:Tn):D:=.tup [.int t.taken,.int t.bought,.tup (t.poured.map D.int),.tup (t.spans.map eSpan)]
theorem Kd {k:Nat} (t:Tn):D.pureN (k+3) (eTn t)=true:=by
 rw[eTn,dr]
 simp only[BD,fb,FN,dr,DV,FD,BC]
 constructor
 ·rw[AO];intro x hx;obtain⟨i,_,rfl⟩:=AY.mp hx;exact fb
 ·rw[AO];intro x hx;obtain⟨i,_,rfl⟩:=AY.mp hx
  exact vf i
section
variable {n : Nat} {μ ρ : Sto} {φ : Phi}
theorem Be {S:Type} {f:D→Sto→Res (List D)} {enS:S→Sto}:∀{ds:List D},(∀d∈ds,∀s,∃v s',f d (enS s)=.ok [D.int v] (enS s'))→∀s,∃(vs:List Int) (s':S),vs.length=ds.length∧mapR none f ds (enS s)=.ok (vs.map D.int) (enS s')
 | [],_,s=>⟨[],s,rfl,by simp[mapR]⟩
 | d::ds,h,s=>by
  obtain⟨v,s1,e1⟩:=h d AQ s
  obtain⟨vs,s2,hl,e2⟩:=Be (ds:=ds) (fun x hx=>h x (AJ _ hx)) s1
  refine⟨v::vs,s2,by simp[hl],?_⟩
  simp only[mapR,uf,if_true,e1,Res.bo,e2]
  rfl
theorem Ke {S α:Type} {m:Mk} {tg:Tg} {cs:Exs} {elt:Ex} {σ0:Sl} {en:α→D} {enS:S→Sto} {xs:List α} (h:∀a∈xs,∀s,∃v s',iy φ tg cs elt σ0 (en a) (enS s)=.ok [D.int v] (enS s')) (s:S) :
  ∃(vs:List Int) (s':S),vs.length=xs.length∧iq φ m tg cs elt σ0 (xs.map en,none) (enS s)=mkL m (vs.map D.int) (enS s'):=by
 obtain⟨vs,s',hl,e⟩:=Be (f:=iy φ tg cs elt σ0) (enS:=enS) (ds:=xs.map en) (fun d hd s=>by obtain⟨a,ha,rfl⟩:=AY.mp hd;exact h a ha s) s
 refine⟨vs,s',by simpa using hl,?_⟩
 rw[iq]
 show(mapR none _ (xs.map en) (enS s)).bind _=_
 rw[e];rfl
theorem vx {cs:List Int} {ds rs:List D} (h:ρ.all noR=true):l6 (Lf cs::.l ds::.l rs::ρ):=by
 unfold l6
 rw[AO]
 intro o ho
 refine w4 _ o ?_
 rcases AM.mp ho with rfl | ho
 ·rfl
 rcases AM.mp ho with rfl | ho
 ·rfl
 rcases AM.mp ho with rfl | ho
 ·rfl
 exact AO.mp h o ho
theorem Sa (h:ρ.all noR=true) (xs:List D):(ρ++[O.l xs]).all noR=true:=by rw[List.all_append,h];rfl
theorem at3 {cs:List Int} {ds rs:List D} {o:O}:(Lf cs::.l ds::.l rs::(ρ++[o]))[ρ.length+3]? = some o:=by simp
theorem Ze {cs:List Int} {ds rs:List D} {o o':O}:(Lf cs::.l ds::.l rs::(ρ++[o])).set (ρ.length+3) o'=Lf cs::.l ds::.l rs::(ρ++[o']):=by simp
theorem Zf {cs:List Int} {ds rs xs:List D}:dq (Lf cs::.l ds::.l rs::(ρ++[.l xs])) (.loc (ρ.length+3))=some xs:=by simp only[dq,at3]
theorem Pl {xs:List D} {k:Nat} (h:k<xs.length):ixN xs.length (k:Int)=some k:=by simp[ixN,h]
theorem o9 {x:D} {ns:List Int} {k:Nat} (h:dq μ x=some (ns.map D.int)) (hk:k<ns.length):ixD x (.int k) μ=.ok (.int (ns.getD k 0)) μ:=by
 refine A8 h ?_
 rw[BA,AB hk]
 simp[hk]
theorem Yh {cs:List Int} {ds rs:List D} {xs:List Int} {k:Nat} {v:Int} (hk:k<xs.length):Bz (.loc (ρ.length+3)) (.int k) (.int v) (Lf cs::.l ds::.l rs::(ρ++[.l (xs.map D.int)]))=.ok () (Lf cs::.l ds::.l rs::(ρ++[.l ((xs.set k v).map D.int)])):=by
 have e1:ixN (xs.map D.int).length (k:Int)=some k:=Pl (by rw[AF];exact hk)
 simp only[Bz,at3,jx,e1,fits,tu,if_true,putL,Res.bo,Ze,List.map_set]
theorem aah {cs:List Int} {ds:List D} {r:Sto} {d:D} (hd:d.pure=true) (hl:ds.length<1000000):mtD .append (.loc 1) [d] (Lf cs::.l ds::r)=.ok .non (Lf cs::.l (ds++[d])::r):=by
 have:=rg
 simp only[mtD,yc,ER,EO,jx,mtL,ie,fits,hd,putL,EW,EV]
 rw[if_pos ⟨trivial,by lia⟩]
theorem aai {cs:List Int} {ds rs:List D} {r:Sto} {d:D} (hd:d.pure=true) (hl:rs.length<1000000):mtD .append (.loc 2) [d] (Lf cs::.l ds::.l rs::r)=.ok .non (Lf cs::.l ds::.l (rs++[d])::r):=by
 have:=rg
 simp only[mtD,yc,ER,EO,jx,mtL,ie,fits,hd,putL,EW,EV]
 rw[if_pos ⟨trivial,by lia⟩]
theorem aaj {cs:List Int} {ds rs xs:List D} {d:D} (hd:d.pure=true) (hl:xs.length<1000000):mtD .append (.loc (ρ.length+3)) [d] (Lf cs::.l ds::.l rs::(ρ++[.l xs]))=.ok .non (Lf cs::.l ds::.l rs::(ρ++[.l (xs++[d])])):=by
 have:=rg
 simp only[mtD,yc,at3,jx,mtL,ie,fits,hd,putL,Ze]
 rw[if_pos ⟨trivial,by lia⟩]
theorem km1 {es:Exs} {σ:Sl} {cs:List Int} {ds:List D} {r:Sto}:kM φ .append es σ (.loc 1) (Lf cs::.l ds::r)=(iu φ es σ (Lf cs::.l ds::r)).bind (mtD .append (.loc 1)):=Cz rfl
theorem km2 {es:Exs} {σ:Sl} {cs:List Int} {ds rs:List D} {r:Sto}:kM φ .append es σ (.loc 2) (Lf cs::.l ds::.l rs::r)=(iu φ es σ (Lf cs::.l ds::.l rs::r)).bind (mtD .append (.loc 2)):=Cz rfl
theorem km3 {es:Exs} {σ:Sl} {cs:List Int} {ds rs xs:List D}:kM φ .append es σ (.loc (ρ.length+3)) (Lf cs::.l ds::.l rs::(ρ++[.l xs]))=(iu φ es σ (Lf cs::.l ds::.l rs::(ρ++[.l xs]))).bind (mtD .append (.loc (ρ.length+3))):=Cz (by simp only[jc,Lp.listOf,at3];rfl)
theorem mk3 {cs:List Int} {ds rs xs:List D} (h:xs.all (D.pureN 8)=true):mkL .l xs (Lf cs::.l ds::.l rs::ρ)=.ok (.loc (ρ.length+3)) (Lf cs::.l ds::.l rs::(ρ++[.l xs])):=by
 rw[J6 h];rfl
theorem C5 (xs:List Int):(xs.map D.int).all (D.pureN 8)=true:=by
 rw[AO];intro x hx;obtain⟨i,_,rfl⟩:=AY.mp hx;rfl
end
end Lr
namespace Lr
open Lp
open PySem
section
variable {n : Nat} {μ ρ : Sto} {φ : Phi}
theorem Bf {α β:Type} {f:α→D} {g:β→D}:∀(xs:List α) (ys:List β),((xs.map f).zip (ys.map g)).map (fun p=>D.tup [p.1,p.2])=(xs.zip ys).map fun p=>D.tup [f p.1,g p.2]
 | [],_=>by simp
 | _::_,[]=>by simp
 | x::xs,y::ys=>by simp[Bf xs ys]
theorem zj {α β:Type} {f:α→D} {g:β→D} {xs:List α} {ys:List β}:su (.tup (xs.map f)) (.tup (ys.map g)) μ=.ok ((xs.zip ys).map (fun p=>D.tup [f p.1,g p.2]),none) μ:=by
 simp only[su,dk,dq,Bf]
theorem xm (ss:List Span) (s:Span) (k:Int):ay (ss++[s]) k=ay ss k+if s.lamp=k then s.fin-s.start else 0:=by simp[ay,EB]
end
end Lr
namespace Lr
open Lp
open PySem
noncomputable def oj (k st x L:Int):List Span:=(if 0<x then [⟨k,st,min (st+x) L⟩]else [])++(if L<st+x then [⟨k,0,st+x-L⟩]else [])
noncomputable def jb (L:Int):List (Int×Int)→Int→List Span
 | [],_=>[]
 | p::r,st=>oj p.1 st p.2 L++jb L r ((st+p.2) % L)
noncomputable def stR (L:Int):List (Int×Int)→Int→Int
 | [],st=>st
 | p::r,st=>stR L r ((st+p.2) % L)
theorem xn (L:Int):∀(ts:List (Int×Int)) (p:Int×Int) (st:Int),jb L (ts++[p]) st=jb L ts st++oj p.1 (stR L ts st) p.2 L
 | [],p,st=>by simp[jb,stR]
 | q::r,p,st=>by rw[DX,jb,xn L r,jb,stR,FH]
theorem Et (L:Int):∀(ts:List (Int×Int)) (p:Int×Int) (st:Int),stR L (ts++[p]) st=(stR L ts st+p.2) % L
 | [],p,st=>rfl
 | q::r,p,st=>by rw[DX,stR,Et L r,stR]
theorem C6 (k st x L:Int):(oj k st x L).length≤2:=by unfold oj;split<;>split<;>simp
theorem qo (L:Int):∀(ts:List (Int×Int)) (st:Int),(jb L ts st).length≤2*ts.length
 | [],_=>by simp[jb]
 | p::r,st=>by
  have:=qo L r ((st+p.2) % L)
  have:=C6 p.1 st p.2 L
  simp only[jb,CP,BN];lia
theorem qq {k st x L:Int} (h0:0≤st) (h1:st<L) (hx:0≤x) (hx2:x≤L):(oj k st x L).Perm (d5 k st x L):=by
 unfold oj d5
 by_cases e:x=0
 ·subst e
  rw[if_neg (by lia),if_neg (by lia),if_pos rfl]
  exact .refl _
 ·rw[if_pos (by lia),if_neg e]
  by_cases h:st+x≤L
  ·rw[if_neg (by lia),if_pos h,Int.min_eq_left h]
   exact .refl _
  ·rw[if_pos (by lia),if_neg h,Int.min_eq_right (by lia)]
   exact .swap _ _ _
theorem Eu {a b:List Span} (h:a.Perm b) (t:Int):cov a t=cov b t:=h.countP_eq _
theorem aak {a b:List Int} (h:a.Perm b):a.sum=b.sum:=by
 induction h with
 | nil=>rfl
 | cons x _ ih=>simp only[Db,ih]
 | swap x y l=>simp only[Db];lia
 | trans _ _ i1 i2=>rw[i1,i2]
theorem xp {a b:List Span} (h:a.Perm b) (k:Int):ay a k=ay b k:=by
 unfold ay
 exact aak (h.map _)
theorem Mx {k k' st x L t:Int}:cov (d5 k st x L) t=cov (d5 k' st x L) t:=by
 unfold d5
 split
 ·rfl
 ·split<;>simp[cov,DY]
theorem Kf {L t:Int}:∀(ts:List (Int×Int)) (k st:Int),0≤st→st<L→(∀p∈ts,0≤p.2∧p.2≤L)→cov (jb L ts st) t=cov (se L (ts.map (·.2)) k st) t
 | [],_,_,_,_,_=>rfl
 | p::r,k,st,h0,h1,h=>by
  have hp:=h p AQ
  rw[jb,AS,se,zd,zd,Eu (qq h0 h1 hp.1 hp.2),Mx (k':=k),Kf r (k+1) ((st+p.2) % L) (CH _ (by lia)) (BZ _ (by lia)) fun q hq=>h q (AJ _ hq)]
noncomputable def zk (ts:List (Int×Int)) (k:Int):Int:=(ts.map fun p=>if p.1=k then p.2 else 0).sum
theorem Bg {L:Int}:∀(ts:List (Int×Int)) (st k:Int),0≤st→st<L→(∀p∈ts,0≤p.2∧p.2≤L)→ay (jb L ts st) k=zk ts k
 | [],_,_,_,_,_=>rfl
 | p::r,st,k,h0,h1,h=>by
  have hp:=h p AQ
  rw[jb,Ka,xp (qq h0 h1 hp.1 hp.2),Gf k hp.1,Bg r ((st+p.2) % L) k (CH _ (by lia)) (BZ _ (by lia)) fun q hq=>h q (AJ _ hq)]
  simp[zk]
noncomputable def NbS (a b:Span):Prop:=Nb a b∨Nb b a
theorem NbS.symm {a b:Span} (h:NbS a b):NbS b a:=Or.symm h
theorem zl {L:Int} {lo hi:Int}:∀(ts:List (Int×Int)) (st:Int),0≤st→st<L→(∀p∈ts,0≤p.2∧p.2≤L)→(∀p∈ts,lo≤p.1∧p.1<hi)→∀s∈jb L ts st,Good L lo hi s∧∃p∈ts,s.lamp=p.1
 | [],_,_,_,_,_,s,hs=>by simp[jb]at hs
 | p::r,st,h0,h1,h,hl,s,hs=>by
  have hp:=h p AQ
  have hq:=hl p AQ
  rcases DH.mp hs with q | q
  ·have g:=(C2 (k:=p.1) h0 h1 hp.1 hp.2).2 s ((qq h0 h1 hp.1 hp.2).mem_iff.mp q)
   have e:s.lamp=p.1:=by have:=g.lamp;lia
   exact⟨⟨by lia,g.start,g.run,g.fin⟩,p,AQ,e⟩
  ·obtain⟨g,p',hp',e⟩:=zl r ((st+p.2) % L) (CH _ (by lia)) (BZ _ (by lia)) (fun q hq=>h q (AJ _ hq)) (fun q hq=>hl q (AJ _ hq)) s q
   exact⟨g,p',AJ _ hp',e⟩
theorem Pm {L:Int}:∀(ts:List (Int×Int)) (st:Int),0≤st→st<L→(∀p∈ts,0≤p.2∧p.2≤L)→(ts.map (·.1)).Nodup→(jb L ts st).Pairwise NbS
 | [],_,_,_,_,_=>.nil
 | p::r,st,h0,h1,h,hn=>by
  have hp:=h p AQ
  rw[AS,EY]at hn
  have hr:∀q∈r,0≤q.2∧q.2≤L:=fun q hq=>h q (AJ _ hq)
  have s0:0≤(st+p.2) % L:=CH _ (by lia)
  have s1:(st+p.2) % L<L:=BZ _ (by lia)
  rw[jb,List.pairwise_append]
  refine⟨?_,Pm r _ s0 s1 hr hn.2,fun a ha b hb=>?_⟩
  ·exact((C2 (k:=p.1) h0 h1 hp.1 hp.2).1.imp fun h=>Or.inl h).perm (qq h0 h1 hp.1 hp.2).symm fun h=>NbS.symm h
  ·have g:=(C2 (k:=p.1) h0 h1 hp.1 hp.2).2 a ((qq h0 h1 hp.1 hp.2).mem_iff.mp ha)
   have e:a.lamp=p.1:=by have:=g.lamp;lia
   obtain⟨q,hq,eq⟩:=(zl (lo := -1-(r.map fun p=>(p.1.natAbs:Int)).sum) (hi:=1+(r.map fun p=>(p.1.natAbs:Int)).sum) r _ s0 s1 hr (by
    intro p hp
    have:(p.1.natAbs:Int)≤(r.map fun p=>(p.1.natAbs:Int)).sum:=by
     have gen:∀(l:List (Int×Int)),p∈l→(p.1.natAbs:Int)≤(l.map fun p=>(p.1.natAbs:Int)).sum∧0≤(l.map fun p=>(p.1.natAbs:Int)).sum:=by
      intro l
      induction l with
      | nil=>intro h;simp at h
      | cons q l ih =>
       intro h
       have pos:∀l:List (Int×Int),0≤(l.map fun p=>(p.1.natAbs:Int)).sum:=by
        intro l
        induction l with
        | nil=>simp
        | cons q l ih=>simp only[AS,Db];lia
       have:=pos l
       simp only[AS,Db]
       rcases AM.mp h with rfl | h
       ·lia
       ·have:=ih h;lia
     exact(gen r hp).1
    lia) b hb).2
   have ne:a.lamp≠b.lamp:=by
    rw[e,eq]
    intro z
    exact hn.1 (AY.mpr ⟨q,hq,z.symm⟩)
   unfold NbS Nb
   lia
theorem Sb {ss:List Span} (h1:ss.Pairwise NbS) (h2:ss.Pairwise fun a b=>Lp.lexLt (zh b) (zh a)=false):ss.Pairwise Nb:=by
 refine(h1.and h2).imp ?_
 rintro a b ⟨h,g⟩
 rcases h with h | h
 ·exact h
 ·have q:Lp.lexLt (zh b) (zh a)=true:=Wb h
  rw[q]at g;cases g
end Lr
namespace Lr
open Lp
open PySem
section
variable {n : Nat} {μ ρ : Sto} {φ : Phi}
theorem Ew {l:List Int} (h:l.Nodup) {a b:Nat} (ha:a<l.length) (hb:b<l.length) (hab:a≠b):l[a]≠l[b]:=by
 have p:=CY.mp h
 rcases Nat.lt_or_gt_of_ne hab with q | q
 ·exact p a b ha hb q
 ·exact(p b a hb ha q).symm
theorem Kg {ls:List Int} (h:ls.Nodup) (h1:1≤ls.length) (t:Int):((List.range ls.length).map fun(k:Nat)=>ls.getD (((k:Int)+t) % ls.length).toNat 0).Nodup:=by
 refine CY.mpr fun i j hi hj hij=>?_
 simp only[AF,DE]at hi hj
 simp only[IN,List.getElem_range]
 have a0:0≤((i:Int)+t) % ls.length:=CH _ (by lia)
 have a1:((i:Int)+t) % ls.length<ls.length:=BZ _ (by lia)
 have b0:0≤((j:Int)+t) % ls.length:=CH _ (by lia)
 have b1:((j:Int)+t) % ls.length<ls.length:=BZ _ (by lia)
 have ne:((i:Int)+t) % ls.length≠((j:Int)+t) % ls.length:=fun z=>by
  have:=Int.emod_emod_of_dvd
  have q:=Int.emod_eq_emod_iff_emod_sub_eq_zero.mp z.symm
  rw[show(j:Int)+t-(i+t)=(j:Int)-i by lia,GI (by lia) (by lia)]at q
  lia
 rw[AV,AV,AB (show(((i:Int)+t) % ls.length).toNat<ls.length by lia),AB (show(((j:Int)+t) % ls.length).toNat<ls.length by lia)]
 exact Ew h _ _ (by lia)
theorem Kh (hr:l6 μ) (t:Int) (ls:List Int) (hnd:ls.Nodup) (L w:Int) (h1:1≤ls.length) (h8:ls.length≤8) (hL:1≤L) (hw:0≤w∧w≤ls.length):∃ts:List (Int×Int),(∀p∈ts,p.1∈ls)∧ts.length≤8∧(ts.map (·.1)).Nodup∧Fit L (ts.map (·.2)) w∧aj GL (n+2) j5 [.int t,.lst (ls.map D.int),.int L,.int w] μ=.ok (.lst (ts.map eP)) (μ++[.dead]):=by
 rw[ak Cs,run_eq rfl]
 have hlen:∀(xs:List Int) (ν:Sto),btD .len .z [.lst (xs.map D.int)] ν=.ok (.int xs.length) ν:=fun xs ν=>by rw[bt_len ax,AF]
 obtain⟨N,hN⟩:∃N,N=ls.length:=⟨_,rfl⟩
 have c1:=comp_map (m:=.z) (μ:=μ) (φ:=aj GL (n+1)) (tg:=.one 2) (cs:=.nil) (elt:=ly) (σ0:=[some (.lst (ls.map D.int)),some (.int t),none]) (xs:=List.range ls.length) (en:=fun(k:Nat)=>D.int k) (g:=fun(k:Nat)=>D.int (ls.getD (((k:Int)+t) % ls.length).toNat 0)) (by
  intro k hk
  have z0:0≤((k:Int)+t) % ls.length:=CH _ (by lia)
  have z1:((k:Int)+t) % ls.length<ls.length:=BZ _ (by lia)
  have i0:ixD (.lst (ls.map D.int)) (.int (((k:Int)+t) % ls.length)) μ=.ok (.int (ls.getD (((k:Int)+t) % ls.length).toNat 0)) μ:=V7 ax z0 (by rw[BA,AB (by lia)];simp[show(((k:Int)+t) % ls.length).toNat<ls.length by lia])
  simp only[iy,ly,EV1,EV2,EV3,EV4,EV5,Nat.reduceSub,decide_true,decide_false,GW,HR,hlen,op_mod (show(0:Int)<(ls.length:Nat)by lia),i0])
 obtain⟨os,ho,hom,hon,eos⟩:∃os:List Int,os.length=ls.length∧(∀x∈os,x∈ls)∧os.Nodup∧(List.range ls.length).map (fun(k:Nat)=>D.int (ls.getD (((k:Int)+t) % ls.length).toNat 0))=os.map D.int:=by
  refine⟨(List.range ls.length).map fun(k:Nat)=>ls.getD (((k:Int)+t) % ls.length).toNat 0,by simp,fun x hx=>?_,Kg hnd h1 t,by rw[BB];rfl⟩
  obtain⟨k,_,rfl⟩:=AY.mp hx
  have z0:0≤((k:Int)+t) % ls.length:=CH _ (by lia)
  have z1:((k:Int)+t) % ls.length<ls.length:=BZ _ (by lia)
  rw[AV,AB (show(((k:Int)+t) % ls.length).toNat<ls.length by lia)]
  exact BL _
 rw[eos]at c1
 obtain⟨σ',μ',e,ts,left,v7,v8,v9,hl,hm,hf1,hf2,hf3,hleft,rfl,rfl⟩:=ja (φ:=aj GL (n+1)) (μ:=μ++[.l []]) (tg:=.one 7) (b:=l4) (xs:=List.range os.length) (en:=fun(j:Nat)=>D.int j)
  (σ:=[some (.int t),some (.lst (ls.map D.int)),some (.int L),some (.int w),some (.lst (os.map D.int)),some (.int (w*L)),some (.loc μ.length),none,none,none])
  (fun j σ μ'=>∃(ts:List (Int×Int)) (left:Int) (v7 v8 v9:Option D),ts.length=j∧(∀p∈ts,p.1∈ls)∧ts.map (·.1)=os.take j∧(∀p∈ts,0≤p.2∧p.2≤L)∧(ts.map (·.2)).sum+left=w*L∧(0≤left∧left≤L*((os.length:Int)-j))∧σ=[some (.int t),some (.lst (ls.map D.int)),some (.int L),some (.int w),some (.lst (os.map D.int)),some (.int left),some (.loc μ.length),v7,v8,v9]∧μ'=μ++[.l (ts.map eP)])
  ⟨[],w*L,none,none,none,rfl,by simp,by simp,by simp,by simp,⟨Int.mul_nonneg hw.1 (by lia),by
   rw[Int.mul_comm w L]
   exact Int.mul_le_mul_of_nonneg_left (by have:=hw.2;lia) (by lia)⟩,rfl,rfl⟩ (by
   rintro j a σ μ' ha ⟨ts,left,v7,v8,v9,hl,hm,hf1,hf2,hf3,⟨l0,l1⟩,rfl,rfl⟩
   obtain⟨rfl,hk⟩:=xj ha
   have H:l6 (μ++[.l (ts.map eP)]):=w8 hr _
   have eM:L*((os.length:Int)-a)=L*((os.length:Int)-a-1)+L:=by
    rw[show(os.length:Int)-a=((os.length:Int)-a-1)+1 by lia,Int.mul_add,Int.mul_one]
    congr 2
    lia
   have M0:0≤L*((os.length:Int)-a-1):=Int.mul_nonneg (by lia) (by lia)
   obtain⟨sh,s0,s1,es⟩:=Eo (n:=n) (t / 8+7919*a*a+a) (max 0 (left-L*((os.length:Int)-a-1))) (min L left) (by lia)
   have ks:=a8 (es (μ++[.l (ts.map eP)])) rfl rfl H
   have eo:os[a]? = some os[a]:=AB hk
   have mm:CMul L ((os.length:Int)-a-1):=.right (by lia) (by lia)
   have m1:CMul 7919 (a:Int):=.left (by decide) (by decide)
   have m2:CMul (7919*(a:Int)) (a:Int):=.right (by lia) (by lia)
   have ap:mtD .append (.loc μ.length) [.tup [.int os[a],.int sh]] (μ++[.l (ts.map eP)])=.ok .non (μ++[.l ((ts++[(os[a],sh)]).map eP)]):=by
    rw[Ba rfl (by rw[AF];lia),BW];rfl
   refine⟨_,_,?_,ts++[(os[a],sh)],left-sh,some (.int a),some (.int (max 0 (left-L*((os.length:Int)-a-1)))),some (.int sh),by simp[hl],?_,?_,?_,?_,?_,rfl,rfl⟩
   ·simp only[fLp,l4,EV1,EV2,EV3,EV4,EV5,Nat.reduceSub,decide_true,decide_false,GW,HR,hlen,op_mul mm,me (show(0:Int)<8 by decide) (by decide),op_mul m1,op_mul m2,ks,ve,Rw eo,ap]
   ·intro p hp
    rcases DH.mp hp with h | h
    ·exact hm p h
    ·rw[DO.mp h];exact hom _ (BL hk)
   ·rw[BW,hf1,DF,eo];rfl
   ·intro p hp
    rcases DH.mp hp with h | h
    ·exact hf2 p h
    ·rw[DO.mp h]
     show 0≤sh∧sh≤L
     lia
   ·rw[BW,EB]
    simp only[AS,CU,Db,List.sum_nil]
    lia
   ·constructor
    ·lia
    ·rw[show(os.length:Int)-((a+1:Nat):Int)=(os.length:Int)-a-1 by lia]
     lia)
 rw[DE]at hf1 hleft
 have h0:left=0:=by
  rw[Int.sub_self,Int.mul_zero]at hleft
  lia
 refine⟨ts,hm,by simp at hl;lia,by rw[hf1,BX (AI _)];exact hon,⟨fun x hx=>?_,by lia⟩,?_⟩
 ·obtain⟨p,hp,rfl⟩:=AY.mp hx
  exact hf2 p hp
 have e0:mkL .l [] μ=.ok (.loc μ.length) (μ++[.l []]):=J6 rfl
 have mw:CMul w L:=.left (by lia) (by lia)
 have fz:evE (aj GL (n+1)) (.frz 6) [some (.int t),some (.lst (ls.map D.int)),some (.int L),some (.int w),some (.lst (os.map D.int)),some (.int left),some (.loc μ.length),v7,v8,v9] (μ++[.l (ts.map eP)])=.ok (.lst (ts.map eP)) (μ++[.dead]):=by
  simp[evE]
 simp only[D_law_ticks,EV1,EV2,EV3,EV4,EV5,Nat.reduceSub,decide_true,decide_false,GW,HR,hlen,du (show ls.length≤1000000 by lia),c1,op_mul mw,e0,du (show os.length≤1000000 by lia),e,fz]
theorem zm (ss:List Span) (hl:ss.length<64):∃ss':List Span,ss'.Perm ss∧(ss'.Pairwise fun a b=>Lp.lexLt (zh b) (zh a)=false)∧∀μ,btD .sorted .z [.loc (List.length μ)] (μ++[.l (ss.map eSpan)])=.ok (.lst (ss'.map eSpan)) (μ++[.l (ss.map eSpan)]):=by
 refine⟨(vo (ss.map zh)).map unS,?_,?_,fun μ=>?_⟩
 ·have:=(Srt.jw (ss.map zh)).map unS
  rw[BB,show(unS∘zh)=id from rfl,List.map_id]at this
  exact this
 ·rw[List.pairwise_map]
  refine(Srt.yq (ss.map zh)).imp_of_mem ?_
  intro a b ha hb h
  obtain⟨s,_,rfl⟩:=AY.mp ((Srt.jw _).mem_iff.mp ha)
  obtain⟨s',_,rfl⟩:=AY.mp ((Srt.jw _).mem_iff.mp hb)
  exact h
 ·have hne:((ss.map zh).all fun r=>!r.isEmpty)=true:=by rw[FJ,AO];intro x _;rfl
  have e:((vo (ss.map zh)).map fun r=>D.tup (r.map D.int))=((vo (ss.map zh)).map unS).map eSpan:=by
   rw[BB]
   refine DG fun r hr=>?_
   obtain⟨s,_,rfl⟩:=AY.mp ((Srt.jw _).mem_iff.mp hr)
   rfl
  simp only[btD,ie,Hf,Lp.listOf,g6,AF,hl,if_true,By,xk,hne,e,k7]
theorem Ki (L:Int) (hL:1≤L) (ts:List (Int×Int)) (h8:ts.length≤8):∃(ss:List Span) (ρ:Sto),ss.Perm (jb L ts 0)∧(ss.Pairwise fun a b=>Lp.lexLt (zh b) (zh a)=false)∧aj GL (n+1) ng [.int L,.lst (ts.map eP)] μ=.ok (.tup (ss.map eSpan)) (μ++ρ):=by
 rw[ak Ct,run_eq rfl]
 obtain⟨σ',μ',e,v4,v5,v6,rfl,rfl⟩:=ja (φ:=aj GL n) (μ:=μ++[.l []]) (tg:=.many [4,5]) (b:=ff) (xs:=ts) (en:=eP)
  (σ:=[some (.int L),some (.lst (ts.map eP)),some (.loc μ.length),some (.int 0),none,none,none])
  (fun j σ μ'=>∃(v4 v5 v6:Option D),σ=[some (.int L),some (.lst (ts.map eP)),some (.loc μ.length),some (.int (stR L (ts.take j) 0)),v4,v5,v6]∧μ'=μ++[.l ((jb L (ts.take j) 0).map eSpan)])
  ⟨none,none,none,rfl,rfl⟩ (by
   rintro j ⟨k,sh⟩ σ μ' ha ⟨v4,v5,v6,rfl,rfl⟩
   have hj:j<ts.length:=(AG.mp ha).1
   have hl:=qo L (ts.take j) 0
   have hl2:(ts.take j).length≤8:=by rw[EJ];lia
   have e1:jb L (ts.take (j+1)) 0=jb L (ts.take j) 0++oj k (stR L (ts.take j) 0) sh L:=by
    rw[DF,ha]
    exact xn L _ (k,sh) 0
   have e2:stR L (ts.take (j+1)) 0=(stR L (ts.take j) 0+sh) % L:=by
    rw[DF,ha]
    exact Et L _ (k,sh) 0
   generalize stR L (ts.take j) 0=at_ at e1 e2
   generalize jb L (ts.take j) 0=ss at e1 hl
   have ap:∀(ss:List Span) (a b:Int),ss.length≤100→mtD .append (.loc μ.length) [.tup [.int k,.int a,.int b]] (μ++[.l (ss.map eSpan)])=.ok .non (μ++[.l ((ss++[(⟨k,a,b⟩:Span)]).map eSpan)]):=fun ss a b h=>by
    rw[Ba rfl (by rw[AF];lia),BW];rfl
   have bt:fw (.many [4,5]) (eP (k,sh)) [some (.int L),some (.lst (ts.map eP)),some (.loc μ.length),some (.int at_),v4,v5,v6]=some [some (.int L),some (.lst (ts.map eP)),some (.loc μ.length),some (.int at_),some (.int k),some (.int sh),v6]:=rfl
   refine⟨_,_,?_,some (.int k),some (.int sh),some (.int (at_+sh)),rfl,rfl⟩
   rw[e1,e2]
   unfold oj
   by_cases h1:0<sh
   ·by_cases h2:L<at_+sh
    ·rw[if_pos h1,if_pos h2,←FH]
     simp! only[fLp,ff,bt,h1,h2,ve,ap ss _ _ (by lia),ap (ss++[⟨k,at_,min (at_+sh) L⟩]) _ _ (by simp;lia),op_mod (show(0:Int)<L by lia)]
    ·rw[if_pos h1,if_neg h2,FR]
     simp! only[fLp,ff,bt,h1,h2,ve,ap ss _ _ (by lia),op_mod (show(0:Int)<L by lia)]
   ·by_cases h2:L<at_+sh
    ·rw[if_neg h1,if_pos h2]
     simp! only[fLp,ff,bt,h1,h2,ve,ap ss _ _ (by lia),op_mod (show(0:Int)<L by lia)]
    ·rw[if_neg h1,if_neg h2,FR,FR]
     simp! only[fLp,ff,bt,h1,h2,op_mod (show(0:Int)<L by lia)])
 rw[BX (AI _)]at e
 have hl:=qo L ts 0
 obtain⟨ss',hp,hup,es⟩:=zm (jb L ts 0) (by lia)
 refine⟨ss',[.l ((jb L ts 0).map eSpan)],hp,hup,?_⟩
 have e0:mkL .l [] μ=.ok (.loc μ.length) (μ++[.l []]):=J6 rfl
 simp! only[D_law_spans,e0,e,es μ,bt_tuple ax]
end
structure NgtS (L:Nat) (aw:List (List Int)) (i:Nat) (g:Ngt):Prop where
 len:1≤g.length
 tk:∀p∈g.ticks,0≤p.1∧p.1<L∧(i:Int)∉aw.getD p.1.toNat []
 few:g.ticks.length≤8
 nd:(g.ticks.map (·.1)).Nodup
 fit:Fit g.length (g.ticks.map (·.2)) g.wanted
 raw:g.spans.Perm (jb g.length g.ticks 0)
 up:g.spans.Pairwise fun a b=>Lp.lexLt (zh b) (zh a)=false
theorem NgtS.each {L:Nat} {aw:List (List Int)} {i:Nat} {g:Ngt} (h:NgtS L aw i g):∀p∈g.ticks,0≤p.2∧p.2≤g.length:=fun p hp=>h.fit.each p.2 (AY.mpr ⟨p,hp,rfl⟩)
theorem NgtS.good {L:Nat} {aw:List (List Int)} {i:Nat} {g:Ngt} (h:NgtS L aw i g):∀s∈g.spans,Good g.length 0 L s∧(i:Int)∉aw.getD s.lamp.toNat []:=fun s hs=>by
 have:=h.len
 obtain⟨q,p,hp,e⟩:=zl (lo:=0) (hi:=L) g.ticks 0 (by lia) (by lia) h.each (fun p hp=>⟨(h.tk p hp).1,(h.tk p hp).2.1⟩) s (h.raw.mem_iff.mp hs)
 exact⟨q,by rw[e];exact(h.tk p hp).2.2⟩
theorem NgtS.nb {L:Nat} {aw:List (List Int)} {i:Nat} {g:Ngt} (h:NgtS L aw i g):g.spans.Pairwise Nb:=by
 have:=h.len
 exact Sb ((Pm g.ticks 0 (by lia) (by lia) h.each h.nd).perm h.raw.symm fun z=>NbS.symm z) h.up
theorem NgtS.cov {L:Nat} {aw:List (List Int)} {i:Nat} {g:Ngt} (h:NgtS L aw i g) (t:Int) (t0:0≤t) (t1:t<g.length):(cov g.spans t:Int)=g.wanted:=by
 have:=h.len
 rw[Eu h.raw,Kf g.ticks 0 0 (by lia) (by lia) h.each]
 exact Ms h.fit t0 t1
theorem NgtS.ticks {L:Nat} {aw:List (List Int)} {i:Nat} {g:Ngt} (h:NgtS L aw i g) (k:Int):ay g.spans k=zk g.ticks k:=by
 have:=h.len
 rw[xp h.raw,Bg g.ticks 0 k (by lia) (by lia) h.each]
theorem NgtS.cnt {L:Nat} {aw:List (List Int)} {i:Nat} {g:Ngt} (h:NgtS L aw i g):g.spans.length≤16:=by
 rw[h.raw.length_eq]
 have:=qo g.length g.ticks 0
 have:=h.few
 lia
section
variable {n : Nat} {μ ρ : Sto} {φ : Phi}
theorem Gh (cs:List Int) (L N:Nat) (aw:List (List Int)) (hL:1≤L∧L≤8) (hN:N≤16) (haw:aw.length=L):∃(ns:List Ngt) (cs':List Int),ns.length=N∧(∀(i:Nat) g,ns[i]? = some g→NgtS L aw i g)∧aj GL (n+3) lg [.loc 0,fg L N aw] [Lf cs]=.ok (.lst (ns.map o3)) [Lf cs',.dead]:=by
 rw[ak A1,run_eq rfl]
 obtain⟨σ',μ',e,ns,cs',v3,v4,v5,v6,v7,v8,hl,hok,rfl,rfl⟩:=ja (φ:=aj GL (n+2)) (μ:=[Lf cs,.l []]) (tg:=.one 3) (b:=j6) (xs:=List.range N) (en:=fun(j:Nat)=>D.int j)
  (σ:=[some (.loc 0),some (fg L N aw),some (.loc 1),none,none,none,none,none,none])
  (fun j σ μ'=>∃(ns:List Ngt) (cs':List Int) (v3 v4 v5 v6 v7 v8:Option D),ns.length=j∧(∀(i:Nat) g,ns[i]? = some g→NgtS L aw i g)∧σ=[some (.loc 0),some (fg L N aw),some (.loc 1),v3,v4,v5,v6,v7,v8]∧μ'=[Lf cs',.l (ns.map o3)])
  ⟨[],cs,none,none,none,none,none,none,rfl,by simp,rfl,rfl⟩ (by
   rintro j a σ μ' ha ⟨ns,cs',v3,v4,v5,v6,v7,v8,hl,hok,rfl,rfl⟩
   obtain⟨rfl,hk⟩:=xj ha
   have c1:=fm (m:=.z) (μ:=[Lf cs',.l (ns.map o3)]) (φ:=aj GL (n+2)) (tg:=.one 2) (cs:=gp) (elt:=gq) (σ0:=[some (.int a),some (fg L N aw),none]) (xs:=List.range L) (en:=fun(k:Nat)=>D.int k) (g:=fun k=>D.int k)
    (p:=fun k=>!((aw.getD k []).map D.int).any fun y=>deq y (.int a)) (by
     intro k hk
     have hk:k<aw.length:=by rw[haw];simpa using hk
     have i0:ixD (.lst (aw.map eIl)) (.int k) [Lf cs',.l (ns.map o3)]=.ok (eIl (aw.getD k [])) [Lf cs',.l (ns.map o3)]:=A8 ax (by rw[BA,AB hk];simp[hk])
     cases q:(!((aw.getD k []).map D.int).any fun y=>deq y (.int a))with
     | true=>simp! only[iy,gp,gq,R9,i0,Es,q,if_true]
     | false=>simp! only[iy,gp,gq,R9,i0,Es,q,AT,if_false])
   obtain⟨fr,hfr,hfl,hfn,efr⟩:∃fr:List Int,(∀x∈fr,0≤x∧x<L∧(a:Int)∉aw.getD x.toNat [])∧fr.length≤8∧fr.Nodup∧((List.range L).filter fun k=>!((aw.getD k []).map D.int).any fun y=>deq y (.int a)).map (fun(k:Nat)=>D.int k)=fr.map D.int:=by
    refine⟨((List.range L).filter fun k=>!((aw.getD k []).map D.int).any fun y=>deq y (.int a)).map fun(k:Nat)=>(k:Int),fun x hx=>?_,?_,?_,by rw[BB];rfl⟩
    ·obtain⟨k,hk,rfl⟩:=AY.mp hx
     have q1:=(FO.mp hk).1
     have q2:=(FO.mp hk).2
     simp at q1
     refine⟨by lia,by lia,fun z=>?_⟩
     rw[CD]at z
     have:((aw.getD k []).map D.int).any (fun y=>deq y (.int (a:Int)))=true:=DN.mpr ⟨.int a,AY.mpr ⟨_,z,rfl⟩,by simp[deq]⟩
     rw[this]at q2
     cases q2
    ·rw[AF]
     have:=List.length_filter_le (fun k=>!((aw.getD k []).map D.int).any fun y=>deq y (.int (a:Int))) (List.range L)
     rw[DE]at this
     lia
    ·refine List.Pairwise.map _ (fun x y h=>?_) (List.nodup_range.filter _)
     intro z
     exact h (by lia)
   rw[efr]at c1
   have hlen:∀ν:Sto,btD .len .z [.lst (fr.map D.int)] ν=.ok (.int fr.length) ν:=fun ν=>by rw[bt_len ax,AF]
   have k1:=oh (n:=n+1) (ρ:=[.l (ns.map o3)]) (fun cs=>zi) cs'
   have k2:=C0 (n:=n) (zi (cs:=cs'.tail) (xs:=ns.map o3)) (cs'.headD 0) (10 ^ 15) (by decide)
   have k3:=oh (n:=n+1) (ρ:=[.l (ns.map o3)]) (fun cs=>zi) cs'.tail
   have k4:=oi (n:=n+1) (zi (cs:=cs'.tail.tail) (xs:=ns.map o3)) (cs'.tail.headD 0)
   have tn:=tw (cs'.tail.headD 0)
   generalize g7 (cs'.tail.headD 0)=T at k4 tn
   have w0:0≤T % ((fr.length:Int)+1):=CH _ (by lia)
   have w1:T % ((fr.length:Int)+1)<(fr.length:Int)+1:=BZ _ (by lia)
   obtain⟨W,hW⟩:∃W,W=T % ((fr.length:Int)+1):=⟨_,rfl⟩
   have mW:∀ν:Sto,opI .Mod T ((fr.length:Int)+1) ν=.ok (.int W) ν:=fun ν=>by rw[op_mod (by lia),hW]
   obtain⟨K,hK⟩:∃K,K=max 1 (u9 (cs'.headD 0) (10 ^ 15)):=⟨_,rfl⟩
   have hK1:1≤K:=by lia
   obtain⟨ts,ht1,ht2,ht3,ht4,stp⟩:∃ts:List (Int×Int),(∀p∈ts,p.1∈fr)∧ts.length≤8∧(ts.map (·.1)).Nodup∧Fit K (ts.map (·.2)) W∧evS (aj GL (n+2)) (.ite (.cmp (.blt .len .z (.cons (.var 4) .nil)) (.cons .gt (.cst (.int 0)) .nil)) (.cons (.set 8 (.call false j5 (.cons (.bin .FloorDiv .z (.var 6) (.cst (.int 16))) (.cons (.var 4) (.cons (.var 5) (.cons (.var 7) .nil)))))) .nil) .nil)
     [some (.loc 0),some (fg L N aw),some (.loc 1),some (.int a),some (.lst (fr.map D.int)),some (.int K),some (.int T),some (.int W),some (.lst [])] [Lf cs'.tail.tail,.l (ns.map o3)] =
     .ok (.nx [some (.loc 0),some (fg L N aw),some (.loc 1),some (.int a),some (.lst (fr.map D.int)),some (.int K),some (.int T),some (.int W),some (.lst (ts.map eP))]) [Lf cs'.tail.tail,.l (ns.map o3)]:=by
    by_cases h0:(0:Int)<fr.length
    ·obtain⟨ts,t1,t2,t3,t4,et⟩:=Kh (n:=n) (zi (cs:=cs'.tail.tail) (xs:=ns.map o3)) (T / 16) fr hfn K W (by lia) hfl hK1 (by lia)
     refine⟨ts,t1,t2,t3,t4,?_⟩
     have kt:=ic et (R7 ts) zi
     simp! only[hlen,h0,me (show(0:Int)<16 by decide) (by decide),kt]
    ·have w00:W=0:=by
      rw[hW,show(fr.length:Int)+1=1 by lia,Int.emod_one]
     refine⟨[],by simp,by simp,by simp,⟨by simp,by rw[w00];simp⟩,?_⟩
     simp! only[hlen,h0]
   obtain⟨ss,ρs,hs1,hs2,es⟩:=Ki (n:=n+1) (μ:=[Lf cs'.tail.tail,.l (ns.map o3)]) K hK1 ts ht2
   have pss:(D.tup (ss.map eSpan)).pure=true:=by
    rw[D.pure,dr,AO];intro x hx;obtain⟨i,_,rfl⟩:=AY.mp hx;exact vf i
   have ks:=ic es pss zi
   have km:∀es σ,kM (aj GL (n+2)) .append es σ (.loc 1) [Lf cs'.tail.tail,.l (ns.map o3)]=(iu (aj GL (n+2)) es σ [Lf cs'.tail.tail,.l (ns.map o3)]).bind (mtD .append (.loc 1)):=fun es σ=>ve (μ:=[Lf cs'.tail.tail])
   have ap:mtD .append (.loc 1) [.tup [.int K,.int W,.lst (ts.map eP),.tup (ss.map eSpan)]] [Lf cs'.tail.tail,.l (ns.map o3)]=.ok .non [Lf cs'.tail.tail,.l ((ns++[(⟨K,W,ts,ss⟩:Ngt)]).map o3)]:=by
    have:=Ba (μ:=[Lf cs'.tail.tail]) (ds:=ns.map o3) (d:=o3 ⟨K,W,ts,ss⟩) (Er _) (by rw[AF];lia)
    rw[BW]
    exact this
   have p15:opI .Pow 10 15 [Lf cs'.tail,.l (ns.map o3)]=.ok (.int (10 ^ 15)) [Lf cs'.tail,.l (ns.map o3)]:=op_pow (by decide)
   refine⟨_,_,?_,ns++[⟨K,W,ts,ss⟩],cs'.tail.tail,some (.int a),some (.lst (fr.map D.int)),some (.int K),some (.int T),some (.int W),some (.lst (ts.map eP)),by simp[hl],?_,rfl,rfl⟩
   ·simp! only[fLp,j6,R8,du (show L≤1000000 by lia),c1,k1,p15,k2,←hK,k3,k4,hlen,mW,stp,ks,km,ap]
   ·intro i g hg
    by_cases hi:i<ns.length
    ·rw[AW hi]at hg
     exact hok i g hg
    ·have hi2:i=ns.length:=by
      have:=(AG.mp hg).1
      simp at this
      lia
     subst hi2
     have eg:g=⟨K,W,ts,ss⟩:=by
      rw[BQ (AI _),IV]at hg
      simpa using hg.symm
     subst eg
     rw[hl]
     exact⟨hK1,fun p hp=>hfr _ (ht1 p hp),ht2,ht3,ht4,hs1,hs2⟩)
 refine⟨ns,cs',by simpa using hl,hok,?_⟩
 have e0:mkL .l [] [Lf cs]=.ok (.loc 1) [Lf cs,.l []]:=J6 rfl
 have fz:evE (aj GL (n+2)) (.frz 2) [some (.loc 0),some (fg L N aw),some (.loc 1),v3,v4,v5,v6,v7,v8] [Lf cs',.l (ns.map o3)]=.ok (.lst (ns.map o3)) [Lf cs',.dead]:=by simp[evE]
 simp! only[D_law_nights,e0,Yg,du (show N≤1000000 by lia),e,fz]
end
end Lr
namespace Lr
open Lp
open PySem
noncomputable def d6 (st:Int) (L:Nat) (H:Int×List Int) (t:Tn):Int×List Int:=(min (H.1+t.taken+t.bought-t.poured.sum) st,(List.range L).map fun(k:Nat)=>H.2.getD k 0+t.poured.getD k 0-ay t.spans k)
structure DayS (L:Nat) (mst:List Int) (aw:List (List Int)) (i:Nat) (H:Int×List Int) (t:Tn) (d:Day):Prop where
 tk:0≤t.taken∧t.taken≤d.boat
 bt:0≤t.bought∧t.bought≤d.most
 pl:t.poured.length=L
 p0:∀x∈t.poured,0≤x
 ps:t.poured.sum≤H.1+t.taken+t.bought
 tank:∀k:Nat,k<L→H.2.getD k 0+t.poured.getD k 0≤mst.getD k 0
 len:1≤d.length
 good:∀s∈t.spans,Good d.length 0 L s∧(i:Int)∉aw.getD s.lamp.toNat []
 nb:t.spans.Pairwise Nb
 few:t.spans.length≤16
 cov:∀x,0≤x→x<d.length→(cov t.spans x:Int)=d.wanted
 oil:∀k:Nat,k<L→ay t.spans k≤H.2.getD k 0+t.poured.getD k 0
 price:0≤d.price∧d.price≤10 ^ 15
theorem DayS.mono {L:Nat} {m m':List Int} {aw:List (List Int)} {i:Nat} {H:Int×List Int} {t:Tn} {d:Day} (h:DayS L m aw i H t d) (hm:∀k:Nat,k<L→m.getD k 0≤m'.getD k 0):DayS L m' aw i H t d :=
 ⟨h.tk,h.bt,h.pl,h.p0,h.ps,fun k hk=>Int.le_trans (h.tank k hk) (hm k hk),h.len,h.good,h.nb,h.few,h.cov,h.oil,h.price⟩
theorem vh {L:Nat} {f:Nat→Int} {k:Nat} (h:k<L):((List.range L).map f).getD k 0=f k:=by simp[h]
theorem Ey (ts:List (Int×Int)) (p:Int×Int) (k:Int):zk (ts++[p]) k=zk ts k+if p.1=k then p.2 else 0:=by simp[zk,EB]
theorem Ez:∀(ts:List (Int×Int)) (k:Int),k∉ts.map (·.1)→zk ts k=0
 | [],_,_=>rfl
 | p::r,k,h=>by
  rw[AS,AM,not_or]at h
  have:=Ez r k h.2
  simp only[zk,AS,Db]at this ⊢
  rw[this,if_neg (fun z=>h.1 z.symm)];rfl
noncomputable def AK (L:Nat) (ts:List (Int×Int)):List Int:=(List.range L).map fun(k:Nat)=>zk ts k
theorem Bh (L:Nat) (ts:List (Int×Int)):(AK L ts).length=L:=by simp[AK]
theorem Sd (L:Nat) (ts:List (Int×Int)) (sh:Int) {K:Nat} (hn:(K:Int)∉ts.map (·.1)):(AK L ts).set K sh=AK L (ts++[((K:Int),sh)]):=by
 apply BV
 intro i
 by_cases hi:i<L
 ·by_cases h:K=i
  ·subst h
   rw[DD (by rw[Bh];exact hi)]
   simp[AK,hi,Ey,Ez ts K hn]
  ·have h2:¬(K:Int)=(i:Int):=by lia
   rw[CK h]
   simp[AK,hi,Ey,h2]
 ·rw[AX (by rw[List.length_set,Bh];lia),AX (by rw[Bh];lia)]
section
variable {n : Nat} {μ ρ : Sto} {φ : Phi}
theorem xq {S α:Type} {f:D→Sto→Res (List D)} {enS:S→Sto} {en:α→D} {P:α→Int→Prop}:∀{xs:List α},(∀a∈xs,∀s,∃v s',P a v∧f (en a) (enS s)=.ok [D.int v] (enS s'))→∀s,∃(vs:List Int) (s':S),vs.length=xs.length∧(∀(i:Nat) a,xs[i]? = some a→P a (vs.getD i 0))∧mapR none f (xs.map en) (enS s)=.ok (vs.map D.int) (enS s')
 | [],_,s=>⟨[],s,rfl,by simp,by simp[mapR]⟩
 | d::ds,h,s=>by
  obtain⟨v,s1,p1,e1⟩:=h d AQ s
  obtain⟨vs,s2,hl,hp,e2⟩:=xq (xs:=ds) (fun x hx=>h x (AJ _ hx)) s1
  refine⟨v::vs,s2,by simp[hl],fun i a ha=>?_,?_⟩
  ·cases i with
   | zero=>simp at ha;subst ha;simpa using p1
   | succ i=>simpa using hp i a (by simpa using ha)
  ·simp only[AS,mapR,uf,if_true,e1,Res.bo,e2]
   rfl
theorem Gi {S:Type} {m:Mk} {tg:Tg} {cs:Exs} {elt:Ex} {σ0:Sl} {enS:S→Sto} {L:Nat} {P:Nat→Int→Prop} (h:∀k,k<L→∀s,∃v s',P k v∧iy φ tg cs elt σ0 (.int k) (enS s)=.ok [D.int v] (enS s')) (s:S) :
  ∃(vs:List Int) (s':S),vs.length=L∧(∀k,k<L→P k (vs.getD k 0))∧iq φ m tg cs elt σ0 ((List.range L).map (fun(k:Nat)=>D.int k),none) (enS s)=mkL m (vs.map D.int) (enS s'):=by
 obtain⟨vs,s',hl,hp,e⟩:=xq (f:=iy φ tg cs elt σ0) (enS:=enS) (en:=fun(k:Nat)=>D.int k) (P:=P) (xs:=List.range L) (fun a ha s=>h a (by simpa using ha) s) s
 refine⟨vs,s',by simpa using hl,fun k hk=>hp k k (by rw[List.getElem?_range hk]),?_⟩
 rw[iq]
 show(mapR none _ _ (enS s)).bind _=_
 rw[e];rfl
theorem qr {tg:Tg} {cs:Exs} {elt:Ex} {σ0:Sl} {L:Nat} {f:Nat→Int} (h:∀k,k<L→iy φ tg cs elt σ0 (.int k) μ=.ok [D.int (f k)] μ) :
  iq φ .z tg cs elt σ0 ((List.range L).map (fun(k:Nat)=>D.int k),none) μ=.ok (.lst (((List.range L).map f).map D.int)) μ:=by
 rw[comp_map (en:=fun(k:Nat)=>D.int k) (g:=fun k=>D.int (f k)) fun a ha=>h a (by simpa using ha),k7,BB];rfl
theorem Gj {L N:Nat} {aw:List (List Int)} {g:Ngt} {i0:Nat} (hg:NgtS L aw i0 g) (hL:L≤8) {ngs:D} {st oil here:Int} {fi tanks most:List Int} (h1:fi.length=L) (h2:tanks.length=L) (h3:most.length=L) {ds:List Day} {rs:List Tn} (hd:ds.length≤100) (hrl:rs.length≤100) (cs:List Int) (hρ:ρ.all noR=true) (v11 v12 v13 v14 v15 v16 v17 v18 v19 v20 v21:Option D) :
  ∃(σ':Sl) (cs':List Int) (most':List Int) (d:Day) (t:Tn) (ρ':Sto) (w:Nat→Option D),most'.length=L∧(∀k:Nat,k<L→most.getD k 0≤most'.getD k 0)∧DayS L most' aw i0 (here,tanks) t d∧ρ'.all noR=true ∧
   σ'=[some (.loc 0),some (fg L N aw),some ngs,some (.int st),some (.int oil),some (.lst (fi.map D.int)),some (.lst ((d6 st L (here,tanks) t).2.map D.int)),some (.lst (most'.map D.int)),some (.loc 1),some (.loc 2),some (.int (d6 st L (here,tanks) t).1),some (.int g.length),some (.int g.wanted),some (.lst (g.ticks.map eP)),some (.tup (g.spans.map eSpan)),w 15,w 16,w 17,w 18,w 19,w 20,w 21,none] ∧
   fLp (aj GL (n+3)) (.many [11,12,13,14]) gx (o3 g) [some (.loc 0),some (fg L N aw),some ngs,some (.int st),some (.int oil),some (.lst (fi.map D.int)),some (.lst (tanks.map D.int)),some (.lst (most.map D.int)),some (.loc 1),some (.loc 2),some (.int here),v11,v12,v13,v14,v15,v16,v17,v18,v19,v20,v21,none] (Lf cs::.l (ds.map mj)::.l (rs.map eTn)::ρ) =
    .ok (.nx σ') (Lf cs'::.l ((ds++[d]).map mj)::.l ((rs++[t]).map eTn)::ρ'):=by
 have c0:=comp_map (m:=.l) (μ:=Lf cs::.l (ds.map mj)::.l (rs.map eTn)::ρ) (φ:=aj GL (n+3)) (tg:=.one 0) (cs:=.nil) (elt:=j8) (σ0:=[none]) (xs:=List.range L) (en:=fun(k:Nat)=>D.int k) (g:=fun _=>D.int 0) (by
  intro k _
  simp! only[iy,j8])
 have ez:(List.range L).map (fun _=>D.int 0)=(AK L []).map D.int:=by rw[AK,BB];rfl
 rw[ez,mk3 (C5 _)]at c0
 obtain⟨σ1,μ1,e1,w16,w17,rfl,rfl⟩:=ja (φ:=aj GL (n+3)) (μ:=Lf cs::.l (ds.map mj)::.l (rs.map eTn)::(ρ++[.l ((AK L []).map D.int)])) (tg:=.many [16,17]) (b:=j9) (xs:=g.ticks) (en:=eP)
  (σ:=[some (.loc 0),some (fg L N aw),some ngs,some (.int st),some (.int oil),some (.lst (fi.map D.int)),some (.lst (tanks.map D.int)),some (.lst (most.map D.int)),some (.loc 1),some (.loc 2),some (.int here),some (.int g.length),some (.int g.wanted),some (.lst (g.ticks.map eP)),some (.tup (g.spans.map eSpan)),some (.loc (ρ.length+3)),v16,v17,v18,v19,v20,v21,none])
  (fun j σ μ'=>∃(w16 w17:Option D),σ=[some (.loc 0),some (fg L N aw),some ngs,some (.int st),some (.int oil),some (.lst (fi.map D.int)),some (.lst (tanks.map D.int)),some (.lst (most.map D.int)),some (.loc 1),some (.loc 2),some (.int here),some (.int g.length),some (.int g.wanted),some (.lst (g.ticks.map eP)),some (.tup (g.spans.map eSpan)),some (.loc (ρ.length+3)),w16,w17,v18,v19,v20,v21,none]∧μ'=Lf cs::.l (ds.map mj)::.l (rs.map eTn)::(ρ++[.l ((AK L (g.ticks.take j)).map D.int)]))
  ⟨v16,v17,rfl,rfl⟩ (by
   rintro j ⟨k,sh⟩ σ μ' hj ⟨w16,w17,rfl,rfl⟩
   have hk:=hg.tk _ (BR hj)
   obtain⟨K,hK⟩:∃K:Nat,(K:Int)=k:=⟨k.toNat,by have:=hk.1;simp at this;lia⟩
   have hK2:K<(AK L (g.ticks.take j)).length:=by rw[Bh];have:=hk.2.1;simp at this;lia
   have hKn:(K:Int)∉(g.ticks.take j).map (·.1):=fun z=>by
    rw[hK,List.map_take]at z
    obtain⟨q,hq,e⟩:=BY.mp z
    have hj2:j<g.ticks.length:=(AG.mp hj).1
    rw[EJ,AF]at hq
    rw[GH]at e
    have e2:(g.ticks.map (·.1))[j]'(by rw[AF];exact hj2)=k:=by
     rw[IN,(AG.mp hj).2]
    exact Ew hg.nd (show q<_ by rw[AF];lia) (show j<_ by rw[AF];exact hj2) (by lia) (by rw[e,e2])
   have e1:g.ticks.take (j+1)=g.ticks.take j++[((K:Int),sh)]:=by rw[DF,hj,hK];rfl
   have bt:∀σ:Sl,fw (.many [16,17]) (eP (k,sh)) σ=some ((σ.set 16 (some (.int K))).set 17 (some (.int sh))):=fun σ=>by rw[hK];rfl
   refine⟨_,_,?_,some (.int K),some (.int sh),rfl,rfl⟩
   rw[e1,←Sd L _ sh hKn]
   simp! only[fLp,j9,bt,Yh hK2])
 rw[BX (AI _)]at e1
 obtain⟨as,has⟩:∃as,as=AK L g.ticks:=⟨_,rfl⟩
 rw[←has]at e1
 have ha:as.length=L:=by rw[has,Bh]
 have hask:∀k:Nat,k<L→as.getD k 0=ay g.spans k:=fun k hk=>by rw[has,AK,vh hk,hg.ticks]
 have hρ2:=Sa hρ (as.map D.int)
 have ia:∀(cs:List Int) (k:Nat),k<L→ixD (.loc (ρ.length+3)) (.int k) (Lf cs::.l (ds.map mj)::.l (rs.map eTn)::(ρ++[.l (as.map D.int)]))=.ok (.int (as.getD k 0)) (Lf cs::.l (ds.map mj)::.l (rs.map eTn)::(ρ++[.l (as.map D.int)])):=fun cs k hk=>o9 Zf (by lia)
 have il:∀(xs:List Int) (ν:Sto) (k:Nat),k<xs.length→ixD (.lst (xs.map D.int)) (.int k) ν=.ok (.int (xs.getD k 0)) ν:=fun xs ν k hk=>o9 ax hk
 obtain⟨po,cs1,hpo,hpP,ep⟩:=Gi (S:=List Int) (m:=.z) (P:=fun k v=>0≤v∧as.getD k 0≤tanks.getD k 0+v) (L:=L) (φ:=aj GL (n+3)) (tg:=.one 3) (cs:=.nil) (elt:=ka) (σ0:=[some (.loc (ρ.length+3)),some (.lst (tanks.map D.int)),some (.loc 0),none])
  (enS:=fun cs=>Lf cs::.l (ds.map mj)::.l (rs.map eTn)::(ρ++[.l (as.map D.int)])) (by
   intro k hk cs
   have sb:=qm (cs.headD 0)
   have ks:=nu (n:=n+1) (ρ:=.l (ds.map mj)::.l (rs.map eTn)::(ρ++[.l (as.map D.int)])) (vx hρ2) cs
   refine⟨max 0 (as.getD k 0-tanks.getD k 0)+g8 (cs.headD 0),cs.tail,by lia,?_⟩
   simp! only[iy,ka,ia cs k hk,il tanks _ k (by lia),ks]) cs
 rw[k7]at ep
 have ks1:=nu (n:=n+1) (ρ:=.l (ds.map mj)::.l (rs.map eTn)::(ρ++[.l (as.map D.int)])) (vx hρ2) cs1
 have sb1:=qm (cs1.headD 0)
 obtain⟨lack,hlack⟩:∃lack,lack=max 0 (po.sum-here)+g8 (cs1.headD 0):=⟨_,rfl⟩
 have kn2:=oh (n:=n+2) (ρ:=.l (ds.map mj)::.l (rs.map eTn)::(ρ++[.l (as.map D.int)])) (fun cs=>vx hρ2) cs1.tail
 have kt2:=oi (n:=n+2) (vx (cs:=cs1.tail.tail) (ds:=ds.map mj) (rs:=rs.map eTn) hρ2) (cs1.tail.headD 0)
 obtain⟨tk,t0,t1,es⟩:=Eo (n:=n+2) (g7 (cs1.tail.headD 0)) 0 lack (by lia)
 have ksh:=a8 (es (Lf cs1.tail.tail::.l (ds.map mj)::.l (rs.map eTn)::(ρ++[.l (as.map D.int)]))) rfl rfl (vx hρ2)
 have e4:=qr (L:=L) (f:=fun k=>tanks.getD k 0+po.getD k 0) (μ:=Lf cs1.tail.tail::.l (ds.map mj)::.l (rs.map eTn)::(ρ++[.l (as.map D.int)])) (φ:=aj GL (n+3)) (tg:=.one 2) (cs:=.nil) (elt:=kc) (σ0:=[some (.lst (tanks.map D.int)),some (.lst (po.map D.int)),none]) (by
  intro k hk
  simp! only[iy,kc,il tanks _ k (by lia),il po _ k (by lia)])
 obtain⟨ta,dta⟩:∃ta,ta=(List.range L).map fun k=>tanks.getD k 0+po.getD k 0:=⟨_,rfl⟩
 rw[←dta]at e4
 have hta:ta.length=L:=by rw[dta];simp
 have e5:=qr (L:=L) (f:=fun k=>max (most.getD k 0) (ta.getD k 0)) (μ:=Lf cs1.tail.tail::.l (ds.map mj)::.l (rs.map eTn)::(ρ++[.l (as.map D.int)])) (φ:=aj GL (n+3)) (tg:=.one 2) (cs:=.nil) (elt:=kg) (σ0:=[some (.lst (most.map D.int)),some (.lst (ta.map D.int)),none]) (by
  intro k hk
  simp! only[iy,kg,il most _ k (by lia),il ta _ k (by lia)])
 obtain⟨mo,dmo⟩:∃mo,mo=(List.range L).map fun k=>max (most.getD k 0) (ta.getD k 0):=⟨_,rfl⟩
 rw[←dmo]at e5
 have hmo:mo.length=L:=by rw[dmo];simp
 have e6:=qr (L:=L) (f:=fun k=>ta.getD k 0-as.getD k 0) (μ:=Lf cs1.tail.tail::.l (ds.map mj)::.l (rs.map eTn)::(ρ++[.l (as.map D.int)])) (φ:=aj GL (n+3)) (tg:=.one 2) (cs:=.nil) (elt:=kh) (σ0:=[some (.lst (ta.map D.int)),some (.loc (ρ.length+3)),none]) (by
  intro k hk
  simp! only[iy,kh,il ta _ k (by lia),ia _ k hk])
 obtain⟨tb,dtb⟩:∃tb,tb=(List.range L).map fun k=>ta.getD k 0-as.getD k 0:=⟨_,rfl⟩
 rw[←dtb]at e6
 have htb:tb.length=L:=by rw[dtb];simp
 have hsum:∀ν:Sto,btD .sum .z [.lst (po.map D.int)] ν=.ok (.int po.sum) ν:=fun ν=>bt_sum ax (k6 _)
 have kn3:=oh (n:=n+2) (ρ:=.l (ds.map mj)::.l (rs.map eTn)::(ρ++[.l (as.map D.int)])) (fun cs=>vx hρ2) cs1.tail.tail
 have p15:opI .Pow 10 15 (Lf cs1.tail.tail.tail::.l (ds.map mj)::.l (rs.map eTn)::(ρ++[.l (as.map D.int)]))=.ok (.int (10 ^ 15)) (Lf cs1.tail.tail.tail::.l (ds.map mj)::.l (rs.map eTn)::(ρ++[.l (as.map D.int)])):=op_pow (by decide)
 have ksz:=C0 (n:=n+1) (vx (cs:=cs1.tail.tail.tail) (ds:=ds.map mj) (rs:=rs.map eTn) hρ2) (cs1.tail.tail.headD 0) (10 ^ 15) (by decide)
 have hpr:=Ml (c:=cs1.tail.tail.headD 0) (most:=10 ^ 15) (by decide)
 generalize u9 (cs1.tail.tail.headD 0) (10 ^ 15)=pr at ksz hpr
 have ks4:=nu (n:=n+1) (ρ:=.l (ds.map mj)::.l (rs.map eTn)::(ρ++[.l (as.map D.int)])) (vx hρ2) cs1.tail.tail.tail
 have ks5:=nu (n:=n+1) (ρ:=.l (ds.map mj)::.l (rs.map eTn)::(ρ++[.l (as.map D.int)])) (vx hρ2) cs1.tail.tail.tail.tail
 have sb4:=qm (cs1.tail.tail.tail.headD 0)
 have sb5:=qm (cs1.tail.tail.tail.tail.headD 0)
 generalize g8 (cs1.tail.tail.tail.headD 0)=s4 at ks4 sb4
 generalize g8 (cs1.tail.tail.tail.tail.headD 0)=s5 at ks5 sb5
 have a1:∀(cs:List Int),mtD .append (.loc 1) [.tup [.int (tk+s4),.int (lack-tk+s5),.int pr,.int g.length,.int g.wanted]] (Lf cs::.l (ds.map mj)::.l (rs.map eTn)::(ρ++[.l (as.map D.int)]))=.ok .non (Lf cs::.l ((ds++[(⟨tk+s4,lack-tk+s5,pr,g.length,g.wanted⟩:Day)]).map mj)::.l (rs.map eTn)::(ρ++[.l (as.map D.int)])):=fun cs=>by
  rw[aah rfl (by rw[AF];lia),BW];rfl
 have a2:∀(cs:List Int) (xs:List D),mtD .append (.loc 2) [.tup [.int tk,.int (lack-tk),.tup (po.map D.int),.tup (g.spans.map eSpan)]] (Lf cs::.l xs::.l (rs.map eTn)::(ρ++[.l (as.map D.int)]))=.ok .non (Lf cs::.l xs::.l ((rs++[(⟨tk,lack-tk,po,g.spans⟩:Tn)]).map eTn)::(ρ++[.l (as.map D.int)])):=fun cs xs=>by
  rw[BW]
  exact aai (d:=eTn ⟨tk,lack-tk,po,g.spans⟩) (Kd _) (by rw[AF];lia)
 have bt:∀σ:Sl,fw (.many [11,12,13,14]) (o3 g) σ=some ((((σ.set 11 (some (.int g.length))).set 12 (some (.int g.wanted))).set 13 (some (.lst (g.ticks.map eP)))).set 14 (some (.tup (g.spans.map eSpan)))):=fun σ=>rfl
 have t1:(d6 st L (here,tanks) ⟨tk,lack-tk,po,g.spans⟩).1=min st (here+lack-po.sum):=by
  show min (here+tk+(lack-tk)-po.sum) st=_
  rw[Int.min_comm]
  congr 1
  lia
 have t2:(d6 st L (here,tanks) ⟨tk,lack-tk,po,g.spans⟩).2=tb:=by
  rw[dtb]
  refine DG fun k hk=>?_
  have hk:k<L:=by simpa using hk
  rw[dta,vh hk,hask k hk]
 have lev:∀k:Nat,k<L→ta.getD k 0=tanks.getD k 0+po.getD k 0:=fun k hk=>by rw[dta,vh hk]
 have mol:∀k:Nat,k<L→mo.getD k 0=max (most.getD k 0) (ta.getD k 0):=fun k hk=>by rw[dmo,vh hk]
 refine⟨[some (.loc 0),some (fg L N aw),some ngs,some (.int st),some (.int oil),some (.lst (fi.map D.int)),some (.lst ((d6 st L (here,tanks) ⟨tk,lack-tk,po,g.spans⟩).2.map D.int)),some (.lst (mo.map D.int)),some (.loc 1),some (.loc 2),some (.int (d6 st L (here,tanks) ⟨tk,lack-tk,po,g.spans⟩).1),some (.int g.length),some (.int g.wanted),some (.lst (g.ticks.map eP)),some (.tup (g.spans.map eSpan)),some (.loc (ρ.length+3)),w16,w17,some (.lst (po.map D.int)),some (.int lack),some (.int tk),some (.int pr),none],cs1.tail.tail.tail.tail.tail,mo,⟨tk+s4,lack-tk+s5,pr,g.length,g.wanted⟩,⟨tk,lack-tk,po,g.spans⟩,ρ++[.l (as.map D.int)],fun i=>[some (.loc (ρ.length+3)),w16,w17,some (.lst (po.map D.int)),some (.int lack),some (.int tk),some (.int pr)].getD (i-15) none,hmo,fun k hk=>by rw[mol k hk];lia,?_,hρ2,rfl,?_⟩
 ·refine⟨⟨t0,by show tk≤tk+s4;lia⟩,⟨by show 0≤lack-tk;lia,by show lack-tk≤lack-tk+s5;lia⟩,hpo,fun x hx=>?_,by show po.sum≤here+tk+(lack-tk);lia,fun k hk=>?_,hg.len,hg.good,hg.nb,hg.cnt,hg.cov,fun k hk=>?_,hpr⟩
  ·obtain⟨q,hq,rfl⟩:=BY.mp hx
   have:=(hpP q (by rw[←hpo];exact hq)).1
   simpa[hq]using this
  ·show tanks.getD k 0+po.getD k 0≤mo.getD k 0
   rw[mol k hk,lev k hk];lia
  ·show ay g.spans k≤tanks.getD k 0+po.getD k 0
   rw[←hask k hk]
   exact(hpP k hk).2
 rw[t1,t2]
 simp! only[fLp,gx,bt,R8,du (show L≤1000000 by lia),c0,e1,ep,hsum,ks1,←hlack,kn2,kt2,ksh,e4,e5,e6,kn3,p15,ksz,ks4,ks5,km1,a1,bt_tuple ax,km2,a2]
end
end Lr
namespace Lr
open Lp
open PySem
noncomputable def held (b:Book) (rs:List Tn) (i:Nat):Int×List Int:=(rs.take i).foldl (d6 b.store b.lamps.length) (b.oil,b.lamps.map (·.oil))
noncomputable abbrev Zg (b:Book) (i:Nat) (H:Int×List Int) (t:Tn) (d:Day):Prop:=DayS b.lamps.length (b.lamps.map (·.tank)) (b.lamps.map (·.away)) i H t d
structure Kept (b:Book) (rs:List Tn):Prop where
 lamps:1≤b.lamps.length∧b.lamps.length≤8
 same:rs.length=b.days.length
 some:1≤rs.length
 few:rs.length≤16
 day:∀(i:Nat) t d,rs[i]? = Option.some t→b.days[i]? = Option.some d→Zg b i (held b rs i) t d
theorem E1 {st oil:Int} {L:Nat} {fi:List Int} (h:fi.length=L) (rs:List Tn):(rs.foldl (d6 st L) (oil,fi)).2.length=L:=by
 have gen:∀(rs:List Tn) (H:Int×List Int),H.2.length=L→(rs.foldl (d6 st L) H).2.length=L:=by
  intro rs
  induction rs with
  | nil=>intro H h;exact h
  | cons t r ih=>intro H _;exact ih _ (by simp[d6])
 exact gen rs _ h
section
variable {n : Nat} {μ ρ : Sto} {φ : Phi}
theorem My (cs:List Int):∃(b:Book) (rs:List Tn) (cs':List Int) (ρ:Sto),Kept b rs ∧
  aj GL (n+4) lh [.loc 0] [Lf cs]=.ok (.tup [de b,.tup (rs.map eTn)]) ([Lf cs']++ρ):=by
 rw[ak A2,run_eq rfl]
 obtain⟨L,N,aw,cs1,hL,hN,haw,ef⟩:=Mw (n:=n) cs
 have kf:=vg (μ':=[Lf cs1]) (ρ:=[.dead]) ef rfl (Gg L N aw) rfl
 obtain⟨ns,cs2,hnl,hok,en⟩:=Gh (n:=n) cs1 L N aw hL hN.2 haw
 have pns:(D.lst (ns.map o3)).pure=true:=by
  rw[D.pure,nq,AO];intro x hx;obtain⟨i,_,rfl⟩:=AY.mp hx;exact Er i
 have kn:=vg (μ':=[Lf cs2]) (ρ:=[.dead]) en rfl pns rfl
 have k3:=oh (n:=n+2) (ρ:=[]) (fun cs=>Kc) cs2
 have p30:opI .Pow 10 30 [Lf cs2.tail]=.ok (.int (10 ^ 30)) [Lf cs2.tail]:=op_pow (by decide)
 have k4:=C0 (n:=n+1) (Kc (cs:=cs2.tail)) (cs2.headD 0) (10 ^ 30) (by decide)
 generalize u9 (cs2.headD 0) (10 ^ 30)=st at k4
 have k5:=nu (n:=n+1) (ρ:=[]) rfl cs2.tail
 generalize g8 (cs2.tail.headD 0)=oil at k5
 obtain⟨fi,cs3,hfi,e5⟩:=Ke (S:=List Int) (m:=.z) (φ:=aj GL (n+3)) (tg:=.one 1) (cs:=.nil) (elt:=j7) (σ0:=[some (.loc 0),none]) (xs:=List.range L) (en:=fun(k:Nat)=>D.int k) (enS:=fun cs=>[Lf cs]) (by
  intro k _ cs
  have ks:=nu (n:=n+1) (ρ:=[]) rfl cs
  refine⟨g8 (cs.headD 0),cs.tail,?_⟩
  simp! only[iy,j7,ks]) cs2.tail.tail
 rw[k7]at e5
 rw[DE]at hfi
 have li:∀ν:Sto,btD .list .z [.lst (fi.map D.int)] ν=.ok (.lst (fi.map D.int)) ν:=fun ν=>by rw[bt_list ax,k7]
 have m1:mkL .l [] [Lf cs3]=.ok (.loc 1) [Lf cs3,.l []]:=J6 rfl
 have m2:mkL .l [] [Lf cs3,.l []]=.ok (.loc 2) [Lf cs3,.l [],.l []]:=J6 rfl
 obtain⟨σ',μ',e,cs4,most,ds,rs,ρ,v,hm,hdl,hrl,hdo,hρ,rfl,rfl⟩:=ja (φ:=aj GL (n+3)) (μ:=[Lf cs3,.l [],.l []]) (tg:=.many [11,12,13,14]) (b:=gx) (xs:=ns) (en:=o3)
  (σ:=[some (.loc 0),some (fg L N aw),some (.lst (ns.map o3)),some (.int st),some (.int oil),some (.lst (fi.map D.int)),some (.lst (fi.map D.int)),some (.lst (fi.map D.int)),some (.loc 1),some (.loc 2),some (.int oil),none,none,none,none,none,none,none,none,none,none,none,none])
  (fun j σ μ'=>∃(cs4:List Int) (most:List Int) (ds:List Day) (rs:List Tn) (ρ:Sto) (v:Nat→Option D),most.length=L∧ds.length=j∧rs.length=j∧(∀(i:Nat) t d,rs[i]? = some t→ds[i]? = some d→DayS L most aw i ((rs.take i).foldl (d6 st L) (oil,fi)) t d)∧ρ.all noR=true ∧
   σ=[some (.loc 0),some (fg L N aw),some (.lst (ns.map o3)),some (.int st),some (.int oil),some (.lst (fi.map D.int)),some (.lst ((rs.foldl (d6 st L) (oil,fi)).2.map D.int)),some (.lst (most.map D.int)),some (.loc 1),some (.loc 2),some (.int (rs.foldl (d6 st L) (oil,fi)).1),v 11,v 12,v 13,v 14,v 15,v 16,v 17,v 18,v 19,v 20,v 21,none]∧μ'=Lf cs4::.l (ds.map mj)::.l (rs.map eTn)::ρ)
  ⟨cs3,fi,[],[],[],fun _=>none,hfi,rfl,rfl,by simp,rfl,rfl,rfl⟩ (by
   rintro j g σ μ' hj ⟨cs4,most,ds,rs,ρ,v,hm,hdl,hrl,hdo,hρ,rfl,rfl⟩
   have hg:=hok j g hj
   have hj2:j<ns.length:=(AG.mp hj).1
   obtain⟨σ',cs',most',d,t,ρ',w,q2,q3,q4,q5,rfl,q7⟩:=Gj (n:=n) (N:=N) (aw:=aw) hg hL.2 (ngs:=.lst (ns.map o3)) (st:=st) (oil:=oil) (here:=(rs.foldl (d6 st L) (oil,fi)).1) hfi (E1 hfi rs) hm (ds:=ds) (rs:=rs) (by lia) (by lia) cs4 hρ (v 11) (v 12) (v 13) (v 14) (v 15) (v 16) (v 17) (v 18) (v 19) (v 20) (v 21)
   have ef:(rs++[t]).foldl (d6 st L) (oil,fi)=d6 st L ((rs.foldl (d6 st L) (oil,fi)).1,(rs.foldl (d6 st L) (oil,fi)).2) t:=by rw[List.foldl_append];rfl
   refine⟨_,_,q7,cs',most',ds++[d],rs++[t],ρ',fun i=>[some (.int g.length),some (.int g.wanted),some (.lst (g.ticks.map eP)),some (.tup (g.spans.map eSpan)),w 15,w 16,w 17,w 18,w 19,w 20,w 21].getD (i-11) none,q2,by simp[hdl],by simp[hrl],fun i t' d' ht' hd'=>?_,q5,by rw[ef];rfl,rfl⟩
   by_cases hi:i<j
   ·rw[AW (by lia)]at ht' hd'
    rw[GY (by lia)]
    exact(hdo i t' d' ht' hd').mono q3
   ·have hi2:i=j:=by
     have:=(AG.mp ht').1
     simp at this
     lia
    subst hi2
    have e1:t'=t:=by
     rw[BQ (by lia),hrl,IV]at ht'
     simpa using ht'.symm
    have e2:d'=d:=by
     rw[BQ (by lia),hdl,IV]at hd'
     simpa using hd'.symm
    subst e1 e2
    rw[GY (by lia),BX (by lia)]
    exact q4)
 have m3:=mk3 (ρ:=ρ) (cs:=cs4) (ds:=ds.map mj) (rs:=rs.map eTn) (xs:=[]) rfl
 obtain⟨σ2,μ2,e2,cs5,ls,w16,hll,hla,rfl,rfl⟩:=ja (φ:=aj GL (n+3)) (μ:=Lf cs4::.l (ds.map mj)::.l (rs.map eTn)::(ρ++[.l []])) (tg:=.one 16) (b:=ki) (xs:=List.range L) (en:=fun(k:Nat)=>D.int k)
  (σ:=[some (.loc 0),some (fg L N aw),some (.lst (ns.map o3)),some (.int st),some (.int oil),some (.lst (fi.map D.int)),some (.lst ((rs.foldl (d6 st L) (oil,fi)).2.map D.int)),some (.lst (most.map D.int)),some (.loc 1),some (.loc 2),some (.int (rs.foldl (d6 st L) (oil,fi)).1),v 11,v 12,v 13,v 14,v 15,v 16,v 17,v 18,v 19,v 20,v 21,some (.loc (ρ.length+3))])
  (fun j σ μ'=>∃(cs5:List Int) (ls:List Lamp) (w16:Option D),ls.length=j∧(∀(i:Nat) l,ls[i]? = some l→l.oil=fi.getD i 0∧l.away=aw.getD i []∧most.getD i 0≤l.tank)∧σ=[some (.loc 0),some (fg L N aw),some (.lst (ns.map o3)),some (.int st),some (.int oil),some (.lst (fi.map D.int)),some (.lst ((rs.foldl (d6 st L) (oil,fi)).2.map D.int)),some (.lst (most.map D.int)),some (.loc 1),some (.loc 2),some (.int (rs.foldl (d6 st L) (oil,fi)).1),v 11,v 12,v 13,v 14,v 15,w16,v 17,v 18,v 19,v 20,v 21,some (.loc (ρ.length+3))] ∧
   μ'=Lf cs5::.l (ds.map mj)::.l (rs.map eTn)::(ρ++[.l (ls.map i8)]))
  ⟨cs4,[],v 16,rfl,by simp,rfl,rfl⟩ (by
   rintro j a σ μ' ha ⟨cs5,ls,w16,hll,hla,rfl,rfl⟩
   obtain⟨rfl,hk⟩:=xj ha
   have ks:=nu (n:=n+1) (ρ:=.l (ds.map mj)::.l (rs.map eTn)::(ρ++[.l (ls.map i8)])) (vx (Sa hρ _)) cs5
   have i1:∀ν:Sto,ixD (.lst (most.map D.int)) (.int a) ν=.ok (.int (most.getD a 0)) ν:=fun ν=>o9 ax (by lia)
   have i2:∀ν:Sto,ixD (.lst (fi.map D.int)) (.int a) ν=.ok (.int (fi.getD a 0)) ν:=fun ν=>o9 ax (by lia)
   have i3:∀ν:Sto,ixD (.lst (aw.map eIl)) (.int a) ν=.ok (.lst ((aw.getD a []).map D.int)) ν:=fun ν=>A8 ax (by rw[BA,AB (by lia)];simp[show a<aw.length by lia,eIl])
   have ap:∀cs:List Int,mtD .append (.loc (ρ.length+3)) [.tup [.int (most.getD a 0+g8 (cs5.headD 0)),.int (fi.getD a 0),.tup ((aw.getD a []).map D.int)]] (Lf cs::.l (ds.map mj)::.l (rs.map eTn)::(ρ++[.l (ls.map i8)]))=.ok .non (Lf cs::.l (ds.map mj)::.l (rs.map eTn)::(ρ++[.l ((ls++[(⟨most.getD a 0+g8 (cs5.headD 0),fi.getD a 0,aw.getD a []⟩:Lamp)]).map i8)])):=fun cs=>by
    rw[BW]
    exact aaj (d:=i8 ⟨most.getD a 0+g8 (cs5.headD 0),fi.getD a 0,aw.getD a []⟩) (A9 _) (by rw[AF];lia)
   refine⟨_,_,?_,cs5.tail,ls++[⟨most.getD a 0+g8 (cs5.headD 0),fi.getD a 0,aw.getD a []⟩],some (.int a),by simp[hll],fun i l hl=>?_,rfl,rfl⟩
   ·simp! only[fLp,ki,i1,ks,i2,R9,i3,bt_tuple ax,km3,ap]
   ·by_cases hi:i<ls.length
    ·rw[AW hi]at hl
     exact hla i l hl
    ·have hi2:i=ls.length:=by
      have:=(AG.mp hl).1
      simp at this
      lia
     subst hi2
     rw[BQ (AI _),IV]at hl
     have el:l=⟨most.getD a 0+g8 (cs5.headD 0),fi.getD a 0,aw.getD a []⟩:=by simpa using hl.symm
     rw[el,hll]
     exact⟨rfl,rfl,by show most.getD a 0≤most.getD a 0+g8 (cs5.headD 0);have:=qm (cs5.headD 0);lia⟩)
 have s1:dq (Lf cs5::.l (ds.map mj)::.l (rs.map eTn)::(ρ++[.l (ls.map i8)])) (.loc 1)=some (ds.map mj):=rfl
 have s2:dq (Lf cs5::.l (ds.map mj)::.l (rs.map eTn)::(ρ++[.l (ls.map i8)])) (.loc 2)=some (rs.map eTn):=rfl
 rw[DE]at hll
 have eoil:ls.map (·.oil)=fi:=by
  apply BV
  intro i
  by_cases hi:i<L
  ·have q:=hla i ls[i] (AB (by lia))
   rw[BA,AB (show i<ls.length by lia),AB (show i<fi.length by lia)]
   have:fi.getD i 0=fi[i]:=by simp[show i<fi.length by lia]
   show Option.some ls[i].oil=Option.some fi[i]
   rw[q.1,this]
  ·rw[AX (by rw[AF];lia),AX (by lia)]
 have eaw:ls.map (·.away)=aw:=by
  apply BV
  intro i
  by_cases hi:i<L
  ·have q:=hla i ls[i] (AB (by lia))
   rw[BA,AB (show i<ls.length by lia),AB (show i<aw.length by lia)]
   have:aw.getD i []=aw[i]:=by simp[show i<aw.length by lia]
   show Option.some ls[i].away=Option.some aw[i]
   rw[q.2.1,this]
  ·rw[AX (by rw[AF];lia),AX (by lia)]
 refine⟨⟨st,oil,ls,ds⟩,rs,cs5,.l (ds.map mj)::.l (rs.map eTn)::(ρ++[.l (ls.map i8)]),⟨by show 1≤ls.length∧ls.length≤8;lia,by show rs.length=ds.length;lia,by lia,by lia,fun i t d ht hd=>?_⟩,?_⟩
 ·show DayS ls.length (ls.map (·.tank)) (ls.map (·.away)) i ((rs.take i).foldl (d6 st ls.length) (oil,ls.map (·.oil))) t d
  rw[eoil,eaw,hll]
  refine(hdo i t d ht hd).mono fun k hk=>?_
  have q:=hla k ls[k] (AB (by lia))
  have:(ls.map (·.tank)).getD k 0=ls[k].tank:=by simp[show k<ls.length by lia]
  rw[this]
  exact q.2.2
 simp! only[D_law_kept_3,kf,kn,k3,p30,k4,k5,R8,du (show L≤1000000 by lia),e5,li,m1,m2,e,m3,e2,bt_tuple Zf,bt_tuple s1,bt_tuple s2,de]
end
end Lr
namespace Lr
open Lp
open PySem
noncomputable def au (H:Int×List Int):D:=.tup [.int H.1,cy H.2]
theorem ir {k:Nat} (H:Int×List Int):D.pureN (k+2) (au H)=true:=by
 rw[au,dr]
 simp only[BD,fb,mf,DV,GS]
theorem C7 {L:Nat} {a c:List Int} {f:Int×Int→Int} (ha:a.length=L) (hc:c.length=L):(a.zip c).map f=(List.range L).map fun(k:Nat)=>f (a.getD k 0,c.getD k 0):=by
 apply BV
 intro i
 by_cases hi:i<L
 ·have hz:(a.zip c)[i]? = some (a.getD i 0,c.getD i 0):=by
   rw[CW]
   exact⟨by simp[show i<a.length by lia],by simp[show i<c.length by lia]⟩
  simp[hz,hi]
 ·rw[AX (by simp;lia),AX (by simp;lia)]
section
variable {n : Nat} {μ ρ : Sto} {φ : Phi}
theorem E2 (b:Book):aj GL (n+1) fk [de b] μ=.ok (au (b.oil,b.lamps.map (·.oil))) μ:=by
 rw[ak u6,run_eq rfl]
 have c:=comp_map (m:=.z) (μ:=μ) (φ:=aj GL n) (tg:=.many [0,1,2]) (cs:=.nil) (elt:=gr) (σ0:=[none,none,none]) (xs:=b.lamps) (en:=i8) (g:=fun l=>D.int l.oil) (by
  intro l _
  have bt:fw (.many [0,1,2]) (i8 l) [none,none,none]=some [some (.int l.tank),some (.int l.oil),some (cy l.away)]:=rfl
  simp! only[iy,bt,gr])
 have e:b.lamps.map (fun l=>D.int l.oil)=(b.lamps.map (·.oil)).map D.int:=by rw[BB];rfl
 rw[e]at c
 have i1:ixD (de b) (.int 1) μ=.ok (.int b.oil) μ:=rfl
 simp! only[D_held_at_first,i1,vq,c,bt_tuple ax,au,cy]
theorem Bi (a c:List Int):aj GL (n+1) qh [cy a,cy c] μ=.ok (cy ((a.zip c).map fun p=>p.1+p.2)) μ:=by
 rw[ak Mh,run_eq rfl]
 have cc:=comp_map (m:=.z) (μ:=μ) (φ:=aj GL n) (tg:=.many [0,1]) (cs:=.nil) (elt:=p6) (σ0:=[none,none]) (xs:=a.zip c) (en:=fun p=>D.tup [.int p.1,.int p.2]) (g:=fun p=>D.int (p.1+p.2)) (by
  rintro⟨x,y⟩ _
  simp! only[iy,p6,og])
 have e:(a.zip c).map (fun p=>D.int (p.1+p.2))=((a.zip c).map fun p=>p.1+p.2).map D.int:=by rw[BB];rfl
 rw[e]at cc
 have kz:su (cy a) (cy c) μ=.ok ((a.zip c).map (fun p=>D.tup [.int p.1,.int p.2]),none) μ:=zj (f:=D.int) (g:=D.int)
 simp! only[D_filled,kz,cc,bt_tuple ax]
 rfl
theorem jt {i j:Nat} {H:Int×List Int} {σ:Sl}:fw (.many [i,j]) (au H) σ=some ((σ.set i (some (.int H.1))).set j (some (cy H.2))):=rfl
theorem ft {i j k l:Nat} {t:Tn} {σ:Sl}:fw (.many [i,j,k,l]) (eTn t) σ=some ((((σ.set i (some (.int t.taken))).set j (some (.int t.bought))).set k (some (cy t.poured))).set l (some (.tup (t.spans.map eSpan)))):=rfl
theorem bw {i j k l m:Nat} {d:Day} {σ:Sl}:fw (.many [i,j,k,l,m]) (mj d) σ=some (((((σ.set i (some (.int d.boat))).set j (some (.int d.most))).set k (some (.int d.price))).set l (some (.int d.length))).set m (some (.int d.wanted))):=rfl
theorem sum_ints (xs:List Int):btD .sum .z [cy xs] μ=.ok (.int xs.sum) μ:=bt_sum gz (k6 _)
theorem E3 (xs:List Int):btD .len .z [cy xs] μ=.ok (.int xs.length) μ:=by rw[cy,bt_len gz,AF]
theorem Bj (hr:l6 μ) (b:Book) {H:Int×List Int} {t:Tn} (hH:H.2.length=b.lamps.length) (hp:t.poured.length=b.lamps.length) (hL:b.lamps.length≤8) (hs:t.spans.length≤1000):aj GL (n+2) gn [de b,au H,eTn t] μ=.ok (au (d6 b.store b.lamps.length H t)) μ:=by
 rw[ak y0,run_eq rfl]
 obtain⟨ρ1,et⟩:=xg (n:=n) (μ:=μ) b.lamps.length t.spans (by lia) (by lia)
 have kt:=ic et (mf _) hr
 have kf:=a8 (Bi (n:=n) (μ:=μ) H.2 t.poured) (mf _) rfl hr
 rw[C7 hH hp]at kf
 have cc:=comp_map (m:=.z) (μ:=μ) (φ:=aj GL (n+1)) (tg:=.many [0,1]) (cs:=.nil) (elt:=i5) (σ0:=[none,none]) (xs:=((List.range b.lamps.length).map fun(k:Nat)=>H.2.getD k 0+t.poured.getD k 0).zip ((List.range b.lamps.length).map fun(k:Nat)=>ay t.spans k)) (en:=fun p=>D.tup [.int p.1,.int p.2]) (g:=fun p=>D.int (p.1-p.2)) (by
  rintro⟨x,y⟩ _
  simp! only[iy,i5,og])
 have e:(((List.range b.lamps.length).map fun(k:Nat)=>H.2.getD k 0+t.poured.getD k 0).zip ((List.range b.lamps.length).map fun(k:Nat)=>ay t.spans k)).map (fun p=>D.int (p.1-p.2))=(d6 b.store b.lamps.length H t).2.map D.int:=by
  rw[show(fun p:Int×Int=>D.int (p.1-p.2))=D.int∘(fun p:Int×Int=>p.1-p.2)from rfl,←BB,C7 (L:=b.lamps.length) (by simp) (by simp)]
  congr 1
  refine DG fun k hk=>?_
  have hk:k<b.lamps.length:=by simpa using hk
  show((List.range b.lamps.length).map fun(k:Nat)=>H.2.getD k 0+t.poured.getD k 0).getD k 0-((List.range b.lamps.length).map fun(k:Nat)=>ay t.spans k).getD k 0=_
  rw[vh hk,vh hk]
 rw[e]at cc
 have kz:su (cy ((List.range b.lamps.length).map fun(k:Nat)=>H.2.getD k 0+t.poured.getD k 0)) (cy ((List.range b.lamps.length).map fun(k:Nat)=>ay t.spans k)) μ=.ok (_,none) μ:=zj (f:=D.int) (g:=D.int)
 have i0:ixD (de b) (.int 0) μ=.ok (.int b.store) μ:=rfl
 have ln:btD .len .z [cy H.2] μ=.ok (.int b.lamps.length) μ:=by rw[E3,hH]
 simp! only[D_held_behind,jt,ft,sum_ints,ln,kt,kf,kz,cc,bt_tuple ax,i0]
 rfl
theorem vi (b:Book) (rs:List Tn) {i:Nat} {t:Tn} (ht:rs[i]? = some t):held b rs (i+1)=d6 b.store b.lamps.length (held b rs i) t:=by
 unfold held
 rw[DF,ht,List.foldl_append]
 rfl
theorem zo (b:Book) (rs:List Tn) (i:Nat):(held b rs i).2.length=b.lamps.length:=E1 (by simp) _
noncomputable def evs (b:Book) (rs:List Tn):List (Int×List Int):=(List.range rs.length).map fun i=>held b rs (i+1)
end
end Lr
namespace Lr
open Lp
open PySem
noncomputable def qu (L:Int) (lamps:Nat) (ss:List Span):Prop:=(∀s∈ss,Good L 0 lamps s)∧ss.Pairwise Nb
theorem Mz {a b c:Span} (hb:b.start<b.fin) (h1:Nb a b) (h2:Nb b c):Nb a c:=by
 unfold Nb at *;omega
theorem Kj:∀{ss:List Span},(∀s∈ss,s.start<s.fin)→(∀p∈ss.zip (ss.drop 1),Nb p.1 p.2)→ss.Pairwise Nb
 | [],_,_=>.nil
 | [a],_,_=>by simp
 | a::b::r,h,g=>by
  have ih:=Kj (ss:=b::r) (fun s hs=>h s (AJ _ hs)) (fun p hp=>g p (AJ _ hp))
  have g0:Nb a b:=g (a,b) AQ
  refine BO.mpr ⟨fun x hx=>?_,ih⟩
  rcases AM.mp hx with rfl | hx
  ·exact g0
  ·exact Mz (h b (by simp)) g0 ((BO.mp ih).1 x hx)
theorem Zh {a b:Span}:lexLt [a.lamp,a.start,a.fin] [b.lamp,b.start,b.fin]=true↔(a.lamp<b.lamp∨(a.lamp=b.lamp∧(a.start<b.start∨(a.start=b.start∧a.fin<b.fin)))):=by
 simp only[Lp.lexLt]
 split
 ·rename_i h;simp only[h]
  split
  ·rename_i h;simp only[h]
   split
   ·rename_i h;simp[h]
   ·simp
  ·simp;omega
 ·simp;omega
noncomputable def Bl (a b:Span):Prop:=lexLt [a.lamp,a.start,a.fin] [b.lamp,b.start,b.fin]=false∨(a.lamp=b.lamp∧a.start<b.fin∧b.start<a.fin)
theorem Bm {a b:Span} (ha:a.start<a.fin) (hb:b.start<b.fin):Bl a b↔¬Nb a b:=by
 unfold Bl Nb
 rw[←Bool.not_eq_true,Zh]
 omega
theorem mh {α:Type} {φ:Phi} {μ:Sto} {tg:Tg} {b:Sms} {en:α→D} {v:D} (I:Sl→Prop) (P:α→Prop):∀{xs:List α} {σ:Sl},I σ→(∀a∈xs,∀σ,I σ→(¬P a→∃σ',fLp φ tg b (en a) σ μ=.ok (.nx σ') μ∧I σ')∧(P a→fLp φ tg b (en a) σ μ=.ok (.rt v) μ)) →
  ((∀a∈xs,¬P a)→∃σ',qj φ tg b σ (xs.map en,none) μ=.ok (.nx σ') μ∧I σ')∧((¬∀a∈xs,¬P a)→qj φ tg b σ (xs.map en,none) μ=.ok (.rt v) μ)
 | [],σ,h,_=>⟨fun _=>⟨σ,by simp[qj,jy],h⟩,fun e=>by simp at e⟩
 | a::r,σ,h,st=>by
  have s:=st a AQ σ h
  have kl:∀σ,qj φ tg b σ ((a::r).map en,none) μ=(fLp φ tg b (en a) σ μ).bind fun fl μ1=>match fl with
   | .nx σ1=>qj φ tg b σ1 (r.map en,none) μ1
   | .ct σ1=>qj φ tg b σ1 (r.map en,none) μ1
   | .bk σ1=>.ok (.nx σ1) μ1
   | .rt v=>.ok (.rt v) μ1:=fun σ=>by
    simp only[qj,AS,jy]
    rw[if_pos (show gd none μ from trivial)]
    all_goals congr 1
  by_cases p:P a
  ·exact⟨fun q=>absurd p (q a AQ),fun _=>by rw[kl,s.2 p];rfl⟩
  ·obtain⟨σ1,e1,i1⟩:=s.1 p
   have ih:=mh I P (xs:=r) (σ:=σ1) i1 fun x hx=>st x (AJ _ hx)
   refine⟨fun q=>?_,fun q=>?_⟩
   ·rw[kl,e1];exact ih.1 fun x hx=>q x (AJ _ hx)
   ·rw[kl,e1]
    refine ih.2 fun z=>q fun x hx=>?_
    rcases AM.mp hx with rfl | hx
    ·exact p
    ·exact z x hx
section
variable {n : Nat} {μ ρ : Sto} {φ : Phi} {σ : Sl}
theorem Bn (a b:Span):cpD .ge (eSpan a) (eSpan b) μ=.ok (.bl (!lexLt [a.lamp,a.start,a.fin] [b.lamp,b.start,b.fin])) μ:=by
 have e:∀s:Span,fu [D.int s.lamp,.int s.start,.int s.fin]=some [s.lamp,s.start,s.fin]:=fun s=>k6 [s.lamp,s.start,s.fin]
 simp only[cpD,eSpan,e]
theorem Kk (ss:List Span):aj GL (n+1) u3 [.tup (ss.map eSpan)] μ=.ok (.bl (((ss.zip (ss.drop 1)).map fun p:Span×Span=>lexLt [p.1.lamp,p.1.start,p.1.fin] [p.2.lamp,p.2.start,p.2.fin]).all id)) μ:=by
 rw[ak Ja,run_eq rfl]
 have hz:su (.tup (ss.map eSpan)) (.tup ((ss.map eSpan).drop 1)) μ=.ok (((ss.map eSpan).zip ((ss.map eSpan).drop 1)).map fun p=>.tup [p.1,p.2],none) μ:=rfl
 have hc:iq (aj GL n) .z (.many [0,1]) .nil ma [none,none] ((ss.zip (ss.drop 1)).map fun p:Span×Span=>D.tup [eSpan p.1,eSpan p.2],none) μ=.ok (.lst (((ss.zip (ss.drop 1)).map fun p:Span×Span=>lexLt [p.1.lamp,p.1.start,p.1.fin] [p.2.lamp,p.2.start,p.2.fin]).map D.bl)) μ:=by
  rw[comp_map (g:=fun p:Span×Span=>D.bl (lexLt [p.1.lamp,p.1.start,p.1.fin] [p.2.lamp,p.2.start,p.2.fin])) fun p hp=>by
   simp! only[iy,ma,Pk]]
  rw[k7,BB];rfl
 simp! only[D_rises,Mp,hz,qk,hc,bt_all ax (gk _)]
theorem Gk (a b:Span):aj GL (n+1) cg [eSpan a,eSpan b] μ=.ok (.bl (decide (a.lamp=b.lamp∧b.start<a.fin))) μ:=by
 rw[ak ip,run_eq rfl]
 by_cases h:a.lamp=b.lamp
 ·simp! only[D_have_tick_in_common,sv,vt,Bc,h,true_and]
 ·simp! only[D_have_tick_in_common,sv,h,false_and]
theorem zp (hr:l6 μ) {L:Int} {lamps:Nat} {ss:List Span} (h:¬qu L lamps ss):aj GL (n+2) ee [.int L,.int lamps,.tup (ss.map eSpan)] μ=.ok (.bl true) μ:=by
 rw[ak ny,run_eq rfl]
 have lp:=mh (φ:=aj GL (n+1)) (μ:=μ) (tg:=.many [3,4,5]) (b:=a7) (xs:=ss) (en:=eSpan) (v:=.bl true) (σ:=[some (.int L),some (.int lamps),some (.tup (ss.map eSpan)),none,none,none])
  (fun σ=>∃v3 v4 v5,σ=[some (.int L),some (.int lamps),some (.tup (ss.map eSpan)),v3,v4,v5]) (fun s=>¬Good L 0 lamps s) ⟨none,none,none,rfl⟩ (by
   rintro s hs σ ⟨v3,v4,v5,rfl⟩
   refine⟨fun q=>?_,fun q=>?_⟩
   ·obtain⟨⟨a1,a2⟩,b,c,d⟩:=CJ.mp q
    refine⟨[some (.int L),some (.int lamps),some (.tup (ss.map eSpan)),some (.int s.lamp),some (.int s.start),some (.int s.fin)],?_,_,_,_,rfl⟩
    simp! only[fLp,a7,eSpan,a1,a2,b,c,d]
   ·by_cases a1:0≤s.lamp
    ·by_cases a2:s.lamp<lamps
     ·by_cases b:0≤s.start
      ·by_cases c:s.start<s.fin
       ·have d:¬s.fin≤L:=fun d=>q ⟨⟨a1,a2⟩,b,c,d⟩
        simp! only[fLp,a7,eSpan,a1,a2,b,c,d]
       ·simp! only[fLp,a7,eSpan,a1,a2,b,c]
      ·simp! only[fLp,a7,eSpan,a1,a2,b]
     ·simp! only[fLp,a7,eSpan,a1,a2]
    ·simp! only[fLp,a7,eSpan,a1])
 by_cases hg:∀s∈ss,¬¬Good L 0 lamps s
 ·obtain⟨σ',el,v3,v4,v5,rfl⟩:=lp.1 hg
  have hz:su (.tup (ss.map eSpan)) (.tup ((ss.map eSpan).drop 1)) μ=.ok (((ss.map eSpan).zip ((ss.map eSpan).drop 1)).map fun p=>.tup [p.1,p.2],none) μ:=rfl
  have hc:iq (aj GL (n+1)) .z (.many [0,1]) .nil c7 [none,none] ((ss.zip (ss.drop 1)).map fun p:Span×Span=>D.tup [eSpan p.1,eSpan p.2],none) μ=.ok (.lst (((ss.zip (ss.drop 1)).map fun p=>decide (p.1.lamp=p.2.lamp∧p.2.start<p.1.fin)).map D.bl)) μ:=by
   rw[comp_map (g:=fun p:Span×Span=>D.bl (decide (p.1.lamp=p.2.lamp∧p.2.start<p.1.fin))) fun p hp=>by
    simp! only[iy,c7,a8 (Gk (n:=n) (μ:=μ) p.1 p.2) rfl rfl hr]]
   rw[k7,BB];rfl
  have kr:=a8 (Kk (n:=n) (μ:=μ) ss) rfl rfl hr
  have ba:=bt_any (μ:=μ) (m:=.z) (ax (μ:=μ)) (gk ((ss.zip (ss.drop 1)).map fun p=>decide (p.1.lamp=p.2.lamp∧p.2.start<p.1.fin)))
  have hq:((ss.zip (ss.drop 1)).map fun p:Span×Span=>lexLt [p.1.lamp,p.1.start,p.1.fin] [p.2.lamp,p.2.start,p.2.fin]).all id=false∨((ss.zip (ss.drop 1)).map fun p=>decide (p.1.lamp=p.2.lamp∧p.2.start<p.1.fin)).any id=true:=by
   obtain⟨p,hp,hn⟩:∃p∈ss.zip (ss.drop 1),¬Nb p.1 p.2:=CC fun q=>h ⟨fun s hs=>CJ.mp (hg s hs),Kj (fun s hs=>(CJ.mp (hg s hs)).run) fun p hp=>CC fun z=>q ⟨p,hp,z⟩⟩
   have r1:=(CJ.mp (hg p.1 (GZ hp).1)).run
   by_cases hl:lexLt [p.1.lamp,p.1.start,p.1.fin] [p.2.lamp,p.2.start,p.2.fin]=true
   ·refine .inr (DN.mpr ⟨true,AY.mpr ⟨p,hp,decide_eq_true ?_⟩,rfl⟩)
    rw[Zh]at hl
    unfold Nb at hn
    omega
   ·exact .inl (List.all_eq_false.mpr ⟨false,AY.mpr ⟨p,hp,by simpa using hl⟩,by simp⟩)
  generalize ((ss.zip (ss.drop 1)).map fun p:Span×Span=>lexLt [p.1.lamp,p.1.start,p.1.fin] [p.2.lamp,p.2.start,p.2.fin]).all id=r at *
  cases r with
  | false=>simp! only[D_has_span_fault,el,kr]
  | true =>
   have hq':=hq.resolve_left (by decide)
   rw[hq']at ba
   simp! only[D_has_span_fault,el,kr,Mp,hz,qk,hc,ba]
 ·simp! only[D_has_span_fault,lp.2 hg]
theorem vj {L:Int} {lamps:Nat} {ss:List Span} (hn:ss.length≤1000) :
  (qu L lamps ss→aj GL (n+1) f9 [.int L,.int lamps,.tup (ss.map eSpan)] μ=.ok (.bl false) μ)∧(¬qu L lamps ss→aj GL (n+1) f9 [.int L,.int lamps,.tup (ss.map eSpan)] μ=.ok (.bl true) μ):=by
 rw[ak vp,run_eq rfl]
 have lp:=mh (φ:=aj GL n) (μ:=μ) (tg:=.one 3) (b:=bp) (xs:=List.range ss.length) (en:=fun(k:Nat)=>D.int k) (v:=.bl true) (σ:=[some (.int L),some (.int lamps),some (.tup (ss.map eSpan)),none,none,none,none,none])
  (fun σ=>∃v3 v4 v5 v6 v7,σ=[some (.int L),some (.int lamps),some (.tup (ss.map eSpan)),v3,v4,v5,v6,v7]) (fun k=>¬(Good L 0 lamps (ss.getD k ⟨0,0,0⟩)∧∀o∈ss.take k,¬Bl o (ss.getD k ⟨0,0,0⟩))) ⟨none,none,none,none,none,rfl⟩ (by
   rintro k hk σ ⟨v3,v4,v5,v6,v7,rfl⟩
   have hk':k<ss.length:=CI.mp hk
   have i1:ixD (.tup (ss.map eSpan)) (.int k) μ=.ok (eSpan (ss.getD k ⟨0,0,0⟩)) μ:=cu (by simp[hk'])
   generalize ss.getD k ⟨0,0,0⟩=c at *
   have ub:∀σ:Sl,fw (.many [4,5,6]) (eSpan c) σ=some (((σ.set 4 (some (.int c.lamp))).set 5 (some (.int c.start))).set 6 (some (.int c.fin))):=fun _=>rfl
   have li:=mh (φ:=aj GL n) (μ:=μ) (tg:=.one 7) (b:=cf) (xs:=ss.take k) (en:=eSpan) (v:=.bl true) (σ:=[some (.int L),some (.int lamps),some (.tup (ss.map eSpan)),some (.int k),some (.int c.lamp),some (.int c.start),some (.int c.fin),v7])
    (fun σ=>∃v7,σ=[some (.int L),some (.int lamps),some (.tup (ss.map eSpan)),some (.int k),some (.int c.lamp),some (.int c.start),some (.int c.fin),v7]) (fun o=>Bl o c) ⟨v7,rfl⟩ (by
     rintro o ho σ ⟨v7,rfl⟩
     refine⟨fun q=>⟨[some (.int L),some (.int lamps),some (.tup (ss.map eSpan)),some (.int k),some (.int c.lamp),some (.int c.start),some (.int c.fin),some (eSpan o)],?_,_,rfl⟩,fun q=>?_⟩
     ·unfold Bl at q
      have q1:lexLt [o.lamp,o.start,o.fin] [c.lamp,c.start,c.fin]=true:=by
       rw[←Bool.not_eq_false];exact fun z=>q (.inl z)
      by_cases a:o.lamp=c.lamp
      ·have da:decide (o.lamp=c.lamp)=true:=decide_eq_true a
       by_cases b:o.start<c.fin
       ·have d:¬c.start<o.fin:=fun d=>q (.inr ⟨a,b,d⟩)
        simp! only[fLp,cf,i1,Bn,q1,sv,vt,Bc,da,b,d]
       ·simp! only[fLp,cf,i1,Bn,q1,sv,vt,da,b]
      ·simp! only[fLp,cf,i1,Bn,q1,sv,a]
     ·by_cases q1:lexLt [o.lamp,o.start,o.fin] [c.lamp,c.start,c.fin]=false
      ·simp! only[fLp,cf,i1,Bn,q1]
      ·obtain⟨a,b,d⟩:=Or.resolve_left q q1
       rw[Bool.not_eq_false]at q1
       have da:decide (o.lamp=c.lamp)=true:=decide_eq_true a
       simp! only[fLp,cf,i1,Bn,q1,sv,vt,Bc,da,b,d])
   rw[List.map_take]at li
   have ks:kSeq (.tup ((ss.map eSpan).take k)) μ=.ok ((ss.map eSpan).take k,none) μ:=rfl
   refine⟨fun q=>?_,fun q=>?_⟩
   ·obtain⟨⟨⟨a1,a2⟩,b,c',d⟩,hcl⟩:=CJ.mp q
    obtain⟨σ',el,v7',rfl⟩:=li.1 hcl
    refine⟨_,?_,some (.int k),some (.int c.lamp),some (.int c.start),some (.int c.fin),v7',rfl⟩
    simp! only[fLp,bp,i1,ub,a1,a2,b,c',d,J5,ks,el]
   ·by_cases a1:0≤c.lamp
    ·by_cases a2:c.lamp<lamps
     ·by_cases b:0≤c.start
      ·by_cases c':c.start<c.fin
       ·by_cases d:c.fin≤L
        ·have hcl:¬∀o∈ss.take k,¬Bl o c:=fun z=>q ⟨⟨⟨a1,a2⟩,b,c',d⟩,z⟩
         simp! only[fLp,bp,i1,ub,a1,a2,b,c',d,J5,ks,li.2 hcl]
        ·simp! only[fLp,bp,i1,ub,a1,a2,b,c',d]
       ·simp! only[fLp,bp,i1,ub,a1,a2,b,c']
      ·simp! only[fLp,bp,i1,ub,a1,a2,b]
     ·simp! only[fLp,bp,i1,ub,a1,a2]
    ·simp! only[fLp,bp,i1,ub,a1])
 have key:qu L lamps ss↔∀k∈List.range ss.length,¬¬(Good L 0 lamps (ss.getD k ⟨0,0,0⟩)∧∀o∈ss.take k,¬Bl o (ss.getD k ⟨0,0,0⟩)):=by
  refine⟨fun h k hk=>not_not_intro ?_,fun h=>?_⟩
  ·have hk':k<ss.length:=CI.mp hk
   have e:ss.getD k ⟨0,0,0⟩=ss[k]:=by simp[hk']
   rw[e]
   refine⟨h.1 _ (BL hk'),fun o ho=>?_⟩
   obtain⟨i,hi,rfl⟩:=BY.mp ho
   have hi':i<k:=by simp at hi;omega
   rw[GH,Bm (h.1 _ (BL _)).run (h.1 _ (BL hk')).run]
   exact not_not_intro (CY.mp h.2 i k (by omega) hk' hi')
  ·have g:∀k (hk:k<ss.length),Good L 0 lamps ss[k]∧∀o∈ss.take k,¬Bl o ss[k]:=fun k hk=>by
    have e:ss.getD k ⟨0,0,0⟩=ss[k]:=by simp[hk]
    rw[←e]
    exact CJ.mp (h k (CI.mpr hk))
   have g1:∀s∈ss,Good L 0 lamps s:=fun s hs=>by
    obtain⟨i,hi,rfl⟩:=BY.mp hs
    exact(g i hi).1
   refine⟨g1,CY.mpr fun i j hi hj hij=>?_⟩
   have q:=(g j hj).2 ss[i] (BY.mpr ⟨i,by simp;omega,by rw[GH]⟩)
   rw[Bm (g1 _ (BL hi)).run (g1 _ (BL hj)).run]at q
   exact CJ.mp q
 refine⟨fun h=>?_,fun h=>?_⟩
 ·obtain⟨σ',el,v3,v4,v5,v6,v7,rfl⟩:=lp.1 (key.mp h)
  simp! only[D_law_span_bad,bt_len gz,AF,du (show ss.length≤1000000 by omega),el]
 ·simp! only[D_law_span_bad,bt_len gz,AF,du (show ss.length≤1000000 by omega),lp.2 fun z=>h (key.mpr z)]
end
end Lr
namespace Lr
open Lp
open PySem
noncomputable def Lit (L w:Int) (ss:List Span):Prop:=∀t,0≤t→t<L→(cov ss t:Int)=w
theorem Pn {L lo hi w:Int} {ss:List Span} (h:∀s∈ss,Good L lo hi s) (h0:(cov ss 0:Int)=w) (hz:∀t,0<t→t<L→dlt ss t=0∨(cov ss t:Int)=w):Lit L w ss:=by
 have gen:∀k:Nat,(k:Int)<L→(cov ss k:Int)=w:=by
  intro k
  induction k with
  | zero=>intro _;exact h0
  | succ k ih =>
   intro hk
   rcases hz ((k+1:Nat):Int) (by omega) hk with q | q
   ·have e:=El ss ((k+1:Nat):Int) h
    rw[q,show(((k+1:Nat):Int)-1)=k by omega,ih (by omega)]at e
    omega
   ·exact q
 intro t t0 t1
 have:=gen t.toNat (by omega)
 rwa [Int.toNat_of_nonneg t0]at this
theorem M3 {ss:List Span} {t:Int} (h:∀s∈ss,s.start≠t∧s.fin≠t):dlt ss t=0:=by
 induction ss with
 | nil=>rfl
 | cons s r ih =>
  have:=ih fun x hx=>h x (AJ _ hx)
  have g:=h s AQ
  simp only[dlt,AS,Db]at this ⊢
  rw[this,if_neg g.1,if_neg g.2];rfl
theorem Kl (x y:Int):∀l:List Int,y∈insI x l↔y=x∨y∈l
 | []=>by simp[insI]
 | z::r=>by
  rw[insI]
  split
  ·simp
  ·simp only[AM,Kl x y r]
   exact or_left_comm
theorem E4 (y:Int):∀l:List Int,y∈sortI l↔y∈l
 | []=>by simp[sortI]
 | x::r=>by rw[sortI,Kl,E4 y r,AM]
theorem Se (y:Int) (l:List Int):y∈Dl l↔y∈l:=by
 have gen:∀(l σ:List Int),y∈l.foldl (fun σ k=>if σ.any (·==k)then σ else σ++[k]) σ↔y∈σ∨y∈l:=by
  intro l
  induction l with
  | nil=>intro σ;simp
  | cons x r ih =>
   intro σ
   rw[List.foldl_cons,ih]
   by_cases h:(σ.any (·==x))=true
   ·rw[if_pos h]
    have hx:x∈σ:=by simpa using h
    simp only[AM]
    constructor
    ·rintro(q | q)
     ·exact .inl q
     ·exact .inr (.inr q)
    ·rintro(q | rfl | q)
     ·exact .inl q
     ·exact .inl hx
     ·exact .inr q
   ·rw[if_neg h]
    simp only[DH,AM,BF,or_false,or_assoc]
 rw[Dl,gen];simp
section
variable {n : Nat} {μ ρ : Sto} {φ : Phi} {σ : Sl}
theorem M4 {L lo hi w:Int} {ss:List Span} (h:∀s∈ss,Good L lo hi s) (hL:0<L) (hn:ss.length≤1000) (hw:Lit L w ss) :
  ∃ρ,aj GL (n+1) cm [.int L,.int w,.tup (ss.map eSpan)] μ=.ok (.bl false) (μ++ρ):=by
 have e:=R6 (n:=n) (μ:=μ) (w:=w) h hL hw hn
 rwa [decide_eq_true rfl]at e
theorem M5 {L lo hi w:Int} {ss:List Span} (h:∀s∈ss,Good L lo hi s) (hL:0<L) (hn:ss.length≤1000) (hw:¬Lit L w ss) :
  ∃ρ,aj GL (n+1) cm [.int L,.int w,.tup (ss.map eSpan)] μ=.ok (.bl true) (μ++ρ):=by
 obtain⟨m,ρ,hk,hs0,hv,ed⟩:=En (n:=n) (μ:=μ) (w:=w) h hL hn
 refine⟨ρ,?_⟩
 rw[ed]
 cases q:(m.map fun p=>!decide (p.2=0)).any id with
 | true=>rfl
 | false =>
  refine absurd ?_ hw
  have z:∀x,(dg m x).getD 0=0:=fun x=>by
   cases e:dg m x with
   | none=>rfl
   | some v =>
    have:=GJ.mp q (!decide (v=0)) (AY.mpr ⟨(x,v),zg e,rfl⟩)
    simpa using this
  refine Pn h ?_ fun t t0 t1=>.inl ?_
  ·have a:=hv 0
   rw[z,if_neg (by omega),if_pos rfl,El ss 0 h,p8 (x:=0-1) h (.inl (by omega))]at a
   omega
  ·have a:=hv t
   rw[z,if_neg (by omega),if_neg (by omega)]at a
   omega
theorem Km {xs ys:List D} (h:xs.length+ys.length≤1000000):opD .Add .z (.lst xs) (.lst ys) μ=.ok (.lst (xs++ys)) μ:=by
 simp only[opD,Lp.listOf,lim,k7]
 rw[if_pos (by omega)]
theorem C8 {L lo hi w:Int} {ss:List Span} (h:∀s∈ss,Good L lo hi s) (hL:0<L) (hn:ss.length≤31) :
  (Lit L w ss→aj GL (n+1) l9 [.int L,.int w,.tup (ss.map eSpan)] μ=.ok (.bl false) μ)∧(¬Lit L w ss→aj GL (n+1) l9 [.int L,.int w,.tup (ss.map eSpan)] μ=.ok (.bl true) μ):=by
 rw[ak F8,run_eq rfl]
 have c1:iq (aj GL n) .z (.one 0) .nil ni [none] (ss.map eSpan,none) μ=.ok (.lst ((ss.map (·.start)).map D.int)) μ:=by
  rw[comp_map (g:=fun s:Span=>D.int s.start) fun s _=>by simp! only[iy,ni,vt]]
  rw[k7,BB];rfl
 have c2:iq (aj GL n) .z (.one 0) .nil nj [none] (ss.map eSpan,none) μ=.ok (.lst ((ss.map (·.fin)).map D.int)) μ:=by
  rw[comp_map (g:=fun s:Span=>D.int s.fin) fun s _=>by simp! only[iy,nj,Bc]]
  rw[k7,BB];rfl
 have a1:opD .Add .z (.lst [.int 0]) (.lst ((ss.map (·.start)).map D.int)) μ=.ok (.lst ((0::ss.map (·.start)).map D.int)) μ:=Km (by simp;omega)
 have a2:opD .Add .z (.lst ((0::ss.map (·.start)).map D.int)) (.lst ((ss.map (·.fin)).map D.int)) μ=.ok (.lst ((0::ss.map (·.start)++ss.map (·.fin)).map D.int)) μ:=by
  rw[Km (by simp;omega),←BW]
 have mp:∀p,p∈sortI (Dl (0::ss.map (·.start)++ss.map (·.fin)))↔(p=0∨∃s∈ss,s.start=p∨s.fin=p):=fun p=>by
  rw[E4,Se]
  simp only[DX,AM,DH,AY]
  constructor
  ·rintro(q | ⟨s,hs,q⟩ | ⟨s,hs,q⟩)
   ·exact .inl q
   ·exact .inr ⟨s,hs,.inl q⟩
   ·exact .inr ⟨s,hs,.inr q⟩
  ·rintro(q | ⟨s,hs,q | q⟩)
   ·exact .inl q
   ·exact .inr (.inl ⟨s,hs,q⟩)
   ·exact .inr (.inr ⟨s,hs,q⟩)
 have bs:btD .sortedSet .z [.lst ((0::ss.map (·.start)++ss.map (·.fin)).map D.int)] μ=.ok (.lst ((sortI (Dl (0::ss.map (·.start)++ss.map (·.fin)))).map D.int)) μ:=by
  simp only[btD,ie,Nv,Nu,dq,GQ,k6]
  rw[if_pos (by simp;omega),k7]
 generalize sortI (Dl (0::ss.map (·.start)++ss.map (·.fin)))=ps at *
 generalize 0::ss.map (·.start)=q0 at *
 have lp:=mh (φ:=aj GL n) (μ:=μ) (tg:=.one 4) (b:=gv) (xs:=ps) (en:=D.int) (v:=.bl true) (σ:=[some (.int L),some (.int w),some (.tup (ss.map eSpan)),some (.lst (ps.map D.int)),none])
  (fun σ=>∃v4,σ=[some (.int L),some (.int w),some (.tup (ss.map eSpan)),some (.lst (ps.map D.int)),v4]) (fun p=>p<L∧¬(cov ss p:Int)=w) ⟨none,rfl⟩ (by
   rintro p hp σ ⟨v4,rfl⟩
   have hc:iq (aj GL n) .z (.one 1) gs gu [some (.int p),none] (ss.map eSpan,none) μ=.ok (.lst ((ss.filter fun s=>decide (s.start≤p∧p<s.fin)).map eSpan)) μ:=by
    rw[fm (g:=eSpan) (p:=fun s:Span=>decide (s.start≤p∧p<s.fin)) fun s _=>by
     by_cases h1:s.start≤p
     ·by_cases h2:p<s.fin
      ·simp! only[iy,gs,gu,vt,Bc,h1,h2,and_self,if_true]
      ·simp! only[iy,gs,gu,vt,Bc,h1,h2,and_false,if_false,AT]
     ·simp! only[iy,gs,gu,vt,h1,false_and,if_false,AT]]
    rw[k7]
   have hl:btD .len .z [.lst ((ss.filter fun s=>decide (s.start≤p∧p<s.fin)).map eSpan)] μ=.ok (.int (cov ss p)) μ:=by
    rw[bt_len ax,AF,←List.countP_eq_length_filter];rfl
   by_cases q1:p<L
   ·by_cases q2:(cov ss p:Int)=w
    ·exact⟨fun _=>⟨[some (.int L),some (.int w),some (.tup (ss.map eSpan)),some (.lst (ps.map D.int)),some (.int p)],by simp! only[fLp,gv,q1,hc,hl,q2],_,rfl⟩,fun z=>absurd q2 z.2⟩
    ·exact⟨fun z=>absurd ⟨q1,q2⟩ z,fun _=>by simp! only[fLp,gv,q1,hc,hl,q2]⟩
   ·exact⟨fun _=>⟨[some (.int L),some (.int w),some (.tup (ss.map eSpan)),some (.lst (ps.map D.int)),some (.int p)],by simp! only[fLp,gv,q1],_,rfl⟩,fun z=>absurd z.1 q1⟩)
 have key:Lit L w ss↔∀p∈ps,¬(p<L∧¬(cov ss p:Int)=w):=by
  refine⟨fun hw p hp q=>q.2 (hw p ?_ q.1),fun g=>Pn h ?_ fun t t0 t1=>?_⟩
  ·rcases(mp p).mp hp with rfl | ⟨s,hs,e | e⟩
   ·omega
   ·have:=(h s hs).start;omega
   ·have:=(h s hs).start;have:=(h s hs).run;omega
  ·exact CJ.mp fun z=>g 0 ((mp 0).mpr (.inl rfl)) ⟨hL,z⟩
  ·by_cases q:t∈ps
   ·exact .inr (CJ.mp fun z=>g t q ⟨t1,z⟩)
   ·exact .inl (M3 fun s hs=>⟨fun e=>q ((mp t).mpr (.inr ⟨s,hs,.inl e⟩)),fun e=>q ((mp t).mpr (.inr ⟨s,hs,.inr e⟩))⟩)
 have ml:mkL .z [D.int 0] μ=.ok (.lst [.int 0]) μ:=k7
 refine⟨fun hw=>?_,fun hw=>?_⟩
 ·obtain⟨σ',el,v4,rfl⟩:=lp.1 (key.mp hw)
  simp! only[D_law_dark,ml,c1,c2,a1,a2,bs,el]
 ·simp! only[D_law_dark,ml,c1,c2,a1,a2,bs,lp.2 fun z=>hw (key.mpr z)]
end
end Lr
namespace Lr
open Lp
open PySem
noncomputable def om (L:Nat) (a c:List Int):List Int:=(List.range L).map fun(k:Nat)=>a.getD k 0+c.getD k 0
noncomputable def E5 (b:Book) (i:Nat) (ss:List Span):Prop:=∀s∈ss,¬(i:Int)∈(b.lamps.map (·.away)).getD s.lamp.toNat []
noncomputable def M6 (L:Nat) (lv:List Int) (ss:List Span):Prop:=∀k∈List.range L,¬lv.getD k 0<ay ss k
noncomputable def E6 (b:Book) (lv:List Int):Prop:=∀k∈List.range b.lamps.length,¬(b.lamps.map (·.tank)).getD k 0<lv.getD k 0
open Classical in
noncomputable def vk (b:Book) (i:Nat) (lv:List Int) (ss:List Span) (d:Day):Option Str :=
 if ¬qu d.length b.lamps.length ss then some (Str.ofString "span")else if ¬E5 b i ss then some (Str.ofString "away")else if ¬M6 b.lamps.length lv ss then some (Str.ofString "oil")
 else if ¬Lit d.length d.wanted ss then some (Str.ofString "dark")else none
open Classical in
noncomputable def Kn (b:Book) (i:Nat) (H:Int×List Int) (t:Tn) (d:Day):Option Str :=
 if ¬(0≤t.taken∧t.taken≤d.boat)then some (Str.ofString "boat")else if ¬(0≤t.bought∧t.bought≤d.most)then some (Str.ofString "market")
 else if ¬((∀x∈t.poured,¬x<0)∧¬H.1+t.taken+t.bought<t.poured.sum)then some (Str.ofString "pour")else if ¬E6 b (om b.lamps.length H.2 t.poured)then some (Str.ofString "tank")
 else vk b i (om b.lamps.length H.2 t.poured) t.spans d
noncomputable def eW:Option Str→D
 | none=>.non
 | some w=>.str w
noncomputable def eL:Option Str→D
 | none=>.str (Str.ofString "")
 | some w=>.str w
theorem Ko (w:Option Str):(eW w).pure=true:=by cases w<;>rfl
theorem Sf (w:Option Str):(eL w).pure=true:=by cases w<;>rfl
theorem Kp {α:Type} {xs:List α} {p:α→Prop} [DecidablePred p] (h:∀x∈xs,¬p x):(xs.map fun x=>decide (p x)).any id=false:=by
 rw[GJ]
 intro y hy
 obtain⟨x,hx,rfl⟩:=AY.mp hy
 simp[h x hx]
theorem C9 {α:Type} {xs:List α} {p:α→Prop} [DecidablePred p] (h:¬∀x∈xs,¬p x):(xs.map fun x=>decide (p x)).any id=true:=by
 rw[DN]
 obtain⟨x,hx,q⟩:∃x∈xs,p x:=CC fun z=>h fun x hx q=>z ⟨x,hx,q⟩
 exact⟨true,AY.mpr ⟨x,hx,decide_eq_true q⟩,rfl⟩
theorem Kq {α:Type} {xs:List α} {p:α→Prop} [DecidablePred p] (h:∀x∈xs,¬p x):xs.filter (fun x=>decide (p x))=[]:=by
 rw[IU]
 intro x hx
 simp[h x hx]
theorem Dc {α:Type} {xs:List α} {p:α→Prop} [DecidablePred p] (h:¬∀x∈xs,¬p x):(0:Int)<((xs.filter fun x=>decide (p x)).length:Nat):=by
 obtain⟨x,hx,q⟩:∃x∈xs,p x:=CC fun z=>h fun x hx q=>z ⟨x,hx,q⟩
 have:0<(xs.filter fun x=>decide (p x)).length:=List.length_pos_of_mem (FO.mpr ⟨hx,decide_eq_true q⟩)
 omega
theorem Zi {β:Type} {L:Nat} {a c:List Int} {f:Int×Int→β} (ha:a.length=L) (hc:c.length=L):(a.zip c).map f=(List.range L).map fun(k:Nat)=>f (a.getD k 0,c.getD k 0):=by
 apply BV
 intro i
 by_cases hi:i<L
 ·have hz:(a.zip c)[i]? = some (a.getD i 0,c.getD i 0):=by
   rw[CW]
   exact⟨by simp[show i<a.length by omega],by simp[show i<c.length by omega]⟩
  simp[hz,hi]
 ·rw[AX (by simp;omega),AX (by simp;omega)]
section
variable {n : Nat} {μ ρ : Sto} {φ : Phi} {σ : Sl}
theorem Kr {b:Book} {L:Int} {s:Span} (g:Good L 0 b.lamps.length s):∃(K:Nat) (l:Lamp),(K:Int)=s.lamp∧b.lamps[K]? = some l∧l.away=(b.lamps.map (·.away)).getD s.lamp.toNat []:=by
 have gl:=g.lamp
 obtain⟨K,hK⟩:∃K:Nat,(K:Int)=s.lamp:=⟨s.lamp.toNat,by omega⟩
 have hK2:K<b.lamps.length:=by omega
 exact⟨K,b.lamps[K],hK,AB hK2,by rw[←hK,CD];simp[hK2]⟩
theorem Ks (hr:l6 μ) {b:Book} {i:Nat} {lv:List Int} {ss:List Span} {d:Day} (hd:b.days[i]? = some d) (hlv:lv.length=b.lamps.length) (hL:b.lamps.length≤8) (hs:ss.length≤31) (h1:1≤d.length) :
  aj GL (n+3) jf [de b,.int i,cy lv,.tup (ss.map eSpan)] μ=.ok (eW (vk b i lv ss d)) μ:=by
 rw[ak y6,run_eq rfl]
 have ln:btD .len .z [cy lv] μ=.ok (.int b.lamps.length) μ:=by rw[E3,hlv]
 unfold vk
 by_cases sp:qu d.length b.lamps.length ss
 ·rw[if_neg (not_not_intro sp)]
  have k1:=a8 (Bd (n:=n) hr (L:=d.length) (lamps:=b.lamps.length) sp.2 sp.1) rfl rfl hr
  have c1:=comp_map (m:=.z) (μ:=μ) (φ:=aj GL (n+2)) (tg:=.many [2,3,4]) (cs:=.nil) (elt:=i6) (σ0:=[some (de b),some (.int i),none,none,none]) (xs:=ss) (en:=eSpan) (g:=fun s=>D.bl (decide ((i:Int)∈(b.lamps.map (·.away)).getD s.lamp.toNat []))) (by
   intro s hs
   obtain⟨K,l,hK,hl,ea⟩:=Kr (sp.1 s hs)
   have kb:=a8 (Gc (n:=n+1) (μ:=μ) (b:=b) (k:=K) (l:=l) hl (i:Int)) rfl rfl hr
   have bt:fw (.many [2,3,4]) (eSpan s) [some (de b),some (.int i),none,none,none]=some [some (de b),some (.int i),some (.int K),some (.int s.start),some (.int s.fin)]:=by rw[hK];rfl
   rw[ea]at kb
   simp! only[iy,bt,i6,kb,Bool.not_not])
  rw[show(fun s:Span=>D.bl (decide ((i:Int)∈(b.lamps.map (·.away)).getD s.lamp.toNat [])))=D.bl∘(fun s:Span=>decide ((i:Int)∈(b.lamps.map (·.away)).getD s.lamp.toNat []))from rfl,←BB]at c1
  have b1:=bt_any (μ:=μ) (m:=.z) (ax (μ:=μ)) (gk (ss.map fun s=>decide ((i:Int)∈(b.lamps.map (·.away)).getD s.lamp.toNat [])))
  by_cases aw:E5 b i ss
  ·rw[if_neg (not_not_intro aw)]
   rw[Kp aw]at b1
   obtain⟨ρ1,et⟩:=xg (n:=n+1) (μ:=μ) b.lamps.length ss (by omega) (by omega)
   have kt:=ic et (mf _) hr
   have c2:=comp_map (m:=.z) (μ:=μ) (φ:=aj GL (n+2)) (tg:=.many [0,1]) (cs:=.nil) (elt:=i7) (σ0:=[none,none]) (xs:=((List.range b.lamps.length).map fun(k:Nat)=>ay ss k).zip lv) (en:=fun p=>D.tup [.int p.1,.int p.2]) (g:=fun p=>D.bl (decide (p.2<p.1))) (by
    rintro⟨x,y⟩ hp
    simp! only[iy,i7,og])
   have e2:(((List.range b.lamps.length).map fun(k:Nat)=>ay ss k).zip lv).map (fun p=>D.bl (decide (p.2<p.1)))=((List.range b.lamps.length).map fun(k:Nat)=>decide (lv.getD k 0<ay ss k)).map D.bl:=by
    rw[Zi (L:=b.lamps.length) (by simp) hlv,BB]
    refine DG fun k hk=>?_
    show D.bl (decide (lv.getD k 0<((List.range b.lamps.length).map fun(k:Nat)=>ay ss k).getD k 0))=_
    rw[vh (CI.mp hk)];rfl
   rw[e2]at c2
   have kz:su (cy ((List.range b.lamps.length).map fun(k:Nat)=>ay ss k)) (cy lv) μ=.ok (_,none) μ:=zj (f:=D.int) (g:=D.int)
   have b2:=bt_any (μ:=μ) (m:=.z) (ax (μ:=μ)) (gk ((List.range b.lamps.length).map fun(k:Nat)=>decide (lv.getD k 0<ay ss k)))
   by_cases ol:M6 b.lamps.length lv ss
   ·rw[if_neg (not_not_intro ol)]
    rw[Kp ol]at b2
    by_cases lt:Lit d.length d.wanted ss
    ·rw[if_neg (not_not_intro lt)]
     obtain⟨ρ2,ed⟩:=M4 (n:=n+1) (μ:=μ) (lo:=0) (hi:=b.lamps.length) (w:=d.wanted) sp.1 (by omega) (by omega) lt
     have kd:=ic ed rfl hr
     simp! only[D_night_fault,i9,cu hd,bw,ln,k1,c1,b1,kt,kz,c2,b2,kd,eW]
    ·rw[if_pos lt]
     obtain⟨ρ2,ed⟩:=M5 (n:=n+1) (μ:=μ) (lo:=0) (hi:=b.lamps.length) (w:=d.wanted) sp.1 (by omega) (by omega) lt
     have kd:=ic ed rfl hr
     simp! only[D_night_fault,i9,cu hd,bw,ln,k1,c1,b1,kt,kz,c2,b2,kd,eW]
   ·rw[if_pos ol]
    rw[C9 ol]at b2
    simp! only[D_night_fault,i9,cu hd,bw,ln,k1,c1,b1,kt,kz,c2,b2,eW]
  ·rw[if_pos aw]
   rw[C9 aw]at b1
   simp! only[D_night_fault,i9,cu hd,bw,ln,k1,c1,b1,eW]
 ·rw[if_pos sp]
  have k1:=a8 (zp (n:=n) hr sp) rfl rfl hr
  simp! only[D_night_fault,i9,cu hd,bw,ln,k1,eW]
theorem M7 {ps:List Int} (h:1≤ps.length):∃mn:Int,(mn<0↔¬∀x∈ps,¬x<0)∧btD .min1 .z [cy ps] μ=.ok (.int mn) μ:=by
 cases ps with
 | nil=>simp at h
 | cons x r =>
  refine⟨He x r,⟨fun q z=>?_,fun q=>CC fun z=>q fun y hy=>?_⟩,?_⟩
  ·rcases(uy r x).2.2 with e | e
   ·exact z x AQ (by omega)
   ·exact z _ (AJ _ e) q
  ·have a:=(uy r x).1
   rcases AM.mp hy with rfl | hy
   ·omega
   ·have:=(uy r x).2.1 y hy;omega
  ·simp only[btD,ie,Tt,Nu,cy,dq,GQ,k6]
theorem qw (L:Nat) (a c:List Int):(om L a c).length=L:=by simp[om]
theorem Sg (hr:l6 μ) {b:Book} {i:Nat} {H:Int×List Int} {t:Tn} {d:Day} (hd:b.days[i]? = some d) (hH:H.2.length=b.lamps.length) (hp:t.poured.length=b.lamps.length) (hL1:1≤b.lamps.length) (hL:b.lamps.length≤8) (hs:t.spans.length≤31) (h1:1≤d.length) :
  aj GL (n+4) nh [de b,.int i,au H,eTn t] μ=.ok (eW (Kn b i H t d)) μ:=by
 rw[ak Cv,run_eq rfl]
 have kn:=a8 (Ks (n:=n) (ss:=t.spans) hr hd (qw b.lamps.length H.2 t.poured) hL hs h1) (Ko _) rfl hr
 have kf:=a8 (Bi (n:=n+2) (μ:=μ) H.2 t.poured) (mf _) rfl hr
 rw[C7 hH hp,show((List.range b.lamps.length).map fun(k:Nat)=>H.2.getD k 0+t.poured.getD k 0)=om b.lamps.length H.2 t.poured from rfl]at kf
 obtain⟨mn,hmn,em⟩:=M7 (μ:=μ) (ps:=t.poured) (by omega)
 unfold Kn
 generalize hlv:om b.lamps.length H.2 t.poured=lv at *
 have hll:lv.length=b.lamps.length:=by rw[←hlv];exact qw _ _ _
 have c1:=comp_map (m:=.z) (μ:=μ) (φ:=aj GL (n+3)) (tg:=.many [0,1]) (cs:=.nil) (elt:=l5) (σ0:=[none,none]) (xs:=lv.zip b.lamps) (en:=fun p=>D.tup [.int p.1,i8 p.2]) (g:=fun p=>D.bl (decide (p.2.tank<p.1))) (by
  rintro⟨x,l⟩ _
  have il:∀ν:Sto,ixD (i8 l) (.int 0) ν=.ok (.int l.tank) ν:=fun _=>rfl
  simp! only[iy,l5,og,il])
 have e1:(lv.zip b.lamps).map (fun p=>D.bl (decide (p.2.tank<p.1)))=((List.range b.lamps.length).map fun(k:Nat)=>decide ((b.lamps.map (·.tank)).getD k 0<lv.getD k 0)).map D.bl:=by
  have z:=Zi (L:=b.lamps.length) (a:=lv) (c:=b.lamps.map (·.tank)) (f:=fun p=>D.bl (decide (p.2<p.1))) hll (by simp)
  rw[List.zip_map_right,BB]at z
  rw[BB]
  exact z
 rw[e1]at c1
 have kz:su (cy lv) (.tup (b.lamps.map i8)) μ=.ok (_,none) μ:=zj (f:=D.int) (g:=i8)
 have b1:=bt_any (μ:=μ) (m:=.z) (ax (μ:=μ)) (gk ((List.range b.lamps.length).map fun(k:Nat)=>decide ((b.lamps.map (·.tank)).getD k 0<lv.getD k 0)))
 by_cases q1:0≤t.taken∧t.taken≤d.boat
 ·rw[if_neg (not_not_intro q1)]
  by_cases q2:0≤t.bought∧t.bought≤d.most
  ·rw[if_neg (not_not_intro q2)]
   by_cases q3:∀x∈t.poured,¬x<0
   ·have nm:¬mn<0:=fun z=>hmn.mp z q3
    by_cases q4:H.1+t.taken+t.bought<t.poured.sum
    ·rw[if_pos fun z=>z.2 q4]
     simp! only[D_day_fault,i9,cu hd,bw,jt,ft,q1.1,q1.2,q2.1,q2.2,em,nm,sum_ints,q4,eW]
    ·rw[if_neg (not_not_intro ⟨q3,q4⟩)]
     by_cases q5:E6 b lv
     ·rw[if_neg (not_not_intro q5)]
      rw[Kp q5]at b1
      simp! only[D_day_fault,i9,cu hd,bw,jt,ft,q1.1,q1.2,q2.1,q2.2,em,nm,sum_ints,q4,kf,vq,kz,c1,b1,kn]
     ·rw[if_pos q5]
      rw[C9 q5]at b1
      simp! only[D_day_fault,i9,cu hd,bw,jt,ft,q1.1,q1.2,q2.1,q2.2,em,nm,sum_ints,q4,kf,vq,kz,c1,b1,eW]
   ·have nm:mn<0:=hmn.mpr q3
    rw[if_pos fun z=>q3 z.1]
    simp! only[D_day_fault,i9,cu hd,bw,jt,ft,q1.1,q1.2,q2.1,q2.2,em,nm,eW]
  ·rw[if_pos q2]
   by_cases z:0≤t.bought
   ·have z2:¬t.bought≤d.most:=fun y=>q2 ⟨z,y⟩
    simp! only[D_day_fault,i9,cu hd,bw,jt,ft,q1.1,q1.2,z,z2,eW]
   ·simp! only[D_day_fault,i9,cu hd,bw,jt,ft,q1.1,q1.2,z,eW]
 ·rw[if_pos q1]
  by_cases z:0≤t.taken
  ·have z2:¬t.taken≤d.boat:=fun y=>q1 ⟨z,y⟩
   simp! only[D_day_fault,i9,cu hd,bw,jt,ft,z,z2,eW]
  ·simp! only[D_day_fault,i9,cu hd,bw,jt,ft,z,eW]
end
end Lr
namespace Lr
open Lp
open PySem
theorem Kt (ss:List Span) (k:Int):((ss.filter fun s=>decide (s.lamp=k)).map fun s=>s.fin-s.start).sum=ay ss k:=by
 unfold ay
 induction ss with
 | nil=>rfl
 | cons s r ih =>
  by_cases h:s.lamp=k
  ·rw[List.filter_cons_of_pos (by simpa using h),AS,Db,AS,Db,ih,if_pos h]
  ·rw[List.filter_cons_of_neg (by simpa using h),AS,Db,ih,if_neg h,Int.zero_add]
section
variable {n : Nat} {μ ρ : Sto} {φ : Phi} {σ : Sl}
theorem xu {ns:List Int} {k:Int}:cpD .in_ (.int k) (cy ns) μ=.ok (.bl (decide (k∈ns))) μ:=by
 simp only[cpD,cy,gz,flat,vc,and_self,if_true,any_ints]
theorem M8 (hr:l6 μ) {b:Book} {i:Nat} {H:Int×List Int} {t:Tn} {d:Day} {T:D} (hT:dq μ T=some (H.2.map D.int)) (hd:b.days[i]? = some d) (hH:H.2.length=b.lamps.length) (hp:t.poured.length=b.lamps.length) (hL:b.lamps.length≤8) (hs:t.spans.length≤31) (h1:1≤d.length) :
  aj GL (n+2) oy [de b,.int i,.int H.1,T,eTn t] μ=.ok (eL (Kn b i H t d)) μ:=by
 rw[ak F9,run_eq rfl]
 unfold Kn vk
 have lT:btD .len .z [T] μ=.ok (.int b.lamps.length) μ:=by rw[bt_len hT,AF,hH]
 have ks0:kSeq (cy t.poured) μ=.ok (t.poured.map D.int,none) μ:=rfl
 have c0:iq (aj GL (n+1)) .z (.one 0) jh ji [none] (t.poured.map D.int,none) μ=.ok (.lst ((t.poured.filter fun x=>decide (x<0)).map D.int)) μ:=by
  rw[fm (g:=D.int) (p:=fun x:Int=>decide (x<0)) fun x _=>by
   by_cases h:x<0
   ·simp! only[iy,jh,ji,h,if_true]
   ·simp! only[iy,jh,ji,h,if_false,AT]]
  rw[k7]
 by_cases q1:0≤t.taken∧t.taken≤d.boat
 ·rw[if_neg (not_not_intro q1)]
  have a1:¬t.taken<0:=by omega
  have a2:¬d.boat<t.taken:=by omega
  by_cases q2:0≤t.bought∧t.bought≤d.most
  ·rw[if_neg (not_not_intro q2)]
   have a3:¬t.bought<0:=by omega
   have a4:¬d.most<t.bought:=by omega
   by_cases q3:∀x∈t.poured,¬x<0
   ·rw[Kq q3]at c0
    have l0:btD .len .z [.lst (([]:List Int).map D.int)] μ=.ok (.int 0) μ:=rfl
    have z0:¬(0:Int)<0:=by decide
    simp only[CU]at c0 l0
    by_cases q4:H.1+t.taken+t.bought<t.poured.sum
    ·rw[if_pos fun z=>z.2 q4]
     simp! only[D_law_word,i9,cu hd,bw,ft,a1,a2,a3,a4,ks0,c0,l0,z0,sum_ints,q4,eL]
    ·rw[if_neg (not_not_intro ⟨q3,q4⟩)]
     have c1:iq (aj GL (n+1)) .z (.one 2) .nil nk [some T,some (cy t.poured),none] ((List.range b.lamps.length).map fun(k:Nat)=>D.int k,none) μ=.ok (.lst ((om b.lamps.length H.2 t.poured).map D.int)) μ:=by
      refine qr (f:=fun k=>H.2.getD k 0+t.poured.getD k 0) fun k hk=>?_
      simp! only[iy,nk,o9 hT (show k<H.2.length by omega),o9 (x:=cy t.poured) (μ:=μ) rfl (show k<t.poured.length by omega)]
     generalize hlv:om b.lamps.length H.2 t.poured=lv at *
     have hll:lv.length=b.lamps.length:=by rw[←hlv];exact qw _ _ _
     have lf:btD .len .z [.lst (lv.map D.int)] μ=.ok (.int b.lamps.length) μ:=by rw[bt_len ax,AF,hll]
     have il:∀k,k<b.lamps.length→ixD (.lst (lv.map D.int)) (.int k) μ=.ok (.int (lv.getD k 0)) μ:=fun k hk=>o9 rfl (by omega)
     have kr:=du (μ:=μ) (show b.lamps.length≤1000000 by omega)
     have c2:iq (aj GL (n+1)) .z (.one 2) jk jl [some (.lst (lv.map D.int)),some (de b),none] ((List.range b.lamps.length).map fun(k:Nat)=>D.int k,none) μ=.ok (.lst (((List.range b.lamps.length).filter fun(k:Nat)=>decide ((b.lamps.map (·.tank)).getD k 0<lv.getD k 0)).map fun(k:Nat)=>D.int k)) μ:=by
      rw[fm (g:=fun(k:Nat)=>D.int k) (p:=fun(k:Nat)=>decide ((b.lamps.map (·.tank)).getD k 0<lv.getD k 0)) fun k hk=>by
       have hk':k<b.lamps.length:=CI.mp hk
       obtain⟨l,hl⟩:∃l,b.lamps[k]? = some l:=⟨_,AB hk'⟩
       have et:(b.lamps.map (·.tank)).getD k 0=l.tank:=by simp[hl]
       have i0:∀ν:Sto,ixD (i8 l) (.int 0) ν=.ok (.int l.tank) ν:=fun _=>rfl
       rw[et]
       by_cases h:l.tank<lv.getD k 0
       ·simp! only[iy,jk,jl,il k hk',vq,cu hl,i0,h,if_true]
       ·simp! only[iy,jk,jl,il k hk',vq,cu hl,i0,h,if_false,AT]]
      rw[k7]
     by_cases q5:E6 b lv
     ·rw[if_neg (not_not_intro q5)]
      rw[Kq q5,CU]at c2
      by_cases sp:qu d.length b.lamps.length t.spans
      ·rw[if_neg (not_not_intro sp)]
       have k1:=a8 ((vj (n:=n) (μ:=μ) (L:=d.length) (lamps:=b.lamps.length) (ss:=t.spans) (by omega)).1 sp) rfl rfl hr
       have c3:iq (aj GL (n+1)) .z (.one 2) jm jn [some (.int i),some (de b),none] (t.spans.map eSpan,none) μ=.ok (.lst ((t.spans.filter fun s=>decide ((i:Int)∈(b.lamps.map (·.away)).getD s.lamp.toNat [])).map eSpan)) μ:=by
        rw[fm (g:=eSpan) (p:=fun s:Span=>decide ((i:Int)∈(b.lamps.map (·.away)).getD s.lamp.toNat [])) fun s hs=>by
         obtain⟨K,l,hK,hl,ea⟩:=Kr (sp.1 s hs)
         have ix:ixD (.tup (b.lamps.map i8)) (.int s.lamp) μ=.ok (i8 l) μ:=by rw[←hK];exact cu hl
         have i2:∀ν:Sto,ixD (i8 l) (.int 2) ν=.ok (cy l.away) ν:=fun _=>rfl
         rw[←ea]
         by_cases h:(i:Int)∈l.away
         ·simp! only[iy,jm,jn,vq,sv,ix,i2,xu,h,if_true]
         ·simp! only[iy,jm,jn,vq,sv,ix,i2,xu,h,if_false,AT]]
        rw[k7]
       by_cases aw:E5 b i t.spans
       ·rw[if_neg (not_not_intro aw)]
        rw[Kq aw,CU]at c3
        have lp:=mh (φ:=aj GL (n+1)) (μ:=μ) (tg:=.one 15) (b:=jr) (xs:=List.range b.lamps.length) (en:=fun(k:Nat)=>D.int k) (v:=.str (Str.ofString "oil"))
         (σ:=[some (de b),some (.int i),some (.int H.1),some T,some (eTn t),some (.int d.boat),some (.int d.most),some (.int d.price),some (.int d.length),some (.int d.wanted),some (.int t.taken),some (.int t.bought),some (cy t.poured),some (.tup (t.spans.map eSpan)),some (.lst (lv.map D.int)),none])
         (fun σ=>∃v,σ=[some (de b),some (.int i),some (.int H.1),some T,some (eTn t),some (.int d.boat),some (.int d.most),some (.int d.price),some (.int d.length),some (.int d.wanted),some (.int t.taken),some (.int t.bought),some (cy t.poured),some (.tup (t.spans.map eSpan)),some (.lst (lv.map D.int)),v])
         (fun k=>lv.getD k 0<ay t.spans k) ⟨none,rfl⟩ (by
          rintro k hk σ ⟨v,rfl⟩
          have hk':k<b.lamps.length:=CI.mp hk
          have c4:iq (aj GL (n+1)) .z (.one 1) jo jq [some (.int k),none] (t.spans.map eSpan,none) μ=.ok (.lst (((t.spans.filter fun s=>decide (s.lamp=(k:Int))).map fun s=>s.fin-s.start).map D.int)) μ:=by
           rw[fm (g:=fun s:Span=>D.int (s.fin-s.start)) (p:=fun s:Span=>decide (s.lamp=(k:Int))) fun s _=>by
            by_cases q:s.lamp=(k:Int)
            ·simp! only[iy,jo,jq,sv,vt,Bc,q,if_true]
            ·simp! only[iy,jo,jq,sv,q,if_false,AT]]
           rw[k7,BB];rfl
          have b4:=bt_sum (μ:=μ) (m:=.z) (ax (μ:=μ)) (k6 ((t.spans.filter fun s=>decide (s.lamp=(k:Int))).map fun s=>s.fin-s.start))
          rw[Kt]at b4
          by_cases q:lv.getD k 0<ay t.spans k
          ·refine⟨fun z=>absurd q z,fun _=>?_⟩
           simp! only[fLp,jr,c4,b4,il k hk',q]
          ·refine⟨fun _=>⟨_,?_,some (.int k),rfl⟩,fun z=>absurd z q⟩
           simp! only[fLp,jr,c4,b4,il k hk',q])
        by_cases ol:M6 b.lamps.length lv t.spans
        ·rw[if_neg (not_not_intro ol)]
         obtain⟨σ',el,v,rfl⟩:=lp.1 ol
         have kd:=C8 (n:=n) (μ:=μ) (lo:=0) (hi:=b.lamps.length) (w:=d.wanted) sp.1 (by omega) hs
         by_cases lt:Lit d.length d.wanted t.spans
         ·rw[if_neg (not_not_intro lt)]
          simp! only[D_law_word,i9,cu hd,bw,ft,a1,a2,a3,a4,ks0,c0,l0,z0,sum_ints,q4,lT,kr,c1,lf,c2,k1,c3,el,a8 (kd.1 lt) rfl rfl hr,eL]
         ·rw[if_pos lt]
          simp! only[D_law_word,i9,cu hd,bw,ft,a1,a2,a3,a4,ks0,c0,l0,z0,sum_ints,q4,lT,kr,c1,lf,c2,k1,c3,el,a8 (kd.2 lt) rfl rfl hr,eL]
        ·rw[if_pos ol]
         simp! only[D_law_word,i9,cu hd,bw,ft,a1,a2,a3,a4,ks0,c0,l0,z0,sum_ints,q4,lT,kr,c1,lf,c2,k1,c3,lp.2 ol,eL]
       ·rw[if_pos aw]
        have l3:=bt_len (μ:=μ) (m:=.z) (ax (μ:=μ) (ds:=(t.spans.filter fun s=>decide ((i:Int)∈(b.lamps.map (·.away)).getD s.lamp.toNat [])).map eSpan))
        rw[AF]at l3
        simp! only[D_law_word,i9,cu hd,bw,ft,a1,a2,a3,a4,ks0,c0,l0,z0,sum_ints,q4,lT,kr,c1,lf,c2,k1,c3,l3,Dc aw,eL]
      ·rw[if_pos sp]
       have k1:=a8 ((vj (n:=n) (μ:=μ) (L:=d.length) (lamps:=b.lamps.length) (ss:=t.spans) (by omega)).2 sp) rfl rfl hr
       simp! only[D_law_word,i9,cu hd,bw,ft,a1,a2,a3,a4,ks0,c0,l0,z0,sum_ints,q4,lT,kr,c1,lf,c2,k1,eL]
     ·rw[if_pos q5]
      have l2:=bt_len (μ:=μ) (m:=.z) (ax (μ:=μ) (ds:=((List.range b.lamps.length).filter fun(k:Nat)=>decide ((b.lamps.map (·.tank)).getD k 0<lv.getD k 0)).map fun(k:Nat)=>D.int k))
      rw[AF]at l2
      simp! only[D_law_word,i9,cu hd,bw,ft,a1,a2,a3,a4,ks0,c0,l0,z0,sum_ints,q4,lT,kr,c1,lf,c2,l2,Dc q5,eL]
   ·rw[if_pos fun z=>q3 z.1]
    have l0:=bt_len (μ:=μ) (m:=.z) (ax (μ:=μ) (ds:=(t.poured.filter fun x=>decide (x<0)).map D.int))
    rw[AF]at l0
    simp! only[D_law_word,i9,cu hd,bw,ft,a1,a2,a3,a4,ks0,c0,l0,Dc q3,eL]
  ·rw[if_pos q2]
   by_cases z:t.bought<0
   ·simp! only[D_law_word,i9,cu hd,bw,ft,a1,a2,z,eL]
   ·have z2:d.most<t.bought:=CC fun y=>q2 ⟨by omega,by omega⟩
    simp! only[D_law_word,i9,cu hd,bw,ft,a1,a2,z,z2,eL]
 ·rw[if_pos q1]
  by_cases z:t.taken<0
  ·simp! only[D_law_word,i9,cu hd,bw,ft,z,eL]
  ·have z2:d.boat<t.taken:=CC fun y=>q1 ⟨by omega,by omega⟩
   simp! only[D_law_word,i9,cu hd,bw,ft,z,z2,eL]
end
end Lr
namespace Lr
open Lp
open PySem
structure Shape (b:Book) (rs:List Tn):Prop where
 lamps:1≤b.lamps.length∧b.lamps.length≤8
 same:rs.length=b.days.length
 few:rs.length≤16
 turn:∀t∈rs,t.poured.length=b.lamps.length∧t.spans.length≤31
 len:∀d∈b.days,1≤d.length
noncomputable def wordAt (b:Book) (rs:List Tn) (i:Nat):Option Str:=match rs[i]?,b.days[i]? with
 | some t,some d=>Kn b i (held b rs i) t d
 | _,_=>none
theorem oo {b:Book} {rs:List Tn} {i:Nat} {t:Tn} {d:Day} (h1:rs[i]? = some t) (h2:b.days[i]? = some d):wordAt b rs i=Kn b i (held b rs i) t d:=by rw[wordAt,h1,h2]
theorem Sh {b:Book} {i:Nat} {H:Int×List Int} {t:Tn} {d:Day} {w:Str} (h:Kn b i H t d=some w):¬w=Str.ofString "":=by
 unfold Kn vk at h
 repeat' split at h
 all_goals first
  | (cases h;done)
  | (rw[←BM h];decide)
section
variable {n : Nat} {μ ρ : Sto} {φ : Phi} {σ : Sl}
theorem x5 {α:Type} {tg:Tg} {b:Sms} {en:α→D} {xs:List α} (I:Nat→Sl→Sto→Prop) (W:Nat→Prop) (R:Nat→D→Sto→Prop) (h0:I 0 σ μ)
  (st:∀(k:Nat) a σ μ,xs[k]? = some a→I k σ μ→(¬W k→∃σ' μ',fLp φ tg b (en a) σ μ=.ok (.nx σ') μ'∧I (k+1) σ' μ')∧(W k→∃v μ',fLp φ tg b (en a) σ μ=.ok (.rt v) μ'∧R k v μ')) :
  ((∀k,k<xs.length→¬W k)→∃σ' μ',qj φ tg b σ (xs.map en,none) μ=.ok (.nx σ') μ'∧I xs.length σ' μ') ∧
  (∀k,k<xs.length→W k→(∀j,j<k→¬W j)→∃v μ',qj φ tg b σ (xs.map en,none) μ=.ok (.rt v) μ'∧R k v μ'):=by
 refine⟨fun h=>ja I h0 fun k a σ μ e i=>(st k a σ μ e i).1 (h k (AG.mp e).1),fun k hk hw hn=>?_⟩
 obtain⟨fl,μ',e,v,rfl,r⟩:=u7 (g:=none) (f:=fLp φ tg b) (ds:=xs.map en) (σ:=σ) (μ:=μ) (fun j σ μ=>j≤k∧I j σ μ) (fun fl μ'=>∃v,fl=.rt v∧R k v μ') 0 (fun _ _ _ _=>trivial) ⟨CQ _,h0⟩ (by
  rintro j d σ μ e ⟨hj,i⟩
  rw[Nat.zero_add]at hj i ⊢
  rw[BA]at e
  cases ex:xs[j]? with
  | none=>rw[ex]at e;cases e
  | some a =>
   rw[ex]at e
   cases e
   have s:=st j a σ μ ex i
   by_cases q:j=k
   ·subst q
    obtain⟨v,μ',e,r⟩:=s.2 hw
    exact⟨.rt v,μ',e,v,rfl,r⟩
   ·obtain⟨σ',μ',e,i'⟩:=s.1 (hn j (by omega))
    exact⟨.nx σ',μ',e,by omega,i'⟩) (by
  rintro σ μ ⟨h,_⟩
  rw[Nat.zero_add,AF]at h
  omega)
 exact⟨v,μ',e,r⟩
theorem vm (hr:l6 μ) {b:Book} {rs:List Tn} (S:Shape b rs) :
  ((∀k,k<rs.length→wordAt b rs k=none)→aj GL (n+5) rn [de b,.tup (rs.map eTn)] μ=.ok .non μ) ∧
  (∀k w,k<rs.length→wordAt b rs k=some w→(∀j,j<k→wordAt b rs j=none)→aj GL (n+5) rn [de b,.tup (rs.map eTn)] μ=.ok (.tup [.int k,.str w]) μ):=by
 rw[ak Rt,run_eq rfl]
 have k0:=a8 (E2 (n:=n+3) (μ:=μ) b) (ir _) rfl hr
 have ke:kEnum (.tup (rs.map eTn)) μ=.ok (((List.range rs.length).zip rs).map (fun p:Nat×Tn=>D.tup [.int p.1,eTn p.2]),none) μ:=by
  simp only[kEnum,dk,AF]
  congr 2
  apply BV
  intro i
  by_cases hi:i<rs.length
  ·simp[CW,hi]
  ·simp[hi]
 have lp:=x5 (φ:=aj GL (n+4)) (μ:=μ) (tg:=.many [3,4]) (b:=oz) (xs:=(List.range rs.length).zip rs) (en:=fun p:Nat×Tn=>D.tup [.int p.1,eTn p.2])
  (σ:=[some (de b),some (.tup (rs.map eTn)),some (au (held b rs 0)),none,none,none])
  (fun j σ μ'=>μ'=μ∧∃v3 v4 v5,σ=[some (de b),some (.tup (rs.map eTn)),some (au (held b rs j)),v3,v4,v5]) (fun k=>¬wordAt b rs k=none) (fun k v μ'=>μ'=μ∧∃w,wordAt b rs k=some w∧v=.tup [.int k,.str w]) ⟨rfl,none,none,none,rfl⟩ (by
   rintro j ⟨k,t⟩ σ μ' hj ⟨rfl,v3,v4,v5,rfl⟩
   rw[CW]at hj
   obtain⟨h1,h2⟩:=hj
   obtain⟨rfl,hk3⟩:=xj h1
   have h2:rs[k]? = some t:=h2
   have hd:b.days[k]? = some (b.days[k]'(by rw[←S.same];exact hk3)):=AB _
   have ht:=S.turn t (BR h2)
   have kd:=a8 (Sg (n:=n) hr hd (zo b rs k) ht.1 S.lamps.1 S.lamps.2 ht.2 (S.len _ (BR hd))) (Ko _) rfl hr
   have kb:=a8 (Bj (n:=n+2) hr b (zo b rs k) ht.1 S.lamps.2 (by omega)) (ir _) rfl hr
   rw[←vi b rs h2]at kb
   rw[←oo h2 hd]at kd
   refine⟨fun q=>?_,fun q=>?_⟩
   ·rw[CJ.mp q,eW]at kd
    have nn:cpD .isnot .non .non μ'=.ok (.bl false) μ':=rfl
    refine⟨_,μ',?_,rfl,some (.int k),some (eTn t),some .non,rfl⟩
    simp! only[fLp,oz,og,kd,nn,kb]
   ·obtain⟨w,hw⟩:=HS.mp q
    rw[hw,eW]at kd
    have nn:cpD .isnot (.str w) .non μ'=.ok (.bl true) μ':=rfl
    refine⟨_,μ',?_,rfl,w,hw,rfl⟩
    simp! only[fLp,oz,og,kd,nn])
 have e0:au (b.oil,b.lamps.map (·.oil))=au (held b rs 0):=rfl
 rw[e0]at k0
 have ll:((List.range rs.length).zip rs).length=rs.length:=by simp
 rw[ll]at lp
 refine⟨fun h=>?_,fun k w hk hw hn=>?_⟩
 ·obtain⟨σ',μ',e,rfl,v3,v4,v5,rfl⟩:=lp.1 fun k hk=>not_not_intro (h k hk)
  simp! only[D_fault,k0,ke,e]
 ·obtain⟨v,μ',e,rfl,w',hw',rfl⟩:=lp.2 k hk (by rw[hw];simp) fun j hj=>not_not_intro (hn j hj)
  rw[hw]at hw'
  cases hw'
  simp! only[D_fault,k0,ke,e]
theorem Ku (hr:l6 μ) {b:Book} {rs:List Tn} (S:Shape b rs) :
  ((∀k,k<rs.length→wordAt b rs k=none)→aj GL (n+6) u4 [de b,.tup (rs.map eTn)] μ=.ok (.bl true) μ) ∧
  (∀k w,k<rs.length→wordAt b rs k=some w→(∀j,j<k→wordAt b rs j=none)→aj GL (n+6) u4 [de b,.tup (rs.map eTn)] μ=.ok (.bl false) μ):=by
 rw[ak Ru,run_eq rfl]
 refine⟨fun h=>?_,fun k w hk hw hn=>?_⟩
 ·have nn:cpD .is .non .non μ=.ok (.bl true) μ:=rfl
  simp! only[D_keeps,a8 ((vm (n:=n) hr S).1 h) rfl rfl hr,nn]
 ·have nn:cpD .is (.tup [.int k,.str w]) .non μ=.ok (.bl false) μ:=rfl
  simp! only[D_keeps,a8 ((vm (n:=n) hr S).2 k w hk hw hn) rfl rfl hr,nn]
theorem M9 (hr:l6 μ) (hρ:ρ.all noR=true):l6 (μ++ρ):=by
 unfold l6 at hr ⊢
 rw[AO]at hr ⊢
 intro o ho
 rcases DH.mp ho with h | h
 ·have:=hr o h
  cases o with
  | r xs =>
   simp only[jz,AO]at this ⊢
   exact fun x hx=>t8 (by simp) 8 x (this x hx)
  | _=>rfl
 ·exact w4 _ o (AO.mp hρ o h)
theorem Kv {xs:List Int} {k:Nat} {v:Int} (hk:k<xs.length):Bz (.loc μ.length) (.int k) (.int v) (μ++[.l (xs.map D.int)])=.ok () (μ++[.l ((xs.set k v).map D.int)]):=by
 have e:ixN (xs.map D.int).length (k:Int)=some k:=Pl (by simpa using hk)
 simp only[Bz,g6,jx,e,fits,tu,if_true,putL,t6,Res.bo,List.map_set]
theorem We {k:Nat} {ds:List D} {d:D} (h:μ[k]? = some (.l ds)) (hd:d.pure=true) (hl:ds.length<1000000):mtD .append (.loc k) [d] μ=.ok .non (μ.set k (.l (ds++[d]))):=by
 have:ds.length<lim:=by unfold lim;omega
 simp only[mtD,yc,h,jx,mtL,ie,fits,hd,this,and_self,if_true,putL]
theorem Yi {k:Nat} {ds:List D} {es:Exs} (h:μ[k]? = some (.l ds)):kM φ .append es σ (.loc k) μ=(iu φ es σ μ).bind (mtD .append (.loc k)):=Cz (by simp only[jc,Lp.listOf,h];rfl)
noncomputable def vy (L:Nat) (lv:List Int) (ss:List Span):List Int:=(List.range L).map fun(k:Nat)=>lv.getD k 0-ay ss k
theorem Kw {L:Nat} {lv:List Int} {ss:List Span} {s:Span} {K:Nat} (hK:(K:Int)=s.lamp) (hL:K<L):(vy L lv ss).set K ((vy L lv ss).getD K 0-(s.fin-s.start))=vy L lv (ss++[s]):=by
 apply BV
 intro i
 by_cases hi:i<L
 ·by_cases h:i=K
  ·subst h
   simp only[vy,xm,List.getElem?_set_self',vh hL]
   simp[hi,hK]
   omega
  ·have h':¬s.lamp=(i:Int):=by omega
   rw[CK (fun z=>h z.symm)]
   simp[vy,xm,hi,h']
 ·rw[AX (by simp[vy];omega),AX (by simp[vy];omega)]
theorem Na (L:Nat) (lv:List Int) (h:lv.length=L):vy L lv []=lv:=by
 apply BV
 intro i
 by_cases hi:i<L
 ·simp[vy,ay,hi,h]
 ·rw[AX (by simp[vy];omega),AX (by omega)]
end
end Lr
namespace Lr
open Lp
open PySem
theorem Kx {b:Book} {i:Nat} {H:Int×List Int} {t:Tn} {d:Day} (h:Kn b i H t d=none):qu d.length b.lamps.length t.spans:=by
 refine CC fun z=>?_
 unfold Kn vk at h
 rw[if_pos z]at h
 repeat' split at h
 all_goals cases h
theorem Kz (st:Int) (L:Nat) (H:Int×List Int) (t:Tn):(d6 st L H t).2=vy L (om L H.2 t.poured) t.spans:=by
 unfold d6 vy om
 refine DG fun k hk=>?_
 rw[vh (CI.mp hk)]
section
variable {n : Nat} {μ ρ : Sto} {φ : Phi} {σ : Sl}
theorem Nc (hr:l6 μ) {b:Book} {rs:List Tn} (S:Shape b rs) :
  ((∀k,k<rs.length→wordAt b rs k=none)→∃ρ,aj GL (n+3) ik [de b,.tup (rs.map eTn)] μ=.ok (.tup [.non,.lst ((evs b rs).map au)]) (μ++ρ)) ∧
  (∀k w,k<rs.length→wordAt b rs k=some w→(∀j,j<k→wordAt b rs j=none)→∃(hs:List (Int×List Int)) (ρ:Sto),aj GL (n+3) ik [de b,.tup (rs.map eTn)] μ=.ok (.tup [.tup [.int k,.str w],.lst (hs.map au)]) (μ++ρ)):=by
 rw[ak A4,run_eq rfl]
 have c0:=comp_map (m:=.l) (μ:=μ) (φ:=aj GL (n+2)) (tg:=.one 0) (cs:=.nil) (elt:=ko) (σ0:=[none]) (xs:=b.lamps) (en:=i8) (g:=fun l=>D.int l.oil) (by
  intro l _
  have i1:∀ν:Sto,ixD (i8 l) (.int 1) ν=.ok (.int l.oil) ν:=fun _=>rfl
  simp! only[iy,ko,i1])
 rw[show b.lamps.map (fun l=>D.int l.oil)=(b.lamps.map (·.oil)).map D.int by rw[BB];rfl,J6 (C5 _)]at c0
 have hν:l6 (μ++[O.l ((b.lamps.map (·.oil)).map D.int)]):=w8 hr _
 have hq0:∀x:O,(μ++[O.l ((b.lamps.map (·.oil)).map D.int)]++[x])[μ.length]? = some (.l ((held b rs 0).2.map D.int)):=fun x=>by simp[held]
 have m1:mkL .l [] (μ++[O.l ((b.lamps.map (·.oil)).map D.int)])=.ok (.loc (μ++[O.l ((b.lamps.map (·.oil)).map D.int)]).length) (μ++[O.l ((b.lamps.map (·.oil)).map D.int)]++[.l []]):=J6 rfl
 have e0:∀ρ:Sto,∃ρ':Sto,μ++[O.l ((b.lamps.map (·.oil)).map D.int)]++ρ=μ++ρ':=fun ρ=>⟨_,FH _ _ _⟩
 generalize μ++[O.l ((b.lamps.map (·.oil)).map D.int)]=ν at *
 have lp:=x5 (φ:=aj GL (n+2)) (μ:=ν++[.l []]) (tg:=.one 5) (b:=gy) (xs:=List.range rs.length) (en:=fun(k:Nat)=>D.int k)
  (σ:=[some (de b),some (.tup (rs.map eTn)),some (.int b.oil),some (.loc μ.length),some (.loc ν.length),none,none,none,none,none,none,none,none,none])
  (fun j σ μ'=>∃(ρ:Sto) (q:Nat) (v:Nat→Option D),ρ.all noR=true∧(∀x:O,(ν++x::ρ)[q]? = some (.l ((held b rs j).2.map D.int)))∧μ'=ν++O.l (((List.range j).map fun i=>held b rs (i+1)).map au)::ρ ∧
   σ=[some (de b),some (.tup (rs.map eTn)),some (.int (held b rs j).1),some (.loc q),some (.loc ν.length),v 5,v 6,v 7,v 8,v 9,v 10,v 11,v 12,v 13])
  (fun k=>¬wordAt b rs k=none) (fun k v μ'=>∃(w:Str) (hs:List (Int×List Int)) (ρ:Sto),wordAt b rs k=some w∧v=.tup [.tup [.int k,.str w],.lst (hs.map au)]∧μ'=ν++ρ)
  ⟨[],μ.length,fun _=>none,rfl,hq0,rfl,rfl⟩ (by
   rintro j k σ μ' hj ⟨ρ,q,v,hρ,hq,rfl,rfl⟩
   obtain⟨rfl,hk⟩:=xj hj
   have h2:rs[k]? = some rs[k]:=AB hk
   obtain⟨d,hd⟩:∃d,b.days[k]? = some d:=⟨_,AB (by rw[←S.same];exact hk)⟩
   generalize rs[k]=t at *
   have ht:=S.turn t (BR h2)
   have h1:=S.len _ (BR hd)
   have H:=zo b rs k
   have hx:=hq (.l (((List.range k).map fun i=>held b rs (i+1)).map au))
   have hS:l6 (ν++O.l (((List.range k).map fun i=>held b rs (i+1)).map au)::ρ):=M9 hν (by rw[BD,hρ];rfl)
   have hT:dq (ν++O.l (((List.range k).map fun i=>held b rs (i+1)).map au)::ρ) (.loc q)=some ((held b rs k).2.map D.int):=by simp only[dq,hx]
   have kw:=a8 (M8 (n:=n) hS hT hd H ht.1 S.lamps.2 ht.2 h1) (Sf _) rfl hS
   rw[←oo h2 hd]at kw
   have hh:(ν++O.l (((List.range k).map fun i=>held b rs (i+1)).map au)::ρ)[ν.length]? = some (.l (((List.range k).map fun i=>held b rs (i+1)).map au)):=by simp
   have hsl:∀o:O,(ν++O.l (((List.range k).map fun i=>held b rs (i+1)).map au)::ρ).set ν.length o=ν++o::ρ:=fun o=>by simp
   have hql:∀y:O,(ν++O.l (((List.range k).map fun i=>held b rs (i+1)).map au)::ρ++[y]).set ν.length=fun o=>ν++o::(ρ++[y]):=fun y=>by funext o;simp
   have hhl:∀y:O,(ν++O.l (((List.range k).map fun i=>held b rs (i+1)).map au)::ρ++[y])[ν.length]? = some (.l (((List.range k).map fun i=>held b rs (i+1)).map au)):=fun y=>by simp
   have hnw:∀x y:O,(ν++x::(ρ++[y]))[(ν++O.l (((List.range k).map fun i=>held b rs (i+1)).map au)::ρ).length]? = some y:=fun x y=>by
    rw[show ν++x::(ρ++[y])=(ν++x::ρ)++[y]by simp,show(ν++O.l (((List.range k).map fun i=>held b rs (i+1)).map au)::ρ).length=(ν++x::ρ).length by simp]
    exact g6
   generalize ehs:(List.range k).map (fun i=>held b rs (i+1))=hs at *
   refine⟨fun z=>?_,fun z=>?_⟩
   ·have hw:=CJ.mp z
    have sp:=Kx (by rw[←oo h2 hd];exact hw)
    rw[hw,eL]at kw
    have ne0:cpD .ne (.str (Str.ofString "")) (.str (Str.ofString "")) (ν++O.l (hs.map au)::ρ)=.ok (.bl false) (ν++O.l (hs.map au)::ρ):=by rw[Mj rfl rfl];simp[deq]
    generalize eN:ν++O.l (hs.map au)::ρ=N at *
    have lT:btD .len .z [.loc q] N=.ok (.int b.lamps.length) N:=by rw[bt_len hT,AF,H]
    generalize hHH:held b rs k=HH at *
    have c1:=comp_map (m:=.l) (μ:=N) (φ:=aj GL (n+2)) (tg:=.one 2) (cs:=.nil) (elt:=ku) (σ0:=[some (.loc q),some (cy t.poured),none]) (xs:=List.range b.lamps.length) (en:=fun(k:Nat)=>D.int k) (g:=fun k=>D.int (HH.2.getD k 0+t.poured.getD k 0)) (by
     intro j hj
     have hj':j<b.lamps.length:=CI.mp hj
     simp! only[iy,ku,o9 hT (show j<HH.2.length by omega),o9 (x:=cy t.poured) (μ:=N) rfl (show j<t.poured.length by omega)])
    rw[show(List.range b.lamps.length).map (fun k=>D.int (HH.2.getD k 0+t.poured.getD k 0))=(om b.lamps.length HH.2 t.poured).map D.int by rw[om,BB];rfl,J6 (C5 _)]at c1
    have hll:=qw b.lamps.length HH.2 t.poured
    have hst:=Kz b.store b.lamps.length HH t
    have hst1:(d6 b.store b.lamps.length HH t).1=min b.store (HH.1+t.taken+t.bought-t.poured.sum):=Int.min_comm _ _
    generalize om b.lamps.length HH.2 t.poured=lv at *
    obtain⟨σ2,μ2,e2,rfl,a,b',c',rfl⟩:=ja (φ:=aj GL (n+2)) (μ:=N++[.l (lv.map D.int)]) (tg:=.many [11,12,13]) (b:=ky) (xs:=t.spans) (en:=eSpan)
     (σ:=[some (de b),some (.tup (rs.map eTn)),some (.int (min b.store (HH.1+t.taken+t.bought-t.poured.sum))),some (.loc N.length),some (.loc ν.length),some (.int k),some (.str (Str.ofString "")),some (.int t.taken),some (.int t.bought),some (cy t.poured),some (.tup (t.spans.map eSpan)),v 11,v 12,v 13])
     (fun j σ μ'=>μ'=N++[.l ((vy b.lamps.length lv (t.spans.take j)).map D.int)]∧∃a b' c',σ=[some (de b),some (.tup (rs.map eTn)),some (.int (min b.store (HH.1+t.taken+t.bought-t.poured.sum))),some (.loc N.length),some (.loc ν.length),some (.int k),some (.str (Str.ofString "")),some (.int t.taken),some (.int t.bought),some (cy t.poured),some (.tup (t.spans.map eSpan)),a,b',c'])
     ⟨by rw[List.take_zero,Na _ _ hll],_,_,_,rfl⟩ (by
      rintro j s σ μ' hs ⟨rfl,a,b',c',rfl⟩
      have g:=(sp.1 s (BR hs)).lamp
      obtain⟨K,hK⟩:∃K:Nat,(K:Int)=s.lamp:=⟨s.lamp.toNat,by omega⟩
      have hK2:K<(vy b.lamps.length lv (t.spans.take j)).length:=by simp[vy];omega
      have ub:∀σ:Sl,fw (.many [11,12,13]) (eSpan s) σ=some (((σ.set 11 (some (.int s.lamp))).set 12 (some (.int s.start))).set 13 (some (.int s.fin))):=fun _=>rfl
      have i1:ixD (.loc N.length) (.int s.lamp) (N++[.l ((vy b.lamps.length lv (t.spans.take j)).map D.int)])=.ok (.int ((vy b.lamps.length lv (t.spans.take j)).getD K 0)) (N++[.l ((vy b.lamps.length lv (t.spans.take j)).map D.int)]):=by
       rw[←hK];exact o9 Eg hK2
      have i2:Bz (.loc N.length) (.int s.lamp) (.int ((vy b.lamps.length lv (t.spans.take j)).getD K 0-(s.fin-s.start))) (N++[.l ((vy b.lamps.length lv (t.spans.take j)).map D.int)])=.ok () (N++[.l ((vy b.lamps.length lv (t.spans.take (j+1))).map D.int)]):=by
       have et:t.spans.take (j+1)=t.spans.take j++[s]:=by rw[DF,hs];rfl
       rw[et,←Kw hK (by omega),←hK]
       exact Kv hK2
      refine⟨_,_,?_,rfl,some (.int s.lamp),some (.int s.start),some (.int s.fin),rfl⟩
      simp! only[fLp,ub,ky,i1,i2])
    rw[BX (AI _),←hst]at e2
    have e3:=vi b rs h2
    have hnx:held b rs (k+1)=d6 b.store b.lamps.length HH t:=by rw[e3,hHH]
    have ap:=We (μ:=N++[.l ((d6 b.store b.lamps.length HH t).2.map D.int)]) (d:=au (d6 b.store b.lamps.length HH t)) (hhl _) (ir _) (by rw[AF,←ehs,AF,DE];have:=S.few;omega)
    rw[hql]at ap
    have ap':mtD .append (.loc ν.length) [.tup [.int (min b.store (HH.1+t.taken+t.bought-t.poured.sum)),.tup ((d6 b.store b.lamps.length HH t).2.map D.int)]] (N++[.l ((d6 b.store b.lamps.length HH t).2.map D.int)])=.ok .non (ν++O.l (hs.map au++[au (d6 b.store b.lamps.length HH t)])::(ρ++[.l ((d6 b.store b.lamps.length HH t).2.map D.int)])):=by
     rw[←hst1];exact ap
    have km:∀(es:Exs) (σ:Sl),kM (aj GL (n+2)) .append es σ (.loc ν.length) (N++[.l ((d6 b.store b.lamps.length HH t).2.map D.int)])=_:=fun es σ=>Yi (hhl _)
    have i0:∀μ:Sto,ixD (de b) (.int 0) μ=.ok (.int b.store) μ:=fun _=>rfl
    have bt:=bt_tuple (m:=.z) (Eg (μ:=N) (ds:=(d6 b.store b.lamps.length HH t).2.map D.int))
    refine⟨[some (de b),some (.tup (rs.map eTn)),some (.int (min b.store (HH.1+t.taken+t.bought-t.poured.sum))),some (.loc N.length),some (.loc ν.length),some (.int k),some (.str (Str.ofString "")),some (.int t.taken),some (.int t.bought),some (cy t.poured),some (.tup (t.spans.map eSpan)),a,b',c'],ν++O.l (hs.map au++[au (d6 b.store b.lamps.length HH t)])::(ρ++[.l ((d6 b.store b.lamps.length HH t).2.map D.int)]),?_,ρ++[.l ((d6 b.store b.lamps.length HH t).2.map D.int)],N.length,fun i=>[none,none,none,none,none,some (.int k),some (.str (Str.ofString "")),some (.int t.taken),some (.int t.bought),some (cy t.poured),some (.tup (t.spans.map eSpan)),a,b',c'].getD i none,Sa hρ _,?_,?_,?_⟩
    ·simp! only[fLp,gy,cu h2,kw,ne0,ft,i0,sum_ints,lT,du (show b.lamps.length≤1000000 by have:=S.lamps;omega),c1,e2,km,bt,ap']
    ·intro x;rw[hnx];exact hnw x _
    ·rw[List.range_succ,BW,BW,ehs,←hnx];rfl
    ·rw[hnx,hst1];rfl
   ·obtain⟨w,hw⟩:=HS.mp z
    rw[hw,eL]at kw
    have ne1:cpD .ne (.str w) (.str (Str.ofString "")) (ν++O.l (hs.map au)::ρ)=.ok (.bl true) (ν++O.l (hs.map au)::ρ):=by
     have:=Sh (by rw[←oo h2 hd];exact hw)
     rw[Mj rfl rfl];simp[deq,this]
    have fz:evE (aj GL (n+2)) (.frz 4) [some (de b),some (.tup (rs.map eTn)),some (.int (held b rs k).1),some (.loc q),some (.loc ν.length),some (.int k),some (.str w),v 7,v 8,v 9,v 10,v 11,v 12,v 13] (ν++O.l (hs.map au)::ρ)=.ok (.lst (hs.map au)) (ν++.dead::ρ):=by
     rw[Wa rfl hh,hsl]
    refine⟨_,_,?_,w,hs,.dead::ρ,hw,rfl,rfl⟩
    simp! only[fLp,gy,cu h2,kw,ne1,fz])
 rw[DE]at lp
 refine⟨fun h=>?_,fun k w hk hw hn=>?_⟩
 ·obtain⟨σ',μ',e,ρ,q,v,hρ,hq,rfl,rfl⟩:=lp.1 fun k hk=>not_not_intro (h k hk)
  have hh:(ν++O.l (((List.range rs.length).map fun i=>held b rs (i+1)).map au)::ρ)[ν.length]? = some (.l (((List.range rs.length).map fun i=>held b rs (i+1)).map au)):=by simp
  have fz:evE (aj GL (n+2)) (.frz 4) [some (de b),some (.tup (rs.map eTn)),some (.int (held b rs rs.length).1),some (.loc q),some (.loc ν.length),v 5,v 6,v 7,v 8,v 9,v 10,v 11,v 12,v 13] (ν++O.l (((List.range rs.length).map fun i=>held b rs (i+1)).map au)::ρ)=.ok (.lst ((evs b rs).map au)) (ν++.dead::ρ):=by
   rw[Wa rfl hh];simp[evs]
  obtain⟨ρ',er⟩:=e0 (.dead::ρ)
  refine⟨ρ',?_⟩
  rw[←er]
  have i1:ixD (de b) (.int 1) μ=.ok (.int b.oil) μ:=rfl
  simp! only[D_law_walk_2,i1,vq,c0,m1,bt_len gz,AF,du (show rs.length≤1000000 by have:=S.few;omega),e,fz]
 ·obtain⟨v,μ',e,w',hs,ρ,hw',rfl,rfl⟩:=lp.2 k hk (by rw[hw];simp) fun j hj=>not_not_intro (hn j hj)
  rw[hw]at hw'
  cases hw'
  obtain⟨ρ',er⟩:=e0 ρ
  refine⟨hs,ρ',?_⟩
  rw[←er]
  have i1:ixD (de b) (.int 1) μ=.ok (.int b.oil) μ:=rfl
  simp! only[D_law_walk_2,i1,vq,c0,m1,bt_len gz,AF,du (show rs.length≤1000000 by have:=S.few;omega),e]
end
end Lr
namespace Lr
open Lp
open PySem
theorem Gm {b:Book} {rs:List Tn} (hk:Kept b rs):Shape b rs∧∀k,k<rs.length→wordAt b rs k=none:=by
 have day:∀(i:Nat) (h:i<rs.length),∃d,b.days[i]? = some d∧Zg b i (held b rs i) rs[i] d:=fun i h=>by
  have h2:i<b.days.length:=by rw[←hk.same];exact h
  exact⟨b.days[i],AB h2,hk.day i _ _ (AB h) (AB h2)⟩
 refine⟨⟨hk.lamps,hk.same,hk.few,fun t ht=>?_,fun d hd=>?_⟩,fun k h=>?_⟩
 ·obtain⟨i,hi,rfl⟩:=BY.mp ht
  obtain⟨d,_,D⟩:=day i hi
  exact⟨D.pl,Do D.few (by decide)⟩
 ·obtain⟨i,hi,rfl⟩:=BY.mp hd
  obtain⟨d,e,D⟩:=day i (by rw[hk.same];exact hi)
  rw[AB hi]at e
  cases e
  exact D.len
 ·obtain⟨d,e,D⟩:=day k h
  rw[oo (AB h) e]
  unfold Kn vk
  have g:∀s∈rs[k].spans,Good d.length 0 b.lamps.length s:=fun s hs=>(D.good s hs).1
  have tk:E6 b (om b.lamps.length (held b rs k).2 rs[k].poured):=fun j hj=>by
   have:=D.tank j (CI.mp hj)
   rw[om,vh (CI.mp hj)];omega
  have ol:M6 b.lamps.length (om b.lamps.length (held b rs k).2 rs[k].poured) rs[k].spans:=fun j hj=>by
   have:=D.oil j (CI.mp hj)
   rw[om,vh (CI.mp hj)];omega
  have pr:(∀x∈rs[k].poured,¬x<0)∧¬(held b rs k).1+rs[k].taken+rs[k].bought<rs[k].poured.sum:=⟨fun x hx=>by have:=D.p0 x hx;omega,by have:=D.ps;omega⟩
  have awo:E5 b k rs[k].spans:=fun s hs=>(D.good s hs).2
  have lit:Lit d.length d.wanted rs[k].spans:=D.cov
  have spo:qu d.length b.lamps.length rs[k].spans:=⟨g,D.nb⟩
  rw[if_neg (not_not_intro D.tk),if_neg (not_not_intro D.bt),if_neg (not_not_intro pr),if_neg (not_not_intro tk),if_neg (not_not_intro spo),if_neg (not_not_intro awo),if_neg (not_not_intro ol),if_neg (not_not_intro lit)]
section
variable {n : Nat} {μ ρ : Sto} {φ : Phi} {σ : Sl}
theorem sf (hr:l6 μ) {b:Book} {rs:List Tn} (S:Shape b rs):aj GL (n+3) ij [de b,.tup (rs.map eTn)] μ=.ok (.loc μ.length) (μ++[.l ((evs b rs).map au)]):=by
 rw[ak A3,run_eq rfl]
 have k0:=a8 (E2 (n:=n+1) (μ:=μ) b) (ir _) rfl hr
 have e0:au (b.oil,b.lamps.map (·.oil))=au (held b rs 0):=rfl
 rw[e0]at k0
 obtain⟨σ',μ',e,v4,rfl,rfl⟩:=ja (φ:=aj GL (n+2)) (μ:=μ++[.l []]) (tg:=.one 4) (b:=kj) (xs:=rs) (en:=eTn)
  (σ:=[some (de b),some (.tup (rs.map eTn)),some (au (held b rs 0)),some (.loc μ.length),none])
  (fun j σ μ'=>∃v4,σ=[some (de b),some (.tup (rs.map eTn)),some (au (held b rs j)),some (.loc μ.length),v4]∧μ'=μ++[.l (((List.range j).map fun i=>held b rs (i+1)).map au)]) ⟨none,rfl,rfl⟩ (by
   rintro j t σ μ' hj ⟨v4,rfl,rfl⟩
   have hk3:j<rs.length:=(AG.mp hj).1
   have ht:=S.turn t (BR hj)
   have H:l6 (μ++[.l (((List.range j).map fun i=>held b rs (i+1)).map au)]):=w8 hr _
   have kb:=a8 (Bj (n:=n) H b (zo b rs j) ht.1 S.lamps.2 (by omega)) (ir _) rfl H
   rw[←vi b rs hj]at kb
   have few:=S.few
   have ap:mtD .append (.loc μ.length) [au (held b rs (j+1))] (μ++[.l (((List.range j).map fun i=>held b rs (i+1)).map au)])=.ok .non (μ++[.l (((List.range (j+1)).map fun i=>held b rs (i+1)).map au)]):=by
    rw[Ba (ir _) (by simp;omega),List.range_succ,BW,BW];rfl
   refine⟨_,_,?_,some (eTn t),rfl,rfl⟩
   simp! only[fLp,kj,kb,ve,ap])
 have m0:mkL .l [] μ=.ok (.loc μ.length) (μ++[.l []]):=J6 rfl
 simp! only[D_evenings_2,k0,m0,e]
 rfl
theorem Bo (hs:List (Int×List Int)) (hr:l6 (μ++[.l (hs.map au)])):aj GL (n+2) cj [.loc μ.length,.lst (hs.map au)] (μ++[.l (hs.map au)])=.ok (.bl true) (μ++[.l (hs.map au)]):=by
 rw[ak oa,run_eq rfl]
 have hp:(D.lst (hs.map au)).pure=true:=by
  rw[D.pure,nq,AO];intro x hx;obtain⟨i,_,rfl⟩:=AY.mp hx;exact ir i
 have d2:=r6 (μ:=μ++[.l (hs.map au)]) 8 (.lst (hs.map au)) hp
 have d1:bu (μ++[.l (hs.map au)]) 8 (.loc μ.length)=some (.lst (hs.map au)):=by
  rw[R4 g6];exact d2
 have ne:cpD .neM (.loc μ.length) (.lst (hs.map au)) (μ++[.l (hs.map au)])=.ok (.bl false) (μ++[.l (hs.map au)]):=by
  simp only[cpD,d1,d2,za 8 _ hp,GW]
 have il:Ll .list (.loc μ.length) (μ++[.l (hs.map au)])=.ok (.bl true) (μ++[.l (hs.map au)]):=by simp only[Ll,g6]
 have ks:kSeq (.loc μ.length) (μ++[.l (hs.map au)])=.ok (hs.map au,some (μ.length,.l (hs.map au))) (μ++[.l (hs.map au)]):=by simp only[kSeq,dk,g6]
 obtain⟨fl,μ',el,rfl,v2,rfl⟩:=u7 (g:=some (μ.length,.l (hs.map au))) (f:=fLp (aj GL (n+1)) (.one 2) ck) (ds:=hs.map au) (σ:=[some (.loc μ.length),some (.lst (hs.map au)),none]) (μ:=μ++[.l (hs.map au)])
  (fun _ σ μ'=>μ'=μ++[.l (hs.map au)]∧∃v2,σ=[some (.loc μ.length),some (.lst (hs.map au)),v2])
  (fun fl μ'=>μ'=μ++[.l (hs.map au)]∧∃v2,fl=.nx [some (.loc μ.length),some (.lst (hs.map au)),v2]) 0 (fun j σ μ' h=>by rw[h.1];exact g6) ⟨rfl,none,rfl⟩ (by
   rintro j dd σ μ' hj ⟨rfl,v2,rfl⟩
   rw[BA]at hj
   obtain⟨H,hH,rfl⟩:=EX.mp hj
   have i0:∀ν:Sto,ixD (au H) (.int 0) ν=.ok (.int H.1) ν:=fun _=>rfl
   have i1:∀ν:Sto,ixD (au H) (.int 1) ν=.ok (cy H.2) ν:=fun _=>rfl
   have t0:∀ν:Sto,Ll .tuple (au H) ν=.ok (.bl true) ν:=fun _=>rfl
   have t1:∀ν:Sto,Ll .tuple (cy H.2) ν=.ok (.bl true) ν:=fun _=>rfl
   have k0:=a8 (Ef (n:=n) (μ:=μ++[.l (hs.map au)]) H.1) rfl rfl hr
   have kq:kSeq (cy H.2) (μ++[.l (hs.map au)])=.ok (H.2.map D.int,none) (μ++[.l (hs.map au)]):=rfl
   have cc:iq (aj GL (n+1)) .z (.one 0) dz gj [none] (H.2.map D.int,none) (μ++[.l (hs.map au)])=.ok (.lst []) (μ++[.l (hs.map au)]):=by
    rw[J7 fun x _=>by simp! only[iy,dz,a8 (Ef (n:=n) (μ:=μ++[.l (hs.map au)]) x) rfl rfl hr]]
    rfl
   have l0:btD .len .z [.lst []] (μ++[.l (hs.map au)])=.ok (.int 0) (μ++[.l (hs.map au)]):=rfl
   have z0:¬(0:Int)<0:=by decide
   refine⟨.nx [some (.loc μ.length),some (.lst (hs.map au)),some (au H)],_,?_,rfl,_,rfl⟩
   simp! only[fLp,ck,t0,i1,t1,i0,k0,kq,cc,l0,z0])
  (fun σ μ' h=>⟨h.1,by obtain⟨v,e⟩:=h.2;exact⟨v,by rw[e]⟩⟩)
 have ek:qj (aj GL (n+1)) (.one 2) ck [some (.loc μ.length),some (.lst (hs.map au)),none] (hs.map au,some (μ.length,.l (hs.map au))) (μ++[.l (hs.map au)])=_:=el
 simp! only[D_law_same_evenings_2,il,ne,ks,ek]
end
theorem Yj (ns:List Int):∃μ',aj GL 8 p5 [.lst (ns.map D.int)] []=.ok (.bl true) μ':=by
 rw[ak Cw,run_eq rfl]
 obtain⟨b,rs,cs,ρ,hk,ek⟩:=My (n:=3) ns
 have pk:(D.tup [de b,.tup (rs.map eTn)]).pure=true:=by
  have p1:D.pureN 7 (de b)=true:=by
   simp only[de,dr,BD,DV,FD,FN,fb,FJ,BC,AO]
   exact⟨fun l _=>A9 l,fun l _=>Mm l⟩
  have p2:D.pureN 7 (.tup (rs.map eTn))=true:=by
   rw[dr,AO];intro x hx;obtain⟨i,_,rfl⟩:=AY.mp hx;exact Kd i
  rw[D.pure,dr]
  simp only[BD,p1,p2,DV,GS]
 have kk:=vg (μ':=[Lf cs]) ek rfl pk rfl
 obtain⟨S,hw⟩:=Gm hk
 have H:l6 [Lf cs]:=Kc
 obtain⟨ρ1,ew⟩:=(Nc (n:=4) H S).1 hw
 have phs:(D.tup [.non,.lst ((evs b rs).map au)]).pure=true:=by
  rw[D.pure,dr]
  have:D.pureN 7 (.lst ((evs b rs).map au))=true:=by
   rw[nq,AO];intro x hx;obtain⟨i,_,rfl⟩:=AY.mp hx;exact ir i
  simp only[BD,Jd,this,DV,GS]
 have kw:=ic ew phs H
 have kf:=a8 ((vm (n:=2) H S).1 hw) rfl rfl H
 have kp:=a8 ((Ku (n:=1) H S).1 hw) rfl rfl H
 have k1:=w6 (sf (n:=4) H S)
 rw[show [Lf cs].length=1 from rfl]at k1
 have H1:l6 ([Lf cs]++[.l ((evs b rs).map au)]):=w8 H _
 have s1:=a8 (Bo (n:=5) (μ:=[Lf cs]) (evs b rs) H1) rfl rfl H1
 rw[show [Lf cs].length=1 from rfl]at s1
 have H2:l6 ([Lf cs]++[.l []]):=w8 H _
 have k2:=w6 (sf (n:=4) H2 S)
 have H3:l6 ([Lf cs]++[.l []]++[.l ((evs b rs).map au)]):=w8 H2 _
 have s2:=a8 (Bo (n:=5) (μ:=[Lf cs]++[.l []]) (evs b rs) H3) rfl rfl H3
 have unp:∀σ:Sl,fw (.many [1,2]) (.tup [de b,.tup (rs.map eTn)]) σ=some ((σ.set 1 (some (de b))).set 2 (some (.tup (rs.map eTn)))):=fun σ=>rfl
 have i0:∀ν:Sto,ixD (.tup [.non,.lst ((evs b rs).map au)]) (.int 0) ν=.ok .non ν:=fun _=>rfl
 have i1:∀ν:Sto,ixD (.tup [.non,.lst ((evs b rs).map au)]) (.int 1) ν=.ok (.lst ((evs b rs).map au)) ν:=fun _=>rfl
 have nn:∀ν:Sto,cpD .isnot .non .non ν=.ok (.bl false) ν:=fun _=>rfl
 have nt:∀ν:Sto,cpD .isnot (.bl true) (.bl true) ν=.ok (.bl false) ν:=fun _=>rfl
 generalize (evs b rs).map au=E at *
 have cl:mtD .clear (.loc 1) [] ([Lf cs]++[.l E])=.ok .non ([Lf cs]++[.l []]):=rfl
 have km:∀(es:Exs) (σ:Sl),kM (aj GL 7) .clear es σ (.loc 1) ([Lf cs]++[.l E])=(iu (aj GL 7) es σ ([Lf cs]++[.l E])).bind (mtD .clear (.loc 1)):=fun es σ=>Cz rfl
 refine⟨[Lf cs]++[.l []]++[.l E],?_⟩
 generalize [Lf cs]++[.l []]++[.l E]=M2 at *
 generalize [Lf cs]++[.l []]=M1 at *
 generalize [Lf cs]++[.l E]=M0 at *
 simp! only[D_law_k07_3,Gb Ge,J4,kk,unp,kw,i0,nn,kf,kp,nt,k1,i1,s1,km,cl,k2,s2]
end Lr
namespace Lp.Law
open PySem PySem.Spec PyProof.Rows L2 Lp
noncomputable def top (i:Nat):Stmt:=PySem.Challenge.pw_lamprota_k07_rotas_that_keep.main.body.getD i (.Pass ⟨0,0,0,0⟩)
noncomputable def e0:Ent:=⟨u3,"rises",top 1,["things"],["things"],D_rises⟩
noncomputable def e1:Ent:=⟨ou,"can_burn",top 2,["book","lamp","day","tank","oil","away"],["book","lamp","day"],D_can_burn⟩
noncomputable def e2:Ent:=⟨di,"ticks_of_spans",top 4,["lamps","spans","ticks","lamp","start","end"],["lamps","spans"],D_ticks_of_spans⟩
noncomputable def e3:Ent:=⟨cg,"have_tick_in_common",top 5,["one","other"],["one","other"],D_have_tick_in_common⟩
noncomputable def e4:Ent:=⟨ee,"has_span_fault",top 6,["length","lamps","spans","lamp","start","end"],["length","lamps","spans"],D_has_span_fault⟩
noncomputable def e5:Ent:=⟨cm,"has_dark_fault",top 7,["length","wanted","spans","changes","lamp","start","end"],["length","wanted","spans"],D_has_dark_fault⟩
noncomputable def e6:Ent:=⟨fk,"held_at_first",top 8,["book"],["book"],D_held_at_first⟩
noncomputable def e7:Ent:=⟨qh,"filled",top 9,["tanks","poured"],["tanks","poured"],D_filled⟩
noncomputable def e8:Ent:=⟨gn,"held_behind",top 10,["book","held","turn","store","tanks","taken","bought","poured","spans","left","ticks"],["book","held","turn"],D_held_behind⟩
noncomputable def e9:Ent:=⟨nh,"day_fault",top 11,["book","day","held","turn","boat","most","price","length","wanted","store","tanks","taken","bought","poured","spans","levels"],["book","day","held","turn"],D_day_fault⟩
noncomputable def e10:Ent:=⟨jf,"night_fault",top 12,["book","day","levels","spans","boat","most","price","length","wanted","ticks"],["book","day","levels","spans"],D_night_fault⟩
noncomputable def e11:Ent:=⟨rn,"fault",top 13,["book","rota","held","day","turn","word"],["book","rota"],D_fault⟩
noncomputable def e12:Ent:=⟨u4,"keeps",top 14,["book","rota"],["book","rota"],D_keeps⟩
noncomputable def e13:Ent:=⟨ij,"evenings",top 15,["book","rota","held","behind","turn"],["book","rota"],D_evenings_2⟩
noncomputable def e14:Ent:=⟨j0,"_law_whole",top 17,["found"],["found"],D_law_whole⟩
noncomputable def e15:Ent:=⟨dh,"_law_next",top 18,["left"],["left"],D_law_next⟩
noncomputable def e16:Ent:=⟨fc,"_law_turn",top 19,["cell","stir"],["cell"],D_law_turn⟩
noncomputable def e17:Ent:=⟨ib,"_law_size",top 20,["cell","most","turn"],["cell","most"],D_law_size⟩
noncomputable def e18:Ent:=⟨j4,"_law_share",top 21,["turn","low","high"],["turn","low","high"],D_law_share⟩
noncomputable def e19:Ent:=⟨j5,"_law_ticks",top 22,["turn","lamps","length","wanted","order","left","ticks","k","low","share"],["turn","lamps","length","wanted"],D_law_ticks⟩
noncomputable def e20:Ent:=⟨ng,"_law_spans",top 23,["length","ticks","spans","at","lamp","share","end"],["length","ticks"],D_law_spans⟩
noncomputable def e21:Ent:=⟨jg,"_law_frame",top 24,["left","head","lamps","days","away","lamp","turn"],["left"],D_law_frame_2⟩
noncomputable def e22:Ent:=⟨lg,"_law_nights",top 25,["left","frame","nights","day","free","length","turn","wanted","ticks"],["left","frame"],D_law_nights⟩
noncomputable def e23:Ent:=⟨c6,"_law_slack",top 26,["left","turn"],["left"],D_law_slack⟩
noncomputable def e24:Ent:=⟨lh,"_law_kept",top 27,["left","frame","nights","store","oil","first","tanks","most","days","rota","here","length","wanted","ticks","spans","asked","lamp","share","poured","lack","taken","price","lamps"],["left"],D_law_kept_3⟩
noncomputable def e25:Ent:=⟨f9,"_law_span_bad",top 28,["length","lamps","spans","k","lamp","start","end","other"],["length","lamps","spans"],D_law_span_bad⟩
noncomputable def e26:Ent:=⟨l9,"_law_dark",top 29,["length","wanted","spans","points","point"],["length","wanted","spans"],D_law_dark⟩
noncomputable def e27:Ent:=⟨oy,"_law_word",top 30,["book","number","here","tanks","part","boat","most","price","length","wanted","taken","bought","poured","spans","full","k"],["book","number","here","tanks","part"],D_law_word⟩
noncomputable def e28:Ent:=⟨ik,"_law_walk",top 31,["book","rota","here","tanks","heard","number","word","taken","bought","poured","spans","lamp","start","end"],["book","rota"],D_law_walk_2⟩
noncomputable def e29:Ent:=⟨cj,"_law_same_evenings",top 32,["found","due","pair"],["found","due"],D_law_same_evenings_2⟩
noncomputable def e30:Ent:=⟨p5,"law",top 33,["script","book","rota","due","found"],["script"],D_law_k07_3⟩
noncomputable def ents:List Ent:=[e0,e1,e2,e3,e4,e5,e6,e7,e8,e9,e10,e11,e12,e13,e14,e15,e16,e17,e18,e19,e20,e21,e22,e23,e24,e25,e26,e27,e28,e29,e30]
noncomputable def o4:List Str:=["zip","all","range","tuple","any","sum","len","min","enumerate","isinstance","int","bool","max","sorted","list","set","reversed"]
theorem arS {k:Nat} {Q:List Value→Prop} (h:∀a us,us.length=k→Q (a::us)):∀us:List Value,us.length=k+1→Q us
 | [],e=>nomatch e
 | a::us,e=>h a us (Nat.succ.inj e)
theorem ar0 {Q:List Value→Prop} (h:∀(_:Unit),Q []):∀us:List Value,us.length=0→Q us
 | [],_=>h ()
theorem ar1 {Q:List Value→Prop} (h:∀(a0:Value),Q [a0]):∀us:List Value,us.length=1→Q us:=arS fun a0=>ar0 (Q:=fun us=>Q (a0::us)) (fun _=>h a0)
theorem ar2 {Q:List Value→Prop} (h:∀(a0 a1:Value),Q [a0,a1]):∀us:List Value,us.length=2→Q us:=arS fun a0=>ar1 (Q:=fun us=>Q (a0::us)) (h a0)
theorem ar3 {Q:List Value→Prop} (h:∀(a0 a1 a2:Value),Q [a0,a1,a2]):∀us:List Value,us.length=3→Q us:=arS fun a0=>ar2 (Q:=fun us=>Q (a0::us)) (h a0)
theorem ar4 {Q:List Value→Prop} (h:∀(a0 a1 a2 a3:Value),Q [a0,a1,a2,a3]):∀us:List Value,us.length=4→Q us:=arS fun a0=>ar3 (Q:=fun us=>Q (a0::us)) (h a0)
theorem ar5 {Q:List Value→Prop} (h:∀(a0 a1 a2 a3 a4:Value),Q [a0,a1,a2,a3,a4]):∀us:List Value,us.length=5→Q us:=arS fun a0=>ar4 (Q:=fun us=>Q (a0::us)) (h a0)
section
variable {P : Program} {w : World} {K : PySem.W.Frag} {mg : Str → Option Value} {base : Heap}
theorem dv0 (B:∀(j:Nat) x,o4[j]? = some x→mg x=none):Derived GL P w K mg base ents e0:=⟨⟨rfl,rfl,rfl,by decide +kernel,rfl,by decide +kernel,by decide +kernel⟩,rfl,rfl,rfl,fun n fa cdv A outer s H E hu C =>
 (ar (bx (Q1 (B 1 _ rfl) (ae (dy ["one","other"] (wu (B 0 _ rfl) (aa 0) (X6 (aa 0) (X5 ai) X4)) (fun _ _ _ _=>⟨(dn (ag 0 (ag 1 dm))),cb,(Ao (aa 0) (An hu .lt (aa 1)))⟩)) ah))) bz)⟩
theorem dv1 (B:∀(j:Nat) x,o4[j]? = some x→mg x=none):Derived GL P w K mg base ents e1:=⟨⟨rfl,rfl,rfl,by decide +kernel,rfl,by decide +kernel,by decide +kernel⟩,rfl,rfl,rfl,fun n fa cdv A outer s H E hu C =>
 (ar (sj (dn (ag 3 (ag 4 (ag 5 dm)))) (d7 (d7 (aa 0) ai) (aa 1))) (ar (bx (Ao (aa 2) (An hu .notin (aa 5)))) bz))⟩
theorem dv2 (B:∀(j:Nat) x,o4[j]? = some x→mg x=none):Derived GL P w K mg base ents e2:=⟨⟨rfl,rfl,rfl,by decide +kernel,rfl,by decide +kernel,by decide +kernel⟩,rfl,rfl,rfl,fun n fa cdv A outer s H E hu C =>
 (ar (br 2 (Uz false)) (ar (nc (f6 (aa 1)) (dn (ag 3 (ag 4 (ag 5 dm)))) (ar (Aq hu (aa 2) (aa 3) (av (av (yl hu (aa 2) (aa 3) ai) (aa 5)) (aa 4))) bz)) (ar (bx (fj (B 3 _ rfl) (ae (dy ["ticks","lamp"] (gi (B 2 _ rfl) (aa 0)) (fun _ _ _ _=>⟨(bq 1),cb,(yl hu (aa 0) (aa 1) ai)⟩)) ah))) bz)))⟩
theorem dv3 (B:∀(j:Nat) x,o4[j]? = some x→mg x=none):Derived GL P w K mg base ents e3:=⟨⟨rfl,rfl,rfl,by decide +kernel,rfl,by decide +kernel,by decide +kernel⟩,rfl,rfl,rfl,fun n fa cdv A outer s H E hu C =>
 (ar (bx (Ur (Ao (d7 (aa 0) ai) (An hu .eq (d7 (aa 1) ai))) (N5 (Ao (d7 (aa 1) ai) (An hu .lt (d7 (aa 0) ai)))))) bz)⟩
theorem dv4 (B:∀(j:Nat) x,o4[j]? = some x→mg x=none):Derived GL P w K mg base ents e4:=⟨⟨rfl,rfl,rfl,by decide +kernel,rfl,by decide +kernel,by decide +kernel⟩,rfl,rfl,rfl,fun n fa cdv A outer s H E hu C =>
 (ar (nc (f6 (aa 2)) (dn (ag 3 (ag 4 (ag 5 dm)))) (ar (n4 (n9 (Fs (Ap (bg ai (N6 hu .le (aa 3) (cw hu .lt (aa 1)))) (yi (bg ai (N6 hu .le (aa 4) (N6 hu .lt (aa 5) (cw hu .le (aa 0))))))))) (ar (bx Fq) bz) bz) bz)) (ar (bx (aag (Q0 (az (C 0 _ rfl) (ae (aa 2) ah))) (X3 (uw (B 4 _ rfl) (ae (dy ["one","other"] (wu (B 0 _ rfl) (aa 2) (X6 (aa 2) (X5 ai) X4)) (fun _ _ _ _=>⟨(dn (ag 0 (ag 1 dm))),cb,(az (C 3 _ rfl) (ae (aa 0) (ae (aa 1) ah)))⟩)) ah))))) bz))⟩
theorem dv5 (B:∀(j:Nat) x,o4[j]? = some x→mg x=none):Derived GL P w K mg base ents e5:=⟨⟨rfl,rfl,rfl,by decide +kernel,rfl,by decide +kernel,by decide +kernel⟩,rfl,rfl,rfl,fun n fa cdv A outer s H E hu C =>
 (ar (br 3 (U0 1 0 1)) (ar (nc (f6 (aa 2)) (dn (ag 4 (ag 5 (ag 6 dm)))) (ar (Aq hu (aa 3) (aa 5) (av (yl hu (aa 3) (aa 5) ai) ai)) (ar (Aq hu (aa 3) (aa 6) (av (yl hu (aa 3) (aa 6) ai) ai)) bz))) (ar (bx (uw (B 4 _ rfl) (ae (dy ["change"] (Ri (aa 3)) (fun _ _ _ _=>⟨(bq 0),cb,(Ao (aa 0) (An hu .ne ai))⟩)) ah))) bz)))⟩
theorem dv6 (B:∀(j:Nat) x,o4[j]? = some x→mg x=none):Derived GL P w K mg base ents e6:=⟨⟨rfl,rfl,rfl,by decide +kernel,rfl,by decide +kernel,by decide +kernel⟩,rfl,rfl,rfl,fun n fa cdv A outer s H E hu C =>
 (ar (bx (n8 (ae (d7 (aa 0) ai) (ae (fj (B 3 _ rfl) (ae (dy ["tank","oil","away"] (f6 (d7 (aa 0) ai)) (fun _ _ _ _=>⟨(dn (ag 0 (ag 1 (ag 2 dm)))),cb,(aa 1)⟩)) ah)) ah)))) bz)⟩
theorem dv7 (B:∀(j:Nat) x,o4[j]? = some x→mg x=none):Derived GL P w K mg base ents e7:=⟨⟨rfl,rfl,rfl,by decide +kernel,rfl,by decide +kernel,by decide +kernel⟩,rfl,rfl,rfl,fun n fa cdv A outer s H E hu C =>
 (ar (bx (fj (B 3 _ rfl) (ae (dy ["level","much"] (wu (B 0 _ rfl) (aa 0) (aa 1)) (fun _ _ _ _=>⟨(dn (ag 0 (ag 1 dm))),cb,(av (aa 0) (aa 1))⟩)) ah))) bz)⟩
theorem dv8 (B:∀(j:Nat) x,o4[j]? = some x→mg x=none):Derived GL P w K mg base ents e8:=⟨⟨rfl,rfl,rfl,by decide +kernel,rfl,by decide +kernel,by decide +kernel⟩,rfl,rfl,rfl,fun n fa cdv A outer s H E hu C =>
 (ar (sj (dn (ag 3 (ag 4 dm))) (aa 1)) (ar (sj (dn (ag 5 (ag 6 (ag 7 (ag 8 dm))))) (aa 2)) (ar (br 9 (av (av (av (aa 3) (aa 5)) (aa 6)) (pj (B 5 _ rfl) (ae (aa 7) ah)))) (ar (br 10 (az (C 2 _ rfl) (ae (c9 (B 6 _ rfl) (ae (aa 4) ah)) (ae (aa 8) ah)))) (ar (bx (n8 (ae (rj (B 7 _ rfl) (ae (aa 9) (ae (d7 (aa 0) ai) ah))) (ae (fj (B 3 _ rfl) (ae (dy ["level","burns"] (wu (B 0 _ rfl) (az (C 7 _ rfl) (ae (aa 4) (ae (aa 7) ah))) (aa 10)) (fun _ _ _ _=>⟨(dn (ag 0 (ag 1 dm))),cb,(av (aa 0) (aa 1))⟩)) ah)) ah)))) bz)))))⟩
theorem dv9 (B:∀(j:Nat) x,o4[j]? = some x→mg x=none):Derived GL P w K mg base ents e9:=⟨⟨rfl,rfl,rfl,by decide +kernel,rfl,by decide +kernel,by decide +kernel⟩,rfl,rfl,rfl,fun n fa cdv A outer s H E hu C =>
 (ar (sj (dn (ag 4 (ag 5 (ag 6 (ag 7 (ag 8 dm)))))) (d7 (d7 (aa 0) ai) (aa 1))) (ar (sj (dn (ag 9 (ag 10 dm))) (aa 2)) (ar (sj (dn (ag 11 (ag 12 (ag 13 (ag 14 dm))))) (aa 3)) (ar (n4 (n9 (bg ai (N6 hu .le (aa 11) (cw hu .le (aa 4))))) (ar (bx n3) bz) bz) (ar (n4 (n9 (bg ai (N6 hu .le (aa 12) (cw hu .le (aa 5))))) (ar (bx n3) bz) bz) (ar (n4 (Fs (uu (bg (L7 (B 7 _ rfl) (ae (aa 13) ah)) (cw hu .lt ai)) (qd (bg (pj (B 5 _ rfl) (ae (aa 13) ah)) (cw hu .gt (av (av (aa 9) (aa 11)) (aa 12))))))) (ar (bx n3) bz) bz) (ar (br 15 (az (C 7 _ rfl) (ae (aa 10) (ae (aa 13) ah)))) (ar (n4 (h9 (uw (B 4 _ rfl) (ae (dy ["level","lamp"] (wu (B 0 _ rfl) (aa 15) (d7 (aa 0) ai)) (fun _ _ _ _=>⟨(dn (ag 0 (ag 1 dm))),cb,(Ao (aa 0) (An hu .gt (d7 (aa 1) ai)))⟩)) ah))) (ar (bx n3) bz) bz) (ar (bx (az (C 10 _ rfl) (ae (aa 0) (ae (aa 1) (ae (aa 15) (ae (aa 14) ah)))))) bz)))))))))⟩
theorem aal (B:∀(j:Nat) x,o4[j]? = some x→mg x=none):Derived GL P w K mg base ents e10:=⟨⟨rfl,rfl,rfl,by decide +kernel,rfl,by decide +kernel,by decide +kernel⟩,rfl,rfl,rfl,fun n fa cdv A outer s H E hu C =>
 (ar (sj (dn (ag 4 (ag 5 (ag 6 (ag 7 (ag 8 dm)))))) (d7 (d7 (aa 0) ai) (aa 1))) (ar (n4 (h9 (az (C 4 _ rfl) (ae (aa 7) (ae (c9 (B 6 _ rfl) (ae (aa 2) ah)) (ae (aa 3) ah))))) (ar (bx n3) bz) bz) (ar (n4 (h9 (uw (B 4 _ rfl) (ae (dy ["book","day","lamp","start","end"] (f6 (aa 3)) (fun _ _ _ _=>⟨(dn (ag 2 (ag 3 (ag 4 dm)))),cb,(Q0 (az (C 1 _ rfl) (ae (aa 0) (ae (aa 2) (ae (aa 1) ah)))))⟩)) ah))) (ar (bx n3) bz) bz) (ar (br 9 (az (C 2 _ rfl) (ae (c9 (B 6 _ rfl) (ae (aa 2) ah)) (ae (aa 3) ah)))) (ar (n4 (h9 (uw (B 4 _ rfl) (ae (dy ["burns","level"] (wu (B 0 _ rfl) (aa 9) (aa 2)) (fun _ _ _ _=>⟨(dn (ag 0 (ag 1 dm))),cb,(Ao (aa 0) (An hu .gt (aa 1)))⟩)) ah))) (ar (bx n3) bz) bz) (ar (n4 (h9 (az (C 5 _ rfl) (ae (aa 7) (ae (aa 8) (ae (aa 3) ah))))) (ar (bx n3) bz) bz) (ar (bx Ca) bz)))))))⟩
theorem aam (B:∀(j:Nat) x,o4[j]? = some x→mg x=none):Derived GL P w K mg base ents e11:=⟨⟨rfl,rfl,rfl,by decide +kernel,rfl,by decide +kernel,by decide +kernel⟩,rfl,rfl,rfl,fun n fa cdv A outer s H E hu C =>
 (ar (br 2 (az (C 6 _ rfl) (ae (aa 0) ah))) (ar (nc (Rf (B 8 _ rfl) (aa 1)) (dn (ag 3 (ag 4 dm))) (ar (br 5 (az (C 9 _ rfl) (ae (aa 0) (ae (aa 3) (ae (aa 2) (ae (aa 4) ah)))))) (ar (n4 (bg (aa 5) (cw hu .isnot Ca)) (ar (bx (n8 (ae (aa 3) (ae (aa 5) ah)))) bz) bz) (ar (br 2 (az (C 8 _ rfl) (ae (aa 0) (ae (aa 2) (ae (aa 4) ah))))) bz)))) (ar (bx Ca) bz)))⟩
theorem aan (B:∀(j:Nat) x,o4[j]? = some x→mg x=none):Derived GL P w K mg base ents e12:=⟨⟨rfl,rfl,rfl,by decide +kernel,rfl,by decide +kernel,by decide +kernel⟩,rfl,rfl,rfl,fun n fa cdv A outer s H E hu C =>
 (ar (bx (Ao (az (C 11 _ rfl) (ae (aa 0) (ae (aa 1) ah))) (An hu .is Ca))) bz)⟩
theorem aao (B:∀(j:Nat) x,o4[j]? = some x→mg x=none):Derived GL P w K mg base ents e13:=⟨⟨rfl,rfl,rfl,by decide +kernel,rfl,by decide +kernel,by decide +kernel⟩,rfl,rfl,rfl,fun n fa cdv A outer s H E hu C =>
 (ar (br 2 (az (C 6 _ rfl) (ae (aa 0) ah))) (ar (br 3 (si ah)) (ar (nc (f6 (aa 1)) (bq 4) (ar (br 2 (az (C 8 _ rfl) (ae (aa 0) (ae (aa 2) (ae (aa 4) ah))))) (ar (Hv (dj (aa 3) (ae (aa 2) ah))) bz))) (ar (bx (aa 3)) bz))))⟩
theorem aap (B:∀(j:Nat) x,o4[j]? = some x→mg x=none):Derived GL P w K mg base ents e14:=⟨⟨rfl,rfl,rfl,by decide +kernel,rfl,by decide +kernel,by decide +kernel⟩,rfl,rfl,rfl,fun n fa cdv A outer s H E hu C =>
 (ar (bx (Ur (Hu (aa 0) (B 9 _ rfl) (B 10 _ rfl)) (N5 (Q0 (Hu (aa 0) (B 9 _ rfl) (B 11 _ rfl)))))) bz)⟩
theorem aaq (B:∀(j:Nat) x,o4[j]? = some x→mg x=none):Derived GL P w K mg base ents e15:=⟨⟨rfl,rfl,rfl,by decide +kernel,rfl,by decide +kernel,by decide +kernel⟩,rfl,rfl,rfl,fun n fa cdv A outer s H E hu C =>
 (ar (n4 (bg (c9 (B 6 _ rfl) (ae (aa 0) ah)) (cw hu .gt ai)) (ar (bx (L4 (aa 0))) bz) bz) (ar (bx ai) bz))⟩
theorem aar (B:∀(j:Nat) x,o4[j]? = some x→mg x=none):Derived GL P w K mg base ents e16:=⟨⟨rfl,rfl,rfl,by decide +kernel,rfl,by decide +kernel,by decide +kernel⟩,rfl,rfl,rfl,fun n fa cdv A outer s H E hu C =>
 (ar (br 1 (av (av (av (av (aa 0) (av ai ai)) ai) ai) ai)) (ar (bx (av (av (av (aa 1) (aa 1)) ai) ai)) bz))⟩
theorem aas (B:∀(j:Nat) x,o4[j]? = some x→mg x=none):Derived GL P w K mg base ents e17:=⟨⟨rfl,rfl,rfl,by decide +kernel,rfl,by decide +kernel,by decide +kernel⟩,rfl,rfl,rfl,fun n fa cdv A outer s H E hu C =>
 (ar (br 2 (az (C 16 _ rfl) (ae (aa 0) ah))) (ar (n4 (bg (av (aa 2) ai) (cw hu .lt ai)) (ar (bx (rj (B 7 _ rfl) (ae (aa 1) (ae (av (av (aa 2) ai) ai) ah)))) bz) bz) (ar (n4 (bg (av (aa 2) ai) (cw hu .eq ai)) (ar (bx (av (aa 1) (av (av (aa 2) ai) ai))) bz) bz) (ar (bx (av (aa 0) (av (aa 1) ai))) bz))))⟩
theorem aat (B:∀(j:Nat) x,o4[j]? = some x→mg x=none):Derived GL P w K mg base ents e18:=⟨⟨rfl,rfl,rfl,by decide +kernel,rfl,by decide +kernel,by decide +kernel⟩,rfl,rfl,rfl,fun n fa cdv A outer s H E hu C =>
 (ar (n4 (bg (av (aa 0) ai) (cw hu .lt ai)) (ar (bx (av (aa 1) (av (av (av (aa 0) ai) ai) (av (av (aa 2) (aa 1)) ai)))) bz) bz) (ar (bx (d7 (si (ae (aa 1) (ae (aa 2) ah))) (av (aa 0) ai))) bz))⟩
theorem aau (B:∀(j:Nat) x,o4[j]? = some x→mg x=none):Derived GL P w K mg base ents e19:=⟨⟨rfl,rfl,rfl,by decide +kernel,rfl,by decide +kernel,by decide +kernel⟩,rfl,rfl,rfl,fun n fa cdv A outer s H E hu C =>
 (ar (ux 4 ["lamps","turn","k"] (gi (B 2 _ rfl) (c9 (B 6 _ rfl) (ae (aa 1) ah))) (fun _ _ _ _=>⟨(bq 2),cb,(d7 (aa 0) (av (av (aa 2) (aa 1)) (c9 (B 6 _ rfl) (ae (aa 0) ah))))⟩)) (ar (br 5 (av (aa 3) (aa 2))) (ar (br 6 (si ah)) (ar (nc (gi (B 2 _ rfl) (c9 (B 6 _ rfl) (ae (aa 4) ah))) (bq 7) (ar (br 8 (uv (B 12 _ rfl) (ae ai (ae (av (aa 5) (av (aa 2) (av (av (c9 (B 6 _ rfl) (ae (aa 4) ah)) (aa 7)) ai))) ah)))) (ar (br 9 (az (C 18 _ rfl) (ae (av (av (av (aa 0) ai) (av (av ai (aa 7)) (aa 7))) (aa 7)) (ae (aa 8) (ae (rj (B 7 _ rfl) (ae (aa 2) (ae (aa 5) ah))) ah))))) (ar (Hv (dj (aa 6) (ae (n8 (ae (d7 (aa 4) (aa 7)) (ae (aa 9) ah))) ah))) (ar (br 5 (av (aa 5) (aa 9))) bz))))) (ar (bx (Ht 6)) bz)))))⟩
theorem aav (B:∀(j:Nat) x,o4[j]? = some x→mg x=none):Derived GL P w K mg base ents e20:=⟨⟨rfl,rfl,rfl,by decide +kernel,rfl,by decide +kernel,by decide +kernel⟩,rfl,rfl,rfl,fun n fa cdv A outer s H E hu C =>
 (ar (br 2 (si ah)) (ar (br 3 ai) (ar (nc (f6 (aa 1)) (dn (ag 4 (ag 5 dm))) (ar (br 6 (av (aa 3) (aa 5))) (ar (n4 (bg (aa 5) (cw hu .gt ai)) (ar (Hv (dj (aa 2) (ae (n8 (ae (aa 4) (ae (aa 3) (ae (rj (B 7 _ rfl) (ae (aa 6) (ae (aa 0) ah))) ah)))) ah))) bz) bz) (ar (n4 (bg (aa 6) (cw hu .gt (aa 0))) (ar (Hv (dj (aa 2) (ae (n8 (ae (aa 4) (ae ai (ae (av (aa 6) (aa 0)) ah)))) ah))) bz) bz) (ar (br 3 (av (aa 6) (aa 0))) bz))))) (ar (bx (fj (B 3 _ rfl) (ae (Fu (B 13 _ rfl) (ae (aa 2) ah)) ah))) bz))))⟩
theorem aaw (B:∀(j:Nat) x,o4[j]? = some x→mg x=none):Derived GL P w K mg base ents e21:=⟨⟨rfl,rfl,rfl,by decide +kernel,rfl,by decide +kernel,by decide +kernel⟩,rfl,rfl,rfl,fun n fa cdv A outer s H E hu C =>
 (ar (br 1 (az (C 16 _ rfl) (ae (az (C 15 _ rfl) (ae (aa 0) ah)) ah))) (ar (br 2 (av ai (av (aa 1) ai))) (ar (br 3 (av ai (av (av (aa 1) ai) ai))) (ar (n4 (bg (av (av (aa 1) ai) ai) (cw hu .eq ai)) (ar (br 2 (av ai (av (av (aa 1) ai) ai))) (ar (br 3 (av ai (av (av (aa 1) ai) ai))) bz)) bz) (ar (br 4 (si ah)) (ar (nc (gi (B 2 _ rfl) (aa 2)) (bq 5) (ar (br 6 (az (C 16 _ rfl) (ae (az (C 15 _ rfl) (ae (aa 0) ah)) ah))) (ar (Hv (dj (aa 4) (ae (dy ["turn","day"] (gi (B 2 _ rfl) (aa 3)) (fun _ _ _ _=>⟨(bq 1),(k8 (Fs (Ap (bg (av (aa 0) ai) (cw hu .eq ai)) (yi (bg (av (av (aa 0) (av (aa 1) ai)) ai) (cw hu .eq ai))))) cb),(aa 1)⟩)) ah))) bz))) (ar (bx (n8 (ae (aa 2) (ae (aa 3) (ae (Ht 4) ah))))) bz)))))))⟩
theorem aax (B:∀(j:Nat) x,o4[j]? = some x→mg x=none):Derived GL P w K mg base ents e22:=⟨⟨rfl,rfl,rfl,by decide +kernel,rfl,by decide +kernel,by decide +kernel⟩,rfl,rfl,rfl,fun n fa cdv A outer s H E hu C =>
 (ar (br 2 (si ah)) (ar (nc (gi (B 2 _ rfl) (d7 (aa 1) ai)) (bq 3) (ar (ux 4 ["day","frame","lamp"] (gi (B 2 _ rfl) (d7 (aa 1) ai)) (fun _ _ _ _=>⟨(bq 2),(k8 (bg (aa 0) (cw hu .notin (d7 (d7 (aa 1) ai) (aa 2)))) cb),(aa 2)⟩)) (ar (br 5 (uv (B 12 _ rfl) (ae ai (ae (az (C 17 _ rfl) (ae (az (C 15 _ rfl) (ae (aa 0) ah)) (ae (av ai ai) ah))) ah)))) (ar (br 6 (az (C 16 _ rfl) (ae (az (C 15 _ rfl) (ae (aa 0) ah)) ah))) (ar (br 7 (av (aa 6) (av (c9 (B 6 _ rfl) (ae (aa 4) ah)) ai))) (ar (br 8 (si ah)) (ar (n4 (bg (c9 (B 6 _ rfl) (ae (aa 4) ah)) (cw hu .gt ai)) (ar (br 8 (az (C 19 _ rfl) (ae (av (aa 6) ai) (ae (aa 4) (ae (aa 5) (ae (aa 7) ah)))))) bz) bz) (ar (Hv (dj (aa 2) (ae (n8 (ae (aa 5) (ae (aa 7) (ae (aa 8) (ae (az (C 20 _ rfl) (ae (aa 5) (ae (aa 8) ah))) ah))))) ah))) bz)))))))) (ar (bx (Ht 2)) bz)))⟩
theorem aay (B:∀(j:Nat) x,o4[j]? = some x→mg x=none):Derived GL P w K mg base ents e23:=⟨⟨rfl,rfl,rfl,by decide +kernel,rfl,by decide +kernel,by decide +kernel⟩,rfl,rfl,rfl,fun n fa cdv A outer s H E hu C =>
 (ar (br 1 (az (C 16 _ rfl) (ae (az (C 15 _ rfl) (ae (aa 0) ah)) ah))) (ar (n4 (bg (av (aa 1) ai) (cw hu .lt ai)) (ar (bx ai) bz) bz) (ar (bx (av (av (aa 1) ai) ai)) bz)))⟩
theorem aaz (B:∀(j:Nat) x,o4[j]? = some x→mg x=none):Derived GL P w K mg base ents e24:=⟨⟨rfl,rfl,rfl,by decide +kernel,rfl,by decide +kernel,by decide +kernel⟩,rfl,rfl,rfl,fun n fa cdv A outer s H E hu C =>
 (ar (br 1 (az (C 21 _ rfl) (ae (aa 0) ah))) (ar (br 2 (az (C 22 _ rfl) (ae (aa 0) (ae (aa 1) ah)))) (ar (br 3 (az (C 17 _ rfl) (ae (az (C 15 _ rfl) (ae (aa 0) ah)) (ae (av ai ai) ah)))) (ar (br 4 (az (C 23 _ rfl) (ae (aa 0) ah))) (ar (ux 5 ["left","lamp"] (gi (B 2 _ rfl) (d7 (aa 1) ai)) (fun _ _ _ _=>⟨(bq 1),cb,(az (C 23 _ rfl) (ae (aa 0) ah))⟩)) (ar (br 6 (Dy (B 14 _ rfl) (ae (aa 5) ah))) (ar (br 7 (Dy (B 14 _ rfl) (ae (aa 5) ah))) (ar (br 8 (si ah)) (ar (br 9 (si ah)) (ar (br 10 (aa 4)) (ar (nc (f6 (aa 2)) (dn (ag 11 (ag 12 (ag 13 (ag 14 dm))))) (ar (br 15 (dy ["lamp"] (gi (B 2 _ rfl) (d7 (aa 1) ai)) (fun _ _ _ _=>⟨(bq 0),cb,ai⟩))) (ar (nc (f6 (aa 13)) (dn (ag 16 (ag 17 dm))) (ar (Aq hu (aa 15) (aa 16) (aa 17)) bz)) (ar (br 18 (dy ["asked","tanks","left","k"] (gi (B 2 _ rfl) (d7 (aa 1) ai)) (fun _ _ _ _=>⟨(bq 3),cb,(av (uv (B 12 _ rfl) (ae ai (ae (av (d7 (aa 0) (aa 3)) (d7 (aa 1) (aa 3))) ah))) (az (C 23 _ rfl) (ae (aa 2) ah)))⟩))) (ar (br 19 (av (uv (B 12 _ rfl) (ae ai (ae (av (pj (B 5 _ rfl) (ae (aa 18) ah)) (aa 10)) ah))) (az (C 23 _ rfl) (ae (aa 0) ah)))) (ar (br 20 (az (C 18 _ rfl) (ae (az (C 16 _ rfl) (ae (az (C 15 _ rfl) (ae (aa 0) ah)) ah)) (ae ai (ae (aa 19) ah))))) (ar (br 6 (dy ["tanks","poured","k"] (gi (B 2 _ rfl) (d7 (aa 1) ai)) (fun _ _ _ _=>⟨(bq 2),cb,(av (d7 (aa 0) (aa 2)) (d7 (aa 1) (aa 2)))⟩))) (ar (br 7 (dy ["most","tanks","k"] (gi (B 2 _ rfl) (d7 (aa 1) ai)) (fun _ _ _ _=>⟨(bq 2),cb,(uv (B 12 _ rfl) (ae (d7 (aa 0) (aa 2)) (ae (d7 (aa 1) (aa 2)) ah)))⟩))) (ar (br 6 (dy ["tanks","asked","k"] (gi (B 2 _ rfl) (d7 (aa 1) ai)) (fun _ _ _ _=>⟨(bq 2),cb,(av (d7 (aa 0) (aa 2)) (d7 (aa 1) (aa 2)))⟩))) (ar (br 10 (rj (B 7 _ rfl) (ae (aa 3) (ae (av (av (aa 10) (aa 19)) (pj (B 5 _ rfl) (ae (aa 18) ah))) ah)))) (ar (br 21 (az (C 17 _ rfl) (ae (az (C 15 _ rfl) (ae (aa 0) ah)) (ae (av ai ai) ah)))) (ar (Hv (dj (aa 8) (ae (n8 (ae (av (aa 20) (az (C 23 _ rfl) (ae (aa 0) ah))) (ae (av (av (aa 19) (aa 20)) (az (C 23 _ rfl) (ae (aa 0) ah))) (ae (aa 21) (ae (aa 11) (ae (aa 12) ah)))))) ah))) (ar (Hv (dj (aa 9) (ae (n8 (ae (aa 20) (ae (av (aa 19) (aa 20)) (ae (fj (B 3 _ rfl) (ae (aa 18) ah)) (ae (aa 14) ah))))) ah))) bz))))))))))))) (ar (br 22 (si ah)) (ar (nc (gi (B 2 _ rfl) (d7 (aa 1) ai)) (bq 16) (ar (Hv (dj (aa 22) (ae (n8 (ae (av (d7 (aa 7) (aa 16)) (az (C 23 _ rfl) (ae (aa 0) ah))) (ae (d7 (aa 5) (aa 16)) (ae (fj (B 3 _ rfl) (ae (d7 (d7 (aa 1) ai) (aa 16)) ah)) ah)))) ah))) bz)) (ar (bx (n8 (ae (n8 (ae (aa 3) (ae (aa 4) (ae (fj (B 3 _ rfl) (ae (aa 22) ah)) (ae (fj (B 3 _ rfl) (ae (aa 8) ah)) ah))))) (ae (fj (B 3 _ rfl) (ae (aa 9) ah)) ah)))) bz))))))))))))))⟩
theorem aa0 (B:∀(j:Nat) x,o4[j]? = some x→mg x=none):Derived GL P w K mg base ents e25:=⟨⟨rfl,rfl,rfl,by decide +kernel,rfl,by decide +kernel,by decide +kernel⟩,rfl,rfl,rfl,fun n fa cdv A outer s H E hu C =>
 (ar (nc (gi (B 2 _ rfl) (c9 (B 6 _ rfl) (ae (aa 2) ah))) (bq 3) (ar (sj (dn (ag 4 (ag 5 (ag 6 dm)))) (d7 (aa 2) (aa 3))) (ar (n4 (Fs (uu (n9 (bg ai (N6 hu .le (aa 4) (cw hu .lt (aa 1))))) (qd (n9 (bg ai (N6 hu .le (aa 5) (N6 hu .lt (aa 6) (cw hu .le (aa 0))))))))) (ar (bx Fq) bz) bz) (ar (nc (f6 (X6 (aa 2) X4 (X5 (aa 3)))) (bq 7) (ar (n4 (Fs (uu (bg (aa 7) (cw hu .ge (d7 (aa 2) (aa 3)))) (qd (Fs (Ap (bg (d7 (aa 7) ai) (cw hu .eq (aa 4))) (Ap (bg (d7 (aa 7) ai) (cw hu .lt (aa 6))) (yi (bg (aa 5) (cw hu .lt (d7 (aa 7) ai)))))))))) (ar (bx Fq) bz) bz) bz)) bz)))) (ar (bx Fq) bz))⟩
theorem aa1 (B:∀(j:Nat) x,o4[j]? = some x→mg x=none):Derived GL P w K mg base ents e26:=⟨⟨rfl,rfl,rfl,by decide +kernel,rfl,by decide +kernel,by decide +kernel⟩,rfl,rfl,rfl,fun n fa cdv A outer s H E hu C =>
 (ar (br 3 (Cq (B 13 _ rfl) (B 15 _ rfl) (av (av (si (ae ai ah)) (dy ["span"] (f6 (aa 2)) (fun _ _ _ _=>⟨(bq 0),cb,(d7 (aa 0) ai)⟩))) (dy ["span"] (f6 (aa 2)) (fun _ _ _ _=>⟨(bq 0),cb,(d7 (aa 0) ai)⟩))))) (ar (nc (f6 (aa 3)) (bq 4) (ar (n4 (bg (aa 4) (cw hu .lt (aa 0))) (ar (n4 (bg (c9 (B 6 _ rfl) (ae (dy ["point","span"] (f6 (aa 2)) (fun _ _ _ _=>⟨(bq 1),(k8 (Fs (Ap (bg (d7 (aa 1) ai) (cw hu .le (aa 0))) (yi (bg (aa 0) (cw hu .lt (d7 (aa 1) ai)))))) cb),(aa 1)⟩)) ah)) (cw hu .ne (aa 1))) (ar (bx Fq) bz) bz) bz) bz) bz)) (ar (bx Fq) bz)))⟩
theorem aa2 (B:∀(j:Nat) x,o4[j]? = some x→mg x=none):Derived GL P w K mg base ents e27:=⟨⟨rfl,rfl,rfl,by decide +kernel,rfl,by decide +kernel,by decide +kernel⟩,rfl,rfl,rfl,fun n fa cdv A outer s H E hu C =>
 (ar (sj (dn (ag 5 (ag 6 (ag 7 (ag 8 (ag 9 dm)))))) (d7 (d7 (aa 0) ai) (aa 1))) (ar (sj (dn (ag 10 (ag 11 (ag 12 (ag 13 dm))))) (aa 4)) (ar (n4 (Fs (uu (bg (aa 10) (cw hu .lt ai)) (qd (bg (aa 10) (cw hu .gt (aa 5)))))) (ar (bx n3) bz) bz) (ar (n4 (Fs (uu (bg (aa 11) (cw hu .lt ai)) (qd (bg (aa 11) (cw hu .gt (aa 6)))))) (ar (bx n3) bz) bz) (ar (n4 (Fs (uu (bg (c9 (B 6 _ rfl) (ae (dy ["much"] (f6 (aa 12)) (fun _ _ _ _=>⟨(bq 0),(k8 (bg (aa 0) (cw hu .lt ai)) cb),(aa 0)⟩)) ah)) (cw hu .gt ai)) (qd (bg (pj (B 5 _ rfl) (ae (aa 12) ah)) (cw hu .gt (av (av (aa 2) (aa 10)) (aa 11))))))) (ar (bx n3) bz) bz) (ar (br 14 (dy ["tanks","poured","k"] (gi (B 2 _ rfl) (c9 (B 6 _ rfl) (ae (aa 3) ah))) (fun _ _ _ _=>⟨(bq 2),cb,(av (d7 (aa 0) (aa 2)) (d7 (aa 1) (aa 2)))⟩))) (ar (n4 (bg (c9 (B 6 _ rfl) (ae (dy ["full","book","k"] (gi (B 2 _ rfl) (c9 (B 6 _ rfl) (ae (aa 14) ah))) (fun _ _ _ _=>⟨(bq 2),(k8 (bg (d7 (aa 0) (aa 2)) (cw hu .gt (d7 (d7 (d7 (aa 1) ai) (aa 2)) ai))) cb),(aa 2)⟩)) ah)) (cw hu .gt ai)) (ar (bx n3) bz) bz) (ar (n4 (h9 (az (C 25 _ rfl) (ae (aa 8) (ae (c9 (B 6 _ rfl) (ae (aa 3) ah)) (ae (aa 13) ah))))) (ar (bx n3) bz) bz) (ar (n4 (bg (c9 (B 6 _ rfl) (ae (dy ["number","book","span"] (f6 (aa 13)) (fun _ _ _ _=>⟨(bq 2),(k8 (bg (aa 0) (cw hu .in_ (d7 (d7 (d7 (aa 1) ai) (d7 (aa 2) ai)) ai))) cb),(aa 2)⟩)) ah)) (cw hu .gt ai)) (ar (bx n3) bz) bz) (ar (nc (gi (B 2 _ rfl) (c9 (B 6 _ rfl) (ae (aa 14) ah))) (bq 15) (ar (n4 (bg (pj (B 5 _ rfl) (ae (dy ["k","span"] (f6 (aa 13)) (fun _ _ _ _=>⟨(bq 1),(k8 (bg (d7 (aa 1) ai) (cw hu .eq (aa 0))) cb),(av (d7 (aa 1) ai) (d7 (aa 1) ai))⟩)) ah)) (cw hu .gt (d7 (aa 14) (aa 15)))) (ar (bx n3) bz) bz) bz)) (ar (n4 (h9 (az (C 26 _ rfl) (ae (aa 8) (ae (aa 9) (ae (aa 13) ah))))) (ar (bx n3) bz) bz) (ar (bx n3) bz))))))))))))⟩
theorem aa3 (B:∀(j:Nat) x,o4[j]? = some x→mg x=none):Derived GL P w K mg base ents e28:=⟨⟨rfl,rfl,rfl,by decide +kernel,rfl,by decide +kernel,by decide +kernel⟩,rfl,rfl,rfl,fun n fa cdv A outer s H E hu C =>
 (ar (br 2 (d7 (aa 0) ai)) (ar (br 3 (dy ["lamp"] (f6 (d7 (aa 0) ai)) (fun _ _ _ _=>⟨(bq 0),cb,(d7 (aa 0) ai)⟩))) (ar (br 4 (si ah)) (ar (nc (gi (B 2 _ rfl) (c9 (B 6 _ rfl) (ae (aa 1) ah))) (bq 5) (ar (br 6 (az (C 27 _ rfl) (ae (aa 0) (ae (aa 5) (ae (aa 2) (ae (aa 3) (ae (d7 (aa 1) (aa 5)) ah))))))) (ar (n4 (bg (aa 6) (cw hu .ne n3)) (ar (bx (n8 (ae (n8 (ae (aa 5) (ae (aa 6) ah))) (ae (Ht 4) ah)))) bz) bz) (ar (sj (dn (ag 7 (ag 8 (ag 9 (ag 10 dm))))) (d7 (aa 1) (aa 5))) (ar (br 2 (rj (B 7 _ rfl) (ae (d7 (aa 0) ai) (ae (av (av (av (aa 2) (aa 7)) (aa 8)) (pj (B 5 _ rfl) (ae (aa 9) ah))) ah)))) (ar (br 3 (dy ["tanks","poured","k"] (gi (B 2 _ rfl) (c9 (B 6 _ rfl) (ae (aa 3) ah))) (fun _ _ _ _=>⟨(bq 2),cb,(av (d7 (aa 0) (aa 2)) (d7 (aa 1) (aa 2)))⟩))) (ar (nc (f6 (aa 10)) (dn (ag 11 (ag 12 (ag 13 dm)))) (ar (Aq hu (aa 3) (aa 11) (av (d7 (aa 3) (aa 11)) (av (aa 13) (aa 12)))) bz)) (ar (Hv (dj (aa 4) (ae (n8 (ae (aa 2) (ae (fj (B 3 _ rfl) (ae (aa 3) ah)) ah))) ah))) bz)))))))) (ar (bx (n8 (ae Ca (ae (Ht 4) ah)))) bz)))))⟩
theorem aa4 (B:∀(j:Nat) x,o4[j]? = some x→mg x=none):Derived GL P w K mg base ents e29:=⟨⟨rfl,rfl,rfl,by decide +kernel,rfl,by decide +kernel,by decide +kernel⟩,rfl,rfl,rfl,fun n fa cdv A outer s H E hu C =>
 (ar (n4 (Fs (uu (n9 (h9 (Hu (aa 0) (B 9 _ rfl) (B 14 _ rfl)))) (qd (bg (aa 0) (cw hu .neM (aa 1)))))) (ar (bx Fq) bz) bz) (ar (nc (f6 (aa 0)) (bq 2) (ar (n4 (Fs (uu (n9 (h9 (Hu (aa 2) (B 9 _ rfl) (B 3 _ rfl)))) (uu (n9 (h9 (Hu (d7 (aa 2) ai) (B 9 _ rfl) (B 3 _ rfl)))) (qd (n9 (h9 (az (C 14 _ rfl) (ae (d7 (aa 2) ai) ah)))))))) (ar (bx Fq) bz) bz) (ar (n4 (bg (c9 (B 6 _ rfl) (ae (dy ["left"] (f6 (d7 (aa 2) ai)) (fun _ _ _ _=>⟨(bq 0),(k8 (n9 (h9 (az (C 14 _ rfl) (ae (aa 0) ah)))) cb),(aa 0)⟩)) ah)) (cw hu .gt ai)) (ar (bx Fq) bz) bz) bz))) (ar (bx Fq) bz)))⟩
theorem aa5 (B:∀(j:Nat) x,o4[j]? = some x→mg x=none):Derived GL P w K mg base ents e30:=⟨⟨rfl,rfl,rfl,by decide +kernel,rfl,by decide +kernel,by decide +kernel⟩,rfl,rfl,rfl,fun n fa cdv A outer s H E hu C =>
 (ar (sj (dn (ag 1 (ag 2 dm))) (az (C 24 _ rfl) (ae (Ia (B 14 _ rfl) (B 16 _ rfl) (aa 0)) ah))) (ar (br 3 (az (C 28 _ rfl) (ae (aa 1) (ae (aa 2) ah)))) (ar (n4 (Fs (uu (bg (d7 (aa 3) ai) (cw hu .isnot Ca)) (uu (bg (az (C 11 _ rfl) (ae (aa 1) (ae (aa 2) ah))) (cw hu .isnot Ca)) (qd (bg (az (C 12 _ rfl) (ae (aa 1) (ae (aa 2) ah))) (cw hu .isnot Fq)))))) (ar (bx Fq) bz) bz) (ar (br 4 (az (C 13 _ rfl) (ae (aa 1) (ae (aa 2) ah)))) (ar (n4 (n9 (h9 (az (C 29 _ rfl) (ae (aa 4) (ae (d7 (aa 3) ai) ah))))) (ar (bx Fq) bz) bz) (ar (Hv (Ft (aa 4))) (ar (bx (az (C 29 _ rfl) (ae (az (C 13 _ rfl) (ae (aa 1) (ae (aa 2) ah))) (ae (d7 (aa 3) ai) ah)))) bz)))))))⟩
theorem dvs (B:∀(j:Nat) x,o4[j]? = some x→mg x=none):∀(j:Nat) e,ents[j]? = some e→Derived GL P w K mg base ents e
 | 0,_,h=>by
  have h':some e0=some _:=h
  cases h'
  exact dv0 B
 | 1,_,h=>by
  have h':some e1=some _:=h
  cases h'
  exact dv1 B
 | 2,_,h=>by
  have h':some e2=some _:=h
  cases h'
  exact dv2 B
 | 3,_,h=>by
  have h':some e3=some _:=h
  cases h'
  exact dv3 B
 | 4,_,h=>by
  have h':some e4=some _:=h
  cases h'
  exact dv4 B
 | 5,_,h=>by
  have h':some e5=some _:=h
  cases h'
  exact dv5 B
 | 6,_,h=>by
  have h':some e6=some _:=h
  cases h'
  exact dv6 B
 | 7,_,h=>by
  have h':some e7=some _:=h
  cases h'
  exact dv7 B
 | 8,_,h=>by
  have h':some e8=some _:=h
  cases h'
  exact dv8 B
 | 9,_,h=>by
  have h':some e9=some _:=h
  cases h'
  exact dv9 B
 | 10,_,h=>by
  have h':some e10=some _:=h
  cases h'
  exact aal B
 | 11,_,h=>by
  have h':some e11=some _:=h
  cases h'
  exact aam B
 | 12,_,h=>by
  have h':some e12=some _:=h
  cases h'
  exact aan B
 | 13,_,h=>by
  have h':some e13=some _:=h
  cases h'
  exact aao B
 | 14,_,h=>by
  have h':some e14=some _:=h
  cases h'
  exact aap B
 | 15,_,h=>by
  have h':some e15=some _:=h
  cases h'
  exact aaq B
 | 16,_,h=>by
  have h':some e16=some _:=h
  cases h'
  exact aar B
 | 17,_,h=>by
  have h':some e17=some _:=h
  cases h'
  exact aas B
 | 18,_,h=>by
  have h':some e18=some _:=h
  cases h'
  exact aat B
 | 19,_,h=>by
  have h':some e19=some _:=h
  cases h'
  exact aau B
 | 20,_,h=>by
  have h':some e20=some _:=h
  cases h'
  exact aav B
 | 21,_,h=>by
  have h':some e21=some _:=h
  cases h'
  exact aaw B
 | 22,_,h=>by
  have h':some e22=some _:=h
  cases h'
  exact aax B
 | 23,_,h=>by
  have h':some e23=some _:=h
  cases h'
  exact aay B
 | 24,_,h=>by
  have h':some e24=some _:=h
  cases h'
  exact aaz B
 | 25,_,h=>by
  have h':some e25=some _:=h
  cases h'
  exact aa0 B
 | 26,_,h=>by
  have h':some e26=some _:=h
  cases h'
  exact aa1 B
 | 27,_,h=>by
  have h':some e27=some _:=h
  cases h'
  exact aa2 B
 | 28,_,h=>by
  have h':some e28=some _:=h
  cases h'
  exact aa3 B
 | 29,_,h=>by
  have h':some e29=some _:=h
  cases h'
  exact aa4 B
 | 30,_,h=>by
  have h':some e30=some _:=h
  cases h'
  exact aa5 B
 | n+31,_,h=>by
  have h':(none:Option Ent)=some _:=h
  cases h'
theorem mk0 {h:Heap} {f:Addr} {oc:Value} {od an:Option Addr} {sl:Array (Option Value)} {kV dc pm cd ct:Value} (X:K.In h) (G:h.Ns mainGlobals mg) (a:PySem.W.nsIn K mainGlobals "rises"=some (some (.ref f))) (l:K.lookup f=some ⟨oc,od,.func (PySem.W.fnOf "rises" "rises" (bf (top 1)) (bc (top 1)) (ao (top 1)) .none kV dc pm an cd ct),sl⟩) (c:PySem.W.codeIn K cd "rises"=true) (k:PySem.W.keepIn K (.ref f)=true):ModOf K mg e0 :=
 cz (e:=e0) X G a l c k fun _ _ _ _ _ _=>ar1 fun _=>rfl
theorem mk1 {h:Heap} {f:Addr} {oc:Value} {od an:Option Addr} {sl:Array (Option Value)} {kV dc pm cd ct:Value} (X:K.In h) (G:h.Ns mainGlobals mg) (a:PySem.W.nsIn K mainGlobals "can_burn"=some (some (.ref f))) (l:K.lookup f=some ⟨oc,od,.func (PySem.W.fnOf "can_burn" "can_burn" (bf (top 2)) (bc (top 2)) (ao (top 2)) .none kV dc pm an cd ct),sl⟩) (c:PySem.W.codeIn K cd "can_burn"=true) (k:PySem.W.keepIn K (.ref f)=true):ModOf K mg e1 :=
 cz (e:=e1) X G a l c k fun _ _ _ _ _ _=>ar3 fun _ _ _=>rfl
theorem mk2 {h:Heap} {f:Addr} {oc:Value} {od an:Option Addr} {sl:Array (Option Value)} {kV dc pm cd ct:Value} (X:K.In h) (G:h.Ns mainGlobals mg) (a:PySem.W.nsIn K mainGlobals "ticks_of_spans"=some (some (.ref f))) (l:K.lookup f=some ⟨oc,od,.func (PySem.W.fnOf "ticks_of_spans" "ticks_of_spans" (bf (top 4)) (bc (top 4)) (ao (top 4)) .none kV dc pm an cd ct),sl⟩) (c:PySem.W.codeIn K cd "ticks_of_spans"=true) (k:PySem.W.keepIn K (.ref f)=true):ModOf K mg e2 :=
 cz (e:=e2) X G a l c k fun _ _ _ _ _ _=>ar2 fun _ _=>rfl
theorem mk3 {h:Heap} {f:Addr} {oc:Value} {od an:Option Addr} {sl:Array (Option Value)} {kV dc pm cd ct:Value} (X:K.In h) (G:h.Ns mainGlobals mg) (a:PySem.W.nsIn K mainGlobals "have_tick_in_common"=some (some (.ref f))) (l:K.lookup f=some ⟨oc,od,.func (PySem.W.fnOf "have_tick_in_common" "have_tick_in_common" (bf (top 5)) (bc (top 5)) (ao (top 5)) .none kV dc pm an cd ct),sl⟩) (c:PySem.W.codeIn K cd "have_tick_in_common"=true) (k:PySem.W.keepIn K (.ref f)=true):ModOf K mg e3 :=
 cz (e:=e3) X G a l c k fun _ _ _ _ _ _=>ar2 fun _ _=>rfl
theorem mk4 {h:Heap} {f:Addr} {oc:Value} {od an:Option Addr} {sl:Array (Option Value)} {kV dc pm cd ct:Value} (X:K.In h) (G:h.Ns mainGlobals mg) (a:PySem.W.nsIn K mainGlobals "has_span_fault"=some (some (.ref f))) (l:K.lookup f=some ⟨oc,od,.func (PySem.W.fnOf "has_span_fault" "has_span_fault" (bf (top 6)) (bc (top 6)) (ao (top 6)) .none kV dc pm an cd ct),sl⟩) (c:PySem.W.codeIn K cd "has_span_fault"=true) (k:PySem.W.keepIn K (.ref f)=true):ModOf K mg e4 :=
 cz (e:=e4) X G a l c k fun _ _ _ _ _ _=>ar3 fun _ _ _=>rfl
theorem mk5 {h:Heap} {f:Addr} {oc:Value} {od an:Option Addr} {sl:Array (Option Value)} {kV dc pm cd ct:Value} (X:K.In h) (G:h.Ns mainGlobals mg) (a:PySem.W.nsIn K mainGlobals "has_dark_fault"=some (some (.ref f))) (l:K.lookup f=some ⟨oc,od,.func (PySem.W.fnOf "has_dark_fault" "has_dark_fault" (bf (top 7)) (bc (top 7)) (ao (top 7)) .none kV dc pm an cd ct),sl⟩) (c:PySem.W.codeIn K cd "has_dark_fault"=true) (k:PySem.W.keepIn K (.ref f)=true):ModOf K mg e5 :=
 cz (e:=e5) X G a l c k fun _ _ _ _ _ _=>ar3 fun _ _ _=>rfl
theorem mk6 {h:Heap} {f:Addr} {oc:Value} {od an:Option Addr} {sl:Array (Option Value)} {kV dc pm cd ct:Value} (X:K.In h) (G:h.Ns mainGlobals mg) (a:PySem.W.nsIn K mainGlobals "held_at_first"=some (some (.ref f))) (l:K.lookup f=some ⟨oc,od,.func (PySem.W.fnOf "held_at_first" "held_at_first" (bf (top 8)) (bc (top 8)) (ao (top 8)) .none kV dc pm an cd ct),sl⟩) (c:PySem.W.codeIn K cd "held_at_first"=true) (k:PySem.W.keepIn K (.ref f)=true):ModOf K mg e6 :=
 cz (e:=e6) X G a l c k fun _ _ _ _ _ _=>ar1 fun _=>rfl
theorem mk7 {h:Heap} {f:Addr} {oc:Value} {od an:Option Addr} {sl:Array (Option Value)} {kV dc pm cd ct:Value} (X:K.In h) (G:h.Ns mainGlobals mg) (a:PySem.W.nsIn K mainGlobals "filled"=some (some (.ref f))) (l:K.lookup f=some ⟨oc,od,.func (PySem.W.fnOf "filled" "filled" (bf (top 9)) (bc (top 9)) (ao (top 9)) .none kV dc pm an cd ct),sl⟩) (c:PySem.W.codeIn K cd "filled"=true) (k:PySem.W.keepIn K (.ref f)=true):ModOf K mg e7 :=
 cz (e:=e7) X G a l c k fun _ _ _ _ _ _=>ar2 fun _ _=>rfl
theorem mk8 {h:Heap} {f:Addr} {oc:Value} {od an:Option Addr} {sl:Array (Option Value)} {kV dc pm cd ct:Value} (X:K.In h) (G:h.Ns mainGlobals mg) (a:PySem.W.nsIn K mainGlobals "held_behind"=some (some (.ref f))) (l:K.lookup f=some ⟨oc,od,.func (PySem.W.fnOf "held_behind" "held_behind" (bf (top 10)) (bc (top 10)) (ao (top 10)) .none kV dc pm an cd ct),sl⟩) (c:PySem.W.codeIn K cd "held_behind"=true) (k:PySem.W.keepIn K (.ref f)=true):ModOf K mg e8 :=
 cz (e:=e8) X G a l c k fun _ _ _ _ _ _=>ar3 fun _ _ _=>rfl
theorem mk9 {h:Heap} {f:Addr} {oc:Value} {od an:Option Addr} {sl:Array (Option Value)} {kV dc pm cd ct:Value} (X:K.In h) (G:h.Ns mainGlobals mg) (a:PySem.W.nsIn K mainGlobals "day_fault"=some (some (.ref f))) (l:K.lookup f=some ⟨oc,od,.func (PySem.W.fnOf "day_fault" "day_fault" (bf (top 11)) (bc (top 11)) (ao (top 11)) .none kV dc pm an cd ct),sl⟩) (c:PySem.W.codeIn K cd "day_fault"=true) (k:PySem.W.keepIn K (.ref f)=true):ModOf K mg e9 :=
 cz (e:=e9) X G a l c k fun _ _ _ _ _ _=>ar4 fun _ _ _ _=>rfl
theorem aa6 {h:Heap} {f:Addr} {oc:Value} {od an:Option Addr} {sl:Array (Option Value)} {kV dc pm cd ct:Value} (X:K.In h) (G:h.Ns mainGlobals mg) (a:PySem.W.nsIn K mainGlobals "night_fault"=some (some (.ref f))) (l:K.lookup f=some ⟨oc,od,.func (PySem.W.fnOf "night_fault" "night_fault" (bf (top 12)) (bc (top 12)) (ao (top 12)) .none kV dc pm an cd ct),sl⟩) (c:PySem.W.codeIn K cd "night_fault"=true) (k:PySem.W.keepIn K (.ref f)=true):ModOf K mg e10 :=
 cz (e:=e10) X G a l c k fun _ _ _ _ _ _=>ar4 fun _ _ _ _=>rfl
theorem aa7 {h:Heap} {f:Addr} {oc:Value} {od an:Option Addr} {sl:Array (Option Value)} {kV dc pm cd ct:Value} (X:K.In h) (G:h.Ns mainGlobals mg) (a:PySem.W.nsIn K mainGlobals "fault"=some (some (.ref f))) (l:K.lookup f=some ⟨oc,od,.func (PySem.W.fnOf "fault" "fault" (bf (top 13)) (bc (top 13)) (ao (top 13)) .none kV dc pm an cd ct),sl⟩) (c:PySem.W.codeIn K cd "fault"=true) (k:PySem.W.keepIn K (.ref f)=true):ModOf K mg e11 :=
 cz (e:=e11) X G a l c k fun _ _ _ _ _ _=>ar2 fun _ _=>rfl
theorem aa8 {h:Heap} {f:Addr} {oc:Value} {od an:Option Addr} {sl:Array (Option Value)} {kV dc pm cd ct:Value} (X:K.In h) (G:h.Ns mainGlobals mg) (a:PySem.W.nsIn K mainGlobals "keeps"=some (some (.ref f))) (l:K.lookup f=some ⟨oc,od,.func (PySem.W.fnOf "keeps" "keeps" (bf (top 14)) (bc (top 14)) (ao (top 14)) .none kV dc pm an cd ct),sl⟩) (c:PySem.W.codeIn K cd "keeps"=true) (k:PySem.W.keepIn K (.ref f)=true):ModOf K mg e12 :=
 cz (e:=e12) X G a l c k fun _ _ _ _ _ _=>ar2 fun _ _=>rfl
theorem aa9 {h:Heap} {f:Addr} {oc:Value} {od an:Option Addr} {sl:Array (Option Value)} {kV dc pm cd ct:Value} (X:K.In h) (G:h.Ns mainGlobals mg) (a:PySem.W.nsIn K mainGlobals "evenings"=some (some (.ref f))) (l:K.lookup f=some ⟨oc,od,.func (PySem.W.fnOf "evenings" "evenings" (bf (top 15)) (bc (top 15)) (ao (top 15)) .none kV dc pm an cd ct),sl⟩) (c:PySem.W.codeIn K cd "evenings"=true) (k:PySem.W.keepIn K (.ref f)=true):ModOf K mg e13 :=
 cz (e:=e13) X G a l c k fun _ _ _ _ _ _=>ar2 fun _ _=>rfl
theorem aba {h:Heap} {f:Addr} {oc:Value} {od an:Option Addr} {sl:Array (Option Value)} {kV dc pm cd ct:Value} (X:K.In h) (G:h.Ns mainGlobals mg) (a:PySem.W.nsIn K mainGlobals "_law_whole"=some (some (.ref f))) (l:K.lookup f=some ⟨oc,od,.func (PySem.W.fnOf "_law_whole" "_law_whole" (bf (top 17)) (bc (top 17)) (ao (top 17)) .none kV dc pm an cd ct),sl⟩) (c:PySem.W.codeIn K cd "_law_whole"=true) (k:PySem.W.keepIn K (.ref f)=true):ModOf K mg e14 :=
 cz (e:=e14) X G a l c k fun _ _ _ _ _ _=>ar1 fun _=>rfl
theorem abb {h:Heap} {f:Addr} {oc:Value} {od an:Option Addr} {sl:Array (Option Value)} {kV dc pm cd ct:Value} (X:K.In h) (G:h.Ns mainGlobals mg) (a:PySem.W.nsIn K mainGlobals "_law_next"=some (some (.ref f))) (l:K.lookup f=some ⟨oc,od,.func (PySem.W.fnOf "_law_next" "_law_next" (bf (top 18)) (bc (top 18)) (ao (top 18)) .none kV dc pm an cd ct),sl⟩) (c:PySem.W.codeIn K cd "_law_next"=true) (k:PySem.W.keepIn K (.ref f)=true):ModOf K mg e15 :=
 cz (e:=e15) X G a l c k fun _ _ _ _ _ _=>ar1 fun _=>rfl
theorem abc {h:Heap} {f:Addr} {oc:Value} {od an:Option Addr} {sl:Array (Option Value)} {kV dc pm cd ct:Value} (X:K.In h) (G:h.Ns mainGlobals mg) (a:PySem.W.nsIn K mainGlobals "_law_turn"=some (some (.ref f))) (l:K.lookup f=some ⟨oc,od,.func (PySem.W.fnOf "_law_turn" "_law_turn" (bf (top 19)) (bc (top 19)) (ao (top 19)) .none kV dc pm an cd ct),sl⟩) (c:PySem.W.codeIn K cd "_law_turn"=true) (k:PySem.W.keepIn K (.ref f)=true):ModOf K mg e16 :=
 cz (e:=e16) X G a l c k fun _ _ _ _ _ _=>ar1 fun _=>rfl
theorem abd {h:Heap} {f:Addr} {oc:Value} {od an:Option Addr} {sl:Array (Option Value)} {kV dc pm cd ct:Value} (X:K.In h) (G:h.Ns mainGlobals mg) (a:PySem.W.nsIn K mainGlobals "_law_size"=some (some (.ref f))) (l:K.lookup f=some ⟨oc,od,.func (PySem.W.fnOf "_law_size" "_law_size" (bf (top 20)) (bc (top 20)) (ao (top 20)) .none kV dc pm an cd ct),sl⟩) (c:PySem.W.codeIn K cd "_law_size"=true) (k:PySem.W.keepIn K (.ref f)=true):ModOf K mg e17 :=
 cz (e:=e17) X G a l c k fun _ _ _ _ _ _=>ar2 fun _ _=>rfl
theorem abe {h:Heap} {f:Addr} {oc:Value} {od an:Option Addr} {sl:Array (Option Value)} {kV dc pm cd ct:Value} (X:K.In h) (G:h.Ns mainGlobals mg) (a:PySem.W.nsIn K mainGlobals "_law_share"=some (some (.ref f))) (l:K.lookup f=some ⟨oc,od,.func (PySem.W.fnOf "_law_share" "_law_share" (bf (top 21)) (bc (top 21)) (ao (top 21)) .none kV dc pm an cd ct),sl⟩) (c:PySem.W.codeIn K cd "_law_share"=true) (k:PySem.W.keepIn K (.ref f)=true):ModOf K mg e18 :=
 cz (e:=e18) X G a l c k fun _ _ _ _ _ _=>ar3 fun _ _ _=>rfl
theorem abf {h:Heap} {f:Addr} {oc:Value} {od an:Option Addr} {sl:Array (Option Value)} {kV dc pm cd ct:Value} (X:K.In h) (G:h.Ns mainGlobals mg) (a:PySem.W.nsIn K mainGlobals "_law_ticks"=some (some (.ref f))) (l:K.lookup f=some ⟨oc,od,.func (PySem.W.fnOf "_law_ticks" "_law_ticks" (bf (top 22)) (bc (top 22)) (ao (top 22)) .none kV dc pm an cd ct),sl⟩) (c:PySem.W.codeIn K cd "_law_ticks"=true) (k:PySem.W.keepIn K (.ref f)=true):ModOf K mg e19 :=
 cz (e:=e19) X G a l c k fun _ _ _ _ _ _=>ar4 fun _ _ _ _=>rfl
theorem abg {h:Heap} {f:Addr} {oc:Value} {od an:Option Addr} {sl:Array (Option Value)} {kV dc pm cd ct:Value} (X:K.In h) (G:h.Ns mainGlobals mg) (a:PySem.W.nsIn K mainGlobals "_law_spans"=some (some (.ref f))) (l:K.lookup f=some ⟨oc,od,.func (PySem.W.fnOf "_law_spans" "_law_spans" (bf (top 23)) (bc (top 23)) (ao (top 23)) .none kV dc pm an cd ct),sl⟩) (c:PySem.W.codeIn K cd "_law_spans"=true) (k:PySem.W.keepIn K (.ref f)=true):ModOf K mg e20 :=
 cz (e:=e20) X G a l c k fun _ _ _ _ _ _=>ar2 fun _ _=>rfl
theorem abh {h:Heap} {f:Addr} {oc:Value} {od an:Option Addr} {sl:Array (Option Value)} {kV dc pm cd ct:Value} (X:K.In h) (G:h.Ns mainGlobals mg) (a:PySem.W.nsIn K mainGlobals "_law_frame"=some (some (.ref f))) (l:K.lookup f=some ⟨oc,od,.func (PySem.W.fnOf "_law_frame" "_law_frame" (bf (top 24)) (bc (top 24)) (ao (top 24)) .none kV dc pm an cd ct),sl⟩) (c:PySem.W.codeIn K cd "_law_frame"=true) (k:PySem.W.keepIn K (.ref f)=true):ModOf K mg e21 :=
 cz (e:=e21) X G a l c k fun _ _ _ _ _ _=>ar1 fun _=>rfl
theorem abi {h:Heap} {f:Addr} {oc:Value} {od an:Option Addr} {sl:Array (Option Value)} {kV dc pm cd ct:Value} (X:K.In h) (G:h.Ns mainGlobals mg) (a:PySem.W.nsIn K mainGlobals "_law_nights"=some (some (.ref f))) (l:K.lookup f=some ⟨oc,od,.func (PySem.W.fnOf "_law_nights" "_law_nights" (bf (top 25)) (bc (top 25)) (ao (top 25)) .none kV dc pm an cd ct),sl⟩) (c:PySem.W.codeIn K cd "_law_nights"=true) (k:PySem.W.keepIn K (.ref f)=true):ModOf K mg e22 :=
 cz (e:=e22) X G a l c k fun _ _ _ _ _ _=>ar2 fun _ _=>rfl
theorem abj {h:Heap} {f:Addr} {oc:Value} {od an:Option Addr} {sl:Array (Option Value)} {kV dc pm cd ct:Value} (X:K.In h) (G:h.Ns mainGlobals mg) (a:PySem.W.nsIn K mainGlobals "_law_slack"=some (some (.ref f))) (l:K.lookup f=some ⟨oc,od,.func (PySem.W.fnOf "_law_slack" "_law_slack" (bf (top 26)) (bc (top 26)) (ao (top 26)) .none kV dc pm an cd ct),sl⟩) (c:PySem.W.codeIn K cd "_law_slack"=true) (k:PySem.W.keepIn K (.ref f)=true):ModOf K mg e23 :=
 cz (e:=e23) X G a l c k fun _ _ _ _ _ _=>ar1 fun _=>rfl
theorem abk {h:Heap} {f:Addr} {oc:Value} {od an:Option Addr} {sl:Array (Option Value)} {kV dc pm cd ct:Value} (X:K.In h) (G:h.Ns mainGlobals mg) (a:PySem.W.nsIn K mainGlobals "_law_kept"=some (some (.ref f))) (l:K.lookup f=some ⟨oc,od,.func (PySem.W.fnOf "_law_kept" "_law_kept" (bf (top 27)) (bc (top 27)) (ao (top 27)) .none kV dc pm an cd ct),sl⟩) (c:PySem.W.codeIn K cd "_law_kept"=true) (k:PySem.W.keepIn K (.ref f)=true):ModOf K mg e24 :=
 cz (e:=e24) X G a l c k fun _ _ _ _ _ _=>ar1 fun _=>rfl
theorem abl {h:Heap} {f:Addr} {oc:Value} {od an:Option Addr} {sl:Array (Option Value)} {kV dc pm cd ct:Value} (X:K.In h) (G:h.Ns mainGlobals mg) (a:PySem.W.nsIn K mainGlobals "_law_span_bad"=some (some (.ref f))) (l:K.lookup f=some ⟨oc,od,.func (PySem.W.fnOf "_law_span_bad" "_law_span_bad" (bf (top 28)) (bc (top 28)) (ao (top 28)) .none kV dc pm an cd ct),sl⟩) (c:PySem.W.codeIn K cd "_law_span_bad"=true) (k:PySem.W.keepIn K (.ref f)=true):ModOf K mg e25 :=
 cz (e:=e25) X G a l c k fun _ _ _ _ _ _=>ar3 fun _ _ _=>rfl
theorem abm {h:Heap} {f:Addr} {oc:Value} {od an:Option Addr} {sl:Array (Option Value)} {kV dc pm cd ct:Value} (X:K.In h) (G:h.Ns mainGlobals mg) (a:PySem.W.nsIn K mainGlobals "_law_dark"=some (some (.ref f))) (l:K.lookup f=some ⟨oc,od,.func (PySem.W.fnOf "_law_dark" "_law_dark" (bf (top 29)) (bc (top 29)) (ao (top 29)) .none kV dc pm an cd ct),sl⟩) (c:PySem.W.codeIn K cd "_law_dark"=true) (k:PySem.W.keepIn K (.ref f)=true):ModOf K mg e26 :=
 cz (e:=e26) X G a l c k fun _ _ _ _ _ _=>ar3 fun _ _ _=>rfl
theorem abn {h:Heap} {f:Addr} {oc:Value} {od an:Option Addr} {sl:Array (Option Value)} {kV dc pm cd ct:Value} (X:K.In h) (G:h.Ns mainGlobals mg) (a:PySem.W.nsIn K mainGlobals "_law_word"=some (some (.ref f))) (l:K.lookup f=some ⟨oc,od,.func (PySem.W.fnOf "_law_word" "_law_word" (bf (top 30)) (bc (top 30)) (ao (top 30)) .none kV dc pm an cd ct),sl⟩) (c:PySem.W.codeIn K cd "_law_word"=true) (k:PySem.W.keepIn K (.ref f)=true):ModOf K mg e27 :=
 cz (e:=e27) X G a l c k fun _ _ _ _ _ _=>ar5 fun _ _ _ _ _=>rfl
theorem abo {h:Heap} {f:Addr} {oc:Value} {od an:Option Addr} {sl:Array (Option Value)} {kV dc pm cd ct:Value} (X:K.In h) (G:h.Ns mainGlobals mg) (a:PySem.W.nsIn K mainGlobals "_law_walk"=some (some (.ref f))) (l:K.lookup f=some ⟨oc,od,.func (PySem.W.fnOf "_law_walk" "_law_walk" (bf (top 31)) (bc (top 31)) (ao (top 31)) .none kV dc pm an cd ct),sl⟩) (c:PySem.W.codeIn K cd "_law_walk"=true) (k:PySem.W.keepIn K (.ref f)=true):ModOf K mg e28 :=
 cz (e:=e28) X G a l c k fun _ _ _ _ _ _=>ar2 fun _ _=>rfl
theorem abp {h:Heap} {f:Addr} {oc:Value} {od an:Option Addr} {sl:Array (Option Value)} {kV dc pm cd ct:Value} (X:K.In h) (G:h.Ns mainGlobals mg) (a:PySem.W.nsIn K mainGlobals "_law_same_evenings"=some (some (.ref f))) (l:K.lookup f=some ⟨oc,od,.func (PySem.W.fnOf "_law_same_evenings" "_law_same_evenings" (bf (top 32)) (bc (top 32)) (ao (top 32)) .none kV dc pm an cd ct),sl⟩) (c:PySem.W.codeIn K cd "_law_same_evenings"=true) (k:PySem.W.keepIn K (.ref f)=true):ModOf K mg e29 :=
 cz (e:=e29) X G a l c k fun _ _ _ _ _ _=>ar2 fun _ _=>rfl
theorem abq {h:Heap} {f:Addr} {oc:Value} {od an:Option Addr} {sl:Array (Option Value)} {kV dc pm cd ct:Value} (X:K.In h) (G:h.Ns mainGlobals mg) (a:PySem.W.nsIn K mainGlobals "law"=some (some (.ref f))) (l:K.lookup f=some ⟨oc,od,.func (PySem.W.fnOf "law" "law" (bf (top 33)) (bc (top 33)) (ao (top 33)) .none kV dc pm an cd ct),sl⟩) (c:PySem.W.codeIn K cd "law"=true) (k:PySem.W.keepIn K (.ref f)=true):ModOf K mg e30 :=
 cz (e:=e30) X G a l c k fun _ _ _ _ _ _=>ar1 fun _=>rfl
end
theorem mods {K:PySem.W.Frag} {mg:Str→Option Value} (m0:ModOf K mg e0) (m1:ModOf K mg e1) (m2:ModOf K mg e2) (m3:ModOf K mg e3) (m4:ModOf K mg e4) (m5:ModOf K mg e5) (m6:ModOf K mg e6) (m7:ModOf K mg e7) (m8:ModOf K mg e8) (m9:ModOf K mg e9) (m10:ModOf K mg e10) (m11:ModOf K mg e11) (m12:ModOf K mg e12) (m13:ModOf K mg e13) (m14:ModOf K mg e14) (m15:ModOf K mg e15) (m16:ModOf K mg e16) (m17:ModOf K mg e17) (m18:ModOf K mg e18) (m19:ModOf K mg e19) (m20:ModOf K mg e20) (m21:ModOf K mg e21) (m22:ModOf K mg e22) (m23:ModOf K mg e23) (m24:ModOf K mg e24) (m25:ModOf K mg e25) (m26:ModOf K mg e26) (m27:ModOf K mg e27) (m28:ModOf K mg e28) (m29:ModOf K mg e29) (m30:ModOf K mg e30):∀(j:Nat) e,ents[j]? = some e→ModOf K mg e
 | 0,_,h=>by
  have h':some e0=some _:=h
  cases h'
  exact m0
 | 1,_,h=>by
  have h':some e1=some _:=h
  cases h'
  exact m1
 | 2,_,h=>by
  have h':some e2=some _:=h
  cases h'
  exact m2
 | 3,_,h=>by
  have h':some e3=some _:=h
  cases h'
  exact m3
 | 4,_,h=>by
  have h':some e4=some _:=h
  cases h'
  exact m4
 | 5,_,h=>by
  have h':some e5=some _:=h
  cases h'
  exact m5
 | 6,_,h=>by
  have h':some e6=some _:=h
  cases h'
  exact m6
 | 7,_,h=>by
  have h':some e7=some _:=h
  cases h'
  exact m7
 | 8,_,h=>by
  have h':some e8=some _:=h
  cases h'
  exact m8
 | 9,_,h=>by
  have h':some e9=some _:=h
  cases h'
  exact m9
 | 10,_,h=>by
  have h':some e10=some _:=h
  cases h'
  exact m10
 | 11,_,h=>by
  have h':some e11=some _:=h
  cases h'
  exact m11
 | 12,_,h=>by
  have h':some e12=some _:=h
  cases h'
  exact m12
 | 13,_,h=>by
  have h':some e13=some _:=h
  cases h'
  exact m13
 | 14,_,h=>by
  have h':some e14=some _:=h
  cases h'
  exact m14
 | 15,_,h=>by
  have h':some e15=some _:=h
  cases h'
  exact m15
 | 16,_,h=>by
  have h':some e16=some _:=h
  cases h'
  exact m16
 | 17,_,h=>by
  have h':some e17=some _:=h
  cases h'
  exact m17
 | 18,_,h=>by
  have h':some e18=some _:=h
  cases h'
  exact m18
 | 19,_,h=>by
  have h':some e19=some _:=h
  cases h'
  exact m19
 | 20,_,h=>by
  have h':some e20=some _:=h
  cases h'
  exact m20
 | 21,_,h=>by
  have h':some e21=some _:=h
  cases h'
  exact m21
 | 22,_,h=>by
  have h':some e22=some _:=h
  cases h'
  exact m22
 | 23,_,h=>by
  have h':some e23=some _:=h
  cases h'
  exact m23
 | 24,_,h=>by
  have h':some e24=some _:=h
  cases h'
  exact m24
 | 25,_,h=>by
  have h':some e25=some _:=h
  cases h'
  exact m25
 | 26,_,h=>by
  have h':some e26=some _:=h
  cases h'
  exact m26
 | 27,_,h=>by
  have h':some e27=some _:=h
  cases h'
  exact m27
 | 28,_,h=>by
  have h':some e28=some _:=h
  cases h'
  exact m28
 | 29,_,h=>by
  have h':some e29=some _:=h
  cases h'
  exact m29
 | 30,_,h=>by
  have h':some e30=some _:=h
  cases h'
  exact m30
 | n+31,_,h=>by
  have h':(none:Option Ent)=some _:=h
  cases h'
theorem nob {mg:Str→Option Value} (b0:mg "zip"=none) (b1:mg "all"=none) (b2:mg "range"=none) (b3:mg "tuple"=none) (b4:mg "any"=none) (b5:mg "sum"=none) (b6:mg "len"=none) (b7:mg "min"=none) (b8:mg "enumerate"=none) (b9:mg "isinstance"=none) (b10:mg "int"=none) (b11:mg "bool"=none) (b12:mg "max"=none) (b13:mg "sorted"=none) (b14:mg "list"=none) (b15:mg "set"=none) (b16:mg "reversed"=none):∀(j:Nat) x,o4[j]? = some x→mg x=none
 | 0,_,h=>by
  have h':some ("zip":Str)=some _:=h
  cases h'
  exact b0
 | 1,_,h=>by
  have h':some ("all":Str)=some _:=h
  cases h'
  exact b1
 | 2,_,h=>by
  have h':some ("range":Str)=some _:=h
  cases h'
  exact b2
 | 3,_,h=>by
  have h':some ("tuple":Str)=some _:=h
  cases h'
  exact b3
 | 4,_,h=>by
  have h':some ("any":Str)=some _:=h
  cases h'
  exact b4
 | 5,_,h=>by
  have h':some ("sum":Str)=some _:=h
  cases h'
  exact b5
 | 6,_,h=>by
  have h':some ("len":Str)=some _:=h
  cases h'
  exact b6
 | 7,_,h=>by
  have h':some ("min":Str)=some _:=h
  cases h'
  exact b7
 | 8,_,h=>by
  have h':some ("enumerate":Str)=some _:=h
  cases h'
  exact b8
 | 9,_,h=>by
  have h':some ("isinstance":Str)=some _:=h
  cases h'
  exact b9
 | 10,_,h=>by
  have h':some ("int":Str)=some _:=h
  cases h'
  exact b10
 | 11,_,h=>by
  have h':some ("bool":Str)=some _:=h
  cases h'
  exact b11
 | 12,_,h=>by
  have h':some ("max":Str)=some _:=h
  cases h'
  exact b12
 | 13,_,h=>by
  have h':some ("sorted":Str)=some _:=h
  cases h'
  exact b13
 | 14,_,h=>by
  have h':some ("list":Str)=some _:=h
  cases h'
  exact b14
 | 15,_,h=>by
  have h':some ("set":Str)=some _:=h
  cases h'
  exact b15
 | 16,_,h=>by
  have h':some ("reversed":Str)=some _:=h
  cases h'
  exact b16
 | n+17,_,h=>by
  have h':(none:Option Str)=some _:=h
  cases h'
end Lp.Law
theorem PySem.W.Fast.tw13826219983167350373:True:=trivial
theorem PySem.W.Fast.tw16387379616236688697:True:=trivial
theorem PySem.W.Fast.tw5820572126656199895:True:=trivial
theorem PySem.W.Fast.tw1161468335771300468:True:=trivial
theorem PySem.W.Fast.tw9280787525768975216:True:=trivial
theorem PySem.W.Fast.tw17891653584066204977:True:=trivial
theorem PySem.W.Fast.tw6713594216957019013:True:=trivial
theorem PySem.W.Fast.tw5353200178271112076:True:=trivial
theorem PySem.W.Fast.tw9470911351008540987:True:=trivial
theorem PySem.W.Fast.tw10256579299441644750:True:=trivial
theorem PySem.W.Fast.tw2574444480462012483:True:=trivial
theorem PySem.W.Fast.tw6191519995050804107:True:=trivial
theorem PySem.W.Fast.tw14362379760344523137:True:=trivial
theorem PySem.W.Fast.tw13766765973910728674:True:=trivial
theorem PySem.W.Fast.tw2407573897388034680:True:=trivial
theorem PySem.W.Fast.tw15965782187395848000:True:=trivial
theorem PySem.W.Fast.tw16277371789849747954:True:=trivial
theorem PySem.W.Fast.tw15338737639951340673:True:=trivial
theorem PySem.W.Fast.tw18077739882164964595:True:=trivial
theorem PySem.W.Fast.tw4727786010576885903:True:=trivial
theorem PySem.W.Fast.tw10227609521156784176:True:=trivial
theorem PySem.W.Fast.tw5427743018960231031:True:=trivial
theorem PySem.W.Fast.tw7663676827923169442:True:=trivial
theorem PySem.W.Fast.tw4156544151063384020:True:=trivial
theorem PySem.W.Fast.tw2119021193804510584:True:=trivial
theorem PySem.W.Fast.tw13514601561563246205:True:=trivial
theorem PySem.W.Fast.tw7462957725083086750:True:=trivial
theorem PySem.W.Fast.tw6678185446590328221:True:=trivial
theorem PySem.W.Fast.tw569533522264667790:True:=trivial
theorem PySem.W.Fast.tw15278998018455500869:True:=trivial
theorem PySem.W.Fast.tw8845326756850139193:True:=trivial
theorem PySem.W.Fast.tw1478255883213874690:True:=trivial
theorem PySem.W.Fast.tw13995216593431314980:True:=trivial
theorem PySem.W.Fast.tw4372333154500766632:True:=trivial
theorem PySem.W.Fast.tw10790289238617433630:True:=trivial
theorem PySem.W.Fast.tw17567601862553239960:True:=trivial
theorem PySem.W.Fast.tw13818610906928906461:True:=trivial
theorem PySem.W.Fast.tw9473731652563319037:True:=trivial
theorem PySem.W.Fast.tw11402771312508068280:True:=trivial
theorem PySem.W.Fast.tw6892009510442241798:True:=trivial
theorem PySem.W.Fast.tw11361324412743612767:True:=trivial
theorem PySem.W.Fast.tw15265116817732511231:True:=trivial
theorem PySem.W.Fast.tw15331673559669038868:True:=trivial
theorem PySem.W.Fast.tw13329048392001337877:True:=trivial
theorem PySem.W.Fast.tw651613595208520187:True:=trivial
theorem PySem.W.Fast.tw785448008851314446:True:=trivial
theorem PySem.W.Fast.tw13270709472626027447:True:=trivial
theorem PySem.W.Fast.tw13466197256700794457:True:=trivial
theorem PySem.W.Fast.tw7302760700808522324:True:=trivial
theorem PySem.W.Fast.tw3747783190687965143:True:=trivial
theorem PySem.W.Fast.tw5259080132644178931:True:=trivial
theorem PySem.W.Fast.tw11410984097662616032:True:=trivial
theorem PySem.W.Fast.tw2141253942207510079:True:=trivial
theorem PySem.W.Fast.tw6465780086995836898:True:=trivial
theorem PySem.W.Fast.tw4036325107069872517:True:=trivial
theorem PySem.W.Fast.tw17841025718953121114:True:=trivial
theorem PySem.W.Fast.tw4730184516127601353:True:=trivial
open PySem PySem.W PyProof.Rows
set_option maxRecDepth 100000 in
set_option maxHeartbeats 0 in
theorem PySem.Challenge.cw_lamprota_k07_rotas_that_keep_holds : PySem.Challenge.rw_lamprota_k07_rotas_that_keep.Holds := by
 w_on;o_law;k_head;(case hw=>w_witness2)
 k_fill
 refine Lp.L0 (l:=PySem.Challenge.rw_lamprota_k07_rotas_that_keep) (n:=8) ⟨rfl,by decide,by decide⟩ rfl rfl (fun w h Y=>PySem.W.kIn_of Y) ?F
 case F =>
  intro w mg fa h KX G hmg
  have m0:Lp.ModOf (L2.KOf KX) mg Lp.Law.e0:=by
   dsimp only[L2.KOf]
   refine' Lp.Law.mk0 KX G ?a ?l ?c ?k
   (case a=>k_is);(case l=>k_is);(case c=>k_is);(case k=>k_is)
  have m1:Lp.ModOf (L2.KOf KX) mg Lp.Law.e1:=by
   dsimp only[L2.KOf]
   refine' Lp.Law.mk1 KX G ?a ?l ?c ?k
   (case a=>k_is);(case l=>k_is);(case c=>k_is);(case k=>k_is)
  have m2:Lp.ModOf (L2.KOf KX) mg Lp.Law.e2:=by
   dsimp only[L2.KOf]
   refine' Lp.Law.mk2 KX G ?a ?l ?c ?k
   (case a=>k_is);(case l=>k_is);(case c=>k_is);(case k=>k_is)
  have m3:Lp.ModOf (L2.KOf KX) mg Lp.Law.e3:=by
   dsimp only[L2.KOf]
   refine' Lp.Law.mk3 KX G ?a ?l ?c ?k
   (case a=>k_is);(case l=>k_is);(case c=>k_is);(case k=>k_is)
  have m4:Lp.ModOf (L2.KOf KX) mg Lp.Law.e4:=by
   dsimp only[L2.KOf]
   refine' Lp.Law.mk4 KX G ?a ?l ?c ?k
   (case a=>k_is);(case l=>k_is);(case c=>k_is);(case k=>k_is)
  have m5:Lp.ModOf (L2.KOf KX) mg Lp.Law.e5:=by
   dsimp only[L2.KOf]
   refine' Lp.Law.mk5 KX G ?a ?l ?c ?k
   (case a=>k_is);(case l=>k_is);(case c=>k_is);(case k=>k_is)
  have m6:Lp.ModOf (L2.KOf KX) mg Lp.Law.e6:=by
   dsimp only[L2.KOf]
   refine' Lp.Law.mk6 KX G ?a ?l ?c ?k
   (case a=>k_is);(case l=>k_is);(case c=>k_is);(case k=>k_is)
  have m7:Lp.ModOf (L2.KOf KX) mg Lp.Law.e7:=by
   dsimp only[L2.KOf]
   refine' Lp.Law.mk7 KX G ?a ?l ?c ?k
   (case a=>k_is);(case l=>k_is);(case c=>k_is);(case k=>k_is)
  have m8:Lp.ModOf (L2.KOf KX) mg Lp.Law.e8:=by
   dsimp only[L2.KOf]
   refine' Lp.Law.mk8 KX G ?a ?l ?c ?k
   (case a=>k_is);(case l=>k_is);(case c=>k_is);(case k=>k_is)
  have m9:Lp.ModOf (L2.KOf KX) mg Lp.Law.e9:=by
   dsimp only[L2.KOf]
   refine' Lp.Law.mk9 KX G ?a ?l ?c ?k
   (case a=>k_is);(case l=>k_is);(case c=>k_is);(case k=>k_is)
  have m10:Lp.ModOf (L2.KOf KX) mg Lp.Law.e10:=by
   dsimp only[L2.KOf]
   refine' Lp.Law.aa6 KX G ?a ?l ?c ?k
   (case a=>k_is);(case l=>k_is);(case c=>k_is);(case k=>k_is)
  have m11:Lp.ModOf (L2.KOf KX) mg Lp.Law.e11:=by
   dsimp only[L2.KOf]
   refine' Lp.Law.aa7 KX G ?a ?l ?c ?k
   (case a=>k_is);(case l=>k_is);(case c=>k_is);(case k=>k_is)
  have m12:Lp.ModOf (L2.KOf KX) mg Lp.Law.e12:=by
   dsimp only[L2.KOf]
   refine' Lp.Law.aa8 KX G ?a ?l ?c ?k
   (case a=>k_is);(case l=>k_is);(case c=>k_is);(case k=>k_is)
  have m13:Lp.ModOf (L2.KOf KX) mg Lp.Law.e13:=by
   dsimp only[L2.KOf]
   refine' Lp.Law.aa9 KX G ?a ?l ?c ?k
   (case a=>k_is);(case l=>k_is);(case c=>k_is);(case k=>k_is)
  have m14:Lp.ModOf (L2.KOf KX) mg Lp.Law.e14:=by
   dsimp only[L2.KOf]
   refine' Lp.Law.aba KX G ?a ?l ?c ?k
   (case a=>k_is);(case l=>k_is);(case c=>k_is);(case k=>k_is)
  have m15:Lp.ModOf (L2.KOf KX) mg Lp.Law.e15:=by
   dsimp only[L2.KOf]
   refine' Lp.Law.abb KX G ?a ?l ?c ?k
   (case a=>k_is);(case l=>k_is);(case c=>k_is);(case k=>k_is)
  have m16:Lp.ModOf (L2.KOf KX) mg Lp.Law.e16:=by
   dsimp only[L2.KOf]
   refine' Lp.Law.abc KX G ?a ?l ?c ?k
   (case a=>k_is);(case l=>k_is);(case c=>k_is);(case k=>k_is)
  have m17:Lp.ModOf (L2.KOf KX) mg Lp.Law.e17:=by
   dsimp only[L2.KOf]
   refine' Lp.Law.abd KX G ?a ?l ?c ?k
   (case a=>k_is);(case l=>k_is);(case c=>k_is);(case k=>k_is)
  have m18:Lp.ModOf (L2.KOf KX) mg Lp.Law.e18:=by
   dsimp only[L2.KOf]
   refine' Lp.Law.abe KX G ?a ?l ?c ?k
   (case a=>k_is);(case l=>k_is);(case c=>k_is);(case k=>k_is)
  have m19:Lp.ModOf (L2.KOf KX) mg Lp.Law.e19:=by
   dsimp only[L2.KOf]
   refine' Lp.Law.abf KX G ?a ?l ?c ?k
   (case a=>k_is);(case l=>k_is);(case c=>k_is);(case k=>k_is)
  have m20:Lp.ModOf (L2.KOf KX) mg Lp.Law.e20:=by
   dsimp only[L2.KOf]
   refine' Lp.Law.abg KX G ?a ?l ?c ?k
   (case a=>k_is);(case l=>k_is);(case c=>k_is);(case k=>k_is)
  have m21:Lp.ModOf (L2.KOf KX) mg Lp.Law.e21:=by
   dsimp only[L2.KOf]
   refine' Lp.Law.abh KX G ?a ?l ?c ?k
   (case a=>k_is);(case l=>k_is);(case c=>k_is);(case k=>k_is)
  have m22:Lp.ModOf (L2.KOf KX) mg Lp.Law.e22:=by
   dsimp only[L2.KOf]
   refine' Lp.Law.abi KX G ?a ?l ?c ?k
   (case a=>k_is);(case l=>k_is);(case c=>k_is);(case k=>k_is)
  have m23:Lp.ModOf (L2.KOf KX) mg Lp.Law.e23:=by
   dsimp only[L2.KOf]
   refine' Lp.Law.abj KX G ?a ?l ?c ?k
   (case a=>k_is);(case l=>k_is);(case c=>k_is);(case k=>k_is)
  have m24:Lp.ModOf (L2.KOf KX) mg Lp.Law.e24:=by
   dsimp only[L2.KOf]
   refine' Lp.Law.abk KX G ?a ?l ?c ?k
   (case a=>k_is);(case l=>k_is);(case c=>k_is);(case k=>k_is)
  have m25:Lp.ModOf (L2.KOf KX) mg Lp.Law.e25:=by
   dsimp only[L2.KOf]
   refine' Lp.Law.abl KX G ?a ?l ?c ?k
   (case a=>k_is);(case l=>k_is);(case c=>k_is);(case k=>k_is)
  have m26:Lp.ModOf (L2.KOf KX) mg Lp.Law.e26:=by
   dsimp only[L2.KOf]
   refine' Lp.Law.abm KX G ?a ?l ?c ?k
   (case a=>k_is);(case l=>k_is);(case c=>k_is);(case k=>k_is)
  have m27:Lp.ModOf (L2.KOf KX) mg Lp.Law.e27:=by
   dsimp only[L2.KOf]
   refine' Lp.Law.abn KX G ?a ?l ?c ?k
   (case a=>k_is);(case l=>k_is);(case c=>k_is);(case k=>k_is)
  have m28:Lp.ModOf (L2.KOf KX) mg Lp.Law.e28:=by
   dsimp only[L2.KOf]
   refine' Lp.Law.abo KX G ?a ?l ?c ?k
   (case a=>k_is);(case l=>k_is);(case c=>k_is);(case k=>k_is)
  have m29:Lp.ModOf (L2.KOf KX) mg Lp.Law.e29:=by
   dsimp only[L2.KOf]
   refine' Lp.Law.abp KX G ?a ?l ?c ?k
   (case a=>k_is);(case l=>k_is);(case c=>k_is);(case k=>k_is)
  have m30:Lp.ModOf (L2.KOf KX) mg Lp.Law.e30:=by
   dsimp only[L2.KOf]
   refine' Lp.Law.abq KX G ?a ?l ?c ?k
   (case a=>k_is);(case l=>k_is);(case c=>k_is);(case k=>k_is)
  have b0:mg "zip"=none:=by
   refine' BI KX G ?z
   (case z=>k_is)
  have b1:mg "all"=none:=by
   refine' BI KX G ?z
   (case z=>k_is)
  have b2:mg "range"=none:=by
   refine' BI KX G ?z
   (case z=>k_is)
  have b3:mg "tuple"=none:=by
   refine' BI KX G ?z
   (case z=>k_is)
  have b4:mg "any"=none:=by
   refine' BI KX G ?z
   (case z=>k_is)
  have b5:mg "sum"=none:=by
   refine' BI KX G ?z
   (case z=>k_is)
  have b6:mg "len"=none:=by
   refine' BI KX G ?z
   (case z=>k_is)
  have b7:mg "min"=none:=by
   refine' BI KX G ?z
   (case z=>k_is)
  have b8:mg "enumerate"=none:=by
   refine' BI KX G ?z
   (case z=>k_is)
  have b9:mg "isinstance"=none:=by
   refine' BI KX G ?z
   (case z=>k_is)
  have b10:mg "int"=none:=by
   refine' BI KX G ?z
   (case z=>k_is)
  have b11:mg "bool"=none:=by
   refine' BI KX G ?z
   (case z=>k_is)
  have b12:mg "max"=none:=by
   refine' BI KX G ?z
   (case z=>k_is)
  have b13:mg "sorted"=none:=by
   refine' BI KX G ?z
   (case z=>k_is)
  have b14:mg "list"=none:=by
   refine' BI KX G ?z
   (case z=>k_is)
  have b15:mg "set"=none:=by
   refine' BI KX G ?z
   (case z=>k_is)
  have b16:mg "reversed"=none:=by
   refine' BI KX G ?z
   (case z=>k_is)
  exact Lp.Qz (T:=Lp.GL) (es:=Lp.Law.ents) (n:=8) (j:=30) (e:=Lp.Law.e30) (Lp.Law.mods m0 m1 m2 m3 m4 m5 m6 m7 m8 m9 m10 m11 m12 m13 m14 m15 m16 m17 m18 m19 m20 m21 m22 m23 m24 m25 m26 m27 m28 m29 m30) (fun base=>Lp.Law.dvs (Lp.Law.nob b0 b1 b2 b3 b4 b5 b6 b7 b8 b9 b10 b11 b12 b13 b14 b15 b16)) rfl hmg rfl (fun ns hn=>Lr.Yj ns)
#print axioms PySem.Challenge.cw_lamprota_k07_rotas_that_keep_holds
