import PyProof.Rows.All
import Wide.All
import OpenK.AllK
import Wide.FinOn
import Lean
import PyProof.EqAt
import PyProof.EqKinds
import PyProof.TupleCall
import PySem.Syntax
import PyProof.Rows.ZipGen
import PyProof.EnumMake
import PyProof.EnumFor
import PyProof.Rows.EnumRows
import PyProof.DictValues
import KE.KSortTup
import PyProof.Rows.SetFrom
import PyProof.WalksMore
import PyProof.FactsAll.set
import PyProof.ForAny
import PyProof.CollectWalk
import PyProof.ListRange
import PyProof.Rows.SortShell
import PySem.Challenge.RW_lamprota_k09_any_rota
open PySem renaming wpAny_bind → AA, wpAny_pure → AD, wpAny_setField_rec → BB, wpAny_callSpecial?_slot → BF, wpAny_call_entry → BK, wpAny_newObj_type → BO, wpAny_field → BW, wpAny_loadPart' → CH, wpAny_holding → CL, wpAny_seqItems → CT, wpAny_Call_Name_kw → Do, sizeLine_eq → DB, wpAny_truthy_bool → DC, wpAny_mono → DQ, wpAny_pyIter_tuple → DR, wpAny_setState_of → DV, wpAny_attempt → DY, mem_of_lookup → DZ, wpAny_setEntries_of → Ev, wpAny_isInstance → EB, wpAny_askSetting → EC, wpAny_ite_split → EL, codeAny_builtin → EM, builtinLookup_eq_fast → EN, isSubtype_type → ES, wpAny_passesOwn → EZ, tupleKind_room_in1 → FE, wpAny_rule → FF, codeAny_mono → FJ, richCompare_meets_room → FK, wpAny_typeOf → FM, plainId_quiet → GB, wpAny_updateSeq_pair → GF, typeLookup_type → GJ, wpAny_updateSeq → GK, call_meets → GV, wpAny_newTuple → GW, isSubtype_stop → GX, wpAny_fieldsOf → HA, wpAny_pyIter_list → HJ, wpAny_letGo → HK, wpAny_of_eq → HM, wpAny_pyIter_slot → HN, wpAny_onRaise → HS, wpAny_forIn_list → HY, noFill_tuple_add → HZ, wpAny_specialOf → IH
open PySem.Heap renaming get?_push_of_some → AB, get?_push_size → AF, lt_size → AI, size_push → CS, get?_update_self → CZ, get?_update_ne → DK, get?_update_other → FN
open List renaming getElem?_eq_getElem → AC, size_toArray → AE, length_map → AG, mem_cons → AJ, mem_cons_of_mem → AK, getElem?_eq_some_iff → AL, prefix_refl → AM, all_eq_true → AO, mem_cons_self → AQ, map_cons → AT, getElem?_eq_none → AV, getD_eq_getElem?_getD → AW, getElem?_append_left → AX, map_map → BA, all_cons → BC, mem_of_getElem? → BD, not_mem_nil → BH, mem_map → BI, length_cons → BJ, getElem_mem → BQ, pairwise_cons → BR, getElem?_map → BS, ext_getElem? → BU, mem_append_right → BV, take_of_length_le → BY, getElem?_set_ne → CC, getElem?_zip_eq_some → CD, length_append → CG, length_nil → CI, nil_prefix → CJ, any_cons → CM, mem_range → CQ, mem_iff_getElem → CV, getElem?_append_right → CY, zip_cons_cons → DA, getElem?_replicate → DD, length_range → DF, take_add_one → DG, mem_append → DH, map_append → DI, replicate_succ → DJ, map_congr_left → DL, getElem?_set_self → DM, map_nil → DN, any_eq_true → DP, pairwise_iff_getElem → DT, lookup_cons → EA, all_map → EG, mem_singleton → EH, all_nil → EI, find?_cons → EJ, flatten_cons → ER, length_take → EU, nodup_cons → FA, of_mem_zip → FB, forIn_cons → FC, zip_nil_right → FD, length_eq_zero_iff → FH, append_assoc → FO, range_succ_eq_map → FP, pairwise_lt_range → FT, any_eq_false → FU, eraseIdxIfInBounds_toArray → FV, getElem?_toArray → FX, countP_cons → GA, mem_filter → GG, sum_append → GI, filterMap_cons → GP, toList_toArray → GQ, prefix_append → GY, drop_eq_getElem_cons → HC, zip_nil_left → HF, reverse_cons → HG, getElem_take → HP, getElem?_take_of_lt → HQ, sum_cons → HX, eraseIdx_cons_succ → If, cons_append → IB, length_replicate → IJ, length_singleton → IK, dropLast_eq_take → IL, countP_mono_left → IN, any_map → IY
open Nat renaming le_refl → AH, ne_of_lt → AN, lt_of_lt_of_le → AS, ne_of_gt → CF, le_trans → CN, zero_le → CP, lt_irrefl → CW, lt_succ_of_lt → DE, le_succ → ED, le_of_lt → EE, lt_succ_self → EV, le_add_right → IC
open Bool renaming false_eq_true → AR, false_ne_true → AU, and_eq_true → AZ, beq_eq_decide_eq → CK, and_true → GD, and_self → HR, true_and → HW, or_false → IT
open PySem.W renaming mg_none_of → AY, kia_one → EK, cellsFrom_some → IE
open Option.some renaming inj → BL, injEq → BP
open Classical renaming not_not → BM, byContradiction → BX
open Array renaming length_toList → BN, getElem?_eq_getElem → CO, getElem?_toList → Da, getElem?_eq_none → FS, perm_iff_toList_perm → GZ, toArray_toList → IS
open PyProof.Rows renaming callWith_type1 → BZ, slot_tuple_getitem → CA, callWith_builtin1 → FY, boot_sorted → HV, get?_update_seq → II, boot_min → IM
open Int renaming toNat_natCast → CB, emod_nonneg → GO, fdiv_eq_ediv_of_nonneg → GU, emod_lt_of_pos → HB
open PySem.F renaming called_set → CU, slot_tuple_iterator_next → DS, slot_enumerate_next → EO, args_tuple_add_2 → EY, entry_tuple_add → FG, slot_tuple_add → FL, slot_dict_get → FW, slot_dict_valueiterator_iter → Gt, args_tuple_iterator_next_1 → GM, slot_zip_next → GN, entry_tuple_iterator_next → GR, plain_extend_loop → HD, plainAttrs_list → HL, slot_dict_values → HU, args_dict_get_3 → Ix, plainAttrs_dict → IA, plain_list_iadd → ID, entry_dict_get → IF, slot_list_pop → IG, plain_set_new → IP, slot_set_iter → IQ
open PySem.Calls renaming spliced_cons → Db, spliced_nil → DU, callWith_builtin → EF, Name_function_global → GS, call_function_entry → HE, evalArgs_plain → IR
open PySem.Paired renaming length → DO
open PySem.Around renaming under_plainId → DW
open Option renaming isSome_iff_exists → DX, ne_none_iff_exists' → ET, map_eq_some_iff → FR, getD_some → FZ, bind_some → Go, map_some → GH, isSome_map → HI
open PySem.Heap.SameBut renaming update → EW
open PySem.AutoSeq1 renaming sub_tuple_tuple → EX
open PyProof.Rows.F renaming plain_set_update_loop → FI
open Prod.mk renaming injEq → GC
open PySem.Moved renaming eq_with → IU
open PySem.SeqAt.EqAt renaming int_str → IV, str_int → IW, int_int → IX
set_option Elab.async false
set_option linter.all false
set_option maxRecDepth 100000
namespace L2
open PySem PySem.Spec PyProof.Rows
noncomputable abbrev Key:=Sum Int Str
noncomputable def Dc:Key→Value→Bool
 | .inl k,v=>Value.isInt k v
 | .inr x,v=>Value.isStrOf x v
noncomputable def Xg (w:World):Key→Int
 | .inl k=>hashInt k
 | .inr x=>hashStr w x
theorem d6:∀{k:Key} {v:Value},Dc k v=true→(∃i t,k=Sum.inl i∧v=Value.int i t)∨(∃x t,k=Sum.inr x∧v=Value.str x t)
 | .inl i,v,h=>by
  obtain⟨t,e⟩:=Value.isInt_shape (k:=i) (v:=v) h
  exact .inl ⟨i,t,rfl,e⟩
 | .inr x,v,h=>by
  obtain⟨t,e⟩:=Value.isStrOf_shape (x:=x) (v:=v) h
  exact .inr ⟨x,t,rfl,e⟩
theorem Ep (i:Int) (t:Tok):Dc (.inl i) (.int i t)=true:=by simp[Dc,Value.isInt]
theorem Er (x:Str) (t:Tok):Dc (.inr x) (.str x t)=true:=by simp[Dc,Value.isStrOf]
theorem O3 (a b:Int):decide ((Sum.inl a:Key)=Sum.inl b)=(a==b):=by
 by_cases e:a=b
 ·subst e;simp
 ·have h:¬(Sum.inl a:Key)=Sum.inl b:=fun q=>e (Sum.inl.inj q)
  rw[decide_eq_false h]
  exact(beq_eq_false_iff_ne.mpr e).symm
theorem O4 (a b:Str):decide ((Sum.inr a:Key)=Sum.inr b)=decide (a=b):=by
 by_cases e:a=b
 ·subst e;simp
 ·have h:¬(Sum.inr a:Key)=Sum.inr b:=fun q=>e (Sum.inr.inj q)
  rw[decide_eq_false h,decide_eq_false e]
theorem O5 (a:Int) (b:Str):decide ((Sum.inl a:Key)=Sum.inr b)=false:=decide_eq_false (fun q=>nomatch q)
theorem O6 (a:Str) (b:Int):decide ((Sum.inr a:Key)=Sum.inl b)=false:=decide_eq_false (fun q=>nomatch q)
noncomputable def dg (prog:Program) (w:World):PySem.KeyKind prog w Key where
 is:=Dc
 hash:=Xg w
 inj:=fun v a b ha hb=>by
  rcases d6 ha with⟨i,t,rfl,rfl⟩ | ⟨x,t,rfl,rfl⟩
  ·rcases d6 hb with⟨j,u,rfl,e⟩ | ⟨y,u,rfl,e⟩
   ·injection e with e1 _;rw[e1]
   ·exact nomatch e
  ·rcases d6 hb with⟨j,u,rfl,e⟩ | ⟨y,u,rfl,e⟩
   ·exact nomatch e
   ·injection e with e1 _;rw[e1]
 byValue:=fun k v h=>by
  rcases d6 h with⟨i,t,rfl,rfl⟩ | ⟨x,t,rfl,rfl⟩<;>rfl
 pyHash:=fun hv h=>by
  rcases d6 hv with⟨i,t,rfl,rfl⟩ | ⟨x,t,rfl,rfl⟩
  ·exact wpAny_pyHash_int h
  ·exact wpAny_pyHash_str h
 eqBool:=fun hu hv h=>by
  rcases d6 hu with⟨i,t,rfl,rfl⟩ | ⟨x,t,rfl,rfl⟩
  ·rcases d6 hv with⟨j,u,rfl,rfl⟩ | ⟨y,u,rfl,rfl⟩
   ·rw[O3]at h;exact wpAny_eqBool_int h
   ·rw[O5]at h;exact IV i t y u _ _ _ _ h
  ·rcases d6 hv with⟨j,u,rfl,rfl⟩ | ⟨y,u,rfl,rfl⟩
   ·rw[O6]at h;exact IW x t j u _ _ _ _ h
   ·rw[O4]at h;exact wpAny_eqBool_str h
 «strs»:=fun k x t v h=>by
  rcases d6 h with⟨i,u,rfl,e⟩ | ⟨y,u,rfl,e⟩
  ·exact nomatch e
  ·injection e with e1 _
   subst e1
   cases v<;>rfl
theorem Am (prog:Program) (w:World) (i:Int) (t:Tok):(dg prog w).is (.inl i) (.int i t)=true:=Ep i t
theorem An (prog:Program) (w:World) (x:Str) (t:Tok):(dg prog w).is (.inr x) (.str x t)=true:=Er x t
end L2
namespace L2
open PySem PySem.Spec PyProof.Rows
inductive V where
 | non | bl (b:Bool) | int (i:Int) | str (x:Str) | byt (b:Array UInt8) | flt (b:UInt64) | ref (a:Addr) | ty (n:String)
 deriving DecidableEq
noncomputable def RelV:V→Value→Prop
 | .non,u=>u=Value.none
 | .bl b,u=>u=Value.bool b
 | .int i,u=>∃t,u=Value.int i t
 | .str x,u=>∃t,u=Value.str x t
 | .byt b,u=>∃t,u=Value.bytes b t
 | .flt b,u=>∃t,u=Value.float b t
 | .ref a,u=>u=Value.ref a
 | .ty n,u=>u=Value.type n
noncomputable abbrev cz:List V→List Value→Prop:=Paired RelV
theorem cz.length {xs:List V} {us:List Value} (r:cz xs us):xs.length=us.length:=DO r
theorem cz.get:∀{xs:List V} {us:List Value} {i:Nat} {x:V},cz xs us→xs[i]? = some x→∃u,us[i]? = some u∧RelV x u
 | _,_,_,_,.nil,e=>by simp at e
 | _,_,0,_,.cons r _,e=>by simp at e;subst e;exact⟨_,rfl,r⟩
 | _,_,i+1,x,.cons _ t,e=>by
  obtain⟨u,h1,h2⟩:=cz.get (i:=i) (x:=x) t (by simpa using e)
  exact⟨u,by simpa using h1,h2⟩
theorem cz.set {x:V} {u:Value} (r:RelV x u):∀{xs:List V} {us:List Value} (i:Nat),cz xs us→cz (xs.set i x) (us.set i u)
 | _,_,_,.nil=>.nil
 | _,_,0,.cons _ t=>.cons r t
 | _,_,i+1,.cons q t=>.cons q (cz.set r i t)
theorem cz.append:∀{xs ys:List V} {us ws:List Value},cz xs us→cz ys ws→cz (xs++ys) (us++ws)
 | _,_,_,_,.nil,s=>s
 | _,_,_,_,.cons r t,s=>.cons r (cz.append t s)
theorem cz.take:∀{xs:List V} {us:List Value} (n:Nat),cz xs us→cz (xs.take n) (us.take n)
 | _,_,0,_=>.nil
 | _,_,_+1,.nil=>.nil
 | _,_,n+1,.cons r t=>.cons r (cz.take n t)
theorem cz.drop:∀{xs:List V} {us:List Value} (n:Nat),cz xs us→cz (xs.drop n) (us.drop n)
 | _,_,0,r=>r
 | _,_,_+1,.nil=>.nil
 | _,_,n+1,.cons _ t=>cz.drop n t
noncomputable def Ko:Option V→Option Value→Prop
 | some v,some u=>RelV v u
 | none,none=>True
 | _,_=>False
noncomputable def KV {κ:Type}:List (κ×V)→List (κ×Value)→Prop:=Paired fun(p:κ×V) (q:κ×Value)=>p.1=q.1∧RelV p.2 q.2
noncomputable def kV:Key→V
 | .inl i=>.int i
 | .inr x=>.str x
inductive HO where
 /-- a list -/
 | lst (xs:List V)
 /-- a tuple (never changes) -/
 | tup (xs:List V)
 /-- a dict whose keys are ints and texts;one whose keys are tuples of ints and texts (the empty one is both) -/
 | dK (kvs:List (Key×V)) | dT (kvs:List (List Key×V))
 /-- a set of ints: its members,its size -/
 | set (S:Int→Bool) (n:Nat)
 /-- an instance of the class at C,its dict at dx,its attributes -/
 | ins (C dx:Addr) (fs:List (Str×V))
 /-- the dict of the instance at x -/
 | own (x:Addr)
 /-- the dict of an exception -/
 | xd (fs:List (Str×V))
 /-- a bound method,f of x -/
 | met (f x:Addr)
 /-- a range object lo,lo+1,.. below hi -/
 | rng (lo hi:Int)
 /-- a thing that is known to the object (the script;a dict while a loop walks it): read,never written while it is so -/
 | frz (o:Obj) (u:HO)
 /-- a code object's table -/
 | tbl (ps:Array Value)
 /-- any other thing,by what is true of its one object (a def of one's own: SetO a S n:=HO.ext fun h=>..) -/
 | ext (φ:Heap→Prop)
noncomputable abbrev Hp:=Addr→Option HO
noncomputable def upd (H:Hp) (a:Addr) (o:HO):Hp:=fun b=>if b=a then some o else H b
theorem bg {H:Hp} {a:Addr} {o:HO}:upd H a o a=some o:=by unfold upd;rw[if_pos rfl]
theorem a7 {H:Hp} {a b:Addr} {o:HO} (h:b≠a):upd H a o b=H b:=by unfold upd;rw[if_neg h]
theorem Es {H:Hp} {a:Addr} {o u:HO}:upd (upd H a o) a u=upd H a u:=by
 funext b;unfold upd;split<;>rfl
theorem n9 {H:Hp} {a b:Addr} {o u:HO} (h:H a=some o) (h':H b=some u) (d:o≠u):a≠b:=by
 intro e;subst e;rw[h]at h';exact d (BL h')
theorem c8 {H:Hp} {a b:Addr} {o:HO} (h:H a=some o) (h':H b=none):a≠b:=by
 intro e;subst e;rw[h]at h';cases h'
noncomputable def qw (h:Heap) (a:Addr) (items:Array Value):Prop:=∃o,h.get? a=some o∧o.cls=.type "tuple"∧o.dict=none∧∃n,o.data=.seq items n
theorem qw.tup {h:Heap} {a:Addr} {items:Array Value} (x:qw h a items):IsTup h a items:=let ⟨o,e,c,_,d⟩:=x;⟨o,e,c,d⟩
theorem qw.new (h:Heap) (items:Array Value):qw (h.push {cls:=.type "tuple",data:=.seq items}) h.objs.size items:=⟨_,AF _ rfl,rfl,rfl,_,rfl⟩
section
variable (P : Program) (w : World)
noncomputable def i5 (H:Hp) (h:Heap) (a:Addr):HO→Prop
 | .lst xs=>xs.length≤sizeLine∧∃(its:List Value) (n:Nat),cz xs its∧h.get? a=some {cls:=.type "list",data:=.seq its.toArray n}
 | .tup xs=>xs.length≤sizeLine∧∃its:List Value,cz xs its∧qw h a its.toArray
 | .dK kvs=>kvs.length≤sizeLine∧(a==sysModules)=false∧∃vs,KV kvs vs∧h.DictOf (dg P w) a vs
 | .dT kvs=>kvs.length≤sizeLine∧(a==sysModules)=false∧∃xs:List (List Key×Addr×Value),
   Paired (fun(p:List Key×V) (q:List Key×Addr×Value)=>p.1=q.1∧H q.2.1=some (.tup (p.1.map kV))∧RelV p.2 q.2.2) kvs xs ∧
   ∃o es ep,h.get? a=some o∧o.ExactDict∧o.data=.dict es ep∧es.toList=xs.map (entryOfKey (tupleKind (dg P w)))∧(xs.map (·.1)).Nodup
 | .set S n=>h.SetOf (intKind P w) a S n
 | .ins C dx fs=>H dx=some (.own a)∧fs.length≤1000∧dx≠a∧h.get? a=some (PySem.W.instObj C dx) ∧
   ∃mA,h.Ns1 dx mA∧(∀f,Ko (fs.lookup f) (mA f))∧PySem.Within mA (fs.map (·.1))
 | .own _=>∃o,h.get? a=some o
 | .xd fs=>∃mA,h.Ns1 a mA∧∀f,Ko (fs.lookup f) (mA f)
 | .rng lo hi=>∃t u v,h.get? a=some {cls:=.type "range",data:=.fields #[.int lo t,.int hi u,.int 1 v]}
 | .frz o u=>h.get? a=some o∧i5 H h a u
 | .tbl ps=>h.get? a=some {cls:=.none,data:=.fields ps}
 | .met f x=>h.get? a=some (PySem.W.methodObj (.ref f) (.ref x))
 | .ext φ=>φ h∧(∃o,h.get? a=some o)∧∀h1 h2:Heap,φ h1→(∀o,h1.get? a=some o→h2.get? a=some o)→φ h2
noncomputable def HOk (H:Hp) (h:Heap):Prop:=∀a o,H a=some o→i5 P w H h a o
end
section
variable {P : Program} {w : World} {H H' : Hp} {h h' : Heap} {a : Addr} {o : HO}
theorem i5.lt (x:i5 P w H h a o):a<h.objs.size:=by
 cases o with
 | lst xs=>obtain⟨_,_,_,_,e⟩:=x;exact AI e
 | tup xs=>obtain⟨_,_,_,p⟩:=x;exact p.tup.lt
 | dK kvs=>obtain⟨_,_,_,_,o,_,_,e,_⟩:=x;exact AI e
 | dT kvs=>obtain⟨_,_,_,_,o,_,_,e,_⟩:=x;exact AI e
 | set S n=>obtain⟨o,_,_,_,e,_⟩:=x;exact AI e
 | ins C dx fs=>obtain⟨_,_,_,e,_⟩:=x;exact AI e
 | own y=>obtain⟨_,e⟩:=x;exact AI e
 | xd fs=>obtain⟨_,⟨_,_,_,e,_⟩,_⟩:=x;exact AI e
 | rng lo hi=>obtain⟨_,_,_,e⟩:=x;exact AI e
 | frz ob u=>obtain⟨e,_⟩:=x;exact AI e
 | tbl ps=>exact AI (show h.get? a=some _ from x)
 | met f y=>exact AI (show h.get? a=some _ from x)
 | ext φ=>obtain⟨_,⟨_,e⟩,_⟩:=x;exact AI e
theorem Paired.mapP {α β:Type} {F G:α→β→Prop}:∀{l₁:List α} {l₂:List β},Paired F l₁ l₂→(∀a b,F a b→G a b)→Paired G l₁ l₂
 | _,_,.nil,_=>.nil
 | _,_,.cons r t,f=>.cons (f _ _ r) (Paired.mapP t f)
theorem i5.stay (x:i5 P w H h a o) (k:∀b u,(b=a∨H b=some (.own a))→h.get? b=some u→h'.get? b=some u)
  (ho:∀b,H b=some (.own a)→H' b=some (.own a)) (ht:∀b xs,H b=some (.tup xs)→H' b=some (.tup xs)):i5 P w H' h' a o:=by
 induction o with
 | lst xs=>obtain⟨z,its,n,r,e⟩:=x;exact⟨z,its,n,r,k _ _ (.inl rfl) e⟩
 | tup xs=>obtain⟨z,its,r,ob,e,c⟩:=x;exact⟨z,its,r,ob,k _ _ (.inl rfl) e,c⟩
 | dK kvs=>obtain⟨z,y,vs,r,ob,es,ep,e,c⟩:=x;exact⟨z,y,vs,r,ob,es,ep,k _ _ (.inl rfl) e,c⟩
 | dT kvs =>
  obtain⟨z,y,xs,r,ob,es,ep,e,c⟩:=x
  exact⟨z,y,xs,Paired.mapP r fun p q z=>⟨z.1,ht _ _ z.2.1,z.2.2⟩,ob,es,ep,k _ _ (.inl rfl) e,c⟩
 | set S n=>obtain⟨ob,es,ep,t,e,c⟩:=x;exact⟨ob,es,ep,t,k _ _ (.inl rfl) e,c⟩
 | ins C dx fs =>
  obtain⟨d,z,ne,e,mA,⟨od,es,ep,e2,c⟩,r⟩:=x
  exact⟨ho _ d,z,ne,k _ _ (.inl rfl) e,mA,⟨od,es,ep,k _ _ (.inr d) e2,c⟩,r⟩
 | own y=>obtain⟨ob,e⟩:=x;exact⟨ob,k _ _ (.inl rfl) e⟩
 | xd fs=>obtain⟨mA,⟨od,es,ep,e,c⟩,r⟩:=x;exact⟨mA,⟨od,es,ep,k _ _ (.inl rfl) e,c⟩,r⟩
 | rng lo hi=>obtain⟨t,u,v,e⟩:=x;exact⟨t,u,v,k _ _ (.inl rfl) e⟩
 | frz ob u ih=>obtain⟨e,q⟩:=x;exact⟨k _ _ (.inl rfl) e,ih q⟩
 | tbl ps =>
  have e:h.get? a=some {cls:=.none,data:=.fields ps}:=x
  show h'.get? a=some {cls:=.none,data:=.fields ps}
  exact k a _ (.inl rfl) e
 | met f y =>
  have e:h.get? a=some (PySem.W.methodObj (.ref f) (.ref y)):=x
  show h'.get? a=some (PySem.W.methodObj (.ref f) (.ref y))
  exact k a _ (.inl rfl) e
 | ext φ=>obtain⟨p,⟨o,e⟩,st⟩:=x;exact⟨st _ _ p fun o q=>k _ _ (.inl rfl) q,⟨o,k _ _ (.inl rfl) e⟩,st⟩
theorem HOk.lt (x:HOk P w H h) (e:H a=some o):a<h.objs.size:=(x a o e).lt
theorem HOk.fresh (x:HOk P w H h) (e:h.objs.size≤a):H a=none:=by
 cases q:H a with
 | none=>rfl
 | some u=>exact absurd (AS (x.lt q) e) (CW _)
theorem HOk.kept (x:HOk P w H h) (k:∀b u,h.get? b=some u→h'.get? b=some u):HOk P w H h':=fun a o e =>
 (x a o e).stay (fun b u _ q=>k b u q) (fun _ q=>q) fun _ _ q=>q
theorem HOk.laid (x:HOk P w H h) (k:∀b u,h.get? b=some u→h'.get? b=some u) (hp:h.objs.size≤a) (new:i5 P w (upd H a o) h' a o):HOk P w (upd H a o) h':=fun b u e=>by
 have hn:=x.fresh hp
 by_cases hb:b=a
 ·subst hb;rw[bg]at e;cases e;exact new
 ·rw[a7 hb]at e
  exact(x b u e).stay (fun c v _ q=>k c v q) (fun c q=>by rw[a7 (c8 q hn)];exact q) fun c xs q=>by rw[a7 (c8 q hn)];exact q
end
noncomputable def Rd (H:Hp) (a:Addr) (u:HO):Prop:=H a=some u∨∃o,H a=some (.frz o u)
theorem Rd.ok {P:Program} {w:World} {H:Hp} {h:Heap} {a:Addr} {u:HO} (r:Rd H a u) (x:HOk P w H h):i5 P w H h a u:=by
 rcases r with r | ⟨o,r⟩
 ·exact x a u r
 ·obtain⟨_,q⟩:=x a _ r
  exact q
noncomputable def Mut:Option HO→Prop
 | some (.lst _)=>True
 | some (.dK _)=>True
 | some (.dT _)=>True
 | some (.set _ _)=>True
 | some (.ins _ _ _)=>True
 | some (.ext _)=>True
 | _=>False
section
variable {P : Program} {w : World} {H : Hp} {h h' : Heap} {x e : Addr} {o' : HO}
theorem HOk.write (ok:HOk P w H h) (mu:Mut (H x)) (he:e=x∨H e=some (.own x)) (k:∀b u,b≠e→h.get? b=some u→h'.get? b=some u) (heo:∃u,h'.get? e=some u)
  (new:i5 P w (upd H x o') h' x o'):HOk P w (upd H x o') h':=fun b u q=>by
 have nown:∀c y,H c=some (.own y)→c≠x:=fun c y r z=>by subst z;rw[r]at mu;exact mu
 have ntup:∀c xs,H c=some (.tup xs)→c≠x:=fun c xs r z=>by subst z;rw[r]at mu;exact mu
 by_cases hb:b=x
 ·subst hb;rw[bg]at q;cases q;exact new
 ·rw[a7 hb]at q
  by_cases hbe:b=e
  ·have q':H b=some (.own x):=by
    rcases he with z | z
    ·exact absurd (hbe.trans z) hb
    ·rw[hbe];exact z
   rw[q]at q';cases q'
   obtain⟨v,hv⟩:=heo
   exact⟨v,by rw[hbe];exact hv⟩
  ·refine(ok b u q).stay (fun c v hc r=>k c v ?_ r) (fun c r=>by rw[a7 (nown c b r)];exact r) fun c xs r=>by rw[a7 (ntup c xs r)];exact r
   rcases hc with rfl | hc
   ·exact hbe
   ·rintro rfl
    rcases he with z | z
    ·exact nown c b hc z
    ·rw[hc]at z;cases z;exact hb rfl
end
structure Un (fs ex:List Addr) (H H':Hp) (h h':Heap):Prop where
 keep:∀b o,h.get? b=some o→H b=none→b∉fs→b∉ex→h'.get? b=some o
 slot:∀b o,h.get? b=some o→H b=none→b∈fs→b∉ex→∃sl,h'.get? b=some {o with slots:=sl}
 free:∀b o,h.get? b=some o→H b=none→b∉ex→H' b=none
 there:∀b o,h.get? b=some o→b∉ex→∃o',h'.get? b=some o'
 tups:∀b xs,H b=some (.tup xs)→H' b=some (.tup xs)
 frzs:∀b o u,H b=some (.frz o u)→H' b=some (.frz o u)
 tbls:∀b ps,H b=some (.tbl ps)→∃more,H' b=some (.tbl (ps++more))
section
variable {fs fs' ex ex' : List Addr} {H H1 H2 : Hp} {h h1 h2 h' : Heap} {a x e : Addr} {o : HO}
theorem Un.any (u:Un fs ex H H1 h h1) {b:Addr} {ob:Obj} (q:h.get? b=some ob) (n:H b=none) (hx:b∉ex):∃sl,h1.get? b=some {ob with slots:=sl}:=by
 by_cases hb:b∈fs
 ·exact u.slot b ob q n hb hx
 ·exact⟨ob.slots,u.keep b ob q n hb hx⟩
theorem Un.kept (k:∀b u,h.get? b=some u→h'.get? b=some u):Un fs ex H H h h' :=
 ⟨fun b ob q _ _ _=>k b ob q,fun b ob q _ _ _=>⟨ob.slots,k b ob q⟩,fun _ _ _ n _=>n,fun b ob q _=>⟨ob,k b ob q⟩,fun _ _ q=>q,fun _ _ _ q=>q,fun _ ps q=>⟨#[],by rw[q];simp⟩⟩
theorem Un.refl:Un fs ex H H h h:=Un.kept fun _ _ q=>q
theorem Un.laid (k:∀b u,h.get? b=some u→h'.get? b=some u) (hp:h.objs.size≤a) (hn:H a=none):Un fs ex H (upd H a o) h h' where
 keep:=fun b u q _ _ _=>k b u q
 slot:=fun b u q _ _ _=>⟨u.slots,k b u q⟩
 free:=fun b u q n _=>by rw[a7 (AN (AS (AI q) hp))];exact n
 there:=fun b u q _=>⟨u,k b u q⟩
 tups:=fun b xs q=>by rw[a7 (c8 q hn)];exact q
 frzs:=fun b u xs q=>by rw[a7 (c8 q hn)];exact q
 tbls:=fun b ps q=>⟨#[],by rw[a7 (c8 q hn),q];simp⟩
theorem Un.write (mu:Mut (H x)) (he:e=x∨H e=some (.own x)) (k:∀b u,b≠e→h.get? b=some u→h'.get? b=some u) (heo:∃u,h'.get? e=some u):Un fs ex H (upd H x o) h h':=by
 have hx:∀b,H b=none→b≠x:=fun b n z=>by subst z;rw[n]at mu;exact mu
 have hb:∀b,H b=none→b≠e:=fun b n z=>by
  subst z
  rcases he with r | r
  ·exact hx b n r
  ·rw[n]at r;cases r
 have hm:∀b u,H b=some u→¬Mut (some u)→b≠x:=fun b u q nm z=>by subst z;rw[q]at mu;exact nm mu
 refine⟨fun b u q n _ _=>k b u (hb b n) q,fun b u q n _ _=>⟨u.slots,k b u (hb b n) q⟩,fun b u q n _=>by rw[a7 (hx b n)];exact n,fun b u q _=>?_,
  fun b xs q=>by rw[a7 (hm b _ q fun z=>z)];exact q,fun b u xs q=>by rw[a7 (hm b _ q fun z=>z)];exact q,fun b ps q=>⟨#[],by rw[a7 (hm b _ q fun z=>z),q];simp⟩⟩
 by_cases hbe:b=e
 ·subst hbe;exact heo
 ·exact⟨u,k b u hbe q⟩
end
noncomputable def trk (h:Heap) (H:Hp):List Addr:=(List.range h.objs.size).filter fun a=>(H a).isSome
noncomputable def Ib (h:Heap) (H:Hp):Heap:=PySem.W.hideAll h (trk h H)
theorem Et (h:Heap) (H:Hp):(Ib h H).objs.size=h.objs.size:=PySem.W.hideAll_size _ _
theorem Ic {h:Heap} {H:Hp} {b:Addr} {o:Obj} (e:h.get? b=some o) (n:H b=none):(Ib h H).get? b=some o :=
 PySem.W.hideAll_get _ e fun hm=>by
  have q:(H b).isSome=true:=(GG.mp hm).2
  rw[n]at q;simp at q
theorem Lz {h:Heap} {H:Hp} {b:Addr} {o:Obj} (e:(Ib h H).get? b=some o):h.get? b=some o∧H b=none:=by
 have e':h.get? b=some o:=PySem.W.of_hideAll (trk h H) e
 refine⟨e',?_⟩
 cases q:H b with
 | none=>rfl
 | some x =>
  have hm:b∈trk h H:=GG.mpr ⟨CQ.mpr (AI e'),by simp[q]⟩
  have z:(Ib h H).get? b=none:=PySem.W.hideAll_none (trk h H) hm
  rw[z]at e;cases e
noncomputable def L0 (g h:Heap) (L:Addr):List (Addr×Obj):=(List.range h.objs.size).filterMap fun a=>if a=L∨(g.get? a).isSome=true then none else(h.get? a).map fun o=>(a,o)
noncomputable def rest (g h:Heap) (L d:Addr):List (Addr×Obj):=(L0 g h L).filter fun p=>decide (p.1≠d)
end L2
namespace L2
open PySem PySem.Spec PyProof.Rows
structure Mod (K:PySem.W.Frag) (mg:Str→Option Value) (base:Heap):Prop where
 kin:K.In base
 glob:base.Ns mainGlobals mg
 blt:∃mb,base.Ns builtinsNs mb∧∀x:Str,x≠"__name__"→mb x=bootBuiltins x
 nolimit:base.NoLimit
structure Cx where
 prog:Program
 w:World
 K:PySem.W.Frag
 mg:Str→Option Value
 base:Heap
 A:Around
 N:List Str
 s₀:Shared
 H₀:Hp
 env:Env
 outer:List Env
 stack:List Env
 ex:List Addr
 fn:Str→Bool
 calm:Bool
 pn:List (Addr×Obj)
 xe:Value→Shared→Prop
noncomputable def frs (l:List Env):List Addr:=l.filterMap (·.frame)
noncomputable abbrev Cx.fs (X:Cx):List Addr:=frs X.outer
noncomputable def Vis (sc:Scope) (x:Str):Prop:=sc.names.lookup x=some .local∨sc.names.lookup x=some .cell∨sc.names.lookup x=some .free
noncomputable def Loc (sc:Scope) (x:Str):Prop:=sc.names.lookup x=some .local∨sc.names.lookup x=some .cell
noncomputable def Look (env:Env) (h:Heap) (m:Str→Option Value) (x:Str) (u:Value):Prop :=
 (env.kindOf x=some .local∧m x=some u)∨((env.kindOf x=some .cell∨env.kindOf x=some .free)∧∃c,env.cells.lookup x=some c∧h.IsCell c (some u))
structure Cx.Ok (X:Cx):Prop where
 mod:Mod X.K X.mg X.base
 kind:X.env.scope.kind=.function
 glob:X.env.globals=mainGlobals
 blt:X.env.builtins=builtinsNs
 above:X.s₀.heap.objs.size≤X.env.locals
 inj:∀x y c,X.env.cells.lookup x=some c→X.env.cells.lookup y=some c→x=y
 has:∀x,(X.env.kindOf x=some .cell∨X.env.kindOf x=some .free)→∃c,X.env.cells.lookup x=some c
 cab:∀x c,X.fn x=true→X.env.cells.lookup x=some c→X.s₀.heap.objs.size≤c
 hd:X.calm=true→X.A.handled=none
 frames:X.A.frames=some X.stack
 stk:X.stack=X.outer∨(X.stack=X.env::X.outer∧X.env.frame=some X.env.locals)
 exf:∀b∈X.ex,b≠X.env.locals∧∀x c,X.env.cells.lookup x=some c→c≠b
 bs:∀b o,X.base.get? b=some o→X.s₀.heap.get? b=some o∧X.H₀ b=none
 bsz:X.base.objs.size≤X.s₀.heap.objs.size
 noex:∀b o,X.base.get? b=some o→b∉X.ex
 exfs:∀b∈X.ex,b∉X.fs
 funs:X.s₀.heap.FunFrames X.base X.outer
 frf:∀b∈X.fs,X.H₀ b=none
structure Inv (X:Cx) (pins:List (Addr×Obj)) (σ:List (Option V)) (H:Hp) (s:Shared):Prop where
 ok:X.Ok
 os:s.os=X.s₀.os
 bare:AllBare s.gens
 base:Un X.fs X.ex X.H₀ H X.s₀.heap s.heap
 loc:∃m,s.heap.Ns X.env.locals m∧∀(i:Nat) (x:Str) (v:V),X.N[i]? = some x→σ[i]? = some (some v)→Vis X.env.scope x→∃u,RelV v u∧Look X.env s.heap m x u
 cell:∀x c,X.env.cells.lookup x=some c→∃v,s.heap.IsCell c v
 free:H X.env.locals=none
 freeC:∀x c,X.env.cells.lookup x=some c→H c=none
 pin:∀p∈X.pn++pins,s.heap.get? p.1=some p.2∧H p.1=none∧p.1≠X.env.locals∧p.1∉X.fs∧∀v,p.2.data≠.cell v
 hok:HOk X.prog X.w H s.heap
 len:σ.length=X.N.length
section
variable {X : Cx} {pins : List (Addr × Obj)} {σ : List (Option V)} {H H' : Hp} {s : Shared} {h' : Heap}
theorem Cx.Ok.nofr (ok:X.Ok) {b:Addr} {o:Obj} (e:X.base.get? b=some o):b∉X.fs:=fun hb=>by
 have:=(ok.funs.mem hb).1
 rw[e]at this;cases this
theorem Inv.bs (I:Inv X pins σ H s):∀b o,X.base.get? b=some o→s.heap.get? b=some o∧H b=none:=fun b o e =>
 ⟨I.base.keep b o (I.ok.bs b o e).1 (I.ok.bs b o e).2 (I.ok.nofr e) (I.ok.noex b o e),I.base.free b o (I.ok.bs b o e).1 (I.ok.bs b o e).2 (I.ok.noex b o e)⟩
theorem Inv.bk (I:Inv X pins σ H s):∀b o,X.base.get? b=some o→s.heap.get? b=some o:=fun b o e=>(I.bs b o e).1
theorem Inv.mod (I:Inv X pins σ H s):Mod X.K X.mg X.base:=I.ok.mod
theorem Inv.kIn (I:Inv X pins σ H s):X.K.In s.heap:=I.ok.mod.kin.keeps I.bk
theorem Inv.fr (I:Inv X pins σ H s):∃m,Fr X.base X.env.locals s.heap m :=
 let ⟨m,hn,_⟩:=I.loc
 ⟨m,hn,I.bk,CN I.ok.bsz I.ok.above⟩
theorem Inv.lt (I:Inv X pins σ H s):X.env.locals<s.heap.objs.size:=let ⟨_,hn,_⟩:=I.loc;hn.lt
theorem Inv.sz (I:Inv X pins σ H s):X.s₀.heap.objs.size≤s.heap.objs.size:=CN I.ok.above (EE I.lt)
theorem Inv.nofs (I:Inv X pins σ H s) {a:Addr} (h:s.heap.objs.size≤a):a∉X.fs:=fun hb=>by
 obtain⟨_,o,ho,_⟩:=I.ok.funs.mem hb
 exact absurd (AS (AI ho) (CN I.sz h)) (CW _)
theorem Inv.cne (I:Inv X pins σ H s):∀x c,X.env.cells.lookup x=some c→c≠X.env.locals:=fun x c e z=>by
 obtain⟨v,o,ho,hd⟩:=I.cell x c e
 obtain⟨m,⟨o',es,ep,ho',hd',_⟩,_⟩:=I.loc
 rw[z,ho']at ho;cases ho;rw[hd']at hd;cases hd
theorem Inv.funs (I:Inv X pins σ H s):s.heap.FunFrames X.base X.outer:=by
 have all:∀(l:List Env),(∀b∈frs l,b∈X.fs)→X.s₀.heap.FunFrames X.base l→s.heap.FunFrames X.base l:=by
  intro l
  induction l with
  | nil=>intro _ _;trivial
  | cons env r ih =>
   intro hs hl
   obtain⟨hk,⟨L,o,hf,hn,ho,hd⟩,hr⟩:=hl
   have hL:L∈X.fs:=hs L (by unfold frs;rw[GP,hf];exact AQ)
   obtain⟨sl,e⟩:=I.base.slot L o ho (I.ok.frf L hL) hL fun z=>I.ok.exfs L z hL
   exact⟨hk,⟨L,_,hf,hn,e,hd⟩,ih (fun b hb=>hs b (by unfold frs;rw[GP,hf];exact AK _ hb)) hr⟩
 exact all X.outer (fun _ hb=>hb) I.ok.funs
theorem Inv.stack (I:Inv X pins σ H s):s.heap.FunFrames X.base X.stack:=by
 rcases I.ok.stk with e | ⟨e,hf⟩
 ·rw[e];exact I.funs
 ·rw[e]
  obtain⟨m,hn,_⟩:=I.loc
  refine .cons (by rw[I.ok.kind];decide) hf hn ?_ I.funs
  exact Heap.get?_none_of_le (CN I.ok.bsz I.ok.above)
theorem Inv.stkSub (I:Inv X pins σ H s):∀b∈frs X.stack,b∈X.env.locals::X.fs:=fun b hb=>by
 rcases I.ok.stk with e | ⟨e,hf⟩
 ·rw[e]at hb;exact AK _ hb
 ·rw[e]at hb
  unfold frs at hb
  rw[GP,hf]at hb
  exact hb
theorem Inv.stkFree (I:Inv X pins σ H s):∀b∈frs X.stack,H b=none:=fun b hb=>by
 rcases AJ.mp (I.stkSub b hb)with e | hb
 ·rw[e];exact I.free
 ·obtain⟨_,o,ho,_⟩:=I.ok.funs.mem hb
  exact I.base.free b o ho (I.ok.frf b hb) fun z=>I.ok.exfs b z hb
theorem Inv.step {g':Array GenState} {t':Nat} {d':Drawn} {ch:List Addr} (I:Inv X pins σ H s)
  (hch:∀b∈ch,(b∈X.ex∨X.s₀.heap.objs.size≤b)∧b≠X.env.locals∧(∀x c,X.env.cells.lookup x=some c→c≠b)∧∀p∈X.pn++pins,p.1≠b)
  (keep:∀b o,b≠X.env.locals→b∉X.fs→b∉ch→s.heap.get? b=some o→H b=none→h'.get? b=some o)
  (slot:∀b o,b≠X.env.locals→b∈X.fs→b∉ch→s.heap.get? b=some o→H b=none→∃sl,h'.get? b=some {o with slots:=sl}) (free:∀b o,b∉ch→s.heap.get? b=some o→H b=none→H' b=none)
  (there:∀b o,b∉ch→s.heap.get? b=some o→∃o',h'.get? b=some o')
  (tups:∀b xs,H b=some (.tup xs)→H' b=some (.tup xs)) (frzs:∀b o u,H b=some (.frz o u)→H' b=some (.frz o u)) (tbls:∀b ps,H b=some (.tbl ps)→∃more,H' b=some (.tbl (ps++more)))
  (ns:∀m,s.heap.Ns X.env.locals m→h'.Ns X.env.locals m) (hok:HOk X.prog X.w H' h') (hg:AllBare g') :
  Inv X pins σ H' {s with heap:=h',gens:=g',drawn:=d',toks:=t'}:=by
 have neL:∀b o,X.s₀.heap.get? b=some o→b≠X.env.locals:=fun b o e=>AN (AS (AI e) I.ok.above)
 have neC:∀b o,X.s₀.heap.get? b=some o→b∉X.ex→b∉ch:=fun b o e hx hb=>by
  rcases(hch b hb).1 with z | z
  ·exact hx z
  ·exact absurd (AS (AI e) z) (CW _)
 have cellK:∀x c,X.env.cells.lookup x=some c→∀v,s.heap.IsCell c v→h'.IsCell c v:=fun x c e v ⟨o,ho,hd⟩=>by
  have nch:c∉ch:=fun z=>(hch c z).2.2.1 x c e rfl
  by_cases hc:c∈X.fs
  ·obtain⟨sl,q⟩:=slot c o (I.cne x c e) hc nch ho (I.freeC x c e)
   exact⟨_,q,hd⟩
  ·exact⟨o,keep c o (I.cne x c e) hc nch ho (I.freeC x c e),hd⟩
 refine⟨I.ok,I.os,hg,⟨fun b o e n hb hx=>?_,fun b o e n hb hx=>?_,fun b o e n hx=>?_,fun b o e hx=>?_,fun b xs e=>tups b xs (I.base.tups b xs e),fun b o xs e=>frzs b o xs (I.base.frzs b o xs e),fun b ps e=>?_⟩,?_,fun x c e=>?_,?_,fun x c e=>?_,fun p hp=>?_,hok,I.len⟩
 ·exact keep b o (neL b o e) hb (neC b o e hx) (I.base.keep b o e n hb hx) (I.base.free b o e n hx)
 ·obtain⟨sl,e1⟩:=I.base.slot b o e n hb hx
  obtain⟨sl',e2⟩:=slot b _ (neL b o e) hb (neC b o e hx) e1 (I.base.free b o e n hx)
  exact⟨sl',e2⟩
 ·obtain⟨o',e1⟩:=I.base.there b o e hx
  exact free b o' (neC b o e hx) e1 (I.base.free b o e n hx)
 ·obtain⟨o',e1⟩:=I.base.there b o e hx
  exact there b o' (neC b o e hx) e1
 ·obtain⟨m1,e1⟩:=I.base.tbls b ps e
  obtain⟨m2,e2⟩:=tbls b _ e1
  exact⟨m1++m2,by rw[e2,Array.append_assoc]⟩
 ·obtain⟨m,hn,hl⟩:=I.loc
  refine⟨m,ns m hn,fun i x v e1 e2 e3=>?_⟩
  obtain⟨u,r,l⟩:=hl i x v e1 e2 e3
  refine⟨u,r,?_⟩
  rcases l with l | ⟨k,c,e,z⟩
  ·exact .inl l
  ·exact .inr ⟨k,c,e,cellK x c e _ z⟩
 ·obtain⟨v,z⟩:=I.cell x c e
  exact⟨v,cellK x c e v z⟩
 ·obtain⟨m,⟨o,_,_,ho,_⟩,_⟩:=I.loc
  exact free _ o (fun z=>(hch _ z).2.1 rfl) ho I.free
 ·obtain⟨v,o,ho,hd⟩:=I.cell x c e
  exact free c o (fun z=>(hch c z).2.2.1 x c e rfl) ho (I.freeC x c e)
 ·obtain⟨e,n,ne,nf,d⟩:=I.pin p hp
  have nch:p.1∉ch:=fun z=>(hch p.1 z).2.2.2 p hp rfl
  exact⟨keep p.1 p.2 ne nf nch e n,free p.1 p.2 nch e n,ne,nf,d⟩
theorem Inv.un {t':Nat} (I:Inv X pins σ H s) (u:Un X.fs [] H H' s.heap h') (hok:HOk X.prog X.w H' h'):Inv X pins σ H' {s with heap:=h',toks:=t'}:=by
 obtain⟨m,⟨o,es,ep,ho,r⟩,_⟩:=id I.loc
 obtain⟨sl,hL⟩:=u.any ho I.free (by simp)
 exact I.step (g':=s.gens) (d':=s.drawn) (ch:=[]) (fun _ z=>nomatch z) (fun b o _ hb _ e n=>u.keep b o e n hb (by simp)) (fun b o _ hb _ e n=>u.slot b o e n hb (by simp)) (fun b o _ e n=>u.free b o e n (by simp)) (fun b o _ e=>u.there b o e (by simp)) u.tups u.frzs u.tbls (fun m' hm=>by
  obtain⟨o',es',ep',ho',r'⟩:=hm
  rw[ho]at ho';cases ho'
  exact⟨_,es',ep',hL,r'⟩) hok I.bare
theorem Inv.call {g':Array GenState} {t':Nat} {d':Drawn} {ch:List Addr} (I:Inv X pins σ H s) (u:Un (frs X.stack) ch H H' s.heap h') (hok:HOk X.prog X.w H' h') (hg:AllBare g')
  (hch:∀b∈ch,(b∈X.ex∨X.s₀.heap.objs.size≤b)∧b≠X.env.locals∧(∀x c,X.env.cells.lookup x=some c→c≠b)∧∀p∈X.pn++pins,p.1≠b) :
  Inv X pins σ H' {s with heap:=h',gens:=g',drawn:=d',toks:=t'}:=by
 obtain⟨m,⟨o,es,ep,ho,r⟩,_⟩:=id I.loc
 obtain⟨sl,hL⟩:=u.any ho I.free fun z=>(hch _ z).2.1 rfl
 exact I.step (ch:=ch) hch (fun b o hL hb hc e n=>u.keep b o e n (fun z=>(AJ.mp (I.stkSub b z)).elim hL hb) hc) (fun b o _ _ hc e n=>u.any e n hc) (fun b o hc e n=>u.free b o e n hc) (fun b o hc e=>u.there b o e hc) u.tups u.frzs u.tbls (fun m' hm=>by
  obtain⟨o',es',ep',ho',r'⟩:=hm
  rw[ho]at ho';cases ho'
  exact⟨_,es',ep',hL,r'⟩) hok hg
theorem Inv.turned {t':Nat} {it:Addr} (I:Inv X pins σ H s) (k:∀b o,b≠it→s.heap.get? b=some o→h'.get? b=some o) (hn:H it=none) (hL:it≠X.env.locals)
  (h1:it∈X.ex∨X.s₀.heap.objs.size≤it) (h2:∀x c,X.env.cells.lookup x=some c→c≠it) (h3:∀p∈X.pn++pins,p.1≠it):Inv X pins σ H {s with heap:=h',toks:=t'}:=by
 have nit:∀b u,H b=some u→b≠it:=fun b u e z=>by rw[z,hn]at e;cases e
 refine I.step (g':=s.gens) (d':=s.drawn) (ch:=[it]) (fun b hb=>?_) (fun b o _ _ hc e _=>k b o (fun z=>hc (by simp[z])) e) (fun b o _ _ hc e _=>⟨o.slots,k b o (fun z=>hc (by simp[z])) e⟩) (fun _ _ _ _ n=>n)
  (fun b o hc e=>⟨o,k b o (fun z=>hc (by simp[z])) e⟩) (fun _ _ e=>e) (fun _ _ _ e=>e) (fun b ps e=>⟨#[],by rw[e];simp⟩) (fun m hm=>?_) (fun b u e=>?_) I.bare
 ·have e:b=it:=by simpa using hb
  subst e
  exact⟨h1,hL,h2,h3⟩
 ·obtain⟨o,es,ep,ho,r⟩:=hm
  exact⟨o,es,ep,k _ o (Ne.symm hL) ho,r⟩
 ·refine(I.hok b u e).stay (fun c v hc q=>k c v ?_ q) (fun _ q=>q) fun _ _ q=>q
  rcases hc with z | z
  ·rw[z];exact nit b u e
  ·exact nit c _ z
theorem Inv.tok (I:Inv X pins σ H s) (t:Nat):Inv X pins σ H {s with toks:=t}:=I.un (h':=s.heap) (t':=t) Un.refl I.hok
theorem Inv.kept {t':Nat} (I:Inv X pins σ H s) (k:∀b u,s.heap.get? b=some u→h'.get? b=some u):Inv X pins σ H {s with heap:=h',toks:=t'}:=I.un (Un.kept k) (I.hok.kept k)
theorem Inv.laid {a:Addr} {o:HO} {t':Nat} (I:Inv X pins σ H s) (k:∀b u,s.heap.get? b=some u→h'.get? b=some u) (hp:s.heap.objs.size≤a) (new:i5 X.prog X.w (upd H a o) h' a o) :
  Inv X pins σ (upd H a o) {s with heap:=h',toks:=t'}:=I.un (Un.laid k hp (I.hok.fresh hp)) (I.hok.laid k hp new)
theorem Inv.write {x e:Addr} {o:HO} {t':Nat} (I:Inv X pins σ H s) (mu:Mut (H x)) (he:e=x∨H e=some (.own x)) (k:∀b u,b≠e→s.heap.get? b=some u→h'.get? b=some u) (heo:∃u,h'.get? e=some u)
  (new:i5 X.prog X.w (upd H x o) h' x o):Inv X pins σ (upd H x o) {s with heap:=h',toks:=t'}:=I.un (Un.write mu he k heo) (I.hok.write mu he k heo new)
theorem Inv.weak {σ':List (Option V)} (I:Inv X pins σ H s) (hl:σ'.length=σ.length) (w:∀(i:Nat) v,σ'[i]? = some (some v)→σ[i]? = some (some v)):Inv X pins σ' H s :=
 ⟨I.ok,I.os,I.bare,I.base,let ⟨m,hn,hl'⟩:=I.loc;⟨m,hn,fun i x v e1 e2 e3=>hl' i x v e1 (w i v e2) e3⟩,I.cell,I.free,I.freeC,I.pin,I.hok,hl.trans I.len⟩
theorem Inv.pins_of {pins':List (Addr×Obj)} (I:Inv X pins σ H s) (h:∀p∈pins',s.heap.get? p.1=some p.2∧H p.1=none∧p.1≠X.env.locals∧p.1∉X.fs∧∀v,p.2.data≠.cell v):Inv X pins' σ H s :=
 ⟨I.ok,I.os,I.bare,I.base,I.loc,I.cell,I.free,I.freeC,fun p hp=>(DH.mp hp).elim (fun z=>I.pin p (List.mem_append_left _ z)) (h p),I.hok,I.len⟩
theorem Bv {N:List Str} (hN:N.Nodup) {i j:Nat} {x:Str} (a:N[i]? = some x) (b:N[j]? = some x):i=j:=by
 obtain⟨h1,e1⟩:=AL.mp a
 obtain⟨h2,e2⟩:=AL.mp b
 exact(List.getElem_inj hN).mp (e1.trans e2.symm)
theorem yf {M:Model} {A:Around} {E:Value→Shared→Prop} {i:Nat} {x:Str} {v:V} {u:Value} {Q:Unit→Shared→Prop} (I:Inv X pins σ H s) (hN:X.N.Nodup) (hi:X.N[i]? = some x) (hx:Loc X.env.scope x) (r:RelV v u)
  (h:∀s',Inv X pins (σ.set i (some v)) H s'→(∃a,Heap.SameBut a s.heap s'.heap∧(a=X.env.locals∨X.env.cells.lookup x=some a))→Q () s') (hf:X.fn x=true∨X.env.scope.names.lookup x=some .local:=by first | exact .inl rfl | exact .inr rfl | assumption):wpAny M A (storeName X.env x u) Q E s:=by
 obtain⟨m,hn,hl⟩:=id I.loc
 have hcls:(X.env.scope.kind==.class || (X.env.scope.kind==.module&&X.env.locals != X.env.globals))=false:=by rw[I.ok.kind];rfl
 have hiσ:i<σ.length:=by rw[I.len];exact(AL.mp hi).1
 have cne:=I.cne
 have tracked:∀{a:Addr} {h':Heap},(∃o,s.heap.get? a=some o∧H a=none)→Heap.SameBut a s.heap h'→HOk X.prog X.w H h':=fun {a h'} ha hs b ob e=>by
  obtain⟨_,_,hfree⟩:=ha
  refine(I.hok b ob e).stay (fun c w' hc q=>(hs.2 c ?_).trans q) (fun _ q=>q) fun _ _ q=>q
  rintro rfl
  rcases hc with rfl | hc
  ·rw[hfree]at e;cases e
  ·rw[hfree]at hc;cases hc
 rcases hx with hk | hk
 ·refine wpAny_storeName_local hk hn (fun h' hn' hs=>?_) hcls
  obtain⟨oL,_,_,hoL,_⟩:=id hn
  refine h _ ⟨I.ok,I.os,I.bare,⟨fun b o e n hb hx=>?_,fun b o e n hb hx=>?_,I.base.free,fun b o e hx=>?_,I.base.tups,I.base.frzs,I.base.tbls⟩,⟨_,hn',fun j y v' e1 e2 e3=>?_⟩,fun y c e=>?_,I.free,I.freeC,fun p hp=>?_,tracked ⟨oL,hoL,I.free⟩ hs,by simpa using I.len⟩ ⟨_,hs,.inl rfl⟩
  ·exact(hs.2 b (AN (AS (AI e) I.ok.above))).trans (I.base.keep b o e n hb hx)
  ·obtain⟨sl,e1⟩:=I.base.slot b o e n hb hx
   exact⟨sl,(hs.2 b (AN (AS (AI e) I.ok.above))).trans e1⟩
  ·obtain⟨o',e1⟩:=I.base.there b o e hx
   exact⟨o',(hs.2 b (AN (AS (AI e) I.ok.above))).trans e1⟩
  ·by_cases hj:j=i
   ·subst hj
    rw[hi]at e1;cases e1
    rw[DM hiσ]at e2
    cases e2
    exact⟨u,r,.inl ⟨hk,by simp⟩⟩
   ·rw[CC (Ne.symm hj)]at e2
    obtain⟨u',r',q⟩:=hl j y v' e1 e2 e3
    refine⟨u',r',?_⟩
    rcases q with⟨k,e⟩ | ⟨k,c,e,z⟩
    ·refine .inl ⟨k,?_⟩
     have:y≠x:=fun e=>hj (Bv hN e1 (e ▸ hi))
     simp[this,e]
    ·exact .inr ⟨k,c,e,z.sameBut hs (cne y c e)⟩
  ·obtain⟨w',z⟩:=I.cell y c e
   exact⟨w',z.sameBut hs (cne y c e)⟩
  ·obtain⟨e,n,ne,nf,d⟩:=I.pin p hp
   exact⟨(hs.2 p.1 ne).trans e,n,ne,nf,d⟩
 ·have hfn:X.fn x=true:=by
   rcases hf with z | z
   ·exact z
   ·rw[z]at hk;cases hk
  obtain⟨c,hc⟩:=I.ok.has x (.inl hk)
  obtain⟨w',z⟩:=I.cell x c hc
  refine wpAny_storeName_cell I.ok.kind hk hc z (fun h' hc' hs=>?_)
  obtain⟨oc,hoc,hocd⟩:=id z
  refine h {s with heap:=h'} ⟨I.ok,I.os,I.bare,⟨fun b o e n hb hx=>?_,fun b o e n hb hx=>?_,I.base.free,fun b o e hx=>?_,I.base.tups,I.base.frzs,I.base.tbls⟩,⟨m,hn.sameBut hs (Ne.symm (cne x c hc)),fun j y v' e1 e2 e3=>?_⟩,fun y c' e=>?_,I.free,I.freeC,fun p hp=>?_,tracked ⟨oc,hoc,I.freeC x c hc⟩ hs,by simpa using I.len⟩ ⟨c,hs,.inr hc⟩
  ·exact(hs.2 b (AN (AS (AI e) (I.ok.cab x c hfn hc)))).trans (I.base.keep b o e n hb hx)
  ·obtain⟨sl,e1⟩:=I.base.slot b o e n hb hx
   exact⟨sl,(hs.2 b (AN (AS (AI e) (I.ok.cab x c hfn hc)))).trans e1⟩
  ·obtain⟨o',e1⟩:=I.base.there b o e hx
   exact⟨o',(hs.2 b (AN (AS (AI e) (I.ok.cab x c hfn hc)))).trans e1⟩
  ·by_cases hj:j=i
   ·subst hj
    rw[hi]at e1;cases e1
    rw[DM hiσ]at e2
    cases e2
    exact⟨u,r,.inr ⟨.inl hk,c,hc,hc'⟩⟩
   ·rw[CC (Ne.symm hj)]at e2
    obtain⟨u',r',q⟩:=hl j y v' e1 e2 e3
    refine⟨u',r',?_⟩
    rcases q with q | ⟨k,c',e,z'⟩
    ·exact .inl q
    ·refine .inr ⟨k,c',e,z'.sameBut hs ?_⟩
     rintro rfl
     exact hj (Bv hN e1 (I.ok.inj _ _ _ e hc ▸ hi))
  ·by_cases hcc:c'=c
   ·subst hcc;exact⟨_,hc'⟩
   ·obtain⟨w2,z2⟩:=I.cell y c' e
    exact⟨w2,z2.sameBut hs hcc⟩
  ·obtain⟨e,n,ne,nf,d⟩:=I.pin p hp
   refine⟨(hs.2 p.1 ?_).trans e,n,ne,nf,d⟩
   intro q
   rw[q,hoc]at e
   have q':oc=p.2:=BL e
   exact d w' (by rw[←q'];exact hocd)
theorem Bw {M:Model} {A:Around} {E:Value→Shared→Prop} {i:Nat} {x:Str} {v:V} {u:Value} {Q:Unit→Shared→Prop} (I:Inv X pins σ H s) (hN:X.N.Nodup) (hi:X.N[i]? = some x) (hx:Loc X.env.scope x) (r:RelV v u)
  (h:∀s',Inv X pins (σ.set i (some v)) H s'→Q () s') (hf:X.fn x=true∨X.env.scope.names.lookup x=some .local:=by first | exact .inl rfl | exact .inr rfl | assumption):wpAny M A (storeName X.env x u) Q E s :=
 yf I hN hi hx r (fun s' I' _=>h s' I') hf
theorem Inv.call' {s':Shared} {ch:List Addr} (I:Inv X pins σ H s) (ho:s'.os=s.os) (u:Un (frs X.stack) ch H H' s.heap s'.heap) (hok:HOk X.prog X.w H' s'.heap) (hg:AllBare s'.gens)
  (hch:∀b∈ch,(b∈X.ex∨X.s₀.heap.objs.size≤b)∧b≠X.env.locals∧(∀x c,X.env.cells.lookup x=some c→c≠b)∧∀p∈X.pn++pins,p.1≠b):Inv X pins σ H' s':=by
 obtain⟨h',g',d',t',o'⟩:=s'
 have e:o'=s.os:=ho
 subst e
 exact I.call (g':=g') (t':=t') (d':=d') u hok hg hch
end
noncomputable abbrev XK:=Value→Option Addr→Hp→Prop
noncomputable abbrev St:=List (Option V)
noncomputable abbrev VK:=V→Hp→Prop
noncomputable abbrev TE:=St→Hp→VK→Prop
noncomputable abbrev TT:=St→Hp→(Bool→Hp→Prop)→Prop
noncomputable abbrev TA:=St→Hp→(List V→Hp→Prop)→Prop
structure Ends where
 nx:St→Hp→Prop
 rt:VK
 bk:St→Hp→Prop:=fun _ _=>False
 ct:St→Hp→Prop:=fun _ _=>False
noncomputable abbrev TS:=Ends→St→Hp→Prop
noncomputable def EP (X:Cx) (pins:List (Addr×Obj)) (σ:St) (Q:VK) (u:Value) (s':Shared):Prop:=∃v H',Inv X pins σ H' s'∧RelV v u∧Q v H'
noncomputable def TP (X:Cx) (pins:List (Addr×Obj)) (σ:St) (Q:Bool→Hp→Prop) (b:Bool) (s':Shared):Prop:=∃H',Inv X pins σ H' s'∧Q b H'
noncomputable def AP (X:Cx) (pins:List (Addr×Obj)) (σ:St) (Q:List V→Hp→Prop) (us:List Value) (s':Shared):Prop:=∃vs H',Inv X pins σ H' s'∧cz vs us∧Q vs H'
noncomputable def SP (X:Cx) (pins:List (Addr×Obj)) (D:Ends) (f:Flow) (s':Shared):Prop :=
 match f with
 | .next=>∃σ' H',Inv X pins σ' H' s'∧D.nx σ' H'
 | .brk=>∃σ' H',Inv X pins σ' H' s'∧D.bk σ' H'
 | .cont=>∃σ' H',Inv X pins σ' H' s'∧D.ct σ' H'
 | .ret u=>∃v σ' H',Inv X pins σ' H' s'∧RelV v u∧D.rt v H'
noncomputable def PE (X:Cx) (e:Expr) (t:TE):Prop :=
 ∀(pins:List (Addr×Obj)) (s:Shared) (σ:St) (H:Hp) (Q:VK),Inv X pins σ H s→t σ H Q→wpAny (model X.prog X.w) X.A (eval e X.env) (EP X pins σ Q) X.xe s
noncomputable def PT (X:Cx) (e:Expr) (t:TT):Prop :=
 ∀(pins:List (Addr×Obj)) (s:Shared) (σ:St) (H:Hp) (Q:Bool→Hp→Prop),Inv X pins σ H s→t σ H Q→wpAny (model X.prog X.w) X.A (isTrue e X.env (eval e X.env)) (TP X pins σ Q) X.xe s
noncomputable def PW (X:Cx) (e:Expr) (t:TT):Prop :=
 ∀(whole:Sem Value) (pins:List (Addr×Obj)) (s:Shared) (σ:St) (H:Hp) (Q:Bool→Hp→Prop),Inv X pins σ H s→t σ H Q→wpAny (model X.prog X.w) X.A (isTrue e X.env whole) (TP X pins σ Q) X.xe s
theorem PW.pt {X:Cx} {e:Expr} {t:TT} (h:PW X e t):PT X e t:=h _
noncomputable def PA (X:Cx) (es:List Expr) (t:TA):Prop :=
 ∀(pos:Pos) (pins:List (Addr×Obj)) (s:Shared) (σ:St) (H:Hp) (Q:List V→Hp→Prop),Inv X pins σ H s→t σ H Q→wpAny (model X.prog X.w) X.A (spliced (backTo pos (starEach es X.env))) (AP X pins σ Q) X.xe s
noncomputable def PS (X:Cx) (st:Stmt) (t:TS):Prop :=
 ∀(pins:List (Addr×Obj)) (s:Shared) (σ:St) (H:Hp) (D:Ends),Inv X pins σ H s→t D σ H→wpAny (model X.prog X.w) X.A (exec st X.env) (SP X pins D) X.xe s
noncomputable def PSs (X:Cx) (st:List Stmt) (t:TS):Prop :=
 ∀(pins:List (Addr×Obj)) (s:Shared) (σ:St) (H:Hp) (D:Ends),Inv X pins σ H s→t D σ H→wpAny (model X.prog X.w) X.A (execs st X.env) (SP X pins D) X.xe s
theorem thn {α:Type} {t:Sem α} {Q Q':α→Shared→Prop} {M:Model} {A:Around} {E:Value→Shared→Prop} {s:Shared} (h:wpAny M A t Q E s) (hQ:∀a s,Q a s→Q' a s):wpAny M A t Q' E s:=DQ h hQ fun _ _ x=>x
end L2
namespace L2
open PySem PySem.Spec PyProof.Rows
section
variable {X : Cx}
theorem bin {a b:Expr} {ta tb:TE} (ha:PE X a ta) (hb:PE X b tb) {pins:List (Addr×Obj)} {s:Shared} {σ:St} {H:Hp} {R:V→V→Hp→Prop} (I:Inv X pins σ H s) (h:ta σ H fun x H1=>tb σ H1 fun y H2=>R x y H2)
  {α:Type} {Q:α→Shared→Prop} {f:Value→Value→Sem α}
  (hf:∀v u s2 x y H2,Inv X pins σ H2 s2→RelV x v→RelV y u→R x y H2→wpAny (model X.prog X.w) X.A (f v u) Q X.xe s2) :
  wpAny (model X.prog X.w) X.A (eval a X.env) (fun v s₁=>wpAny (model X.prog X.w) X.A (eval b X.env) (fun u s₂=>wpAny (model X.prog X.w) X.A (f v u) Q X.xe s₂) X.xe s₁) X.xe s:=by
 refine thn (ha pins s σ H _ I h) fun v s1 ⟨x,H1,I1,r1,q1⟩=>?_
 refine thn (hb pins s1 σ H1 _ I1 q1) fun u s2 ⟨y,H2,I2,r2,q2⟩=>?_
 exact hf v u s2 x y H2 I2 r1 r2 q2
noncomputable def Vo (i:Nat):TE:=fun σ H Q=>∃v,σ[i]? = some (some v)∧Q v H
noncomputable def tC (v:V):TE:=fun _ H Q=>Q v H
theorem uz {i:Nat} {x:Str} {pos:Pos} (hN:X.N[i]? = some x) (hv:Vis X.env.scope x) (hd:(x==("__debug__":Str))=false:=by decide) (hcd:(x==("__classdict__":Str))=false:=by decide):PE X (.Name x pos) (Vo i):=by
 intro pins s σ H Q I h
 obtain⟨v,e,h⟩:=h
 obtain⟨m,hn,hl⟩:=I.loc
 obtain⟨u,r,l⟩:=hl i x v hN e hv
 have fin:EP X pins σ Q u s:=⟨v,H,I,r,h⟩
 rcases l with⟨hk,hm⟩ | ⟨hk,c,hc,hcell⟩
 ·exact wpAny_Name (wpAny_loadName_local I.ok.kind hk hn hm fin) hd
 ·rcases hk with hk | hk
  ·exact wpAny_Name (wpAny_loadName_cell I.ok.kind hk hc hcell fin) hd
  ·exact wpAny_Name (wpAny_loadName_free I.ok.kind hk hc hcell fin hcd) hd
theorem Kp {i j pos}:PE X (.Constant (.int i) j pos) (tC (.int i)):=fun _ _ _ H _ I h=>wpAny_Constant_int ⟨.int i,H,I.tok _,⟨_,rfl⟩,h⟩
theorem Si {b j pos}:PE X (.Constant (.bool b) j pos) (tC (.bl b)):=fun _ _ _ H _ I h=>Constant_bool ⟨.bl b,H,I,rfl,h⟩
theorem O7 {j pos}:PE X (.Constant .none j pos) (tC .non):=fun _ _ _ H _ I h=>Constant_none ⟨.non,H,I,rfl,h⟩
theorem O8 {x j pos}:PE X (.Constant (.str x) j pos) (tC (.str x)):=fun _ _ _ H _ I h=>Calls.Constant_str ⟨.str x,H,I.tok _,⟨_,rfl⟩,h⟩
noncomputable def Gl (X:Cx) (x:Str):Prop:=X.env.kindOf x=some .globalImplicit
theorem L3 {E:Value→Shared→Prop} {pins:List (Addr×Obj)} {s:Shared} {σ:St} {H:Hp} {x:Str} {u:Value} {pos:Pos} {Q:Value→Shared→Prop} (I:Inv X pins σ H s) (hg:Gl X x) (hm:X.mg x=some u) (h:Q u s)
  (hd:(x==("__debug__":Str))=false:=by decide):wpAny (model X.prog X.w) X.A (eval (.Name x pos) X.env) Q E s :=
 GS I.ok.kind hg (Calls.loadGlobal_global (by rw[I.ok.glob];exact I.mod.glob.keeps I.bk) hm h) hd
theorem ny {E:Value→Shared→Prop} {pins:List (Addr×Obj)} {s:Shared} {σ:St} {H:Hp} {x:Str} {u:Value} {pos:Pos} {Q:Value→Shared→Prop} (I:Inv X pins σ H s) (hg:Gl X x) (hm:X.mg x=none) (hv:bootBuiltins x=some u) (h:Q u s)
  (hn:x≠"__name__":=by decide) (hd:(x==("__debug__":Str))=false:=by decide):wpAny (model X.prog X.w) X.A (eval (.Name x pos) X.env) Q E s:=by
 obtain⟨mb,h1,h2⟩:=I.mod.blt
 exact GS I.ok.kind hg (Calls.loadGlobal_builtin (by rw[I.ok.glob];exact I.mod.glob.keeps I.bk) hm (by rw[I.ok.blt];exact h1.keeps I.bk) ((h2 x hn).trans hv) h) hd
theorem L4 {x:Str} {v:V} {u:Value} {pos:Pos} (hg:Gl X x) (hm:X.mg x=none) (hv:bootBuiltins x=some u) (r:RelV v u) (hn:x≠"__name__":=by decide) (hd:(x==("__debug__":Str))=false:=by decide):PE X (.Name x pos) (tC v) :=
 fun _ _ _ H _ I h=>ny I hg hm hv ⟨v,H,I,r,h⟩ hn hd
variable {a b : Expr} {ta tb : TE} {pos : Pos}
variable {tA tB' : TT} {rest : List Expr}
noncomputable def Xh (t u:TT):TT:=fun σ H Q=>t σ H fun c H1=>if c=true then u σ H1 Q else Q false H1
noncomputable def tOr (t u:TT):TT:=fun σ H Q=>t σ H fun c H1=>if c=true then Q true H1 else u σ H1 Q
noncomputable def Xi (t:TT):TT:=fun σ H Q=>t σ H fun c H1=>Q (!c) H1
theorem L5 (ha:PT X a tA):PW X (.BoolOp .And [a] pos) tA:=by
 intro wh pins s σ H Q I h
 refine isTrue_and (thn (ha pins s σ H Q I h) fun c s1 e=>?_)
 cases c with
 | true=>exact isTrue_and_nil e
 | false=>exact e
theorem O9 (ha:PT X a tA):PW X (.BoolOp .Or [a] pos) tA:=by
 intro wh pins s σ H Q I h
 refine isTrue_or (thn (ha pins s σ H Q I h) fun c s1 e=>?_)
 cases c with
 | false=>exact isTrue_or_nil e
 | true=>exact e
theorem Pa (ha:PT X a tA) (hb:PW X (.BoolOp .And (b::rest) pos) tB'):PW X (.BoolOp .And (a::b::rest) pos) (Xh tA tB'):=by
 intro wh pins s σ H Q I h
 refine isTrue_and (thn (ha pins s σ H _ I h) fun c s1 ⟨H1,I1,q1⟩=>?_)
 cases c with
 | true=>exact hb wh pins s1 σ H1 Q I1 q1
 | false=>exact⟨H1,I1,q1⟩
theorem Sj (ha:PT X a tA) (hb:PW X (.BoolOp .Or (b::rest) pos) tB'):PW X (.BoolOp .Or (a::b::rest) pos) (tOr tA tB'):=by
 intro wh pins s σ H Q I h
 refine isTrue_or (thn (ha pins s σ H _ I h) fun c s1 ⟨H1,I1,q1⟩=>?_)
 cases c with
 | true=>exact⟨H1,I1,q1⟩
 | false=>exact hb wh pins s1 σ H1 Q I1 q1
theorem Pb (ha:PT X a tA):PT X (.UnaryOp .Not a pos) (Xi tA):=by
 intro pins s σ H Q I h
 exact isTrue_not (ha pins s σ H (fun c H1=>Q (!c) H1) I h)
noncomputable def Sk (ta tb:TE):TE:=fun σ H Q=>ta σ H fun x H1=>∃c,x=.bl c∧if c=true then tb σ H1 Q else Q (.bl false) H1
noncomputable def Xj (ta tb:TE):TE:=fun σ H Q=>ta σ H fun x H1=>∃c,x=.bl c∧if c=true then Q (.bl true) H1 else tb σ H1 Q
noncomputable def Sn (ta:TE):TE:=fun σ H Q=>ta σ H fun x H1=>∃c,x=.bl c∧Q (.bl (!c)) H1
theorem Kq {op} {t:TE} (h:PE X a t):PE X (.BoolOp op [a] pos) t:=fun pins s σ H Q I hw=>BoolOp_one (h pins s σ H Q I hw)
theorem Pc (ha:PE X a ta) (hb:PE X (.BoolOp .And (b::rest) pos) tb):PE X (.BoolOp .And (a::b::rest) pos) (Sk ta tb):=by
 intro pins s σ H Q I h
 refine BoolOp_and (thn (ha pins s σ H _ I h) fun v s1 ⟨x,H1,I1,r1,q1⟩=>?_)
 obtain⟨c,rfl,q1⟩:=q1
 cases r1
 refine DC ?_
 cases c with
 | true=>exact hb pins s1 σ H1 Q I1 q1
 | false=>exact⟨.bl false,H1,I1,rfl,q1⟩
theorem So (ha:PE X a ta) (hb:PE X (.BoolOp .Or (b::rest) pos) tb):PE X (.BoolOp .Or (a::b::rest) pos) (Xj ta tb):=by
 intro pins s σ H Q I h
 refine BoolOp_or (thn (ha pins s σ H _ I h) fun v s1 ⟨x,H1,I1,r1,q1⟩=>?_)
 obtain⟨c,rfl,q1⟩:=q1
 cases r1
 refine DC ?_
 cases c with
 | false=>exact hb pins s1 σ H1 Q I1 q1
 | true=>exact⟨.bl true,H1,I1,rfl,q1⟩
theorem Pd (ha:PE X a ta):PE X (.UnaryOp .Not a pos) (Sn ta):=by
 intro pins s σ H Q I h
 refine UnaryOp_ (thn (ha pins s σ H _ I h) fun v s1 ⟨x,H1,I1,r1,q1⟩=>?_)
 obtain⟨c,rfl,q1⟩:=q1
 cases r1
 exact not_of (DC ⟨.bl (!c),H1,I1,rfl,q1⟩)
end
end L2
namespace L2
open PySem PySem.Spec PyProof.Rows
noncomputable def SqL (K:PySem.W.Frag) (H:Hp) (a:Addr) (xs:List V):Prop :=
 Rd H a (.lst xs) ∨
  ∃(o:Obj) (its:Array Value) (n:Nat),K.lookup a=some o∧o.cls=.type "list"∧o.dict=none∧o.data=.seq its n∧its.size≤sizeLine∧cz xs its.toList
noncomputable def SqT (K:PySem.W.Frag) (H:Hp) (a:Addr) (xs:List V):Prop :=
 Rd H a (.tup xs) ∨
  ∃(o:Obj) (its:Array Value) (n:Nat),K.lookup a=some o∧o.cls=.type "tuple"∧o.data=.seq its n∧its.size≤sizeLine∧cz xs its.toList∧o.dict=none
noncomputable def Xk:Value→Option V
 | .none=>some .non
 | .bool b=>some (.bl b)
 | .int i _=>some (.int i)
 | .str x _=>some (.str x)
 | .bytes b _=>some (.byt b)
 | .float b _=>some (.flt b)
 | .ref a=>some (.ref a)
 | .type n=>some (.ty n)
 | _=>none
theorem RelV.abs {x:V} {u:Value} (r:RelV x u):Xk u=some x:=by
 cases x with
 | non=>cases r;rfl
 | bl _=>cases r;rfl
 | int _=>obtain⟨t,rfl⟩:=r;rfl
 | str _=>obtain⟨t,rfl⟩:=r;rfl
 | byt _=>obtain⟨t,rfl⟩:=r;rfl
 | flt _=>obtain⟨t,rfl⟩:=r;rfl
 | ref _=>cases r;rfl
 | ty _=>cases r;rfl
theorem RelV.inj {x y:V} {u:Value} (r:RelV x u) (q:RelV y u):x=y:=BL (r.abs.symm.trans q.abs)
theorem cz.inj:∀{xs ys:List V} {us:List Value},cz xs us→cz ys us→xs=ys
 | _,_,_,.nil,.nil=>rfl
 | _,_,_,.cons r t,.cons r' t'=>by rw[r.inj r',cz.inj t t']
section
variable {X : Cx} {pins : List (Addr × Obj)} {σ : St} {H : Hp} {s : Shared} {a : Addr} {xs ys : List V}
theorem SqL.of {K:PySem.W.Frag} (h:H a=some (.lst xs)):SqL K H a xs:=.inl (.inl h)
theorem SqT.of {K:PySem.W.Frag} (h:H a=some (.tup xs)):SqT K H a xs:=.inl (.inl h)
theorem Inv.list (I:Inv X pins σ H s) (h:SqL X.K H a xs):∃its:List Value,cz xs its∧PlainL s.heap a its.toArray∧xs.length≤sizeLine:=by
 rcases h with h | ⟨o,its,n,hk,hc,hd,hs,hz,r⟩
 ·obtain⟨z,its,n,r,e⟩:=h.ok I.hok
  exact⟨its,r,⟨_,n,e,rfl,rfl,rfl⟩,z⟩
 ·refine⟨its.toList,r,⟨o,n,I.kIn a o hk,hc,hd,by simpa using hs⟩,?_⟩
  have e:=r.length
  simp only[BN]at e
  lia
theorem Inv.tuple (I:Inv X pins σ H s) (h:SqT X.K H a xs):∃its:List Value,cz xs its∧IsTup s.heap a its.toArray∧xs.length≤sizeLine:=by
 rcases h with h | ⟨o,its,n,hk,hc,hs,hz,r,_⟩
 ·obtain⟨z,its,r,p⟩:=h.ok I.hok
  exact⟨its,r,p.tup,z⟩
 ·refine⟨its.toList,r,⟨o,I.kIn a o hk,hc,n,by simpa using hs⟩,?_⟩
  have e:=r.length
  simp only[BN]at e
  lia
theorem Inv.list_inj (I:Inv X pins σ H s) (h:SqL X.K H a xs) (h':SqL X.K H a ys):xs=ys:=by
 obtain⟨its,r,⟨o,n,e,_,_,d⟩,_⟩:=I.list h
 obtain⟨its',r',⟨o',n',e',_,_,d'⟩,_⟩:=I.list h'
 rw[e]at e';cases e'
 rw[d]at d'
 injection d' with d1 _
 have:its=its':=by simpa using congrArg Array.toList d1
 subst this
 exact r.inj r'
theorem Inv.tuple_inj (I:Inv X pins σ H s) (h:SqT X.K H a xs) (h':SqT X.K H a ys):xs=ys:=by
 obtain⟨its,r,⟨o,e,_,n,d⟩,_⟩:=I.tuple h
 obtain⟨its',r',⟨o',e',_,n',d'⟩,_⟩:=I.tuple h'
 rw[e]at e';cases e'
 rw[d]at d'
 injection d' with d1 _
 have:its=its':=by simpa using congrArg Array.toList d1
 subst this
 exact r.inj r'
end
noncomputable abbrev Cx.wish (X:Cx) (E:Value→Shared→Prop):Cx:={X with xe:=E}
noncomputable abbrev Cx.nox (X:Cx):Cx:=X.wish fun _ _=>False
theorem Cx.Ok.wish {X:Cx} (ok:X.Ok) (E:Value→Shared→Prop):(X.wish E).Ok :=
 ⟨ok.mod,ok.kind,ok.glob,ok.blt,ok.above,ok.inj,ok.has,ok.cab,ok.hd,ok.frames,ok.stk,ok.exf,ok.bs,ok.bsz,ok.noex,ok.exfs,ok.funs,ok.frf⟩
theorem Cx.Ok.unwish {X:Cx} {E:Value→Shared→Prop} (ok:(X.wish E).Ok):X.Ok :=
 ⟨ok.mod,ok.kind,ok.glob,ok.blt,ok.above,ok.inj,ok.has,ok.cab,ok.hd,ok.frames,ok.stk,ok.exf,ok.bs,ok.bsz,ok.noex,ok.exfs,ok.funs,ok.frf⟩
section
variable {X : Cx} {pins : List (Addr × Obj)} {σ : St} {H : Hp} {s : Shared} {E : Value → Shared → Prop}
theorem Inv.wish (I:Inv X pins σ H s) (E:Value→Shared→Prop):Inv (X.wish E) pins σ H s:=⟨I.ok.wish E,I.os,I.bare,I.base,I.loc,I.cell,I.free,I.freeC,I.pin,I.hok,I.len⟩
theorem Inv.unwish (I:Inv (X.wish E) pins σ H s):Inv X pins σ H s:=⟨I.ok.unwish,I.os,I.bare,I.base,I.loc,I.cell,I.free,I.freeC,I.pin,I.hok,I.len⟩
theorem SP.unwish {D:Ends} {f:Flow} {s':Shared} (h:SP (X.wish E) pins D f s'):SP X pins D f s':=by
 cases f with
 | next=>obtain⟨σ',H',I,q⟩:=h;exact⟨σ',H',I.unwish,q⟩
 | brk=>obtain⟨σ',H',I,q⟩:=h;exact⟨σ',H',I.unwish,q⟩
 | cont=>obtain⟨σ',H',I,q⟩:=h;exact⟨σ',H',I.unwish,q⟩
 | ret u=>obtain⟨v,σ',H',I,r,q⟩:=h;exact⟨v,σ',H',I.unwish,r,q⟩
theorem PSs.nox {st:List Stmt} {t:TS} (h:PSs X.nox st t):PSs X st t:=fun pins s σ H D I hw =>
 DQ (h pins s σ H D (I.wish _) hw) (fun _ _ q=>q.unwish) fun _ _ z=>False.elim z
end
section
variable {X : Cx} {st : Stmt} {rest : List Stmt} {t u : TS} {e : Expr} {te : TE} {pos : Pos}
noncomputable def tNext:TS:=fun D σ H=>D.nx σ H
noncomputable def Xl (t u:TS):TS:=fun D σ H=>t {D with nx:=u D} σ H
theorem L6:PSs X [] tNext:=fun _ _ σ H _ I h=>wpAny_execs_nil ⟨σ,H,I,h⟩
theorem Ie (h1:PS X st t) (h2:PSs X rest u):PSs X (st::rest) (Xl t u):=by
 intro pins s σ H D I h
 refine wpAny_execs_cons (thn (h1 pins s σ H {D with nx:=u D} I h) fun f s1 q=>?_)
 cases f with
 | next =>
  obtain⟨σ',H',I',q⟩:=q
  exact h2 pins s1 σ' H' D I' q
 | ret v=>exact q
 | brk=>exact q
 | cont=>exact q
theorem Inv.quiet {pins:List (Addr×Obj)} {σ:St} {H:Hp} {s:Shared} (I:Inv X pins σ H s):interactive X.env=false:=by simp[interactive,I.ok.kind]
noncomputable def Sr (te:TE):TS:=fun D σ H=>te σ H fun _ H1=>D.nx σ H1
theorem L7 (he:PE X e te) (hs:swapsWith e none pos.line X.env=pure false:=by rfl):PS X (.Expr e pos) (Sr te):=by
 intro pins s σ H D I h
 exact wpAny_Expr_any (thn (he pins s σ H _ I h) fun v s1 ⟨x,H1,I1,r1,q1⟩=>⟨σ,H1,I1,q1⟩) I.quiet hs
noncomputable def Xm (te:TE):TS:=fun D σ H=>te σ H D.rt
theorem Pe (he:PE X e te):PS X (.Return (some e) pos) (Xm te):=by
 intro pins s σ H D I h
 exact wpAny_Return_some (thn (he pins s σ H _ I h) fun v s1 ⟨x,H1,I1,r1,q1⟩=>⟨x,σ,H1,I1,r1,q1⟩)
noncomputable def Xn (c:TT) (t u:TS):TS:=fun D σ H=>c σ H fun b H1=>if b=true then t D σ H1 else u D σ H1
theorem Ss {c:Expr} {a b:List Stmt} {tc:TT} (hc:PT X c tc) (ha:PSs X a t) (hb:PSs X b u):PS X (.If c a b pos) (Xn tc t u):=by
 intro pins s σ H D I h
 refine wpAny_If (thn (hc pins s σ H _ I h) fun d s1 ⟨H1,I1,q1⟩=>?_)
 cases d with
 | true=>exact ha pins s1 σ H1 D I1 q1
 | false=>exact hb pins s1 σ H1 D I1 q1
end
noncomputable abbrev TG:=V→St→Hp→(St→Hp→Prop)→Prop
noncomputable abbrev TGs:=List V→St→Hp→(St→Hp→Prop)→Prop
noncomputable def PG (X:Cx) (target:Expr) (t:TG):Prop :=
 ∀(pins:List (Addr×Obj)) (s:Shared) (σ:St) (H:Hp) (v:V) (u:Value) (Q:St→Hp→Prop),Inv X pins σ H s→RelV v u→t v σ H Q →
  wpAny (model X.prog X.w) X.A (assign target X.env u) (fun _ s'=>∃σ' H',Inv X pins σ' H' s'∧Q σ' H') X.xe s
noncomputable def PGs (X:Cx) (ts:List Expr) (t:TGs):Prop :=
 ∀(pins:List (Addr×Obj)) (s:Shared) (σ:St) (H:Hp) (vs:List V) (us:List Value) (Q:St→Hp→Prop),Inv X pins σ H s→cz vs us→t vs σ H Q →
  wpAny (model X.prog X.w) X.A (assignInOrder ((assignEach ts X.env).map (·.2)) us) (fun _ s'=>∃σ' H',Inv X pins σ' H' s'∧Q σ' H') X.xe s
noncomputable abbrev TSet:=V→V→V→Hp→(Hp→Prop)→Prop
noncomputable def Ry (X:Cx) (t:TSet):Prop :=
 ∀(pins:List (Addr×Obj)) (s:Shared) (σ:St) (H:Hp) (o i v:V) (ov iv u:Value) (Q:Hp→Prop),Inv X pins σ H s→RelV o ov→RelV i iv→RelV v u→t o i v H Q →
  wpAny (model X.prog X.w) X.A (setItem ov iv u) (fun _ s'=>∃H',Inv X pins σ H' s'∧Q H') X.xe s
section
variable {X : Cx} {pos : Pos}
noncomputable def L8 (i:Nat):TG:=fun v σ H Q=>Q (σ.set i (some v)) H
theorem Eu {i:Nat} {x:Str} (hN:X.N.Nodup) (hi:X.N[i]? = some x) (hx:Loc X.env.scope x) (hf:X.fn x=true∨X.env.scope.names.lookup x=some .local:=by first | exact .inl rfl | exact .inr rfl | assumption):PG X (.Name x pos) (L8 i):=by
 intro pins s σ H v u Q I r h
 exact wpAny_assign_Name (Bw I hN hi hx r (fun s' I'=>⟨_,H,I',h⟩) hf)
noncomputable def gNil:TGs:=fun vs σ H Q=>vs=[]∧Q σ H
noncomputable def Su (t:TG) (u:TGs):TGs:=fun vs σ H Q=>∃v r,vs=v::r∧t v σ H fun σ' H'=>u r σ' H' Q
theorem L9:PGs X [] gNil:=by
 intro pins s σ H vs us Q I r h
 obtain⟨e,h⟩:=h
 subst e
 cases r
 exact assignInOrder_nil ⟨σ,H,I,h⟩
theorem Ig {e:Expr} {es:List Expr} {t:TG} {u:TGs} (h1:PG X e t) (h2:PGs X es u)
  (hs:(assignEach (e::es) X.env).map (·.2)=assign e X.env::(assignEach es X.env).map (·.2):=by rfl):PGs X (e::es) (Su t u):=by
 intro pins s σ H vs us Q I r h
 obtain⟨v,vr,e1,h⟩:=h
 subst e1
 cases r with
 | cons r rr =>
  rw[hs]
  refine assignInOrder_cons (thn (h1 pins s σ H _ _ _ I r h) fun _ s1 ⟨σ1,H1,I1,q1⟩=>?_)
  exact h2 pins s1 σ1 H1 _ _ Q I1 rr q1
noncomputable def Xo (K:PySem.W.Frag) (n:Nat) (t:TGs):TG:=fun v σ H Q=>∃a xs,v=.ref a∧SqT K H a xs∧xs.length=n∧t xs σ H Q
theorem Pf {es:List Expr} {k:Nat} {t:TGs} {n:Nat} (hc:X.calm=true) (h:PGs X es t)
  (hn:(assignEach es X.env).length=n:=by rfl) (hst:(assignEach es X.env).findIdx? (·.1)=none:=by rfl):PG X (.Tuple es k pos) (Xo X.K n t):=by
 intro pins s σ H v u Q I r hw
 obtain⟨a,xs,e1,hq,hl,hw⟩:=hw
 subst e1
 cases r
 obtain⟨its,rv,ht,hz⟩:=I.tuple hq
 refine assign_Tuple_tuple (I.ok.hd hc) ht (by simp[hn,←hl,rv.length]) hst fun h' hx=>?_
 have I1:Inv X pins σ H {s with heap:=h'}:=I.kept (t':=s.toks) fun b o e=>hx b o (AN (AI e)) e
 exact h pins _ σ H xs _ Q I1 (by simpa using rv) hw
noncomputable def Xp (to ti:TE) (t:TSet):TG:=fun v σ H Q=>to σ H fun o H1=>ti σ H1 fun i H2=>t o i v H2 fun H3=>Q σ H3
theorem Pg {o i:Expr} {to ti:TE} {t:TSet} (ho:PE X o to) (hi:PE X i ti) (hs:Ry X t)
  (ha:∀v,assign (.Subscript o i pos) X.env v=(do
   let ov ←holding [v] (eval o X.env)
   let iv ←holding [v,ov] (eval i X.env)
   standAt pos
   holding [v,ov,iv] (setItem ov iv v)
   release [v,ov,iv] []):=by intro _;rfl):PG X (.Subscript o i pos) (Xp to ti t):=by
 intro pins s σ H v u Q I r h
 rw[ha]
 refine AA (CL (thn (ho pins s σ H _ I h) fun ov s1 ⟨x,H1,I1,r1,q1⟩=>?_))
 refine AA (CL (thn (hi pins s1 σ H1 _ I1 q1) fun iv s2 ⟨y,H2,I2,r2,q2⟩=>?_))
 refine AA (wpAny_standAt (AA (CL (thn (hs pins s2 σ H2 x y v ov iv u _ I2 r1 r2 r q2) fun _ s3 ⟨H3,I3,q3⟩=>?_))))
 exact wpAny_release ⟨σ,H3,I3,q3⟩
noncomputable def Vp (te:TE) (g:TG):TS:=fun D σ H=>te σ H fun x H1=>g x σ H1 D.nx
theorem Kr {tg e:Expr} {te:TE} {g:TG} (he:PE X e te) (hg:PG X tg g) (hs:swapsWithSole [tg] e pos.line X.env=pure false:=by rfl) (hw:swappedStores [tg] e X.env=pure none:=by rfl)
  (h1:(assignEach [tg] X.env).map (·.2)=[assign tg X.env]:=by rfl):PS X (.Assign [tg] e pos) (Vp te g):=by
 intro pins s σ H D I h
 refine wpAny_Assign_stores (thn (he pins s σ H _ I h) fun v s1 ⟨x,H1,I1,r1,q1⟩=>?_) hs hw
 rw[h1]
 exact thn (hg pins s1 σ H1 x v _ I1 r1 q1) fun _ s2 q=>q
theorem Ph {i:Nat} {x:Str} {e:Expr} {te:TE} {pos':Pos} (hN:X.N.Nodup) (hi:X.N[i]? = some x) (hx:Loc X.env.scope x) (he:PE X e te) (hs:swapsWith e (some (.Name x pos')) pos.line X.env=pure false:=by rfl) (hf:X.fn x=true∨X.env.scope.names.lookup x=some .local:=by first | exact .inl rfl | exact .inr rfl | assumption) :
  PS X (.Assign [.Name x pos'] e pos) (Vp te (L8 i)):=by
 intro pins s σ H D I h
 refine wpAny_Assign_Name (thn (he pins s σ H _ I h) fun v s1 ⟨y,H1,I1,r1,q1⟩=>?_) hs
 exact Bw I1 hN hi hx r1 (fun s2 I2=>⟨_,H1,I2,q1⟩) hf
end
structure It where
 go:Nat→Hp→Prop
 yld:Nat→Hp→V→Hp→Prop
 stop:Nat→Hp→Prop
noncomputable def Dd (X:Cx) (pins:List (Addr×Obj)) (H:Hp) (b:Addr):Prop :=
 H b=none∧b≠X.env.locals∧b∉X.fs∧(b∈X.ex∨X.s₀.heap.objs.size≤b)∧(∀x c,X.env.cells.lookup x=some c→c≠b)∧∀p∈X.pn++pins,p.1≠b
theorem Inv.fpOk {X:Cx} {pins:List (Addr×Obj)} {σ:St} {H H':Hp} {s:Shared} {b:Addr} (I:Inv X pins σ H s) (hb:s.heap.objs.size≤b) (hn:H' b=none):Dd X pins H' b:=by
 refine⟨hn,CF (AS I.lt hb),I.nofs hb,.inr (CN I.sz hb),fun x c e z=>?_,fun p hp z=>?_⟩
 ·obtain⟨v,q⟩:=I.cell x c e
  exact absurd (AS q.lt (by rw[z];exact hb)) (CW _)
 ·exact absurd (AS (AI (I.pin p hp).1) (by rw[z];exact hb)) (CW _)
structure Turn (P:Program) (w:World) (K:PySem.W.Frag) (tg:Expr) (J:It) (fp:List Addr) (it:Addr) (tn:Nat→Heap→Prop):Prop where
 mem:it∈fp
 obj:∀i h,tn i h→∀b∈fp,∃o,h.get? b=some o∧∀v,o.data≠.cell v
 keep:∀i h h',tn i h→(∀b∈fp,∀o,h.get? b=some o→h'.get? b=some o)→tn i h'
 item:∀(X:Cx),X.prog=P→X.w=w→X.K=K→X.calm=true→∀(i:Nat) (pins:List (Addr×Obj)) (s:Shared) (σ:St) (H:Hp) (E:Value→Shared→Prop),Inv X pins σ H s→(∀b∈fp,Dd X pins H b)→tn i s.heap→J.go i H →
  wpAny (model P w) X.A (pyNext (.ref it)) (fun r s1=>∃u,r=some u ∧
   wpAny (model P w) X.A (letOwnedTupleGo tg (.ref it) u) (fun _ s2=>∃x H',Inv X pins σ H' s2∧RelV x u∧J.yld i H x H'∧tn (i+1) s2.heap∧∀b∈fp,H' b=none) E s1) E s
 done:∀(X:Cx),X.prog=P→X.w=w→X.K=K→X.calm=true→∀(i:Nat) (pins:List (Addr×Obj)) (s:Shared) (σ:St) (H:Hp) (E:Value→Shared→Prop),Inv X pins σ H s→(∀b∈fp,Dd X pins H b)→tn i s.heap→J.stop i H →
  wpAny (model P w) X.A (pyNext (.ref it)) (fun r s1=>r=none∧Inv X pins σ H s1) E s
 self:∀(A:Around) (i:Nat) (s:Shared) (Q:Value→Shared→Prop) (E:Value→Shared→Prop),tn i s.heap→Q (.ref it) s→wpAny (model P w) A (pyIter (.ref it)) Q E s
noncomputable abbrev TI:=St→Hp→(It→Hp→Prop)→Prop
noncomputable def PIE (X:Cx) (pins:List (Addr×Obj)) (σ:St) (tg:Expr) (R:It→Hp→Prop) (itv:Value) (s2:Shared):Prop :=
 ∃(it:Addr) (fp:List Addr) (tn:Nat→Heap→Prop) (J:It) (H':Hp),itv=.ref it∧Inv X pins σ H' s2∧Turn X.prog X.w X.K tg J fp it tn∧tn 0 s2.heap∧(∀b∈fp,Dd X pins H' b)∧R J H'
noncomputable def PI (X:Cx) (tg iter:Expr) (wi:TI):Prop :=
 ∀(pins:List (Addr×Obj)) (s:Shared) (σ:St) (H:Hp) (R:It→Hp→Prop),Inv X pins σ H s→wi σ H R →
  wpAny (model X.prog X.w) X.A (eval iter X.env) (fun v s1=>wpAny (model X.prog X.w) X.A (pyIter v) (PIE X pins σ tg R) X.xe s1) X.xe s
theorem Ih {M:Model} {A:Around} {E:Value→Shared→Prop} {s:Shared} {tg:Expr} {it:Addr} {u:Value} {o:Obj} {n:String} {vs:Array Value} {Q:Unit→Shared→Prop} (ho:s.heap.get? it=some o) (hc:o.cls=.type n) (hd:o.data=.fields vs)
  (hn:["enumerate","zip","dict_itemiterator","dict_reverseitemiterator","odict_iterator","itertools.zip_longest","itertools.pairwise"].contains n=false) (hQ:Q () s):wpAny M A (letOwnedTupleGo tg (.ref it) u) Q E s:=by
 unfold letOwnedTupleGo
 cases tg<;>first
  | exact AD hQ
  | (cases u<;>first
    | exact AD hQ
    | (
     refine AA (wpAny_load ho ?_)
     rw[hc,hd]
     show wpAny M A (if(["enumerate","zip","dict_itemiterator","dict_reverseitemiterator","odict_iterator","itertools.zip_longest","itertools.pairwise"].contains n&&vs[0]?==some (rawInt _))=true then _ else _) Q E s
     rw[if_neg (by intro h;rw[hn,Bool.false_and]at h;cases h)]
     exact AD hQ))
noncomputable def Itl (K:PySem.W.Frag) (a:Addr):It :=
 ⟨fun i H=>∃xs x,SqL K H a xs∧xs[i]? = some x,fun i H x H'=>H'=H∧∀xs,SqL K H a xs→xs[i]? = some x,fun i H=>∃xs,SqL K H a xs∧xs.length≤i⟩
noncomputable def Itt (K:PySem.W.Frag) (a:Addr):It :=
 ⟨fun i H=>∃xs x,SqT K H a xs∧xs[i]? = some x,fun i H x H'=>H'=H∧∀xs,SqT K H a xs→xs[i]? = some x,fun i H=>∃xs,SqT K H a xs∧xs.length≤i⟩
noncomputable def Itr (lo:Int) (n:Nat):It:=⟨fun i _=>i<n,fun i H x H'=>H'=H∧x=.int (lo+i),fun i _=>n≤i⟩
theorem Ew {P:Program} {w:World} {K:PySem.W.Frag} {tg:Expr} (a it:Addr):Turn P w K tg (Itl K a) [it] it (fun i h=>h.IsListIter it a i) where
 mem:=by simp
 obj:=fun i h st b hb=>by
  have e:b=it:=by simpa using hb
  subst e
  obtain⟨o,e,c,d⟩:=st
  exact⟨o,e,fun v z=>by rw[d]at z;cases z⟩
 keep:=fun i h h' st k=>st.at fun o e=>k it (by simp) o e
 item:=by
  intro X hP hw hK hc i pins s σ H E I hf st hg
  subst hP hw hK
  obtain⟨xs,x,hq,hx⟩:=hg
  obtain⟨its,rv,p,hz⟩:=I.list hq
  obtain⟨u,hu,ru⟩:=rv.get hx
  obtain⟨f0,f1,f2,f3,f4,f5⟩:=hf it (by simp)
  refine wpAny_pyNext_list_item st p.isList (x:=u) (by simpa using hu) fun h' st' sb=>?_
  have I1:Inv X pins σ H {s with heap:=h'}:=I.turned (t':=s.toks) (fun b o hb e=>(sb.2 b hb).trans e) f0 f1 f3 f4 f5
  obtain⟨o,e,c,d⟩:=id st'
  exact⟨u,rfl,Ih (s:={s with heap:=h'}) e c d (by decide) ⟨x,H,I1,ru,⟨rfl,fun ys hy=>by rw[I.list_inj hy hq];exact hx⟩,st',fun b hb=>(hf b hb).1⟩⟩
 done:=by
  intro X hP hw hK hc i pins s σ H E I hf st hg
  subst hP hw hK
  obtain⟨xs,hq,hx⟩:=hg
  obtain⟨its,rv,p,hz⟩:=I.list hq
  obtain⟨f0,f1,f2,f3,f4,f5⟩:=hf it (by simp)
  have hl:=rv.length
  exact wpAny_pyNext_list_end (I.ok.hd hc) st p.isList (by simp;lia) fun h' eb=>⟨rfl,I.turned (t':=s.toks) (fun b o hb e=>eb b o hb e) f0 f1 f3 f4 f5⟩
 self:=fun _ _ _ _ _ st h=>wpAny_pyIter_listiter st h
theorem De {P:Program} {w:World} {K:PySem.W.Frag} {tg:Expr} (a it:Addr):Turn P w K tg (Itt K a) [it] it (fun i h=>h.IsTupleIter it a i) where
 mem:=by simp
 obj:=fun i h st b hb=>by
  have e:b=it:=by simpa using hb
  subst e
  obtain⟨o,e,c,d⟩:=st
  exact⟨o,e,fun v z=>by rw[d]at z;cases z⟩
 keep:=fun i h h' st k=>st.at fun o e=>k it (by simp) o e
 item:=by
  intro X hP hw hK hc i pins s σ H E I hf st hg
  subst hP hw hK
  obtain⟨xs,x,hq,hx⟩:=hg
  obtain⟨its,rv,p,hz⟩:=I.tuple hq
  obtain⟨u,hu,ru⟩:=rv.get hx
  obtain⟨f0,f1,f2,f3,f4,f5⟩:=hf it (by simp)
  refine wpAny_pyNext_tuple_item st (show s.heap.IsTuple a its.toArray from p) (x:=u) (by simpa using hu) fun h' st' sb=>?_
  have I1:Inv X pins σ H {s with heap:=h'}:=I.turned (t':=s.toks) (fun b o hb e=>(sb.2 b hb).trans e) f0 f1 f3 f4 f5
  obtain⟨o,e,c,d⟩:=id st'
  exact⟨u,rfl,Ih (s:={s with heap:=h'}) e c d (by decide) ⟨x,H,I1,ru,⟨rfl,fun ys hy=>by rw[I.tuple_inj hy hq];exact hx⟩,st',fun b hb=>(hf b hb).1⟩⟩
 done:=by
  intro X hP hw hK hc i pins s σ H E I hf st hg
  subst hP hw hK
  obtain⟨xs,hq,hx⟩:=hg
  obtain⟨its,rv,p,hz⟩:=I.tuple hq
  obtain⟨f0,f1,f2,f3,f4,f5⟩:=hf it (by simp)
  have hl:=rv.length
  exact wpAny_pyNext_tuple_end (I.ok.hd hc) st (show s.heap.IsTuple a its.toArray from p) (by simp;lia) fun h' eb=>⟨rfl,I.turned (t':=s.toks) (fun b o hb e=>eb b o hb e) f0 f1 f3 f4 f5⟩
 self:=fun _ _ _ _ _ st h=>wpAny_pyIter_tupleiter st h
theorem Dg {P:Program} {w:World} {K:PySem.W.Frag} {tg:Expr} (it:Addr) (lo:Int) (n:Nat):Turn P w K tg (Itr lo n) [it] it (fun i h=>IsRangeIter h it (lo+(i:Nat)*1) ((n:Int)-(i:Nat)) 1) where
 mem:=by simp
 obj:=fun i h st b hb=>by
  have e:b=it:=by simpa using hb
  subst e
  exact⟨_,st,fun v z=>by
   have z':Data.fields _=Data.cell v:=z
   cases z'⟩
 keep:=fun i h h' st k=>k it (by simp) _ st
 item:=by
  intro X hP hw hK hc i pins s σ H E I hf st hg
  subst hP hw hK
  obtain⟨f0,f1,f2,f3,f4,f5⟩:=hf it (by simp)
  have W:=Walks.range (prog:=X.prog) (w:=X.w) (I.ok.hd hc) it lo 1 n
  refine W.item i s _ _ hg st fun v h' tk hv st' kk=>?_
  obtain⟨t,rfl⟩:=hv
  have I1:Inv X pins σ H {s with heap:=h',toks:=tk}:=I.turned (fun b o hb e=>kk b o (by simpa using hb) e) f0 f1 f3 f4 f5
  refine⟨_,rfl,Ih (s:={s with heap:=h',toks:=tk}) (n:="range_iterator") st' rfl rfl (by decide) ⟨.int (lo+i),H,I1,⟨t,?_⟩,⟨rfl,rfl⟩,st',fun b hb=>(hf b hb).1⟩⟩
  rw[Int.mul_one]
 done:=by
  intro X hP hw hK hc i pins s σ H E I hf st hg
  subst hP hw hK
  obtain⟨f0,f1,f2,f3,f4,f5⟩:=hf it (by simp)
  exact wpAny_pyNext_range_end (I.ok.hd hc) st (by have:n≤i:=hg;lia) fun h' eb=>⟨rfl,I.turned (t':=s.toks) (fun b o hb e=>eb b o hb e) f0 f1 f3 f4 f5⟩
 self:=fun _ _ _ _ _ st h=>wpAny_pyIter_rangeiter st h
end L2
namespace L2
open PySem PySem.Spec PyProof.Rows
section
variable {X : Cx} {tg : Expr}
theorem Ii {pins:List (Addr×Obj)} {σ:St} {H:Hp} {s:Shared} {R:It→Hp→Prop} {E:Value→Shared→Prop} {lo hi:Int} {t u v:Tok} {tk:Nat} (I:Inv X pins σ H s) (h1:-(2 ^ 62)≤lo) (h2:lo<2 ^ 62) (h3:-(2 ^ 62)≤hi) (h4:hi<2 ^ 62)
  (q:R (Itr lo (hi-lo).toNat) H):wpAny (model X.prog X.w) X.A (pyIter (.ref s.heap.objs.size)) (PIE X pins σ tg R) E {s with heap:=s.heap.push {cls:=.type "range",data:=.fields #[.int lo t,.int hi u,.int 1 v]},toks:=tk}:=by
 refine wpAny_pyIter_range (IsRange.new ..) (small_one h1 h2 h3 h4) ?_
 have I1:Inv X pins σ H {s with heap:=s.heap.push {cls:=.type "range",data:=.fields #[.int lo t,.int hi u,.int 1 v]},toks:=tk}:=I.kept fun b o e=>AB _ e
 refine⟨(s.heap.push {cls:=.type "range",data:=.fields #[.int lo t,.int hi u,.int 1 v]}).objs.size,[(s.heap.push {cls:=.type "range",data:=.fields #[.int lo t,.int hi u,.int 1 v]}).objs.size],_,_,H,rfl,
  I1.kept (t':=tk) fun b o e=>AB _ e,Dg _ lo (hi-lo).toNat,?_,fun b hb=>?_,q⟩
 ·have e1:lo+((0:Nat):Int)*1=lo:=by simp
  have e2:(((hi-lo).toNat:Nat):Int)-((0:Nat):Int)=Builtin.Range.rangeSize lo hi 1:=by rw[rangeSize_one];split<;>lia
  show IsRangeIter _ _ (lo+((0:Nat):Int)*1) ((((hi-lo).toNat:Nat):Int)-((0:Nat):Int)) 1
  rw[e1,e2]
  exact AF _ rfl
 ·have e:b=(s.heap.push {cls:=.type "range",data:=.fields #[.int lo t,.int hi u,.int 1 v]}).objs.size:=by simpa using hb
  subst e
  exact I1.fpOk (AH _) (I1.hok.fresh (AH _))
noncomputable def Sv (ta:TA):TI:=fun σ H R=>ta σ H fun vs H1=>∃j:Int,vs=[.int j] ∧ -(2 ^ 62)≤j∧j<2 ^ 62∧R (Itr 0 j.toNat) H1
theorem Ey {a:Expr} {ta:TA} {p pos:Pos} (hg:Gl X "range") (hm:X.mg "range"=none) (ha:PA X [a] ta) (hs:starEach [a] X.env=[(false,eval a X.env)]:=by rfl):PI X tg (.Call (.Name "range" p) [a] [] pos) (Sv ta):=by
 intro pins s σ H R I h
 refine Call_ (ny I hg hm boot_range (BZ (thn (ha pos pins s σ H _ I h) fun us s1 ⟨vs,H1,I1,r1,q1⟩=>?_) hs rfl))
 obtain⟨j,e,q1,q2,q⟩:=q1
 subst e
 cases r1 with
 | cons r rr =>
  cases rr
  obtain⟨t,rfl⟩:=r
  exact call_range_1 (Ii I1 (by lia) (by lia) q1 q2 (by simpa using q))
noncomputable def Xq (wi:TI) (g:TG) (tb:TS):TS:=fun D σ H=>wi σ H fun J H1=>∃W:Nat→Nat→St→Hp→Prop,(∃m,W 0 m σ H1)∧∀i m σ H,W i m σ H →
 (J.stop i H∧D.nx σ H)∨(J.go i H∧∃N:St→Hp→Prop,(∀σ' H',N σ' H'→∃m',m'<m∧W (i+1) m' σ' H')∧∀x H',J.yld i H x H'→g x σ H' fun σ2 H2=>tb {D with nx:=N,ct:=N,bk:=D.nx} σ2 H2)
noncomputable def yg (fp:List Addr) (h:Heap):List (Addr×Obj):=fp.filterMap fun b=>(h.get? b).map fun o=>(b,o)
theorem my {fp:List Addr} {h:Heap} {b:Addr} {o:Obj} (hb:b∈fp) (e:h.get? b=some o):(b,o)∈yg fp h:=List.mem_filterMap.mpr ⟨b,hb,by rw[e];rfl⟩
theorem Ez {fp:List Addr} {h:Heap} {p:Addr×Obj} (hp:p∈yg fp h):p.1∈fp∧h.get? p.1=some p.2:=by
 obtain⟨b,hb,e⟩:=List.mem_filterMap.mp hp
 cases q:h.get? b with
 | none=>rw[q]at e;cases e
 | some o =>
  rw[q]at e
  have e':(b,o)=p:=BL e
  subst e'
  exact⟨hb,q⟩
theorem Inv.pinned {pins:List (Addr×Obj)} {σ:St} {H:Hp} {s:Shared} {fp:List Addr} (I:Inv X pins σ H s) (hf:∀b∈fp,Dd X pins H b) (ho:∀b∈fp,∃o,s.heap.get? b=some o∧∀v,o.data≠.cell v):Inv X (pins++yg fp s.heap) σ H s :=
 I.pins_of fun p hp=>(DH.mp hp).elim (fun z=>I.pin p (BV _ z)) fun z=>by
  obtain⟨hb,e⟩:=Ez z
  obtain⟨f0,f1,f2,_⟩:=hf p.1 hb
  obtain⟨o,e',d⟩:=ho p.1 hb
  rw[e]at e';cases e'
  exact⟨e,f0,f1,f2,d⟩
theorem Inv.unpinned {pins pl:List (Addr×Obj)} {σ:St} {H:Hp} {s:Shared} (I:Inv X (pins++pl) σ H s):Inv X pins σ H s:=I.pins_of fun p hp=>I.pin p (BV _ (List.mem_append_left _ hp))
theorem Pj {iter:Expr} {body:List Stmt} {wi:TI} {g:TG} {tb:TS} {pos:Pos} (hp:PassesOwn (model X.prog X.w) X.A X.env X.xe) (hc:X.calm=true) (hi:PI X tg iter wi) (hg:PG X tg g) (hb:PSs X body tb)
  (hs:∀x,foldedSetIterable iter X.env x=pure x:=by intro _;rfl):PS X (.For tg iter body [] pos) (Xq wi g tb):=by
 intro pins s σ H D I h
 refine wpAny_For (thn (hi pins s σ H _ I h) fun v s1 h1=>thn h1 fun itv s2 h2=>?_) hs
 obtain⟨it,fp,tn,J,H2,e,I2,T,st2,f2,W,⟨m0,w0⟩,turn⟩:=h2
 subst e
 -- what stays true of the iterator's objects through the loop
 have stat:∀{H':Hp},(∀b∈fp,H' b=none)→∀b∈fp,Dd X pins H' b:=fun hn b hb=>⟨hn b hb,(f2 b hb).2⟩
 refine codeAny_forLoop_any (fun n s'=>∃i σ' H',Inv X pins σ' H' s'∧tn i s'.heap∧(∀b∈fp,H' b=none)∧W i n σ' H') ?_ m0 ⟨0,σ,H2,I2,st2,fun b hb=>(f2 b hb).1,w0⟩
 rintro n s3 ⟨i,σ3,H3,I3,st3,fr3,w3⟩
 rcases turn i n σ3 H3 w3 with⟨stop,qn⟩ | ⟨go,N,hN,step⟩
 ·refine EZ hp (thn (T.done X rfl rfl rfl hc i pins s3 σ3 H3 X.xe I3 (stat fr3) st3 stop) fun r s4 ⟨hr,I4⟩=>?_)
  subst hr
  exact wpAny_execs_nil ⟨σ3,H3,I4,qn⟩
 ·refine EZ hp (thn (T.item X rfl rfl rfl hc i pins s3 σ3 H3 X.xe I3 (stat fr3) st3 go) fun r s4 ⟨u,hr,h4⟩=>?_)
  subst hr
  refine EZ hp (thn h4 fun _ s5 ⟨x,H5,I5,r5,y5,st5,fr5⟩=>?_)
  have I5':=I5.pinned (stat fr5) (T.obj _ _ st5)
  refine EZ hp (thn (hg _ s5 σ3 H5 x u _ I5' r5 (step x H5 y5)) fun _ s6 ⟨σ6,H6,I6,q6⟩=>?_)
  refine EZ hp (thn (hb _ s6 σ6 H6 _ I6 q6) fun f s7 q7=>?_)
  have again:∀{σ7:St} {H7:Hp},Inv X (pins++yg fp s5.heap) σ7 H7 s7→N σ7 H7→∃m,m<n∧∃i σ' H',Inv X pins σ' H' s7∧tn i s7.heap∧(∀b∈fp,H' b=none)∧W i m σ' H':=fun {σ7 H7} I7 n7=>by
   obtain⟨m',hm,w7⟩:=hN σ7 H7 n7
   refine⟨m',hm,i+1,σ7,H7,I7.unpinned,T.keep _ _ _ st5 fun b hb o e=>(I7.pin (b,o) (BV _ (BV _ (my hb e)))).1,fun b hb=>?_,w7⟩
   obtain⟨o,e,d⟩:=T.obj _ _ st5 b hb
   exact(I7.pin (b,o) (BV _ (BV _ (my hb e)))).2.1
  cases f with
  | next=>obtain⟨σ7,H7,I7,n7⟩:=q7;exact again I7 n7
  | cont=>obtain⟨σ7,H7,I7,n7⟩:=q7;exact again I7 n7
  | brk=>obtain⟨σ7,H7,I7,q7⟩:=q7;exact⟨σ7,H7,I7.unpinned,q7⟩
  | ret v=>obtain⟨x7,σ7,H7,I7,r7,q7⟩:=q7;exact⟨x7,σ7,H7,I7.unpinned,r7,q7⟩
end
end L2
namespace L2
open PySem PySem.Spec PyProof.Rows
noncomputable abbrev R2:=V→V→Hp→VK→Prop
noncomputable def OpR (X:Cx) (f:Value→Value→Sem Value) (r:R2):Prop :=
 ∀(pins:List (Addr×Obj)) (s:Shared) (σ:St) (H:Hp) (x y:V) (v u:Value) (Q:VK),Inv X pins σ H s→RelV x v→RelV y u→r x y H Q →
  wpAny (model X.prog X.w) X.A (f v u) (EP X pins σ Q) X.xe s
noncomputable def UnR (X:Cx) (f:Value→Sem Value) (r:V→Hp→VK→Prop):Prop :=
 ∀(pins:List (Addr×Obj)) (s:Shared) (σ:St) (H:Hp) (x:V) (v:Value) (Q:VK),Inv X pins σ H s→RelV x v→r x H Q →
  wpAny (model X.prog X.w) X.A (f v) (EP X pins σ Q) X.xe s
noncomputable def jq (X:Cx) (f:Value) (r:List V→Hp→VK→Prop):Prop :=
 ∀(pins:List (Addr×Obj)) (s:Shared) (σ:St) (H:Hp) (xs:List V) (us:List Value) (Q:VK),Inv X pins σ H s→cz xs us→r xs H Q →
  wpAny (model X.prog X.w) X.A (call f us) (EP X pins σ Q) X.xe s
noncomputable def Xr (X:Cx) (r:V→Hp→(Bool→Hp→Prop)→Prop):Prop :=
 ∀(pins:List (Addr×Obj)) (s:Shared) (σ:St) (H:Hp) (x:V) (v:Value) (Q:Bool→Hp→Prop),Inv X pins σ H s→RelV x v→r x H Q →
  wpAny (model X.prog X.w) X.A (truthy v) (TP X pins σ Q) X.xe s
noncomputable def tOp (r:R2) (ta tb:TE):TE:=fun σ H Q=>ta σ H fun x H1=>tb σ H1 fun y H2=>r x y H2 Q
noncomputable def tUn (r:V→Hp→VK→Prop) (ta:TE):TE:=fun σ H Q=>ta σ H fun x H1=>r x H1 Q
noncomputable def rI (C:Int→Int→Prop) (g:Int→Int→V):R2:=fun x y H Q=>∃i j,x=.int i∧y=.int j∧C i j∧Q (g i j) H
noncomputable def rI0 (g:Int→Int→V):R2:=fun x y H Q=>∃i j,x=.int i∧y=.int j∧Q (g i j) H
noncomputable def rU (g:Int→V):V→Hp→VK→Prop:=fun x H Q=>∃i,x=.int i∧Q (g i) H
section
variable {X : Cx} {a b c : Expr} {ta tb tc : TE} {pos : Pos}
theorem Vq (ha:PE X a ta) (hb:PE X b tb) {pins:List (Addr×Obj)} {s:Shared} {σ:St} {H:Hp} {R:V→V→Hp→Prop} (I:Inv X pins σ H s)
  (h:ta σ H fun x H1=>tb σ H1 fun y H2=>R x y H2) {Q:Value→Shared→Prop} {f:Value→Value→Sem Value}
  (hf:∀v u s2 x y H2,Inv X pins σ H2 s2→RelV x v→RelV y u→R x y H2→wpAny (model X.prog X.w) X.A (f v u) Q X.xe s2) :
  wpAny (model X.prog X.w) X.A (eval a X.env) (fun v s₁=>wpAny (model X.prog X.w) X.A (eval b X.env) (fun u s₂=>wpAny (model X.prog X.w) X.A (f v u) Q X.xe s₂) X.xe s₁) X.xe s:=by
 refine thn (ha pins s σ H _ I h) fun v s1 ⟨x,H1,I1,r1,q1⟩=>?_
 refine thn (hb pins s1 σ H1 _ I1 q1) fun u s2 ⟨y,H2,I2,r2,q2⟩=>?_
 exact hf v u s2 x y H2 I2 r1 r2 q2
theorem Sw {op:Operator} {r:R2} (ho:OpR X (binaryOp op) r) (ha:PE X a ta) (hb:PE X b tb):PE X (.BinOp a op b pos) (tOp r ta tb):=by
 intro pins s σ H Q I h
 exact wpAny_BinOp (Vq ha hb I h fun v u s2 x y H2 I2 rx ry q=>ho pins s2 σ H2 x y v u Q I2 rx ry q)
theorem Pk {op:UnaryOp} {r:V→Hp→VK→Prop} (ho:UnR X (unaryOp op) r) (ha:PE X a ta):PE X (.UnaryOp op a pos) (tUn r ta):=by
 intro pins s σ H Q I h
 exact UnaryOp_ (thn (ha pins s σ H _ I h) fun v s1 ⟨x,H1,I1,r1,q1⟩=>ho pins s1 σ H1 x v Q I1 r1 q1)
theorem opI {f:Value→Value→Sem Value} {C:Int→Int→Prop} {g:Int→Int→Int}
  (rule:∀(i j:Int) (t u:Tok) (s:Shared) (Q:Value→Shared→Prop) (E:Value→Shared→Prop),C i j→Q (.int (g i j) s.toks) {s with toks:=s.toks+1}→wpAny (model X.prog X.w) X.A (f (.int i t) (.int j u)) Q E s) :
  OpR X f (rI C fun i j=>.int (g i j)):=by
 intro pins s σ H x y v u Q I rx ry h
 obtain⟨i,j,rfl,rfl,hc,q⟩:=h
 obtain⟨t,rfl⟩:=rx
 obtain⟨t',rfl⟩:=ry
 exact rule i j t t' s _ _ hc ⟨.int (g i j),H,I.tok _,⟨_,rfl⟩,q⟩
theorem Vr {f:Value→Value→Sem Value} {g:Int→Int→Int}
  (rule:∀(i j:Int) (t u:Tok) (s:Shared) (Q:Value→Shared→Prop) (E:Value→Shared→Prop),Q (.int (g i j) s.toks) {s with toks:=s.toks+1}→wpAny (model X.prog X.w) X.A (f (.int i t) (.int j u)) Q E s) :
  OpR X f (rI0 fun i j=>.int (g i j)):=by
 intro pins s σ H x y v u Q I rx ry h
 obtain⟨i,j,rfl,rfl,q⟩:=h
 obtain⟨t,rfl⟩:=rx
 obtain⟨t',rfl⟩:=ry
 exact rule i j t t' s _ _ ⟨.int (g i j),H,I.tok _,⟨_,rfl⟩,q⟩
theorem Rz {f:Value→Value→Sem Value} {g:Int→Int→Bool}
  (rule:∀(i j:Int) (t u:Tok) (s:Shared) (Q:Value→Shared→Prop) (E:Value→Shared→Prop),Q (.bool (g i j)) s→wpAny (model X.prog X.w) X.A (f (.int i t) (.int j u)) Q E s) :
  OpR X f (rI0 fun i j=>.bl (g i j)):=by
 intro pins s σ H x y v u Q I rx ry h
 obtain⟨i,j,rfl,rfl,q⟩:=h
 obtain⟨t,rfl⟩:=rx
 obtain⟨t',rfl⟩:=ry
 exact rule i j t t' s _ _ ⟨.bl (g i j),H,I,rfl,q⟩
noncomputable def Xs (i j:Int):Prop:=0<j∧j<1073741824
noncomputable def Xt (i j:Int):Prop:=0≤j∧j≤1000000∧i.natAbs<2 ^ 64
noncomputable def CMul (i j:Int):Prop:=(-(2 ^ 64)<i∧i<2 ^ 64)∨(-(2 ^ 64)<j∧j<2 ^ 64)
theorem CMul.ok {i j:Int} (h:CMul i j):IntMulOk i j:=by
 rcases h with⟨h1,h2⟩ | ⟨h1,h2⟩
 ·exact .of_left (intBits_le_64 h1 h2)
 ·exact .of_right (intBits_le_64 h1 h2)
theorem Dh (k:Nat):(0:Int)≤2 ^ k:=by
 rw[two_pow_cast]
 exact Int.natCast_nonneg _
theorem op_add:OpR X (binaryOp .Add) (rI0 fun i j=>.int (i+j)):=Vr fun _ _ _ _ _ _ _ q=>add_int q
theorem op_sub:OpR X (binaryOp .Sub) (rI0 fun i j=>.int (i-j)):=Vr fun _ _ _ _ _ _ _ q=>sub_int q
theorem op_mul:OpR X (binaryOp .Mult) (rI CMul fun i j=>.int (i*j)):=opI fun _ _ _ _ _ _ _ hc q=>mul_int q hc.ok
theorem Ma:OpR X (binaryOp .FloorDiv) (rI Xs fun i j=>.int (i / j)):=opI fun i j _ _ _ _ _ hc q=>by
 have h1:(0:Int)<j:=hc.1
 have h2:j<1073741824:=hc.2
 exact floordiv_int (by lia) (by rw[GU i (by lia)];exact q) (.inl (PyProof.noPylong_small (by lia)))
theorem op_mod:OpR X (binaryOp .Mod) (rI (fun _ j=>0<j) fun i j=>.int (i % j)):=opI fun i j _ _ _ _ _ hc q=>by
 have h1:(0:Int)<j:=hc
 exact mod_int' (by lia) (by rw[Int.fmod_eq_emod_of_nonneg i (by lia)];exact q)
theorem op_pow:OpR X (binaryOp .Pow) (rI Xt fun i j=>.int (i ^ j.toNat)):=opI fun _ _ _ _ _ _ _ hc q=>pow_int_small hc.1 hc.2.1 hc.2.2 q
theorem op_shr:OpR X (binaryOp .RShift) (rI (fun _ j=>0≤j) fun i j=>.int (i / 2 ^ j.toNat)):=opI fun i j _ _ _ _ _ hc q =>
 rshift_int hc (by rw[GU i (Dh _)];exact q)
theorem unI {f:Value→Sem Value} {g:Int→Int}
  (rule:∀(i:Int) (t:Tok) (s:Shared) (Q:Value→Shared→Prop) (E:Value→Shared→Prop),Q (.int (g i) s.toks) {s with toks:=s.toks+1}→wpAny (model X.prog X.w) X.A (f (.int i t)) Q E s) :
  UnR X f (rU fun i=>.int (g i)):=by
 intro pins s σ H x v Q I rx h
 obtain⟨i,rfl,q⟩:=h
 obtain⟨t,rfl⟩:=rx
 exact rule i t s _ _ ⟨.int (g i),H,I.tok _,⟨_,rfl⟩,q⟩
theorem Ks:UnR X (unaryOp .USub) (rU fun i=>.int (-i)):=unI fun _ _ _ _ _ q=>neg_int q
end
section
variable {X : Cx} {a b c : Expr} {ta tb tc : TE} {pos : Pos}
theorem Kt {pins:List (Addr×Obj)} {σ:St} {H:Hp} {s:Shared} {Q:VK} {k k':Bool} (I:Inv X pins σ H s) (q:Q (.bl k) H) (e:k=k'):EP X pins σ Q (.bool k') s:=by
 subst e
 exact⟨.bl k,H,I,rfl,q⟩
theorem Sx:OpR X (compareOp .Lt) (rI0 fun i j=>.bl (decide (i<j))):=Rz fun _ _ _ _ _ _ _ q=>lt_int q
theorem Sy:OpR X (compareOp .LtE) (rI0 fun i j=>.bl (decide (i≤j))):=Rz fun _ _ _ _ _ _ _ q=>le_int q
theorem Sz:OpR X (compareOp .Gt) (rI0 fun i j=>.bl (decide (j<i))):=Rz fun _ _ _ _ _ _ _ q=>gt_int q
theorem S0:OpR X (compareOp .GtE) (rI0 fun i j=>.bl (decide (j≤i))):=Rz fun _ _ _ _ _ _ _ q=>ge_int q
theorem Pl:OpR X (compareOp .Is) (fun x y H Q=>y=.non∧Q (.bl (decide (x=.non))) H):=by
 intro pins s σ H x y v u Q I rx ry h
 obtain⟨rfl,q⟩:=h
 cases ry
 refine is_none_gen (Kt I q ?_)
 cases x<;>first
  | (cases rx;rfl)
  | (obtain⟨t,rfl⟩:=rx;rfl)
theorem Mb:OpR X (compareOp .IsNot) (fun x y H Q=>y=.non∧Q (.bl (!decide (x=.non))) H):=by
 intro pins s σ H x y v u Q I rx ry h
 obtain⟨rfl,q⟩:=h
 cases ry
 refine isnot_none_gen (Kt I q ?_)
 cases x<;>first
  | (cases rx;rfl)
  | (obtain⟨t,rfl⟩:=rx;rfl)
noncomputable def Vs (K:PySem.W.Frag) (x:V) (H:Hp) (k:Bool):Prop :=
 match x with
 | .non=>k=false
 | .bl b=>k=b
 | .int i=>k=(i != 0)
 | .str y=>y.length≤sizeLine∧k=((y.length:Int) != 0)
 | .byt y=>y.size≤sizeLine∧k=((y.size:Int) != 0)
 | .ref p=>(∃xs,SqL K H p xs∧k=!xs.isEmpty)∨(∃xs,SqT K H p xs∧k=!xs.isEmpty)∨∃kvs,H p=some (.dK kvs)∧k=!kvs.isEmpty
 | _=>False
theorem Di {κ:Type} {kvs:List (κ×V)} {vs:List (κ×Value)} (r:KV kvs vs):(!vs.isEmpty)=!kvs.isEmpty:=by
 cases r<;>rfl
theorem u0 {xs:List V} {its:List Value} (r:cz xs its):(!its.toArray.isEmpty)=!xs.isEmpty:=by
 cases r<;>simp
theorem u3:(sizeLine:Nat)<2 ^ 63:=by rw[DB];decide
theorem Pm:Xr X (fun x H Q=>∃k,Vs X.K x H k∧Q k H):=by
 intro pins s σ H x v Q I rx h
 obtain⟨k,e,q⟩:=h
 have hl:=u3
 have hs:sizeLine=16777216:=DB
 cases x with
 | non =>
  cases rx
  have e':k=false:=e
  subst e'
  exact truthy_none ⟨H,I,q⟩
 | bl b =>
  cases rx
  have e':k=b:=e
  subst e'
  exact DC ⟨H,I,q⟩
 | int i =>
  obtain⟨t,rfl⟩:=rx
  have e':k=(i != 0):=e
  subst e'
  exact PySem.P.truthy_int ⟨H,I,q⟩
 | str y =>
  obtain⟨t,rfl⟩:=rx
  obtain⟨hy,e'⟩:y.length≤sizeLine∧k=((y.length:Int) != 0):=e
  subst e'
  exact PySem.P.truthy_str (by lia) ⟨H,I.tok _,q⟩
 | byt y =>
  obtain⟨t,rfl⟩:=rx
  obtain⟨hy,e'⟩:y.size≤sizeLine∧k=((y.size:Int) != 0):=e
  subst e'
  exact PySem.W.truthy_bytes (by lia) ⟨H,I.tok _,q⟩
 | ref p =>
  cases rx
  have e':(∃xs,SqL X.K H p xs∧k=!xs.isEmpty)∨(∃xs,SqT X.K H p xs∧k=!xs.isEmpty)∨∃kvs,H p=some (.dK kvs)∧k=!kvs.isEmpty:=e
  rcases e' with⟨xs,hx,e'⟩ | ⟨xs,hx,e'⟩ | ⟨kvs,hx,e'⟩
  ·subst e'
   obtain⟨its,r,pl,hz⟩:=I.list hx
   have hlen:=r.length
   exact wpAny_truthy_list pl.isList (by simp only[AE];lia) ⟨H,I.tok _,by rw[u0 r];exact q⟩
  ·subst e'
   obtain⟨its,r,pl,hz⟩:=I.tuple hx
   have hlen:=r.length
   exact truthy_tuple pl (by simp only[AE];lia) ⟨H,I.tok _,by rw[u0 r];exact q⟩
  ·subst e'
   obtain⟨hz,hS,vs,r,m⟩:kvs.length≤sizeLine∧(p==sysModules)=false∧∃vs,KV kvs vs∧s.heap.DictOf (dg X.prog X.w) p vs:=I.hok p _ hx
   have hlen:kvs.length=vs.length:=DO r
   exact wpAny_truthy_dict hS m (by lia) ⟨H,I.tok _,by rw[Di r];exact q⟩
 | _=>exact(show False from e).elim
theorem Ij (ha:PE X a ta) (he:∀whole,isTrue a X.env whole=(do let v ←whole;standAt a.pos;holding [v] (truthy v))) :
  PT X a (fun σ H Q=>ta σ H fun x H'=>∃k,Vs X.K x H' k∧Q k H'):=by
 intro pins s σ H Q I h
 exact isTrue_plain (thn (ha pins s σ H _ I h) fun v s1 ⟨x,H1,I1,r1,q1⟩=>Pm pins s1 σ H1 x v Q I1 r1 q1) (he _)
theorem vals1 {x:V} {us:List Value} (r:cz [x] us):∃u,us=[u]∧RelV x u:=by
 cases r with
 | cons r1 r2=>cases r2;exact⟨_,rfl,r1⟩
theorem vals2 {x y:V} {us:List Value} (r:cz [x,y] us):∃u w',us=[u,w']∧RelV x u∧RelV y w':=by
 cases r with
 | cons r1 r2 =>
  cases r2 with
  | cons r3 r4=>cases r4;exact⟨_,_,rfl,r1,r3⟩
theorem E1 (hc:X.calm=true):jq X (.builtin "max") (fun xs H Q=>∃i j,xs=[.int i,.int j]∧Q (.int (if j > i then j else i)) H):=by
 intro pins s σ H xs us Q I r h
 obtain⟨i,j,rfl,q⟩:=h
 obtain⟨u,w',rfl,⟨t,rfl⟩,⟨t',rfl⟩⟩:=vals2 r
 refine max_two_ints (I.ok.hd hc) fun h' tk k=>⟨_,H,I.kept k,?_,q⟩
 by_cases hj:j > i
 ·rw[if_pos hj,if_pos hj];exact⟨_,rfl⟩
 ·rw[if_neg hj,if_neg hj];exact⟨_,rfl⟩
theorem E2 (hc:X.calm=true):jq X (.builtin "min") (fun xs H Q=>∃i j,xs=[.int i,.int j]∧Q (.int (if j<i then j else i)) H):=by
 intro pins s σ H xs us Q I r h
 obtain⟨i,j,rfl,q⟩:=h
 obtain⟨u,w',rfl,⟨t,rfl⟩,⟨t',rfl⟩⟩:=vals2 r
 refine min_two_ints (I.ok.hd hc) fun h' tk k=>⟨_,H,I.kept k,?_,q⟩
 by_cases hj:j<i
 ·rw[if_pos hj,if_pos hj];exact⟨_,rfl⟩
 ·rw[if_neg hj,if_neg hj];exact⟨_,rfl⟩
end
end L2
namespace L2
open PySem PySem.Spec PyProof.Rows
structure Room (k:Nat) (A:Around):Prop where
 hd:A.handled=none
 dp:A.depth+3*k+5<recursionLimit
 un:A.units+16*k+200<cLine
theorem Room.deeper {k:Nat} {A:Around} (r:Room (k+1) A) (env:Env):Room k (A.deeper env) :=
 ⟨r.hd,by have:=r.dp;show A.depth+1+3*k+5<_;lia,by have:=r.un;show A.units+3+16*k+200<_;lia⟩
theorem Room.depth {k:Nat} {A:Around} (r:Room k A):A.depth<recursionLimit:=by have:=r.dp;lia
theorem Room.units {k:Nat} {A:Around} (r:Room k A):A.units+64<cLine:=by have:=r.un;lia
noncomputable def tNil:TA:=fun _ H Q=>Q [] H
noncomputable def S2 (ta:TE) (tr:TA):TA:=fun σ H Q=>ta σ H fun x H1=>tr σ H1 fun xs H2=>Q (x::xs) H2
section
variable {X : Cx} {e : Expr} {es : List Expr} {te : TE} {t : TA} {pos : Pos}
theorem Ku:PA X [] tNil:=fun _ _ _ _ H Q I h=>DU ⟨[],H,I,.nil,h⟩
theorem Ao (ha:PE X e te) (hr:PA X es t) (hs:starEach (e::es) X.env=(false,eval e X.env)::starEach es X.env:=by rfl):PA X (e::es) (S2 te t):=by
 intro pos pins s σ H Q I h
 rw[hs]
 show wpAny _ _ (spliced ((false,eval e X.env)::backTo pos (starEach es X.env))) _ _ s
 refine Db (thn (ha pins s σ H _ I h) fun u s1 ⟨x,H1,I1,r1,q1⟩=>?_)
 exact thn (hr pos pins s1 σ H1 _ I1 q1) fun us s2 ⟨xs,H2,I2,r2,q2⟩=>⟨x::xs,H2,I2,.cons r1 r2,q2⟩
noncomputable def Xu (t:TA):TE:=fun σ H Q=>t σ H fun xs H1=>xs.length≤sizeLine∧∀p,H1 p=none→Q (.ref p) (upd H1 p (.tup xs))
noncomputable def Xv (t:TA):TE:=fun σ H Q=>t σ H fun xs H1=>xs.length≤sizeLine∧∀p,H1 p=none→Q (.ref p) (upd H1 p (.lst xs))
theorem Pn {x1} (h:PA X es t):PE X (.Tuple es x1 pos) (Xu t):=by
 intro pins s σ H Q I hq
 refine wpAny_Tuple_spliced (thn (h pos pins s σ H _ I hq) fun us s1 ⟨xs,H1,I1,r,z,q⟩=>⟨by rw[←r.length];exact z,?_⟩)
 have hf:H1 s1.heap.objs.size=none:=I1.hok.fresh (AH _)
 refine⟨.ref s1.heap.objs.size,upd H1 s1.heap.objs.size (.tup xs),I1.laid (t':=s1.toks) (fun b u e=>AB _ e) (AH _) ?_,rfl,q _ hf⟩
 exact⟨z,us,r,⟨_,AF _ rfl,rfl,rfl,_,rfl⟩⟩
theorem Po (h:PA X es t):PE X (.List es pos) (Xv t):=by
 intro pins s σ H Q I hq
 refine wpAny_List_spliced (thn (h pos pins s σ H _ I hq) fun us s1 ⟨xs,H1,I1,r,z,q⟩=>⟨by rw[←r.length];exact z,?_⟩)
 have hf:H1 s1.heap.objs.size=none:=I1.hok.fresh (AH _)
 refine⟨.ref s1.heap.objs.size,upd H1 s1.heap.objs.size (.lst xs),I1.laid (t':=s1.toks) (fun b u e=>AB _ e) (AH _) ?_,rfl,q _ hf⟩
 exact⟨z,us,0,r,AF _ rfl⟩
end
noncomputable abbrev Sp:=List V→Hp→VK→XK→Prop
noncomputable abbrev CXT:=List Env→Hp→Shared→XK→Value→Shared→Prop
structure Env0 (P:Program) (w:World) (K:PySem.W.Frag) (mg:Str→Option Value) (base:Heap) (A:Around) (outer:List Env) (s:Shared) (H:Hp):Prop where
 frames:A.frames=some outer
 mod:Mod K mg base
 bs:∀b o,base.get? b=some o→s.heap.get? b=some o∧H b=none
 bsz:base.objs.size≤s.heap.objs.size
 funs:s.heap.FunFrames base outer
 frf:∀b∈frs outer,H b=none
 hok:HOk P w H s.heap
 bare:AllBare s.gens
noncomputable def CE (outer:List Env) (P:Program) (w:World) (H:Hp) (s:Shared) (Q:VK) (u:Value) (s':Shared):Prop :=
 ∃v H',s'.os=s.os∧AllBare s'.gens∧Un (frs outer) [] H H' s.heap s'.heap∧HOk P w H' s'.heap∧RelV v u∧Q v H'
noncomputable def CR (CX:CXT) (outer:List Env) (P:Program) (w:World) (H:Hp) (s:Shared) (Q:VK) (E:XK) (r:Result) (s':Shared):Prop :=
 match r with
 | .ok (.ret u)=>CE outer P w H s Q u s'
 | .ok _=>False
 | .error e=>CX outer H s E e s'
structure FnOk (P:Program) (w:World) (K:PySem.W.Frag) (mg:Str→Option Value) (base:Heap) (CX:CXT) (k:Nat) (f:Addr) (fd:FuncData) (ps:List Str) (sp:Sp):Prop where
 len:∀vs H Q E,sp vs H Q E→vs.length=ps.length
 run:∀(A:Around) (outer:List Env) (s:Shared) (H:Hp) (args:Args) (us:List Value) (vs:List V) (Q:VK) (E:XK),Room k A→Env0 P w K mg base A outer s H→BindsTo s fd args (ps.zip us)→cz vs us→sp vs H Q E →
  codeAny (model P w) A (.call (.ref f) args) (CR CX outer P w H s Q E) s
theorem FnOk.imp {P:Program} {w:World} {K:PySem.W.Frag} {mg:Str→Option Value} {base:Heap} {CX:CXT} {k:Nat} {f:Addr} {fd:FuncData} {ps:List Str} {sp sp':Sp} (F:FnOk P w K mg base CX k f fd ps sp)
  (h:∀vs H Q E,sp' vs H Q E→sp vs H Q E):FnOk P w K mg base CX k f fd ps sp' :=
 ⟨fun vs H Q E q=>F.len vs H Q E (h _ _ _ _ q),fun A outer s H args us vs Q E hr he hb hv hs=>F.run A outer s H args us vs Q E hr he hb hv (h _ _ _ _ hs)⟩
section
variable {X : Cx} {pins : List (Addr × Obj)} {σ : St} {H : Hp} {s s' : Shared}
theorem Inv.env0 (I:Inv X pins σ H s):Env0 X.prog X.w X.K X.mg X.base X.A X.stack s H :=
 ⟨I.ok.frames,I.ok.mod,I.bs,CN I.ok.bsz I.sz,I.stack,I.stkFree,I.hok,I.bare⟩
theorem Inv.after {Q:VK} {u:Value} (I:Inv X pins σ H s) (h:CE X.stack X.prog X.w H s Q u s'):EP X pins σ Q u s':=by
 obtain⟨v,H',os,bare,un,hok,r,q⟩:=h
 obtain⟨hh,g,d,t,os'⟩:=s'
 obtain rfl:os'=s.os:=os
 exact⟨v,H',I.call (h':=hh) (g':=g) (d':=d) (t':=t) (ch:=[]) un hok bare (fun b z=>absurd z (by simp)),r,q⟩
end
noncomputable def S3 (sp:Sp) (dvs:List V) (E:XK) (t:TA):TE:=fun σ H Q=>t σ H fun vs H1=>sp (vs++dvs) H1 Q E
noncomputable def Binds (K:PySem.W.Frag) (fd:FuncData) (ps:List Str) (ds:List Value):Prop :=
 ∀(s:Shared) (us:List Value),K.In s.heap→(us++ds).length=ps.length→BindsTo s fd ⟨us,[]⟩ (ps.zip (us++ds))
theorem Binds.all {K:PySem.W.Frag} {fd:FuncData} {ps:List Str} (h:∀us:List Value,us.length=ps.length→bindArgs fd ⟨us,[]⟩=pure (ps.zip us)):Binds K fd ps []:=fun s us _ hl=>by
 rw[List.append_nil]at hl ⊢
 exact .of_eq (h us hl)
noncomputable def E3 (CX:CXT) (X:Cx) (E:XK):Prop:=∀(pins:List (Addr×Obj)) (σ:St) (H:Hp) (s:Shared) (e:Value) (s':Shared),Inv X pins σ H s→CX X.stack H s E e s'→X.xe e s'
section
variable {X : Cx} {CX : CXT} {k : Nat} {f C : Addr} {fd : FuncData} {ps : List Str} {sp : Sp} {dvs : List V} {ds : List Value} {E : XK} {x m : Str} {p pos apos : Pos} {e o : Expr} {es : List Expr} {ta : TE} {t : TA}
theorem Pp {pins:List (Addr×Obj)} {σ:St} {H:Hp} {s:Shared} {Q:VK} {us:List Value} {vs:List V} (F:FnOk X.prog X.w X.K X.mg X.base CX k f fd ps sp) (hr:Room k X.A) (hb:Binds X.K fd ps ds) (hd:cz dvs ds) (hx:E3 CX X E)
  (I:Inv X pins σ H s) (r:cz vs us) (h:sp (vs++dvs) H Q E):wpAny (model X.prog X.w) X.A (call (.ref f) us) (EP X pins σ Q) X.xe s:=by
 have r2:cz (vs++dvs) (us++ds):=r.append hd
 have hl:(us++ds).length=ps.length:=by rw[←r2.length];exact F.len _ _ _ _ h
 refine wpAny_call (FJ (F.run X.A X.stack s H ⟨us,[]⟩ (us++ds) (vs++dvs) Q E hr I.env0 (hb s us I.kIn hl) r2 h) fun r s' hq=>?_)
 cases r with
 | error e=>exact hx pins σ H s e s' I hq
 | ok fl =>
  cases fl with
  | ret u=>exact I.after hq
  | next=>exact False.elim hq
  | brk=>exact False.elim hq
  | cont=>exact False.elim hq
theorem Mc (F:FnOk X.prog X.w X.K X.mg X.base CX k f fd ps sp) (hr:Room k X.A) (hg:Gl X x) (hm:X.mg x=some (.ref f)) (hk:PySem.W.keepIn X.K (.ref f)=true) (hb:Binds X.K fd ps ds) (hd:cz dvs ds) (hx:E3 CX X E)
  (ha:PA X (e::es) t) (hdb:(x==("__debug__":Str))=false:=by decide) (he:starEach (e::es) X.env=(false,eval e X.env)::starEach es X.env:=by rfl) (hpl:(backTo pos (starEach es X.env)).any (·.1)=false:=by rfl) :
  PE X (.Call (.Name x p) (e::es) [] pos) (S3 sp dvs E t):=by
 intro pins s σ H Q I h
 refine Do (L3 I hg hm ?_ hdb)
 refine PySem.W.callWith_K (h₀:=X.base) I.ok.mod.kin hk (thn (ha pos pins s σ H _ I h) fun us s1 ⟨vs,H1,I1,r,q⟩=>⟨I1.kIn,?_⟩) he hpl
 exact Pp F hr hb hd hx I1 r q
structure Mk (K:PySem.W.Frag) (C f:Addr):Prop where
 makes:PySem.W.makesIn K C=true
 init:PySem.W.findIn K (.ref C) "__init__"=some (some (.ref f))
 fn:PySem.W.isFn K (.ref f)=true
 kp:PySem.W.keepIn K (.ref C)=true
end
structure FnScope (N P:List Str) (sc:Scope):Prop where
 kind:sc.kind=.function
 co:sc.isCoroutine=false
 gen:sc.isGenerator=false
 nd:N.Nodup
 pre:N.take P.length=P
 par:∀x∈P,sc.names.lookup x=some .local∨sc.names.lookup x=some .cell
 nofree:∀y∈sc.names,y.2≠.free
theorem yh {kindOf:Str→Option NameKind} {x:Str}:∀{binds:List (Str×Value)} {m:Str→Option Value},(∀v,(x,v)∉binds)→bindL kindOf binds m x=m x
 | [],_,_=>rfl
 | (n,v)::r,m,h=>by
  unfold bindL
  rw[yh fun w hw=>h w (AK _ hw)]
  split
  ·have:x≠n:=by rintro rfl;exact h v AQ
   simp[this]
  ·rfl
theorem yi {kindOf:Str→Option NameKind} {x:Str}:∀{binds:List (Str×Value)} {m:Str→Option Value},(∀v,(x,v)∉binds)→bindC kindOf binds m x=m x
 | [],_,_=>rfl
 | (n,v)::r,m,h=>by
  unfold bindC
  rw[yi fun w hw=>h w (AK _ hw)]
  split
  ·rfl
  ·have:x≠n:=by rintro rfl;exact h v AQ
   simp[this]
theorem yj {kindOf:Str→Option NameKind} {x:Str} {v:Value}:∀{P:List Str} {vs:List Value} {i:Nat} {m:Str→Option Value},P.Nodup→P[i]? = some x→vs[i]? = some v→kindOf x=some .local →
  bindL kindOf (P.zip vs) m x=some v
 | [],_,_,_,_,h,_,_=>by simp at h
 | _::_,[],_,_,_,_,h,_=>by simp at h
 | p::P,w::vs,0,m,nd,h1,h2,hk=>by
  simp at h1 h2;subst h1;subst h2
  show bindL kindOf ((p,w)::P.zip vs) m p=_
  unfold bindL
  rw[yh fun v hv=>(FA.mp nd).1 (FB hv).1,if_pos hk]
  simp
 | p::P,w::vs,i+1,m,nd,h1,h2,hk=>by
  show bindL kindOf ((p,w)::P.zip vs) m x=_
  unfold bindL
  exact yj (i:=i) (FA.mp nd).2 (by simpa using h1) (by simpa using h2) hk
theorem yk {kindOf:Str→Option NameKind} {x:Str} {v:Value}:∀{P:List Str} {vs:List Value} {i:Nat} {m:Str→Option Value},P.Nodup→P[i]? = some x→vs[i]? = some v→kindOf x≠some .local →
  bindC kindOf (P.zip vs) m x=some v
 | [],_,_,_,_,h,_,_=>by simp at h
 | _::_,[],_,_,_,_,h,_=>by simp at h
 | p::P,w::vs,0,m,nd,h1,h2,hk=>by
  simp at h1 h2;subst h1;subst h2
  show bindC kindOf ((p,w)::P.zip vs) m p=_
  unfold bindC
  rw[yi fun v hv=>(FA.mp nd).1 (FB hv).1,if_neg hk]
  simp
 | p::P,w::vs,i+1,m,nd,h1,h2,hk=>by
  show bindC kindOf ((p,w)::P.zip vs) m x=_
  unfold bindC
  exact yk (i:=i) (FA.mp nd).2 (by simpa using h1) (by simpa using h2) hk
noncomputable def start (N:List Str) (vs:List V):St:=vs.map some++List.replicate (N.length-vs.length) none
noncomputable def Kv (CX:CXT) (P:Program) (w:World) (K:PySem.W.Frag) (mg:Str→Option Value) (base:Heap) (N:List Str) (qual:Str) (scope:Scope) (f:Addr) (cd:Value) (A:Around) (outer:List Env) (s:Shared) (H:Hp) (E:XK):Cx where
 prog:=P
 w:=w
 K:=K
 mg:=mg
 base:=base
 A:=A.deeper (envOfC qual scope s.heap.objs.size f cd)
 N:=N
 s₀:=s
 H₀:=H
 env:=envOfC qual scope s.heap.objs.size f cd
 outer:=outer
 stack:=envOfC qual scope s.heap.objs.size f cd::outer
 ex:=[]
 calm:=true
 fn:=fun _=>true
 pn:=[]
 xe:=fun e s'=>wpAny (model P w) (A.deeper (envOfC qual scope s.heap.objs.size f cd)) (leaving (envOfC qual scope s.heap.objs.size f cd) e) (fun _ s''=>CX outer H s E e s'') (fun e' s''=>CX outer H s E e' s'') s'
theorem Bx {sc:Scope} {n:Nat} {x:Str} (h:sc.names.lookup x=some .cell):∃c,(cellsFrom n sc.names []).lookup x=some c:=by
 have q:=IE sc.names n [] (.inl h)
 exact DX.mp q
theorem E4 {CX:CXT} {P:Program} {w:World} {K:PySem.W.Frag} {mg:Str→Option Value} {base:Heap} {N ps:List Str} {qual:Str} {scope:Scope} {f:Addr} {cd:Value} {A:Around} {outer:List Env} {s s1:Shared} {H:Hp} {E:XK} {us:List Value} {vs:List V}
  (S:FnScope N ps scope) (hd:A.handled=none) (e0:Env0 P w K mg base A outer s H) (hl:vs.length=ps.length) (r:cz vs us)
  (x:InCallC s s.heap.objs.size (bindL (envOfC qual scope s.heap.objs.size f cd).kindOf (ps.zip us) fun _=>none) (cellsFrom (s.heap.objs.size+1) scope.names []) (bindC (envOfC qual scope s.heap.objs.size f cd).kindOf (ps.zip us) fun _=>none) s1) :
  Inv (Kv CX P w K mg base N qual scope f cd A outer s H E) [] (start N vs) H s1:=by
 have hpl:ps.length≤N.length:=by have:=congrArg List.length S.pre;rw[EU]at this;lia
 obtain⟨h1,tk,rfl,hk⟩:=x.done
 have noA:∀b:Addr,b∉(Kv CX P w K mg base N qual scope f cd A outer s H E).ex:=fun b z=>absurd (show b∈([]:List Addr)from z) (by simp)
 refine⟨⟨e0.mod,S.kind,rfl,rfl,AH _,fun y z c h1 h2=>?_,fun y hy=>?_,fun y c _ h=>?_,fun _=>hd,Around.frames_deeper e0.frames,.inr ⟨rfl,rfl⟩,fun b z=>absurd z (noA b),e0.bs,e0.bsz,fun b _ _=>noA b,fun b z=>absurd z (noA b),e0.funs,e0.frf⟩,
  rfl,e0.bare,Un.kept hk,⟨_,x.toInCall.ns,fun i y v h1 h2 h3=>?_⟩,fun y c h=>⟨_,x.cell y c h⟩,e0.hok.fresh (AH _),fun y c h=>?_,fun p hp=>absurd (show p∈([]:List (Addr×Obj))from hp) (by simp),e0.hok.kept hk,?_⟩
 ·exact name_of_addr x.apart (DZ h1) (DZ h2)
 ·have hy:scope.names.lookup y=some .cell∨scope.names.lookup y=some .free:=hy
  rcases hy with hy | hy
  ·exact Bx hy
  ·exact absurd rfl (S.nofree _ (DZ hy))
 ·exact EE (x.above y c (DZ h))
 ·have hi:i<vs.length:=by
   unfold start at h2
   by_cases hi:i<vs.length
   ·exact hi
   ·rw[CY (by simpa using hi)]at h2
    rw[DD]at h2
    split at h2<;>cases h2
  have ha:vs[i]? = some v:=by
   unfold start at h2
   rw[AX (by simpa using hi),BS]at h2
   cases e:vs[i]? with
   | none=>rw[e]at h2;cases h2
   | some a=>rw[e]at h2;cases h2;rfl
  obtain⟨u,hu,rv⟩:=r.get ha
  have hp:ps[i]? = some y:=by
   rw[←S.pre,HQ (by lia)];exact h1
  have ndP:ps.Nodup:=by rw[←S.pre];exact S.nd.sublist (List.take_sublist _ _)
  refine⟨u,rv,?_⟩
  rcases S.par y (BD hp)with k | k
  ·exact .inl ⟨k,yj ndP hp hu k⟩
  ·obtain⟨c,e⟩:=Bx (n:=s.heap.objs.size+1) k
   refine .inr ⟨.inl k,c,e,?_⟩
   have q:=x.cell y c e
   rw[yk ndP hp hu (by show scope.names.lookup y≠_;rw[k];decide)]at q
   exact q
 ·exact e0.hok.fresh (EE (x.above y c (DZ h)))
 ·unfold start
  show _=N.length
  rw[CG,AG,IJ]
  lia
theorem S4 {CX:CXT} {P:Program} {w:World} {K:PySem.W.Frag} {mg:Str→Option Value} {base:Heap} {k:Nat} {f:Addr} {name qual:Str} {params:Arguments} {body:List Stmt} {scope:Scope} {dV kV doc pm cdv ct oc:Value} {an od:Option Addr}
  {osl:Array (Option Value)} {N ps:List Str} {sp:Sp} (lk:K.lookup f=some ⟨oc,od,.func (PySem.W.fnOf name qual params body scope dV kV doc pm an cdv ct),osl⟩) (hcd:PySem.W.codeIn K cdv qual=true) (S:FnScope N ps scope)
  (len:∀vs H Q E,sp vs H Q E→vs.length=ps.length)
  (hbody:∀(A:Around) (outer:List Env) (s:Shared) (H:Hp) (vs:List V) (Q:VK) (E:XK),Room k (A.deeper (envOfC qual scope s.heap.objs.size f cdv))→sp vs H Q E →
   ∃t,PSs (Kv CX P w K mg base N qual scope f cdv A outer s H E) body t∧t {nx:=fun _ H'=>Q .non H',rt:=Q} (start N vs) H) :
  FnOk P w K mg base CX (k+1) f (PySem.W.fnOf name qual params body scope dV kV doc pm an cdv ct) ps sp:=by
 refine⟨len,fun A outer s H args us vs Q E hr e0 hb r hsp=>?_⟩
 have hl:=len _ _ _ _ hsp
 have KX:K.In s.heap:=e0.mod.kin.keeps fun b o e=>(e0.bs b o e).1
 have lim:s.heap.NoLimit:=e0.mod.nolimit.keeps fun b o e=>(e0.bs b o e).1
 have hkind:∀y∈ps.zip us,scope.names.lookup y.1=some .local∨(scope.names.lookup y.1=some .cell∧((cellsFrom (s.heap.objs.size+1) scope.names []).lookup y.1).isSome=true):=fun⟨n,v⟩ hy=>by
  rcases S.par n (FB hy).1 with q | q
  ·exact .inl q
  ·exact .inr ⟨q,IE _ _ _ (.inl q)⟩
 refine codeAny_call_function hr.depth (KX _ _ lk) rfl S.co S.gen rfl (PySem.W.codeRec_of KX hcd) (hb _ _ _ _ ?_)
 refine wpAny_newFunctionEnv_cells S.kind hkind fun env he s1 x=>?_
 subst he
 refine⟨lim.keeps x.toInCall.keep,codeAny_func ?_⟩
 obtain⟨t,ht,hq⟩:=hbody A outer s H vs Q E (hr.deeper _) hsp
 have I:Inv (Kv CX P w K mg base N qual scope f cdv A outer s H E) [] (start N vs) H s1:=E4 S hr.hd e0 hl r x
 refine DQ (ht [] s1 (start N vs) H _ I hq) (fun fl s' hs=>?_) fun e s' hs=>hs
 have fin:∀{σ':St} {H':Hp} {v:V} {u:Value},Inv (Kv CX P w K mg base N qual scope f cdv A outer s H E) [] σ' H' s'→RelV v u→Q v H'→CE outer P w H s Q u s' :=
  fun {σ' H' v u} J rv q=>⟨v,H',J.os,J.bare,J.base,J.hok,rv,q⟩
 cases fl with
 | ret u =>
  obtain⟨v,σ',H',J,rv,q⟩:=hs
  exact fin J rv q
 | next =>
  obtain⟨σ',H',J,q⟩:=hs
  exact fin (v:=V.non) (u:=Value.none) J rfl q
 | brk =>
  obtain⟨_,_,_,q⟩:=hs
  exact False.elim q
 | cont =>
  obtain⟨_,_,_,q⟩:=hs
  exact False.elim q
end L2
namespace L2
open PySem PySem.Spec PyProof.Rows
section
variable {X : Cx} {x : Str} {p pos : Pos} {e : Expr} {es : List Expr} {t : TA} {id T : String} {r : List V → Hp → VK → Prop}
noncomputable def tCB (r:List V→Hp→VK→Prop) (t:TA):TE:=fun σ H Q=>t σ H fun vs H1=>r vs H1 Q
theorem i6 (hc:jq X (.builtin id) r) (hg:Gl X x) (hm:X.mg x=none) (hv:bootBuiltins x=some (.builtin id)) (ha:PA X (e::es) t) (hn:x≠"__name__":=by decide) (hdb:(x==("__debug__":Str))=false:=by decide)
  (he:starEach (e::es) X.env=(false,eval e X.env)::starEach es X.env:=by rfl) (hpl:(backTo pos (starEach es X.env)).any (·.1)=false:=by rfl):PE X (.Call (.Name x p) (e::es) [] pos) (tCB r t):=by
 intro pins s σ H Q I h
 refine Do (ny I hg hm hv ?_ hn hdb)
 exact FY (thn (ha pos pins s σ H _ I h) fun us s1 ⟨vs,H1,I1,r1,q1⟩=>hc pins s1 σ H1 vs us Q I1 r1 q1) he hpl
theorem E5 (hc:jq X (.type T) r) (hg:Gl X x) (hm:X.mg x=none) (hv:bootBuiltins x=some (.type T)) (ha:PA X (e::es) t) (hn:x≠"__name__":=by decide) (hdb:(x==("__debug__":Str))=false:=by decide)
  (he:starEach (e::es) X.env=(false,eval e X.env)::starEach es X.env:=by rfl) (hpl:(backTo pos (starEach es X.env)).any (·.1)=false:=by rfl):PE X (.Call (.Name x p) (e::es) [] pos) (tCB r t):=by
 intro pins s σ H Q I h
 refine Do (ny I hg hm hv ?_ hn hdb)
 exact BZ (thn (ha pos pins s σ H _ I h) fun us s1 ⟨vs,H1,I1,r1,q1⟩=>hc pins s1 σ H1 vs us Q I1 r1 q1) he hpl
end
end L2
namespace HT
open PySem PyProof.Rows
noncomputable def lexLt:List Int→List Int→Bool
 | [],[]=>false
 | [],_::_=>true
 | _::_,[]=>false
 | x::xs,y::ys=>if x=y then lexLt xs ys else decide (x<y)
theorem jn (x y:Int) (xs ys:List Int):lexLt (x::xs) (y::ys)=if x=y then lexLt xs ys else decide (x<y):=rfl
theorem k9:lexLt [] []=false:=rfl
theorem kh (y:Int) (ys:List Int):lexLt [] (y::ys)=true:=rfl
theorem ki (x:Int) (xs:List Int):lexLt (x::xs) []=false:=rfl
theorem vp (A:Around) (s:Shared) (a:Int) (t:Tok) (c:Int) (u:Tok):∃e,SeqAt.EqAt A s (.int a t) (.int c u) e∧(e=true↔a=c) :=
 ⟨(a==c),IX a t c u,by simp⟩
theorem Ik (A:Around) (s:Shared) (a:Int) (t:Tok) (c:Int) (u:Tok) (prog:Program) (w:World) (E:Value→Shared→Prop) (Q:Value→Shared→Prop) (h:Q (.bool (decide (a<c))) s) :
  wpAny (model prog w) A (richCompare .Lt (.int a t) (.int c u)) Q E s :=
 (PyProof.Rows.lt_int h:wpAny (model prog w) A (compareOp .Lt (.int a t) (.int c u)) Q E s)
section
open PySem.SeqAt
open PySem.AutoSeq1 (wpAny_loadPart')
open PySem.MeetsSeq PySem.MeetsSeq2 PySem.MeetsSeq3
theorem vq (l b:Addr) (items items2:Array Value) (n n2:Nat) (dd dd2:Option Addr) (sl sl2:Array (Option Value)) (ns ms:List Int) (hi:IntsAre items.toList ns) (hj:IntsAre items2.toList ms) :
  Meets (Builtin.«tuple.__lt__» ⟨[.ref l,.ref b],[]⟩)
   (fun _ R s=>s.heap.get? l=some {cls:=.type "tuple",dict:=dd,data:=.seq items n,slots:=sl}∧s.heap.get? b=some {cls:=.type "tuple",dict:=dd2,data:=.seq items2 n2,slots:=sl2} ∧
    R (.ok (.ret (.bool (lexLt ns ms)))) s) :=
 .of_wp fun prog w A R s h=>by
  obtain⟨hp,g,d,tk,os⟩:=s;obtain⟨hl,hb,h⟩:=h
  have f2:=EX
  have z1:items.size=ns.length:=by rw[←hi.length];simp
  have z2:items2.size=ms.length:=by rw[←hj.length];simp
  wp_walk using CH hl,CH hb,HY _ (fun rest b s'=>b.1=none∧s'=⟨hp,g,d,tk,os⟩∧∃(vs ws:List Value) (ns' ms':List Int),rest=vs.zip ws ∧
   IntsAre vs ns'∧IntsAre ws ms'∧ns'.length+items2.size=ms'.length+items.size∧R (.ok (.ret (.bool (lexLt ns' ms')))) ⟨hp,g,d,tk,os⟩) _
  case turn =>
   rintro⟨y,x⟩ rest b s' ⟨hb',rfl,vs,ws,ns',ms',hz,hvi,hwi,hlen,hR⟩
   cases hvi with
   | nil=>rw[HF]at hz;cases hz
   | cons a t hvi' =>
    cases hwi with
    | nil=>rw[FD]at hz;cases hz
    | cons c u hwi' =>
     rw[DA]at hz
     injection hz with hyx hrest
     injection hyx with hy hx
     subst hy hx
     rw[jn]at hR
     simp only[BJ]at hlen
     obtain⟨e,he,hiff⟩:=vp A.in1 ⟨hp,g,d,tk,os⟩ a t c u
     refine AA (he prog w _ _ ?_)
     cases e with
     | true =>
      rw[if_pos (hiff.mp rfl)]at hR
      wp_walk
      exact⟨rfl,rfl,_,_,_,_,hrest,hvi',hwi',by lia,hR⟩
     | false =>
      rw[if_neg (fun q=>absurd (hiff.mpr q) AU)]at hR
      have hri:=Ik A.in1 ⟨hp,g,d,tk,os⟩ a t c u prog w
      wp_walk using hri
      exact⟨_,rfl,by simpa using hR⟩
  case fin =>
   rintro⟨b1,b2⟩ s' ⟨hb',rfl,vs,ws,ns',ms',hz,hvi,hwi,hlen,hR⟩
   simp only at hb'
   subst hb'
   have hv:lexLt ns' ms'=decide (items.size<items2.size):=by
    cases hvi with
    | nil =>
     cases hwi with
     | nil =>
      simp only[CI]at hlen
      rw[k9]
      exact(decide_eq_false (by lia)).symm
     | cons c u hw =>
      simp only[CI,BJ]at hlen
      rw[kh]
      exact(decide_eq_true (by lia)).symm
    | cons a t hv =>
     cases hwi with
     | nil =>
      simp only[CI,BJ]at hlen
      rw[ki]
      exact(decide_eq_false (by lia)).symm
     | cons c u hw =>
      rw[DA]at hz
      cases hz
   rw[hv]at hR
   wp_walk
   exact⟨_,rfl,by simpa[Builtin.Tuple.tupleCompareSizes]using hR⟩
  case h =>
   exact⟨rfl,rfl,items.toList,items2.toList,ns,ms,rfl,hi,hj,by lia,h⟩
end
section
variable {prog : Program} {w : World} {A : Around} {E : Value → Shared → Prop} {s : Shared}
theorem Dj {l b:Addr} {items items2:Array Value} {ns ms:List Int} {Q:Value→Shared→Prop} (hl:IsTup s.heap l items) (hb:IsTup s.heap b items2) (hi:IntsAre items.toList ns) (hj:IntsAre items2.toList ms)
  (hu:A.units<cLine) (h:Q (.bool (lexLt ns ms)) s):wpAny (model prog w) A (compareOp .Lt (.ref l) (.ref b)) Q E s:=by
 obtain⟨⟨cls,dd,data,sl⟩,ho,hc,n,hd⟩:=id hl
 obtain⟨⟨cls2,dd2,data2,sl2⟩,ho2,hc2,n2,hd2⟩:=id hb
 simp only at hc hd hc2 hd2
 subst hc hd hc2 hd2
 exact FK (op:=.Lt) ⟨_,ho,rfl⟩ ⟨_,ho2,rfl⟩ PySem.F.slot_tuple_lt PySem.F.entry_tuple_lt (PySem.F.args_tuple_lt_2 _ _) (vq l b items items2 n n2 dd dd2 sl sl2 ns ms hi hj)
  ⟨ho,ho2,show Value.bool (lexLt ns ms)≠Value.notImplemented∧Q (.bool (lexLt ns ms)) s from⟨(fun x=>nomatch x),h⟩⟩ hu
theorem Md {t b:Addr} {vs ws:List Value} {Q:Value→Shared→Prop} (ht:IsTup s.heap t vs.toArray) (hb:IsTup s.heap b ws.toArray) (hv:vs≠[])
  (h1:ws=[]→Q (.ref t) s) (h2:ws≠[]→Q (.ref s.heap.objs.size) {s with heap:=s.heap.push {cls:=.type "tuple",data:=.seq (vs++ws).toArray}})
  (hsz:vs.length+ws.length≤sizeLine):wpAny (model prog w) A (binaryOp .Add (.ref t) (.ref b)) Q E s:=by
 obtain⟨⟨cls,dd,data,sl⟩,ho,hc,n,hd⟩:=id ht
 obtain⟨⟨cls2,dd2,data2,sl2⟩,ho2,hc2,n2,hd2⟩:=id hb
 simp only at hc hd hc2 hd2
 subst hc hd hc2 hd2
 have e:vs.toArray++ws.toArray=(vs++ws).toArray:=by simp
 by_cases hw:ws=[]
 ·exact concat_meets ⟨_,ho,rfl⟩ ⟨_,ho2,rfl⟩ HZ seq_tuple_add FL FG (EY _ _)
   (tuple_addW1 t b vs.toArray ws.toArray n n2 dd dd2 sl sl2 (by simpa using hv) (by simp[hw])) ⟨ho,ho2,h1 hw⟩
 ·refine concat_meets ⟨_,ho,rfl⟩ ⟨_,ho2,rfl⟩ HZ seq_tuple_add FL FG (EY _ _)
   (tuple_addW2 t b vs.toArray ws.toArray n n2 dd dd2 sl sl2 (by simpa using hv) (by simpa using hw) (by rw[AE,AE];exact hsz)) ⟨ho,ho2,?_⟩
  rw[e]
  exact h2 hw
noncomputable def sIx (n d:Nat):Option Int→Nat
 | none=>d
 | some v=>if v<0 then(v+(n:Int)).toNat else min v.toNat n
theorem Pq (n d:Nat) (hd:d≤n) (o:Option Int):sIx n d o≤n:=by
 cases o with
 | none=>exact hd
 | some v =>
  show(if v<0 then(v+(n:Int)).toNat else min v.toNat n)≤n
  by_cases hv:v<0
  ·rw[if_pos hv];lia
  ·rw[if_neg hv];exact Nat.min_le_right _ _
theorem E6 (v:Int) (n d:Nat):(if v<0 then max (v+(n:Int)) 0 else min v (n:Int))=((sIx n d (some v):Nat):Int):=by
 show(if v<0 then max (v+(n:Int)) 0 else min v (n:Int))=(((if v<0 then(v+(n:Int)).toNat else min v.toNat n):Nat):Int)
 by_cases hv:v<0
 ·simp only[if_pos hv];lia
 ·simp only[if_neg hv];lia
theorem Dk (lo hi:Option Int) (n:Nat):Builtin.Slice.sliceAdjust lo hi 1 (n:Int)=(((sIx n 0 lo:Nat):Int),((sIx n n hi:Nat):Int)):=by
 have h1:¬((1:Int)<0):=by lia
 unfold Builtin.Slice.sliceAdjust
 simp only[h1,if_false]
 refine Prod.ext ?_ ?_
 ·cases lo with
  | none=>rfl
  | some v=>exact E6 v n 0
 ·cases hi with
  | none=>rfl
  | some v=>exact E6 v n n
theorem Dl (i j:Nat):Builtin.Slice.slicePlaces (i:Int) (j:Int) 1=j-i:=by
 unfold Builtin.Slice.slicePlaces
 have h1:(1:Int) > 0:=by lia
 simp only[h1,if_true,Int.ediv_one]
 split<;>lia
theorem u4 {v:Value} {o:Option Int} {Q:Option Int→Shared→Prop} (p:IsPart v o) (h:Q o s):wpAny (model prog w) A (Builtin.Slice.slicePartIndex v) Q E s:=by
 cases p with
 | none=>exact slicePart_none h
 | int i t=>exact slicePart_int h
theorem l9 {sl:Addr} {vl vu:Value} {lo hi:Option Int} {n:Nat} {Q:Int×Int×Nat→Shared→Prop} (hs:s.heap.IsSliceOf sl vl vu .none) (pl:IsPart vl lo) (pu:IsPart vu hi)
  (h:Q (((sIx n 0 lo:Nat):Int),1,sIx n n hi-sIx n 0 lo) s):wpAny (model prog w) A (Builtin.Slice.sliceApplied (.ref sl) (pure (n:Int))) Q E s:=by
 obtain⟨os,hos,hcs,hds⟩:=id hs
 unfold Builtin.Slice.sliceApplied Builtin.Slice.sliceFields
 refine AA (AA (BW hos hds (x:=vl) rfl (AA (BW hos hds (x:=vu) rfl (AA (BW hos hds (x:=.none) rfl (AD ?_)))))))
 refine AA (slicePart_none ?_)
 show wpAny _ _ (if((1:Int)==0)=true then _ else _) _ _ s
 rw[if_neg (by decide)]
 refine AA (u4 pl (AA (u4 pu (AA (AD ?_)))))
 show wpAny _ _ (match Builtin.Slice.sliceAdjust lo hi 1 (n:Int)with | (lo,hi)=>pure (lo,(1:Int),Builtin.Slice.slicePlaces lo hi 1)) _ _ s
 rw[Dk lo hi n]
 show wpAny _ _ (pure (((sIx n 0 lo:Nat):Int),(1:Int),Builtin.Slice.slicePlaces ((sIx n 0 lo:Nat):Int) ((sIx n n hi:Nat):Int) 1)) _ _ s
 rw[Dl]
 exact AD h
theorem Il (xs:Array Value) (i k:Nat):((List.range k).filterMap fun(m:Nat)=>xs[((i:Int)+(m:Int)*1).toNat]?).toArray=((xs.toList.drop i).take k).toArray:=by
 have e:(fun(m:Nat)=>xs[((i:Int)+(m:Int)*1).toNat]?)=fun m=>xs[i+m]?:=by
  funext m
  have:((i:Int)+(m:Int)*1).toNat=i+m:=by lia
  rw[this]
 rw[e]
 have:=pick_run xs i k
 rw[List.filterMap_map]at this
 have e2:((fun x=>xs[x]?)∘fun x=>i+x)=fun m=>xs[i+m]?:=rfl
 rw[e2]at this
 rw[this]
theorem qa {t sl:Addr} {items:Array Value} {vl vu:Value} {lo hi:Option Int} {Q:Value→Shared→Prop} (ht:IsTup s.heap t items) (hs:s.heap.IsSliceOf sl vl vu .none) (pl:IsPart vl lo) (pu:IsPart vu hi)
  (hw:¬(sIx items.size 0 lo=0∧sIx items.size items.size hi=items.size))
  (h:Q (.ref s.heap.objs.size) {s with heap:=s.heap.push {cls:=.type "tuple",data:=.seq ((items.toList.drop (sIx items.size 0 lo)).take (sIx items.size items.size hi-sIx items.size 0 lo)).toArray}})
  (hsz:items.size≤sizeLine):wpAny (model prog w) A (getItem (.ref t) (.ref sl)) Q E s:=by
 have htake:sizeOk (.seq ((items.toList.drop (sIx items.size 0 lo)).take (sIx items.size items.size hi-sIx items.size 0 lo)).toArray):=by
  show((items.toList.drop (sIx items.size 0 lo)).take (sIx items.size items.size hi-sIx items.size 0 lo)).toArray.size≤sizeLine
  rw[AE,EU,List.length_drop,BN]
  lia
 have hj:sIx items.size items.size hi≤items.size:=Pq _ _ (AH _) hi
 obtain⟨os,hos,hcs,hds⟩:=id hs
 have hTs:s.TypeIs (.ref sl) "slice":=⟨os,hos,hcs⟩
 unfold getItem
 try with_reducible refine CL ?_
 first | refine AA (AD ?_) | skip
 refine AA (wpAny_sequenceKey ht.typeIs (by decide) ?_)
 refine AA (BF (name:=Str.ofString "__getitem__") ht.typeIs CA
  (BK CA ht.typeIs entry_tuple_getitem ?_ (args_tuple_getitem _ _)))
 show wpAny _ _ (Builtin.Tuple.tupleItemsOf (.ref t)>>=_) _ _ s
 refine AA (tupleItemsOf_ ht ?_)
 refine AA (FM hTs ?_)
 rw[if_pos (by decide)]
 refine AA (l9 hs pl pu ?_)
 have hno:¬((((sIx items.size 0 lo:Nat):Int)==0&&(1:Int)==1&&(sIx items.size items.size hi-sIx items.size 0 lo)==items.size)=true):=by
  intro q
  rw[AZ,AZ]at q
  have q1:((sIx items.size 0 lo:Nat):Int)=0:=eq_of_beq q.1.1
  have q2:sIx items.size items.size hi-sIx items.size 0 lo=items.size:=eq_of_beq q.2
  exact hw ⟨by lia,by lia⟩
 show wpAny _ _ (if(((sIx items.size 0 lo:Nat):Int)==0&&(1:Int)==1&&(sIx items.size items.size hi-sIx items.size 0 lo)==items.size)=true then _ else _) _ _ s
 rw[if_neg hno,Il]
 first
  | exact AA (m:=Builtin.Tuple.tupleExact _) (BO (AD ⟨_,rfl,AD h⟩) htake)
  | exact AA (m:=Builtin.Tuple.tupleExact _) (BO (AA (AD (AD ⟨_,rfl,AD h⟩))) htake)
  | exact AA (AA (m:=Builtin.Tuple.tupleExact _) (BO (AD (AD ⟨_,rfl,AD h⟩)) htake))
  | exact AA (AA (m:=Builtin.Tuple.tupleExact _) (BO (AD ⟨_,rfl,AD h⟩) htake))
end
end HT
namespace L2
open PySem PySem.Spec PyProof.Rows
noncomputable abbrev TO:=St→Hp→(Option Int→Hp→Prop)→Prop
noncomputable def PO (X:Cx) (e:Option Expr) (t:TO):Prop :=
 ∀(pins:List (Addr×Obj)) (s:Shared) (σ:St) (H:Hp) (Q:Option Int→Hp→Prop),Inv X pins σ H s→t σ H Q →
  wpAny (model X.prog X.w) X.A (evalPart e X.env) (fun u s'=>∃o H',Inv X pins σ H' s'∧IsPart u o∧Q o H') X.xe s
noncomputable def tNoPart:TO:=fun _ H Q=>Q none H
noncomputable def S5 (t:TE):TO:=fun σ H Q=>t σ H fun x H1=>∃i,x=.int i∧Q (some i) H1
theorem intsAre_of {ns:List Int}:∀{us:List Value},cz (ns.map V.int) us→IntsAre us ns:=by
 induction ns with
 | nil=>intro us r;rw[DN]at r;cases r;exact .nil
 | cons n ns ih =>
  intro us r
  rw[AT]at r
  cases r with
  | cons r1 r2 =>
   obtain⟨t,e⟩:=r1
   subst e
   exact .cons n t (ih r2)
section
variable {X : Cx} {e : Expr} {te : TE} {lo hi : Option Expr} {tl th : TO} {pos p2 : Pos}
theorem Me:PO X none tNoPart:=by
 intro pins s σ H Q I h
 rw[evalPart_none]
 exact AD ⟨none,H,I,.none,h⟩
theorem Mf (h:PE X e te):PO X (some e) (S5 te):=by
 intro pins s σ H Q I hw
 rw[evalPart_some]
 refine thn (h pins s σ H _ I hw) fun u s1 ⟨x,H1,I1,r1,q1⟩=>?_
 obtain⟨i,rfl,q⟩:=q1
 obtain⟨t,rfl⟩:=r1
 exact⟨some i,H1,I1,.int i t,q⟩
noncomputable def SlR (X:Cx) (r:V→Option Int→Option Int→Hp→VK→Prop):Prop :=
 ∀(pins:List (Addr×Obj)) (s:Shared) (σ:St) (H:Hp) (x:V) (v vl vu:Value) (lo hi:Option Int) (sl:Addr) (Q:VK),Inv X pins σ H s→RelV x v→s.heap.IsSliceOf sl vl vu .none→IsPart vl lo→IsPart vu hi→r x lo hi H Q →
  ∃T id,typeLookup (.type T) "__getitem__"=pure (some (.builtin id))∧s.TypeIs v T∧wpAny (model X.prog X.w) X.A (getItem v (.ref sl)) (EP X pins σ Q) X.xe s
noncomputable def tSl (r:V→Option Int→Option Int→Hp→VK→Prop) (te:TE) (tl th:TO):TE:=fun σ H Q=>te σ H fun x H1=>tl σ H1 fun l H2=>th σ H2 fun u H3=>r x l u H3 Q
theorem Im {r:V→Option Int→Option Int→Hp→VK→Prop} (hr:SlR X r) (he:PE X e te) (hl:PO X lo tl) (hu:PO X hi th):PE X (.Subscript e (.Slice lo hi none p2) pos) (tSl r te tl th):=by
 intro pins s σ H Q I h
 refine Subscript_ (thn (he pins s σ H _ I h) fun v s1 ⟨x,H1,I1,r1,q1⟩=>?_)
 refine wpAny_Slice (thn (hl pins s1 σ H1 _ I1 q1) fun vl s2 ⟨l,H2,I2,pl,q2⟩=>thn (hu pins s2 σ H2 _ I2 q2) fun vu s3 ⟨u,H3,I3,pu,q3⟩=>?_)
 rw[evalPart_none]
 refine AD ?_
 have I4:Inv X pins σ H3 {s3 with heap:=s3.heap.push {cls:=.type "slice",data:=.fields #[vl,vu,.none]}}:=I3.kept (t':=s3.toks) fun b ob q=>AB _ q
 obtain⟨T,id,hT,ht,hg⟩:=hr pins {s3 with heap:=s3.heap.push {cls:=.type "slice",data:=.fields #[vl,vu,.none]}} σ H3 x v vl vu l u s3.heap.objs.size Q I4 r1 (Heap.IsSliceOf.new ..) pl pu q3
 show wpAny (model X.prog X.w) X.A (subscriptTail e (.Slice lo hi none p2) v (.ref s3.heap.objs.size)) (EP X pins σ Q) X.xe {s3 with heap:=s3.heap.push {cls:=.type "slice",data:=.fields #[vl,vu,.none]}}
 exact tail_any (ops:=[.ref s3.heap.objs.size,v]) ht hT hg (by with_unfolding_all rfl)
noncomputable def Kw (xs:List V) (lo hi:Option Int):List V:=(xs.drop (HT.sIx xs.length 0 lo)).take (HT.sIx xs.length xs.length hi-HT.sIx xs.length 0 lo)
theorem sf (xs:List V) (lo hi:Option Int):(Kw xs lo hi).length≤xs.length:=by
 unfold Kw
 rw[EU,List.length_drop]
 lia
noncomputable def Xw (K:PySem.W.Frag):V→Option Int→Option Int→Hp→VK→Prop:=fun x lo hi H Q=>∃a xs,x=.ref a∧SqT K H a xs ∧
 ¬(HT.sIx xs.length 0 lo=0∧HT.sIx xs.length xs.length hi=xs.length)∧∀p,H p=none→Q (.ref p) (upd H p (.tup (Kw xs lo hi)))
theorem Pr:SlR X (Xw X.K):=by
 intro pins s σ H x v vl vu lo hi sl Q I rx hs pl pu h
 obtain⟨a,xs,rfl,hx,hw,q⟩:=h
 cases rx
 obtain⟨its,r,ht,hz⟩:=I.tuple hx
 have hlen:its.toArray.size=xs.length:=by rw[AE];exact r.length.symm
 refine⟨"tuple",_,CA.lookup,ht.typeIs,?_⟩
 refine HT.qa ht hs pl pu (by rw[hlen];exact hw) ?_ (by rw[hlen];exact hz)
 rw[hlen]
 refine⟨.ref s.heap.objs.size,_,I.laid (t':=s.toks) (o:=.tup (Kw xs lo hi)) (fun b ob q=>AB _ q) (AH _) ?_,rfl,q _ (I.hok.fresh (AH _))⟩
 exact⟨CN (sf xs lo hi) hz,_,(r.drop (HT.sIx xs.length 0 lo)).take (HT.sIx xs.length xs.length hi-HT.sIx xs.length 0 lo),qw.new _ _⟩
noncomputable def Xx (K:PySem.W.Frag):R2:=fun x y H Q=>∃a b ns ms,x=.ref a∧y=.ref b∧SqT K H a (ns.map V.int)∧SqT K H b (ms.map V.int)∧Q (.bl (HT.lexLt ns ms)) H
theorem Pt (hu:X.A.units<cLine):OpR X (compareOp .Lt) (Xx X.K):=by
 intro pins s σ H x y v u Q I rx ry h
 obtain⟨a,b,ns,ms,rfl,rfl,ha,hb,q⟩:=h
 cases rx
 cases ry
 obtain⟨its,r1,p1,_⟩:=I.tuple ha
 obtain⟨its2,r2,p2,_⟩:=I.tuple hb
 have i1:IntsAre its.toArray.toList ns:=intsAre_of r1
 have i2:IntsAre its2.toArray.toList ms:=intsAre_of r2
 exact HT.Dj p1 p2 i1 i2 hu ⟨.bl (HT.lexLt ns ms),H,I,rfl,q⟩
noncomputable def S6 (K:PySem.W.Frag):R2:=fun x y H Q=>∃a b xs ys,x=.ref a∧y=.ref b∧SqT K H a xs∧SqT K H b ys∧xs≠[]∧xs.length+ys.length≤sizeLine ∧
 (ys=[]→Q (.ref a) H)∧(ys≠[]→∀p,H p=none→Q (.ref p) (upd H p (.tup (xs++ys))))
theorem cz.nil_iff {xs:List V} {us:List Value} (r:cz xs us):us=[]↔xs=[]:=by
 cases r with
 | nil=>simp
 | cons _ _=>simp
theorem Mg:OpR X (binaryOp .Add) (S6 X.K):=by
 intro pins s σ H x y v u Q I rx ry h
 obtain⟨a,b,xs,ys,rfl,rfl,ha,hb,hx,hz,q1,q2⟩:=h
 cases rx
 cases ry
 obtain⟨its,r1,p1,_⟩:=I.tuple ha
 obtain⟨its2,r2,p2,_⟩:=I.tuple hb
 refine HT.Md p1 p2 (fun z=>hx (r1.nil_iff.mp z)) (fun z=>⟨.ref a,H,I,rfl,q1 (r2.nil_iff.mp z)⟩) (fun z=>?_) (by rw[←r1.length,←r2.length];exact hz)
 refine⟨.ref s.heap.objs.size,_,I.laid (t':=s.toks) (o:=.tup (xs++ys)) (fun b ob q=>AB _ q) (AH _) ?_,rfl,q2 (fun w=>z (r2.nil_iff.mpr w)) _ (I.hok.fresh (AH _))⟩
 exact⟨by rw[CG];exact hz,_,r1.append r2,qw.new _ _⟩
end
end L2
namespace L2
open PySem PySem.Spec PyProof.Rows
noncomputable def ixN (n:Nat) (i:Int):Option Nat:=if 0≤i then(if i<n then some i.toNat else none)else if -(n:Int)≤i then some (i+n).toNat else none
noncomputable def atI {α:Type} (xs:List α) (i:Int):Option α:=(ixN xs.length i).bind fun j=>xs[j]?
theorem E7 {n:Nat} {i:Int} {j:Nat} (h:ixN n i=some j):seqIndex? i n=some j∧j<n ∧ -(n:Int)≤i∧i<n:=by
 unfold ixN at h
 by_cases h0:0≤i
 ·rw[if_pos h0]at h
  by_cases h1:i<n
  ·rw[if_pos h1]at h
   have e:i.toNat=j:=BL h
   exact⟨by rw[seqIndex_of h0 h1,e],by lia,by lia,h1⟩
  ·rw[if_neg h1]at h;cases h
 ·rw[if_neg h0]at h
  by_cases h1:-(n:Int)≤i
  ·rw[if_pos h1]at h
   have e:(i+n).toNat=j:=BL h
   exact⟨by rw[seqIndex_neg (by lia) h1,e],by lia,h1,by lia⟩
  ·rw[if_neg h1]at h;cases h
theorem Ap {α:Type} {xs:List α} {i:Int} {v:α} (h:atI xs i=some v):∃j,seqIndex? i xs.length=some j∧xs[j]? = some v∧j<xs.length ∧ -(xs.length:Int)≤i∧i<xs.length:=by
 unfold atI at h
 cases e:ixN xs.length i with
 | none=>rw[e]at h;cases h
 | some j =>
  rw[e]at h
  obtain⟨h1,h2,h3,h4⟩:=E7 e
  exact⟨j,h1,h,h2,h3,h4⟩
noncomputable def Aq (b:Expr):Prop:=∀o i,subscripted b false o i=operate [o,i] (getItem o i)
noncomputable def IxR (X:Cx) (r:R2):Prop :=
 ∀(value slice:Expr) (pins:List (Addr×Obj)) (s:Shared) (σ:St) (H:Hp) (x y:V) (v u:Value) (Q:VK),Inv X pins σ H s→RelV x v→RelV y u→r x y H Q →
  subscripted slice false v u=operate [v,u] (getItem v u)→wpAny (model X.prog X.w) X.A (subscriptTail value slice v u) (EP X pins σ Q) X.xe s
noncomputable def MtR (X:Cx) (id:String) (r:V→List V→Hp→VK→Prop):Prop :=
 ∀(pins:List (Addr×Obj)) (s:Shared) (σ:St) (H:Hp) (x:V) (xs:List V) (v:Value) (us:List Value) (Q:VK),Inv X pins σ H s→RelV x v→cz xs us→r x xs H Q →
  wpAny (model X.prog X.w) X.A (call (.builtin id) (v::us)) (EP X pins σ Q) X.xe s
section
variable {X : Cx} {a b : Expr} {ta tb : TE} {pos : Pos}
theorem IxR.or {r r':R2} (h:IxR X r) (h':IxR X r'):IxR X (fun x y H Q=>r x y H Q∨r' x y H Q):=by
 intro value slice pins s σ H x y v u Q I rx ry q hs
 rcases q with q | q
 ·exact h value slice pins s σ H x y v u Q I rx ry q hs
 ·exact h' value slice pins s σ H x y v u Q I rx ry q hs
theorem S7 {r:R2} (hr:IxR X r) (ha:PE X a ta) (hb:PE X b tb) (hs:Aq b):PE X (.Subscript a b pos) (tOp r ta tb):=by
 intro pins s σ H Q I h
 exact Subscript_ (Vq ha hb I h fun v u s2 x y H2 I2 rx ry q=>hr a b pins s2 σ H2 x y v u Q I2 rx ry q (hs _ _))
noncomputable def Vt (K:PySem.W.Frag):R2:=fun x y H Q=>∃p xs i v,x=.ref p∧y=.int i∧SqL K H p xs∧atI xs i=some v∧Q v H
noncomputable def Vu (K:PySem.W.Frag):R2:=fun x y H Q=>∃p xs i v,x=.ref p∧y=.int i∧SqT K H p xs∧atI xs i=some v∧Q v H
noncomputable def rIxS:R2:=fun x y H Q=>∃z i c,x=.str z∧y=.int i∧z.length≤sizeLine∧atI z.cps.toList i=some c∧Q (.str ⟨#[c]⟩) H
theorem Mh:IxR X (Vt X.K):=by
 intro value slice pins s σ H x y v u Q I rx ry h hs
 obtain⟨p,xs,i,z,rfl,rfl,hq,he,q⟩:=h
 cases rx
 obtain⟨t,rfl⟩:=ry
 obtain⟨its,r,pl,hz⟩:=I.list hq
 obtain⟨j,h1,h2,h3,h4,h5⟩:=Ap he
 obtain⟨w,ew,rw'⟩:=r.get h2
 have hl:=r.length
 have hn:=u3
 have fin:EP X pins σ Q w s:=⟨z,H,I,rw',q⟩
 by_cases h0:0≤i
 ·have hj:i.toNat=j:=by
   rw[seqIndex_of h0 h5]at h1
   exact BL h1
  exact item_listR pl.isList h0 (by lia) (by rw[hj];simpa using ew) fin hs
 ·have hj:(i+(its.toArray.size:Int)).toNat=j:=by
   rw[seqIndex_neg (by lia) h4]at h1
   rw[AE,←hl]
   exact BL h1
  exact subscriptTail_builtinR (x:=w) pl.isList.typeIs slot_list_getitem.lookup
   (wpAny_getItem_list_neg (Q:=fun r s'=>r=w∧EP X pins σ Q r s') pl.isList (by lia) (by rw[AE]<;>lia) (by lia) (by rw[hj];simpa using ew) ⟨rfl,fin⟩) hs
theorem Pu:IxR X (Vu X.K):=by
 intro value slice pins s σ H x y v u Q I rx ry h hs
 obtain⟨p,xs,i,z,rfl,rfl,hq,he,q⟩:=h
 cases rx
 obtain⟨t,rfl⟩:=ry
 obtain⟨its,r,pl,hz⟩:=I.tuple hq
 obtain⟨j,h1,h2,h3,h4,h5⟩:=Ap he
 obtain⟨w,ew,rw'⟩:=r.get h2
 have hl:=r.length
 have hn:=u3
 have fin:EP X pins σ Q w s:=⟨z,H,I,rw',q⟩
 exact subscriptTail_builtinR (x:=w) pl.typeIs slot_tuple_getitem.lookup
  (getItem_tuple (j:=j) (Q:=fun r s'=>r=w∧EP X pins σ Q r s') pl (by lia) (by lia) (by rw[AE,←hl];exact h1) (by simpa using ew) ⟨rfl,fin⟩) hs
theorem Pw:IxR X rIxS:=by
 intro value slice pins s σ H x y v u Q I rx ry h hs
 obtain⟨z,i,c,rfl,rfl,hz,he,q⟩:=h
 obtain⟨t,rfl⟩:=rx
 obtain⟨t',rfl⟩:=ry
 obtain⟨j,h1,h2,h3,h4,h5⟩:=Ap he
 have hl:z.cps.toList.length=z.length:=by simp[Str.length]
 rw[hl]at h1 h4 h5
 have hn:=u3
 exact tail_any (typeIs_str s z t) slot_str_getitem.lookup (getItem_str (c:=c) (by
  have e1:decide (i < -(2 ^ 63:Int))=false:=decide_eq_false (by lia)
  have e2:decide (i≥2 ^ 63)=false:=decide_eq_false (by lia)
  rw[e1,e2,IT]) (by rw[h1];simpa using h2) ⟨.str ⟨#[c]⟩,H,I.tok _,⟨_,rfl⟩,q⟩) hs
noncomputable def rIx (K:PySem.W.Frag):R2:=fun x y H Q=>Vt K x y H Q∨Vu K x y H Q∨rIxS x y H Q
theorem Px:IxR X (rIx X.K):=Mh.or (Pu.or Pw)
theorem Dm (its:List Value) (n j:Nat) (u:Value):Obj.mapSeq (·.setIfInBounds j u) {cls:=.type "list",data:=.seq its.toArray n}={cls:=.type "list",data:=.seq (its.set j u).toArray n}:=by
 simp[Obj.mapSeq]
theorem Inv.lst {pins:List (Addr×Obj)} {σ:St} {H:Hp} {s:Shared} {p:Addr} {xs:List V} (I:Inv X pins σ H s) (h:H p=some (.lst xs)) :
  ∃(its:List Value) (n:Nat),cz xs its∧s.heap.get? p=some {cls:=.type "list",data:=.seq its.toArray n}∧xs.length≤sizeLine:=by
 obtain⟨z,its,n,r,e⟩:=I.hok p _ h
 exact⟨its,n,r,e,z⟩
theorem Inv.lstUpd {pins:List (Addr×Obj)} {σ:St} {H:Hp} {s:Shared} {p:Addr} {xs ys:List V} {its its':List Value} {n n':Nat} {f:Obj→Obj} (I:Inv X pins σ H s) (h:H p=some (.lst xs))
  (ho:s.heap.get? p=some {cls:=.type "list",data:=.seq its.toArray n}) (hf:f {cls:=.type "list",data:=.seq its.toArray n}={cls:=.type "list",data:=.seq its'.toArray n'}) (r:cz ys its') (hz:ys.length≤sizeLine) (t:Nat) :
  Inv X pins σ (upd H p (.lst ys)) {s with heap:=s.heap.update p f,toks:=t}:=by
 have e:(s.heap.update p f).get? p=some {cls:=.type "list",data:=.seq its'.toArray n'}:=by
  rw[CZ f ho (by rw[hf]<;>rfl),hf]
 refine I.write (x:=p) (e:=p) (by rw[h];trivial) (.inl rfl) (fun b u hb q=>(FN _ _ (Ne.symm hb)).trans q) ⟨_,e⟩ ?_
 exact⟨hz,its',n',r,e⟩
noncomputable def rSetL:V→V→V→Hp→(Hp→Prop)→Prop:=fun o i v H Q=>∃p xs k j,o=.ref p∧i=.int k∧H p=some (.lst xs)∧ixN xs.length k=some j∧Q (upd H p (.lst (xs.set j v)))
theorem set_list:Ry X rSetL:=by
 intro pins s σ H o i v ov iv u Q I ro ri rv h
 obtain⟨p,xs,k,j,rfl,rfl,hp,hj,q⟩:=h
 cases ro
 obtain⟨t,rfl⟩:=ri
 obtain⟨its,n,r,ho,hz⟩:=I.lst hp
 obtain⟨h1,h2,h3,h4⟩:=E7 hj
 have hl:=r.length
 have hn:=u3
 have I':Inv X pins σ (upd H p (.lst (xs.set j v))) {s with heap:=s.heap.update p (Obj.mapSeq (·.setIfInBounds j u))} :=
  I.lstUpd hp ho (Dm its n j u) (r.set rv j) (by rw[List.length_set];exact hz) s.toks
 by_cases h0:0≤k
 ·have hk:k.toNat=j:=by
   rw[seqIndex_of h0 h4]at h1
   exact BL h1
  exact PySem.W.ki_setAt ho h0 (by lia) (by rw[AE,←hl];exact h4) (by rw[hk];exact⟨_,I',q⟩)
 ·have hk:(k+(its.toArray.size:Int)).toNat=j:=by
   rw[seqIndex_neg (by lia) h3]at h1
   rw[AE,←hl]
   exact BL h1
  exact PySem.W.ki_setBack ho (by lia) (by rw[AE,←hl];exact h3) (by lia) (by rw[hk];exact⟨_,I',q⟩)
theorem yl (lo hi:Option Int) (n:Nat):(sliceBounds lo hi none n).1=((HT.sIx n 0 lo:Nat):Int)∧(sliceBounds lo hi none n).2.1=((HT.sIx n n hi:Nat):Int)∧(sliceBounds lo hi none n).2.2=1:=by
 refine⟨?_,?_,rfl⟩
 ·cases lo with
  | none=>simp[sliceBounds,HT.sIx]
  | some i =>
   simp only[sliceBounds,HT.sIx,Option.getD_none,show(1:Int) > 0 by decide,if_true]
   by_cases h:i<0
   ·simp only[h,if_true]<;>lia
   ·simp only[h,if_false]<;>lia
 ·cases hi with
  | none=>simp[sliceBounds,HT.sIx]
  | some i =>
   simp only[sliceBounds,HT.sIx,Option.getD_none,show(1:Int) > 0 by decide,if_true]
   by_cases h:i<0
   ·simp only[h,if_true]<;>lia
   ·simp only[h,if_false]<;>lia
theorem vt (its:List Value) (lo hi:Option Int):slicePick its.toArray lo hi none=((its.drop (HT.sIx its.length 0 lo)).take (HT.sIx its.length its.length hi-HT.sIx its.length 0 lo)).toArray:=by
 obtain⟨h1,h2,h3⟩:=yl lo hi its.toArray.size
 unfold slicePick
 rw[h1,h2,h3]
 simp only[sliceRange_one,pick_run,AE]<;>rfl
noncomputable def Xy (K:PySem.W.Frag):V→Option Int→Option Int→Hp→VK→Prop:=fun x lo hi H Q=>∃a xs,x=.ref a∧SqL K H a xs∧∀p,H p=none→Q (.ref p) (upd H p (.lst (Kw xs lo hi)))
theorem Mi:SlR X (Xy X.K):=by
 intro pins s σ H x v vl vu lo hi sl Q I rx hs pl pu h
 obtain⟨a,xs,rfl,hx,q⟩:=h
 cases rx
 obtain⟨its,r,ht,hz⟩:=I.list hx
 have hlen:=r.length
 refine⟨"list",_,slot_list_getitem.lookup,ht.isList.typeIs,?_⟩
 refine wpAny_getItem_list_slice ht.isList hs pl pu .none (by simp) ?_ (by rw[AE]<;>lia)
 rw[vt,←hlen]
 refine⟨.ref s.heap.objs.size,_,I.laid (t':=s.toks) (o:=.lst (Kw xs lo hi)) (fun b ob q=>AB _ q) (AH _) ?_,rfl,q _ (I.hok.fresh (AH _))⟩
 exact⟨CN (sf xs lo hi) hz,_,0,(r.drop (HT.sIx xs.length 0 lo)).take (HT.sIx xs.length xs.length hi-HT.sIx xs.length 0 lo),AF _ rfl⟩
noncomputable def um:V→Bool
 | .non=>true
 | .bl _=>true
 | .int _=>true
 | .str _=>true
 | _=>false
noncomputable def eqV:V→V→Bool
 | .non,.non=>true
 | .bl a,.bl b=>a==b
 | .bl a,.int b=>(if a then 1 else 0)==b
 | .int a,.bl b=>a==(if b then 1 else 0)
 | .int a,.int b=>a==b
 | .str a,.str b=>a==b
 | _,_=>false
theorem Py {A:Around} {s:Shared} {y x:V} {u v:Value} (ry:RelV y u) (rx:RelV x v) (fy:um y=true) (fx:um x=true):SeqAt.EqAt A s u v (eqV y x):=by
 cases y with
 | non =>
  cases ry
  cases x with
  | non=>cases rx;exact SeqAt.EqAt.same _
  | bl b=>cases rx;exact SeqAt.EqAt.none_bool b
  | int b=>obtain⟨t,rfl⟩:=rx;exact SeqAt.EqAt.none_int b t
  | str b=>obtain⟨t,rfl⟩:=rx;exact SeqAt.EqAt.none_str b t
  | _=>exact absurd (show false=true from fx) AU
 | bl a =>
  cases ry
  cases x with
  | non=>cases rx;exact SeqAt.EqAt.bool_none a
  | bl b=>cases rx;exact SeqAt.EqAt.bool_bool a b
  | int b=>obtain⟨t,rfl⟩:=rx;exact SeqAt.EqAt.bool_int a b t
  | str b=>obtain⟨t,rfl⟩:=rx;exact SeqAt.EqAt.bool_str a b t
  | _=>exact absurd (show false=true from fx) AU
 | int a =>
  obtain⟨t',rfl⟩:=ry
  cases x with
  | non=>cases rx;exact SeqAt.EqAt.int_none a t'
  | bl b=>cases rx;exact SeqAt.EqAt.int_bool a t' b
  | int b=>obtain⟨t,rfl⟩:=rx;exact IX a t' b t
  | str b=>obtain⟨t,rfl⟩:=rx;exact IV a t' b t
  | _=>exact absurd (show false=true from fx) AU
 | str a =>
  obtain⟨t',rfl⟩:=ry
  cases x with
  | non=>cases rx;exact SeqAt.EqAt.str_none a t'
  | bl b=>cases rx;exact SeqAt.EqAt.str_bool a t' b
  | int b=>obtain⟨t,rfl⟩:=rx;exact IW a t' b t
  | str b=>obtain⟨t,rfl⟩:=rx;exact SeqAt.EqAt.str_str a t' b t
  | _=>exact absurd (show false=true from fx) AU
 | _=>exact absurd (show false=true from fy) AU
noncomputable def eqU (x:V) (u:Value):Bool:=match u with
 | .none=>eqV .non x
 | .bool b=>eqV (.bl b) x
 | .int i _=>eqV (.int i) x
 | .str z _=>eqV (.str z) x
 | _=>false
theorem Kx {x y:V} {u:Value} (r:RelV y u) (f:um y=true):eqU x u=eqV y x:=by
 cases y with
 | non=>cases r;rfl
 | bl b=>cases r;rfl
 | int i=>obtain⟨t,rfl⟩:=r;rfl
 | str z=>obtain⟨t,rfl⟩:=r;rfl
 | _=>exact absurd (show false=true from f) AU
theorem sg {x:V}:∀{xs:List V} {us:List Value},cz xs us→xs.all um=true→us.any (eqU x)=xs.any fun y=>eqV y x
 | _,_,.nil,_=>rfl
 | y::xs,u::us,.cons r t,f=>by
  rw[BC,AZ]at f
  rw[CM,CM,Kx r f.1,sg t f.2]
theorem o3 {A:Around} {s:Shared} {x:V} {v:Value} (rx:RelV x v) (fx:um x=true):∀{xs:List V} {us:List Value},cz xs us→xs.all um=true→∀u∈us,SeqAt.EqAt A s u v (eqU x u)
 | _,_,.nil,_=>fun u hu=>by cases hu
 | y::xs,u::us,.cons r t,f=>fun u' hu=>by
  rw[BC,AZ]at f
  rcases AJ.mp hu with rfl | hu
  ·rw[Kx r f.1];exact Py r rx f.1 fx
  ·exact o3 rx fx t f.2 u' hu
noncomputable def inV (x:V) (xs:List V):Bool:=xs.any fun y=>eqV y x
noncomputable def rIn (K:PySem.W.Frag) (neg:Bool):R2:=fun x y H Q=>∃p xs,y=.ref p∧(SqL K H p xs∨SqT K H p xs)∧um x=true∧xs.all um=true∧Q (.bl (if neg then !inV x xs else inV x xs)) H
theorem E8:OpR X (compareOp .In) (rIn X.K false):=by
 intro pins s σ H x y v u Q I rx ry h
 obtain⟨p,xs,rfl,hq,fx,fs,q⟩:=h
 cases ry
 rcases hq with hq | hq
 ·obtain⟨its,r,pl,hz⟩:=I.list hq
  refine SeqAt.in_listAt (eqU x) pl.isList (fun w hw=>o3 rx fx r fs w (by simpa using hw)) ⟨.bl _,H,I,rfl,?_⟩
  rw[show its.toArray.any (eqU x)=its.any (eqU x)by simp,sg r fs]
  exact q
 ·obtain⟨its,r,pl,hz⟩:=I.tuple hq
  refine SeqAt.in_tupleAt (eqU x) pl (fun w hw=>o3 rx fx r fs w (by simpa using hw)) ⟨.bl _,H,I,rfl,?_⟩
  rw[show its.toArray.any (eqU x)=its.any (eqU x)by simp,sg r fs]
  exact q
theorem ym:OpR X (compareOp .NotIn) (rIn X.K true):=by
 intro pins s σ H x y v u Q I rx ry h
 obtain⟨p,xs,rfl,hq,fx,fs,q⟩:=h
 cases ry
 rcases hq with hq | hq
 ·obtain⟨its,r,pl,hz⟩:=I.list hq
  refine SeqAt.notIn_listAt (eqU x) pl.isList (fun w hw=>o3 rx fx r fs w (by simpa using hw)) ⟨.bl _,H,I,rfl,?_⟩
  rw[show its.toArray.any (eqU x)=its.any (eqU x)by simp,sg r fs]
  exact q
 ·obtain⟨its,r,pl,hz⟩:=I.tuple hq
  refine SeqAt.notIn_tupleAt (eqU x) pl (fun w hw=>o3 rx fx r fs w (by simpa using hw)) ⟨.bl _,H,I,rfl,?_⟩
  rw[show its.toArray.any (eqU x)=its.any (eqU x)by simp,sg r fs]
  exact q
theorem yn:jq X (.builtin "len") (fun xs H Q=>∃p ys,xs=[.ref p]∧(SqL X.K H p ys∨SqT X.K H p ys)∧Q (.int ys.length) H):=by
 intro pins s σ H xs us Q I r h
 obtain⟨p,ys,rfl,hq,q⟩:=h
 obtain⟨u,rfl,rx⟩:=vals1 r
 cases rx
 have hn:=u3
 rcases hq with hq | hq
 ·obtain⟨its,r',pl,hz⟩:=I.list hq
  have hlen:=r'.length
  exact Calls.call_len_list pl.isList (by simp only[AE]<;>lia) ⟨.int ys.length,H,I.tok _,⟨s.toks+1,by rw[AE,hlen]⟩,q⟩
 ·obtain⟨its,r',pl,hz⟩:=I.tuple hq
  have hlen:=r'.length
  exact len_tuple pl (by simp only[AE]<;>lia) ⟨.int ys.length,H,I.tok _,⟨s.toks+1,by rw[AE,hlen]⟩,q⟩
theorem vx:jq X (.type "tuple") (fun xs H Q=>∃p ys,xs=[.ref p]∧((SqL X.K H p ys∧∀l,H l=none→Q (.ref l) (upd H l (.tup ys)))∨(SqT X.K H p ys∧Q (.ref p) H))):=by
 intro pins s σ H xs us Q I r h
 obtain⟨p,ys,rfl,h⟩:=h
 obtain⟨u,rfl,rx⟩:=vals1 r
 cases rx
 rcases h with⟨hq,q⟩ | ⟨hq,q⟩
 ·obtain⟨its,r',pl,hz⟩:=I.list hq
  have hlen:=r'.length
  refine call_tuple_list pl.isList (fun h' kp=>?_) (by simp only[AE]<;>lia)
  have I1:Inv X pins σ H {s with heap:=h'}:=I.kept (t':=s.toks) kp
  have I2:Inv X pins σ (upd H h'.objs.size (.tup ys)) {s with heap:=h'.push {cls:=.type "tuple",data:=.seq its.toArray}} :=
   I1.laid (t':=s.toks) (fun b o e=>AB _ e) (AH _) (show i5 X.prog X.w _ _ _ (.tup ys)from⟨hz,its,r',qw.new _ _⟩)
  exact⟨.ref h'.objs.size,_,I2,rfl,q _ (I1.hok.fresh (AH _))⟩
 ·obtain⟨its,r',pl,hz⟩:=I.tuple hq
  exact call_tuple_same pl ⟨.ref p,H,I,rfl,q⟩
noncomputable def tyV (K:PySem.W.Frag) (T:String) (x:V) (H:Hp):Prop:=match x with
 | .str _=>T="str"
 | .int _=>T="int"
 | .ref p=>(T="list"∧∃xs,SqL K H p xs)∨(T="tuple"∧∃o,K.lookup p=some o∧o.cls=.type "tuple"∧o.dict=none) ∨
   (T="dict"∧((∃kvs,H p=some (.dK kvs))∨∃kvs,H p=some (.dT kvs)))∨(T="set"∧∃S n,H p=some (.set S n))
 | _=>False
theorem Kz {pins:List (Addr×Obj)} {σ:St} {H:Hp} {s:Shared} {T:String} {x:V} {v:Value} (I:Inv X pins σ H s) (r:RelV x v) (ty:tyV X.K T x H) :
  s.TypeIs v T∧∀a,v=.ref a→∃ob,s.heap.get? a=some ob∧ob.dict=none:=by
 cases x with
 | str z =>
  obtain⟨t,rfl⟩:=r
  cases(show T="str" from ty)
  exact⟨typeIs_str s z t,fun _ e=>nomatch e⟩
 | int i =>
  obtain⟨t,rfl⟩:=r
  cases(show T="int" from ty)
  exact⟨typeIs_int s i t,fun _ e=>nomatch e⟩
 | ref p =>
  cases r
  rcases ty with⟨rfl,xs,hq⟩ | ⟨rfl,o,hk,hc,hd⟩ | ⟨rfl,hk⟩ | ⟨rfl,S,n,hk⟩
  ·obtain⟨its,_,pl,_⟩:=I.list hq
   refine⟨pl.isList.typeIs,fun a e=>?_⟩
   cases e
   obtain⟨o,n,e,c,hd,_⟩:=pl
   exact⟨o,e,hd⟩
  ·refine⟨⟨o,I.kIn p o hk,hc⟩,fun a e=>?_⟩
   cases e
   exact⟨o,I.kIn _ o hk,hd⟩
  ·have z:∃o,s.heap.get? p=some o∧o.ExactDict:=by
    rcases hk with⟨kvs,hk⟩ | ⟨kvs,hk⟩
    ·obtain⟨_,_,_,_,o,_,_,e,ex,_⟩:=I.hok p _ hk
     exact⟨o,e,ex⟩
    ·obtain⟨_,_,_,_,o,_,_,e,ex,_⟩:=I.hok p _ hk
     exact⟨o,e,ex⟩
   obtain⟨o,e,ex⟩:=z
   refine⟨⟨o,e,ex.1⟩,fun a e2=>?_⟩
   cases e2
   exact⟨o,e,ex.2.1⟩
  ·obtain⟨o,_,_,_,e,ex,_⟩:=I.hok p _ hk
   refine⟨⟨o,e,ex.1⟩,fun a e2=>?_⟩
   cases e2
   exact⟨o,e,ex.2.1⟩
 | _=>exact False.elim ty
noncomputable def Vv (K:PySem.W.Frag) (T:String) (r:V→List V→Hp→VK→Prop) (to:TE):TE:=fun σ H Q=>to σ H fun x H1=>tyV K T x H1∧r x [] H1 Q
noncomputable def tBM (K:PySem.W.Frag) (T:String) (r:V→List V→Hp→VK→Prop) (to:TE) (t:TA):TE:=fun σ H Q=>to σ H fun x H1=>tyV K T x H1∧t σ H1 fun xs H2=>r x xs H2 Q
variable {o e : Expr} {es : List Expr} {to : TE} {t : TA} {name : Str} {apos cpos : Pos} {T id : String} {r : V → List V → Hp → VK → Prop}
theorem Pz (pa:PlainAttrs T) (slot:Slot T name id) (hty:typeOf (.builtin id)=pure (.type "method_descriptor")) (hm:MtR X id r) (ho:PE X o to)
  (hbase:attributeBase o name X.env (eval o X.env)=eval o X.env:=by rfl) (hline:(apos.endLine==cpos.line)=true:=by rfl):PE X (.Call (.Attribute o name apos) [] [] cpos) (Vv X.K T r to):=by
 intro pins s σ H Q I h
 refine wpAny_Call_method0_late hbase hline (thn (ho pins s σ H _ I h) fun v s1 ⟨x,H1,I1,r1,ty,q1⟩=>?_)
 obtain⟨h1,h2⟩:=Kz I1 r1 ty
 exact⟨T,id,pa,slot,hty,h1,h2,EF rfl (PySem.evalArgs_none (hm pins s1 σ H1 x [] v [] Q I1 r1 .nil q1))⟩
theorem P0 (pa:PlainAttrs T) (slot:Slot T name id) (hty:typeOf (.builtin id)=pure (.type "method_descriptor")) (hm:MtR X id r) (ho:PE X o to) (ha:PA X (e::es) t)
  (hbase:attributeBase o name X.env (eval o X.env)=eval o X.env:=by rfl)
  (hfew:((backTo cpos (starEach (e::es) X.env)).all (fun x=>!x.1)&&(backToKw cpos (keywordEach [] X.env)).all (fun x=>x.1.isSome)
   && decide ((e::es).length+([]:List Keyword).length+(if([]:List Keyword).isEmpty then 0 else 1)<30))=true:=by rfl)
  (hline:(apos.endLine==cpos.line)=true:=by rfl) (hs:starEach (e::es) X.env=(false,eval e X.env)::starEach es X.env:=by rfl) (hplain:(backTo cpos (starEach es X.env)).any (·.1)=false:=by rfl) :
  PE X (.Call (.Attribute o name apos) (e::es) [] cpos) (tBM X.K T r to t):=by
 intro pins s σ H Q I h
 refine wpAny_Call_method_late hbase hfew hline rfl (thn (ho pins s σ H _ I h) fun v s1 ⟨x,H1,I1,r1,ty,q1⟩=>?_)
 obtain⟨h1,h2⟩:=Kz I1 r1 ty
 refine⟨T,id,pa,slot,hty,h1,h2,?_⟩
 have hA:=ha cpos pins s1 σ H1 _ I1 q1
 rw[hs]at hA ⊢
 refine EF (by show(false || (backTo cpos (starEach es X.env)).any (·.1))=false;rw[hplain]<;>rfl) (IR ?_)
 exact thn hA fun us s2 ⟨vs,H2,I2,r2,q2⟩=>hm pins s2 σ H2 x vs v us Q I2 r1 r2 q2
end
end L2
namespace L2
open PySem PySem.Spec PyProof.Rows
noncomputable def MtM (X:Cx) (id:String) (r:V→List V→Hp→VK→Prop):Prop :=
 ∀(pins:List (Addr×Obj)) (s:Shared) (σ:St) (H:Hp) (x:V) (xs:List V) (v:Value) (us:List Value) (Q:VK),Inv X pins σ H s→RelV x v→cz xs us→r x xs H Q →
  wpAny (model X.prog X.w) X.A (call (.builtin id) (v::us)) (EP X pins σ Q) X.xe s
theorem cz.one:∀{x:V} {us:List Value},cz [x] us→∃u,us=[u]∧RelV x u
 | _,_,.cons r .nil=>⟨_,rfl,r⟩
theorem cz.zero:∀{us:List Value},cz [] us→us=[]
 | _,.nil=>rfl
theorem cz.dropLast {xs:List V} {us:List Value} (h:cz xs us):cz xs.dropLast us.dropLast:=by
 induction h with
 | nil=>exact .nil
 | cons r t ih =>
  cases t with
  | nil=>exact .nil
  | cons q t'=>exact .cons r ih
theorem cz.eraseIdx:∀{xs:List V} {us:List Value} (i:Nat),cz xs us→cz (xs.eraseIdx i) (us.eraseIdx i)
 | _,_,_,.nil=>.nil
 | _,_,0,.cons _ t=>t
 | _,_,i+1,.cons r t=>.cons r (cz.eraseIdx i t)
theorem cz.reverse {xs:List V} {us:List Value} (h:cz xs us):cz xs.reverse us.reverse:=by
 induction h with
 | nil=>exact .nil
 | cons r t ih=>rw[HG,HG];exact cz.append ih (.cons r .nil)
theorem cz.rep {xs:List V} {us:List Value} (h:cz xs us):∀k:Nat,cz (List.replicate k xs).flatten (List.replicate k us).flatten
 | 0=>.nil
 | k+1=>by
  rw[DJ,DJ,ER,ER]
  exact cz.append h (cz.rep h k)
theorem Dp {α:Type} (l:List α):l.eraseIdx (l.length-1)=l.dropLast:=by
 induction l with
 | nil=>rfl
 | cons a r ih =>
  cases r with
  | nil=>rfl
  | cons b r =>
   have e:(a::b::r).length-1=((b::r).length-1)+1:=by
    have h1:(a::b::r).length=r.length+2:=rfl
    have h2:(b::r).length=r.length+1:=rfl
    lia
   rw[e,If,ih]
   all_goals rfl
theorem yo {α:Type}:∀(l:List α) (i:Nat),(l.eraseIdx i).length≤l.length
 | [],_=>AH _
 | _::_,0=>ED _
 | _::r,i+1=>Nat.succ_le_succ (yo r i)
theorem foldl_rep (its:List Value):∀(k:Nat) (acc:List Value),
  List.foldl (fun x1 x2=>x1++x2) acc.toArray (List.replicate k its.toArray)=(acc++(List.replicate k its).flatten).toArray
 | 0,acc=>by simp
 | k+1,acc=>by
  have e:acc.toArray++its.toArray=(acc++its).toArray:=by simp
  have e2:(acc++its)++(List.replicate k its).flatten=acc++(List.replicate (k+1) its).flatten:=by
   rw[DJ,ER,FO]
  rw[←e2,←foldl_rep its k (acc++its),←e,DJ,List.foldl_cons]
section
variable {X : Cx} {pins : List (Addr × Obj)} {σ : St} {H : Hp} {s : Shared} {l b : Addr} {xs ys zs : List V}
theorem Inv.lset {its its':List Value} {n:Nat} {f:Array Value→Array Value} {t':Nat} (I:Inv X pins σ H s) (hH:H l=some (.lst xs))
  (e:s.heap.get? l=some {cls:=.type "list",data:=.seq its.toArray n}) (hf:f its.toArray=its'.toArray) (hv:cz ys its') (hz:ys.length≤sizeLine) :
  Inv X pins σ (upd H l (.lst ys)) {s with heap:=s.heap.update l (Obj.mapSeq f),toks:=t'}:=by
 have q:=PySem.IsL.update e f
 rw[hf]at q
 refine I.write (x:=l) (e:=l) (by rw[hH];exact trivial) (.inl rfl) (fun b' u hb hu=>(FN s.heap (Obj.mapSeq f) (Ne.symm hb)).trans hu) ⟨_,q⟩ ?_
 exact⟨hz,its',_,hv,q⟩
theorem Inv.lnew {its:List Value} {t':Nat} (I:Inv X pins σ H s) (hv:cz ys its) (hz:ys.length≤sizeLine) :
  Inv X pins σ (upd H s.heap.objs.size (.lst ys)) {s with heap:=s.heap.push {cls:=.type "list",data:=.seq its.toArray},toks:=t'} :=
 I.laid (fun _ _ q=>AB _ q) (AH _) ⟨hz,its,0,hv,AF _ rfl⟩
theorem Inv.fresh (I:Inv X pins σ H s):H s.heap.objs.size=none:=I.hok.fresh (AH _)
theorem Inv.lstM (I:Inv X pins σ H s) (hH:H l=some (.lst xs)):xs.length≤sizeLine∧∃(its:List Value) (n:Nat),cz xs its∧xs.length=its.length∧s.heap.get? l=some {cls:=.type "list",data:=.seq its.toArray n}:=by
 obtain⟨z,its,n,r,e⟩:=I.hok l _ hH
 exact⟨z,its,n,r,r.length,e⟩
theorem By {n:Nat} (h:n≤sizeLine):Builtin.List.listTooLong n=false:=by
 unfold Builtin.List.listTooLong
 exact decide_eq_false (by lia)
end
section
variable {X : Cx}
noncomputable def rAppend:V→List V→Hp→VK→Prop:=fun x vs H Q=>∃l xs y,x=.ref l∧vs=[y]∧H l=some (.lst xs)∧xs.length<sizeLine∧Q .non (upd H l (.lst (xs++[y])))
theorem E9:MtM X "list.append" rAppend:=by
 intro pins s σ H x vs v us Q I rx rv h
 obtain⟨l,xs,y,rfl,rfl,hH,hz,q⟩:=h
 cases rx
 obtain⟨u,rfl,ru⟩:=rv.one
 obtain⟨z,its,n,r,hl,e⟩:=I.lstM hH
 refine GV F.slot_list_append ⟨_,e,rfl⟩ F.entry_list_append (F.args_list_append_2 _ _) (PySem.list_append l its.toArray n u (by rw[AE];lia)) ⟨e,?_⟩
 refine⟨.non,_,I.lset (its':=its++[u]) hH e (by simp) (r.append (.cons ru .nil)) ?_,rfl,q⟩
 rw[CG,IK]
 lia
noncomputable def rPop:V→List V→Hp→VK→Prop:=fun x vs H Q=>∃l xs y,x=.ref l∧vs=[]∧H l=some (.lst xs)∧xs[xs.length-1]? = some y∧Q y (upd H l (.lst xs.dropLast))
theorem P4:MtM X "list.pop" rPop:=by
 intro pins s σ H x vs v us Q I rx rv h
 obtain⟨l,xs,y,rfl,rfl,hH,hy,q⟩:=h
 cases rx
 have hus:=rv.zero
 subst hus
 obtain⟨z,its,n,r,hl,e⟩:=I.lstM hH
 obtain⟨u,hu,ru⟩:=r.get hy
 have hy':its.toArray[its.toArray.size-1]? = some u:=by
  show its.toArray[its.length-1]? = some u
  rw[←Da,←hl]
  exact hu
 refine GV IG ⟨_,e,rfl⟩ F.entry_list_pop (F.args_list_pop_1 _) (MeetsSeq.list_pop_last l its.toArray n u hy' (by rw[AE];lia)) ⟨e,?_⟩
 refine⟨y,_,I.lset (its':=its.dropLast) hH e ?_ r.dropLast ?_,ru,q⟩
 ·show its.toArray.eraseIdxIfInBounds (its.toArray.size-1)=its.dropLast.toArray
  rw[AE,FV,Dp]
 ·rw[List.length_dropLast]
  lia
noncomputable def rPopAt:V→List V→Hp→VK→Prop:=fun x vs H Q=>∃l xs i k y,x=.ref l∧vs=[.int i]∧H l=some (.lst xs) ∧ -(2 ^ 63)≤i∧i<2 ^ 63∧seqIndex? i xs.length=some k∧xs[k]? = some y∧Q y (upd H l (.lst (xs.eraseIdx k)))
theorem Io:MtM X "list.pop" rPopAt:=by
 intro pins s σ H x vs v us Q I rx rv h
 obtain⟨l,xs,i,k,y,rfl,rfl,hH,h1,h2,hk,hy,q⟩:=h
 cases rx
 obtain⟨u,rfl,ru⟩:=rv.one
 obtain⟨t,rfl⟩:=ru
 obtain⟨z,its,n,r,hl,e⟩:=I.lstM hH
 obtain⟨w,hw,rw'⟩:=r.get hy
 refine GV IG ⟨_,e,rfl⟩ F.entry_list_pop (F.args_list_pop_2 _ _)
  (MeetsSeq.list_pop_at l its.toArray n i t k w (fitsIndex_both h1 h2) (by rw[AE,←hl];exact hk) (by rw[←Da];exact hw) (by rw[AE];lia)) ⟨e,?_⟩
 refine⟨y,_,I.lset (its':=its.eraseIdx k) hH e ?_ (r.eraseIdx k) ?_,rw',q⟩
 ·show its.toArray.eraseIdxIfInBounds k=(its.eraseIdx k).toArray
  rw[FV]
 ·have:=yo xs k
  lia
theorem len_rep {α:Type} (xs:List α) (k:Nat):(List.replicate k xs).flatten.length=k*xs.length:=by
 induction k with
 | zero=>simp
 | succ k ih=>rw[DJ,ER,CG,ih,Nat.succ_mul,Nat.add_comm]
end
end L2
namespace L2
open PySem PySem.Spec PyProof.Rows
section
variable {κ : Type} [DecidableEq κ]
noncomputable def Bz (kvs:List (κ×V)) (k:κ):Option V:=(kvs.find? fun kv=>decide (kv.1=k)).map (·.2)
noncomputable def putK (kvs:List (κ×V)) (k:κ) (v:V):List (κ×V) :=
 if(kvs.any fun kv=>decide (kv.1=k))=true then kvs.map (fun kv=>if kv.1=k then(kv.1,v)else kv)else kvs++[(k,v)]
theorem rq {p:κ×V} {r:List (κ×V)} {k:κ} (e:p.1=k):Bz (p::r) k=some p.2:=by simp[Bz,EJ,e]
theorem r6 {p:κ×V} {r:List (κ×V)} {k:κ} (e:¬p.1=k):Bz (p::r) k=Bz r k:=by simp[Bz,EJ,e]
theorem B0 (k:κ):∀kvs:List (κ×V),(kvs.any fun kv=>decide (kv.1=k))=(Bz kvs k).isSome
 | []=>rfl
 | p::r=>by
  rw[CM]
  by_cases e:p.1=k
  ·simp only[rq e,decide_eq_true e,Bool.true_or,Option.isSome_some]
  ·rw[r6 e,decide_eq_false e,Bool.false_or];exact B0 k r
theorem oa (kvs:List (κ×V)) (k:κ) (v:V):(putK kvs k v).length≤kvs.length+1:=by
 unfold putK
 split
 ·rw[AG];lia
 ·rw[CG,BJ,CI];lia
theorem Ko.isSome_eq {o:Option V} {u:Option Value} (r:Ko o u):o.isSome=u.isSome:=by
 cases o with
 | none=>cases u with
  | none=>rfl
  | some _=>exact(show False from r).elim
 | some _=>cases u with
  | none=>exact(show False from r).elim
  | some _=>rfl
theorem Ko.getD {o:Option V} {u:Option Value} {d:V} {d':Value} (r:Ko o u) (rd:RelV d d'):RelV (o.getD d) (u.getD d'):=by
 cases o with
 | none=>cases u with
  | none=>exact rd
  | some _=>exact(show False from r).elim
 | some _=>cases u with
  | none=>exact(show False from r).elim
  | some _=>exact r
theorem KV.val {kvs:List (κ×V)} {vs:List (κ×Value)} (r:KV kvs vs) (k:κ):Ko (Bz kvs k) (valueAt vs k):=by
 unfold KV at r
 induction r with
 | nil=>exact True.intro
 | @cons p q ps qs h t ih =>
  obtain⟨h1,h2⟩:=h
  by_cases e:p.1=k
  ·have e':q.1=k:=h1.symm.trans e
   have b:valueAt (q::qs) k=some q.2:=by simp[valueAt,EJ,e']
   rw[rq e,b];exact h2
  ·have e':¬q.1=k:=fun z=>e (h1.trans z)
   have b:valueAt (q::qs) k=valueAt qs k:=by simp[valueAt,EJ,e']
   rw[r6 e,b];exact ih
theorem KV.any {kvs:List (κ×V)} {vs:List (κ×Value)} (r:KV kvs vs) (k:κ):(kvs.any fun kv=>decide (kv.1=k))=vs.any fun kv=>decide (kv.1=k):=by
 unfold KV at r
 induction r with
 | nil=>rfl
 | cons h t ih=>rw[CM,CM,ih,h.1]
theorem KV.repl {kvs:List (κ×V)} {vs:List (κ×Value)} (r:KV kvs vs) (k:κ) {y:V} {u:Value} (ry:RelV y u) :
  KV (kvs.map fun kv=>if kv.1=k then(kv.1,y)else kv) (vs.map fun kv=>if kv.1=k then(kv.1,u)else kv):=by
 unfold KV at r ⊢
 induction r with
 | nil=>exact .nil
 | @cons p q ps qs h t ih =>
  rw[AT,AT]
  refine .cons ?_ ih
  obtain⟨h1,h2⟩:=h
  by_cases e:p.1=k
  ·rw[if_pos e,if_pos (h1.symm.trans e)];exact⟨h1,ry⟩
  ·rw[if_neg e,if_neg (fun z=>e (h1.trans z))];exact⟨h1,h2⟩
theorem KV.put {kvs:List (κ×V)} {vs:List (κ×Value)} (r:KV kvs vs) (k:κ) {y:V} {u:Value} (ry:RelV y u):KV (putK kvs k y) (stored vs k u):=by
 unfold putK stored
 rw[r.any k]
 by_cases e:(vs.any fun kv=>decide (kv.1=k))=true
 ·rw[if_pos e,if_pos e];exact r.repl k ry
 ·rw[if_neg e,if_neg e];exact Paired.snoc r ⟨rfl,ry⟩
theorem KV.length {kvs:List (κ×V)} {vs:List (κ×Value)} (r:KV kvs vs):kvs.length=vs.length:=DO r
end
theorem Dq {P:Program} {w:World} {k:Key} {u:Value} (r:RelV (kV k) u):(dg P w).is k u=true:=by
 cases k with
 | inl i=>obtain⟨t,e⟩:=(show ∃t,u=Value.int i t from r);subst e;exact Am P w i t
 | inr x=>obtain⟨t,e⟩:=(show ∃t,u=Value.str x t from r);subst e;exact An P w x t
theorem yp {P:Program} {w:World}:∀{ks:List Key} {us:List Value},cz (ks.map kV) us→ItemsAre (dg P w) ks us
 | [],_,r=>by rw[DN]at r;cases r;exact .nil
 | k::ks,_,r=>by
  rw[AT]at r
  cases r with
  | cons h t=>exact .cons (Dq h) (yp t)
noncomputable abbrev KT (H:Hp):List (List Key×V)→List (List Key×Addr×Value)→Prop:=Paired fun p q=>p.1=q.1∧H q.2.1=some (.tup (p.1.map kV))∧RelV p.2 q.2.2
theorem KT.val {H:Hp} {kvs:List (List Key×V)} {xs:List (List Key×Addr×Value)} (r:KT H kvs xs) (k:List Key):Ko (Bz kvs k) ((atKey xs k).map (·.2)):=by
 induction r with
 | nil=>exact True.intro
 | @cons p q ps qs h t ih =>
  obtain⟨h1,_,h2⟩:=h
  by_cases e:p.1=k
  ·have e':q.1=k:=h1.symm.trans e
   have b:atKey (q::qs) k=some q.2:=by simp[atKey,EJ,e']
   rw[rq e,b];exact h2
  ·have e':¬q.1=k:=fun z=>e (h1.trans z)
   have b:atKey (q::qs) k=atKey qs k:=by simp[atKey,EJ,e']
   rw[r6 e,b];exact ih
theorem KT.repl {H:Hp} {kvs:List (List Key×V)} {xs:List (List Key×Addr×Value)} (r:KT H kvs xs) (k:List Key) {y:V} {u:Value} (ry:RelV y u) :
  KT H (kvs.map fun kv=>if kv.1=k then(kv.1,y)else kv) (xs.map (putAt k u)):=by
 induction r with
 | nil=>exact .nil
 | @cons p q ps qs h t ih =>
  rw[AT,AT]
  refine .cons ?_ ih
  obtain⟨h1,h2,h3⟩:=h
  unfold putAt
  by_cases e:p.1=k
  ·rw[if_pos e,if_pos (h1.symm.trans e)];exact⟨h1,h2,ry⟩
  ·rw[if_neg e,if_neg (fun z=>e (h1.trans z))];exact⟨h1,h2,h3⟩
theorem KT.put {H:Hp} {kvs:List (List Key×V)} {xs:List (List Key×Addr×Value)} (r:KT H kvs xs) (k:List Key) {b:Addr} {y:V} {u:Value} (hb:H b=some (.tup (k.map kV))) (ry:RelV y u) :
  KT H (putK kvs k y) (storedH xs k b u):=by
 have e:(kvs.any fun kv=>decide (kv.1=k))=(atKey xs k).isSome:=by
  rw[B0,(r.val k).isSome_eq,HI]
 unfold putK storedH
 rw[e]
 by_cases q:(atKey xs k).isSome=true
 ·rw[if_pos q,if_pos q];exact r.repl k ry
 ·rw[if_neg q,if_neg q];exact Paired.snoc r ⟨rfl,hb,ry⟩
theorem KT.keeps {H H':Hp} {kvs:List (List Key×V)} {xs:List (List Key×Addr×Value)} (r:KT H kvs xs) (ht:∀b ys,H b=some (.tup ys)→H' b=some (.tup ys)):KT H' kvs xs :=
 Paired.mapP r fun _ _ z=>⟨z.1,ht _ _ z.2.1,z.2.2⟩
section
variable {P : Program} {w : World} {H : Hp} {h : Heap} {a : Addr}
theorem P5 {u:HO} (ok:HOk P w H h) (e:Rd H a u):i5 P w H h a u:=e.ok ok
theorem Fb {kvs:List (Key×V)} (ok:HOk P w H h) (e:Rd H a (.dK kvs)):kvs.length≤sizeLine∧(a==sysModules)=false∧∃vs,KV kvs vs∧h.DictOf (dg P w) a vs :=
 show i5 P w H h a (.dK kvs)from P5 ok e
theorem Mj {kvs:List (Key×V)} (ok:HOk P w H h) (e:H a=some (.dK kvs)):kvs.length≤sizeLine∧(a==sysModules)=false∧∃vs,KV kvs vs∧h.DictOf (dg P w) a vs:=Fb ok (.inl e)
theorem yq {ks:List Key} (ok:HOk P w H h) (e:H a=some (.tup (ks.map kV))):(tupleKind (dg P w)).is h ks a:=by
 obtain⟨_,its,r,o,h1,h2,_,n,h3⟩:=(show i5 P w H h a (.tup (ks.map kV))from ok a _ e)
 exact⟨o,its.toArray,n,h1,h2,h3,by simpa using yp r⟩
theorem Fc {kvs:List (List Key×V)} (ok:HOk P w H h) (e:Rd H a (.dT kvs)):kvs.length≤sizeLine∧(a==sysModules)=false ∧
  ∃xs,KT H kvs xs∧h.DictOfH (tupleKind (dg P w)) a xs:=by
 obtain⟨z,y,xs,r,o,es,ep,h1,h2,h3,h4,h5⟩:=(show i5 P w H h a (.dT kvs)from P5 ok e)
 refine⟨z,y,xs,r,o,es,ep,h1,h2,h3,h4,fun x hx=>?_,h5⟩
 have all:∀{l:List (List Key×V)} {m:List (List Key×Addr×Value)},KT H l m→∀x∈m,(tupleKind (dg P w)).is h x.1 x.2.1:=by
  intro l m q
  induction q with
  | nil=>intro x hx;exact nomatch hx
  | @cons p q ps qs hq t ih =>
   intro x hx
   rcases AJ.mp hx with e | hx
   ·subst e
    exact yq ok (by rw[←hq.1];exact hq.2.1)
   ·exact ih x hx
 exact all r x hx
theorem S8 {kvs:List (List Key×V)} (ok:HOk P w H h) (e:H a=some (.dT kvs)):kvs.length≤sizeLine∧(a==sysModules)=false ∧
  ∃xs,KT H kvs xs∧h.DictOfH (tupleKind (dg P w)) a xs:=Fc ok (.inl e)
end
noncomputable def Ip (H:Hp) (a:Addr) (y:V) (r:Option V):Prop :=
 (∃kvs k,Rd H a (.dK kvs)∧y=kV k∧r=Bz kvs k)∨∃kvs k b,Rd H a (.dT kvs)∧y=.ref b∧H b=some (.tup (k.map kV))∧r=Bz kvs k
noncomputable def R0 (H:Hp) (a:Addr) (y v:V) (H':Hp):Prop :=
 (∃kvs k,H a=some (.dK kvs)∧y=kV k∧kvs.length<sizeLine∧H'=upd H a (.dK (putK kvs k v))) ∨
 ∃kvs k b,H a=some (.dT kvs)∧y=.ref b∧H b=some (.tup (k.map kV))∧kvs.length<sizeLine∧H'=upd H a (.dT (putK kvs k v))
theorem Ip.k {H:Hp} {a:Addr} {kvs:List (Key×V)} {k:Key} (e:H a=some (.dK kvs)):Ip H a (kV k) (Bz kvs k):=.inl ⟨kvs,k,.inl e,rfl,rfl⟩
theorem R0.k {H:Hp} {a:Addr} {kvs:List (Key×V)} {k:Key} {v:V} (e:H a=some (.dK kvs)) (hl:kvs.length<sizeLine):R0 H a (kV k) v (upd H a (.dK (putK kvs k v))):=.inl ⟨kvs,k,e,rfl,hl,rfl⟩
section
variable {X : Cx} {pins : List (Addr × Obj)} {σ : St} {H : Hp} {s : Shared} {a : Addr} {y v : V} {u r : Value} {o : Option V} {A : Around} {E : Value → Shared → Prop}
theorem Inv.big (I:Inv X pins σ H s):sysModules<s.heap.objs.size:=by
 have h:mainGlobals<s.heap.objs.size:=(I.mod.glob.keeps I.bk).lt
 exact Nat.lt_trans (by decide) h
theorem Xz {Q:Value→Shared→Prop} (hu:A.units+1<cLine) (I:Inv X pins σ H s) (g:Ip H a y o) (ry:RelV y u) (h:∀s',Inv X pins σ H s'→Q (.bool o.isSome) s') :
  wpAny (model X.prog X.w) A (compareOp .In u (.ref a)) Q E s:=by
 rcases g with⟨kvs,k,e,ey,l⟩ | ⟨kvs,k,b,e,ey,eb,l⟩
 ·subst ey
  obtain⟨z,hd,vs,rel,dd⟩:=Fb I.hok e
  refine wpAny_in_of (Dq ry) hd dd.mapOf ?_
  rw[←(rel.val k).isSome_eq,←l]
  exact h _ (I.tok _)
 ·subst ey
  cases(show u=Value.ref b from ry)
  obtain⟨z,hd,xs,rel,dd⟩:=Fc I.hok e
  refine wpAny_in_heap (FE hu) (yq I.hok eb) hd dd ?_
  have q:=(rel.val k).isSome_eq
  rw[HI]at q
  rw[←q,←l]
  exact h _ (I.tok _)
theorem Ml {Q:Value→Shared→Prop} (hu:A.units+1<cLine) (I:Inv X pins σ H s) (g:Ip H a y o) (ry:RelV y u) (h:∀s',Inv X pins σ H s'→Q (.bool (!o.isSome)) s') :
  wpAny (model X.prog X.w) A (compareOp .NotIn u (.ref a)) Q E s:=by
 rcases g with⟨kvs,k,e,ey,l⟩ | ⟨kvs,k,b,e,ey,eb,l⟩
 ·subst ey
  obtain⟨z,hd,vs,rel,dd⟩:=Fb I.hok e
  refine wpAny_notIn_of (Dq ry) hd dd.mapOf ?_
  rw[←(rel.val k).isSome_eq,←l]
  exact h _ (I.tok _)
 ·subst ey
  cases(show u=Value.ref b from ry)
  obtain⟨z,hd,xs,rel,dd⟩:=Fc I.hok e
  refine wpAny_notIn_heap (FE hu) (yq I.hok eb) hd dd ?_
  have q:=(rel.val k).isSome_eq
  rw[HI]at q
  rw[←q,←l]
  exact h _ (I.tok _)
theorem Ar {h':Heap} {t':Nat} {ob:HO} (I:Inv X pins σ H s) (mu:Mut (H a)) (hs:Heap.SameBut a s.heap h') (he:∃q,h'.get? a=some q) (new:i5 X.prog X.w (upd H a ob) h' a ob) :
  Inv X pins σ (upd H a ob) {s with heap:=h',toks:=t'} :=
 I.write (x:=a) (e:=a) mu (.inl rfl) (fun b q hb z=>(hs.2 b hb).trans z) he new
theorem K0 {P:Program} {w:World} {H':Hp} {h':Heap} {kvs:List (Key×V)} {vs:List (Key×Value)} (z:kvs.length≤sizeLine) (hd:(a==sysModules)=false) (rel:KV kvs vs) (dd:h'.DictOf (dg P w) a vs) :
  i5 P w H' h' a (.dK kvs):=⟨z,hd,vs,rel,dd⟩
theorem Fd {H':Hp} {Q:Unit→Shared→Prop} (hu:A.units+1<cLine) (I:Inv X pins σ H s) (g:R0 H a y v H') (ry:RelV y u) (rv:RelV v r) (h:∀s',Inv X pins σ H' s'→Q () s') :
  wpAny (model X.prog X.w) A (setItem (.ref a) u r) Q E s:=by
 rcases g with⟨kvs,k,e,ey,l,eH⟩ | ⟨kvs,k,b,e,ey,eb,l,eH⟩
 ·subst ey eH
  obtain⟨z,hd,vs,rel,dd⟩:=Mj I.hok e
  have hz:vs.length≤sizeLine:=by rw[←rel.length];exact z
  have hl:(putK kvs k v).length≤sizeLine:=by have:=oa kvs k v;lia
  refine wpAny_setItem_pairs (hsz:=hz) (Dq ry) dd fun h' dd' hs=>h _ ?_
  have he:∃q,h'.get? a=some q:=let ⟨q,_,_,hq,_⟩:=dd';⟨q,hq⟩
  exact Ar I (by rw[e];exact True.intro) hs he (K0 hl hd (rel.put k rv) dd')
 ·subst ey eH
  cases(show u=Value.ref b from ry)
  obtain⟨z,hd,xs,rel,dd⟩:=S8 I.hok e
  have hz:xs.length≤sizeLine:=by rw[←DO rel];exact z
  have hl:(putK kvs k v).length≤sizeLine:=by have:=oa kvs k v;lia
  refine wpAny_setItem_heap (hsz:=hz) (FE hu) (yq I.hok eb) dd fun h' dd' hs=>h _ ?_
  obtain⟨q,es,ep,hq,h2,h3,h4,_,h5⟩:=dd'
  refine Ar I (by rw[e];exact True.intro) hs ⟨q,hq⟩ ⟨hl,hd,_,(rel.put k eb rv).keeps fun c ys ec=>?_,q,es,ep,hq,h2,h3,h4,h5⟩
  rw[a7 (n9 ec e (fun z=>nomatch z))]
  exact ec
end
theorem B3 {P:Program} {w:World} {H:Hp} (h:Heap) (hb:sysModules<h.objs.size):i5 P w H (h.push {cls:=.type "dict",data:=.dict #[]}) h.objs.size (.dK []) :=
 ⟨CP _,beq_eq_false_iff_ne.mpr (Ne.symm (AN hb)),[],.nil,Heap.DictOf.new h⟩
theorem Iq {P:Program} {w:World} {H:Hp} (h:Heap) (hb:sysModules<h.objs.size):i5 P w H (h.push {cls:=.type "dict",data:=.dict #[]}) h.objs.size (.dT []) :=
 ⟨CP _,beq_eq_false_iff_ne.mpr (Ne.symm (AN hb)),[],.nil,_,#[],0,AF _ rfl,⟨rfl,rfl,rfl⟩,rfl,rfl,List.nodup_nil⟩
noncomputable def tDNewK:TE:=fun _ H Q=>∀p,H p=none→Q (.ref p) (upd H p (.dK []))
noncomputable def tDNewT:TE:=fun _ H Q=>∀p,H p=none→Q (.ref p) (upd H p (.dT []))
section
variable {X : Cx} {pos : Pos}
theorem Ir:PE X (.Dict [] [] pos) tDNewK:=fun pins s σ H Q I h =>
 wpAny_Dict_empty ⟨.ref s.heap.objs.size,_,I.laid (a:=s.heap.objs.size) (o:=.dK []) (t':=s.toks) (fun _ _ q=>AB _ q) (AH _) (B3 s.heap I.big),rfl,h _ (I.hok.fresh (AH _))⟩
theorem Iu:PE X (.Dict [] [] pos) tDNewT:=fun pins s σ H Q I h =>
 wpAny_Dict_empty ⟨.ref s.heap.objs.size,_,I.laid (a:=s.heap.objs.size) (o:=.dT []) (t':=s.toks) (fun _ _ q=>AB _ q) (AH _) (Iq s.heap I.big),rfl,h _ (I.hok.fresh (AH _))⟩
end
noncomputable def Fe:List (TE×TE)→St→Hp→(List (V×V)→Hp→Prop)→Prop
 | [],_,H,Q=>Q [] H
 | (tk,tv)::r,σ,H,Q=>tk σ H fun x H1=>tv σ H1 fun y H2=>Fe r σ H2 fun ps H3=>Q ((x,y)::ps) H3
noncomputable abbrev VV:List (V×V)→List (Value×Value)→Prop:=Paired fun p q=>RelV p.1 q.1∧RelV p.2 q.2
noncomputable def PPs (X:Cx) (pos:Pos) (keys:List (Option Expr)) (values:List Expr) (trs:List (TE×TE)):Prop :=
 ∀(pins:List (Addr×Obj)) (s:Shared) (σ:St) (H:Hp) (Q:List (V×V)→Hp→Prop),Inv X pins σ H s→Fe trs σ H Q →
  wpAny (model X.prog X.w) X.A (evalPairs (pairTrees keys values X.env pos)) (fun vs s'=>∃ps H',Inv X pins σ H' s'∧VV ps vs∧Q ps H') X.xe s
theorem Mm {X:Cx} {pos:Pos}:PPs X pos [] [] []:=fun pins s σ H Q I h=>pairTrees_nil_walk ⟨[],H,I,.nil,h⟩
theorem B4 {X:Cx} {pos:Pos} {k v:Expr} {ks:List (Option Expr)} {vs:List Expr} {tk tv:TE} {trs:List (TE×TE)} (hk:PE X k tk) (hv:PE X v tv) (hr:PPs X pos ks vs trs) :
  PPs X pos (some k::ks) (v::vs) ((tk,tv)::trs):=fun pins s σ H Q I h =>
 pairTrees_cons_walk (thn (hk pins s σ H _ I h) fun u s1 ⟨x,H1,I1,rx,q1⟩=>thn (hv pins s1 σ H1 _ I1 q1) fun w2 s2 ⟨y,H2,I2,ry,q2⟩ =>
  thn (hr pins s2 σ H2 _ I2 q2) fun ws s3 ⟨ps,H3,I3,rel,q3⟩=>⟨(x,y)::ps,H3,I3,.cons ⟨rx,ry⟩ rel,q3⟩)
noncomputable def sh (kvs more:List (Key×V)):List (Key×V):=more.foldl (fun acc kv=>putK acc kv.1 kv.2) kvs
theorem KV.merge:∀{more:List (Key×V)} {rs:List (Key×Value)} {kvs:List (Key×V)} {vs:List (Key×Value)},KV more rs→KV kvs vs→KV (sh kvs more) (merged vs rs):=by
 intro more rs kvs vs r
 unfold KV at r
 induction r generalizing kvs vs with
 | nil=>intro q;exact q
 | @cons p q ps qs h t ih =>
  intro r0
  have e:KV (putK kvs p.1 p.2) (stored vs q.1 q.2):=by
   have:=r0.put p.1 h.2
   rw[←h.1];exact this
  exact ih e
theorem o4:∀(more kvs:List (Key×V)),(sh kvs more).length≤kvs.length+more.length
 | [],kvs=>by show kvs.length≤kvs.length+0;lia
 | p::r,kvs=>by
  have h1:=o4 r (putK kvs p.1 p.2)
  have h2:=oa kvs p.1 p.2
  show(sh (putK kvs p.1 p.2) r).length≤_
  rw[BJ];lia
theorem u5 {P:Program} {w:World}:∀{kvs:List (Key×V)} {ws:List (Value×Value)},VV (kvs.map fun kv=>(kV kv.1,kv.2)) ws→∃rs,Carries (dg P w) ws rs∧KV kvs rs
 | [],_,r=>by rw[DN]at r;cases r;exact⟨[],True.intro,.nil⟩
 | p::kvs,_,r=>by
  rw[AT]at r
  cases r with
  | @cons a b as bs h t =>
   obtain⟨rs,c,q⟩:=u5 (P:=P) (w:=w) t
   obtain⟨b1,b2⟩:=b
   exact⟨(p.1,b2)::rs,⟨Dq h.1,rfl,c⟩,.cons ⟨rfl,h.2⟩ q⟩
noncomputable def S9 (trs:List (TE×TE)):TE:=fun σ H Q=>∀p,H p=none→Fe trs σ (upd H p (.dK [])) fun ps H2=>H2 p=some (.dK [])∧∃kvs:List (Key×V),ps=kvs.map (fun kv=>(kV kv.1,kv.2))∧kvs.length≤15∧Q (.ref p) (upd H2 p (.dK (sh [] kvs)))
theorem Mn {X:Cx} {pos:Pos} {keys:List (Option Expr)} {values:List Expr} {trs:List (TE×TE)} (h:PPs X pos keys values trs) (hall:keys.all (·.isSome)=true) (hl:keys.length=values.length) (h0:keys≠[])
  (h15:keys.length≤15):PE X (.Dict keys values pos) (S9 trs):=by
 intro pins s σ H Q I q
 have hn:=I.hok.fresh (AH s.heap.objs.size)
 have I1:=I.laid (a:=s.heap.objs.size) (o:=.dK []) (h':=s.heap.push {cls:=.type "dict",data:=.dict #[]}) (t':=s.toks) (fun _ _ q=>AB _ q) (AH _) (B3 s.heap I.big)
 refine wpAny_Dict_walk (knd:=dg X.prog X.w) hall hl h0 h15 (thn (h pins _ σ _ _ I1 (q _ hn)) fun ws s2 ⟨ps,H2,I2,rel,e,kvs,ep,lk,q2⟩=>?_)
 subst ep
 obtain⟨rs,c,rk⟩:=u5 (P:=X.prog) (w:=X.w) rel
 obtain⟨z,hd,vs0,r0,dd⟩:=Mj I2.hok e
 cases r0
 refine⟨rs,c,dd,fun h' dd' hs=>⟨.ref s.heap.objs.size,_,?_,rfl,q2⟩⟩
 have hz:(sh [] kvs).length≤sizeLine:=by
  have h1:=o4 kvs []
  rw[CI]at h1
  rw[DB];lia
 have he:∃q,h'.get? s.heap.objs.size=some q:=let ⟨q,_,_,hq,_⟩:=dd';⟨q,hq⟩
 exact Ar I2 (by rw[e];exact True.intro) hs he (K0 hz hd (rk.merge .nil) dd')
structure M2 (X:Cx) (o:Expr) (m:Str) (apos:Pos) (e f:Expr) (cpos:Pos):Prop where
 base:attributeBase o m X.env (eval o X.env)=eval o X.env
 few:((backTo cpos (starEach [e,f] X.env)).all (fun x=>!x.1)&&(backToKw cpos (keywordEach [] X.env)).all (fun x=>x.1.isSome)
  && decide (([e,f]:List Expr).length+([]:List Keyword).length+(if([]:List Keyword).isEmpty then 0 else 1)<30))=true
 line:(apos.endLine==cpos.line)=true
 trees:backTo cpos (starEach [e,f] X.env)=[(false,eval e X.env),(false,eval f X.env)]
noncomputable def IsD (H:Hp) (a:Addr):Prop:=(∃kvs,Rd H a (.dK kvs))∨∃kvs,Rd H a (.dT kvs)
theorem K1 {X:Cx} {pins:List (Addr×Obj)} {σ:St} {H:Hp} {s:Shared} {a:Addr} (I:Inv X pins σ H s) (d:IsD H a) :
  s.TypeIs (.ref a) "dict"∧(∀b,Value.ref a=.ref b→∃ob,s.heap.get? b=some ob∧ob.dict=none)∧(a==sysModules)=false:=by
 rcases d with⟨kvs,e⟩ | ⟨kvs,e⟩
 ·obtain⟨_,hd,vs,_,dd⟩:=Fb I.hok e
  refine⟨dd.typeIs,fun b q=>?_,hd⟩
  cases q
  obtain⟨ob,_,_,h1,h2,_⟩:=dd
  exact⟨ob,h1,h2.2.1⟩
 ·obtain⟨_,hd,xs,_,dd⟩:=Fc I.hok e
  refine⟨dd.typeIs,fun b q=>?_,hd⟩
  cases q
  obtain⟨ob,_,_,h1,h2,_⟩:=dd
  exact⟨ob,h1,h2.2.1⟩
section
variable {X : Cx} {pins : List (Addr × Obj)} {σ : St} {H : Hp} {s : Shared} {a : Addr} {y d : V} {u r : Value} {o : Option V} {A : Around} {E : Value → Shared → Prop}
theorem P6 {Q:Value→Shared→Prop} (hu:A.units+1<cLine) (I:Inv X pins σ H s) (g:Ip H a y o) (ry:RelV y u) (rd:RelV d r) (h:∀w' s',Inv X pins σ H s'→RelV (o.getD d) w'→Q w' s') :
  wpAny (model X.prog X.w) A (call (.builtin "dict.get") [.ref a,u,r]) Q E s:=by
 rcases g with⟨kvs,k,e,ey,l⟩ | ⟨kvs,k,b,e,ey,eb,l⟩
 ·subst ey
  obtain⟨z,hd,vs,rel,dd⟩:=Fb I.hok e
  refine call_meetsIn FW dd.typeIs IF (Ix _ _ _) (meets_dict_get_default (dg X.prog X.w) a (Dq ry) hd r) ⟨_,dd.mapOf,h _ _ (I.tok _) ?_⟩
  rw[l]
  exact(rel.val k).getD rd
 ·subst ey
  cases(show u=Value.ref b from ry)
  obtain⟨z,hd,xs,rel,dd⟩:=Fc I.hok e
  refine call_meetsIn FW dd.typeIs IF (Ix _ _ _) (meetsH_dict_get_default (tupleKind (dg X.prog X.w)) a b hd r) ⟨FE hu,k,xs,yq I.hok eb,dd,h _ _ (I.tok _) ?_⟩
  rw[l]
  exact(rel.val k).getD rd
end
noncomputable def P7 (td ty tx:TE):TE:=fun σ H Q=>td σ H fun x H1=>∃a,x=.ref a∧IsD H1 a∧ty σ H1 fun y H2=>tx σ H2 fun z H3=>∃o,Ip H3 a y o∧Q (o.getD z) H3
section
variable {X : Cx} {o e f : Expr} {apos cpos : Pos} {td ty tx : TE}
theorem Iv (hu:X.A.units+1<cLine) (ho:PE X o td) (he:PE X e ty) (hf:PE X f tx) (m:M2 X o "get" apos e f cpos):PE X (.Call (.Attribute o "get" apos) [e,f] [] cpos) (P7 td ty tx):=by
 intro pins s σ H Q I h
 refine wpAny_Call_method m.base m.few m.line IA FW PySem.F.type_dict_get (thn (ho pins s σ H _ I h) fun u s1 ⟨x,H1,I1,rx,a,ex,d,q1⟩=>?_)
 subst ex
 obtain rfl:u=Value.ref a:=rx
 obtain⟨t1,t2,_⟩:=K1 I1 d
 refine⟨t1,t2,?_⟩
 rw[m.trees]
 refine EF rfl (IR (Db (thn (he pins s1 σ H1 _ I1 q1) fun iv s2 ⟨y,H2,I2,ry,q2⟩ =>
  Db (thn (hf pins s2 σ H2 _ I2 q2) fun fv s3 ⟨z,H3,I3,rz,ov,g,q3⟩=>DU ?_))))
 exact P6 hu I3 g ry rz fun w' s4 I4 rw'=>⟨_,H3,I4,rw',q3⟩
end
end L2
namespace Att
open PySem PySem.W PySem.Calls PyProof.Rows
theorem si {P:Params} {h:Heap}:∀(ns:List Int) (vs:List Value),WellAll P h vs (ns.map WData.int)→IntsAre vs ns:=by
 intro ns
 induction ns with
 | nil =>
  intro vs w
  rw[DN]at w
  cases w
  exact .nil
 | cons n ns ih =>
  intro vs w
  rw[AT]at w
  cases w with
  | cons a b =>
   cases a
   exact .cons _ _ (ih _ b)
theorem Ff {l:OpenLaw} {n:Nat} (hn:l.most=some n) {P:Params} {h:Heap} {args:List WData} {vals:List Value}
  (hpre:l.row.toRowW.claim.pre args=true) (hwl:WellAll P h vals args) :
  ∃a vs ns,vals=[Value.ref a]∧args=[WData.list (ns.map WData.int)]∧h.get? a=some {cls:=.type "list",data:=.seq vs.toArray}∧IntsAre vs ns∧ns.length≤n:=by
 have hsh:WShape.hasAll [] args [.list .int]=true:=(pre_splitW hpre).1
 have hc:l.pre.holds [] {args:=args}=true:=(pre_splitW hpre).2
 obtain⟨d,r,rfl,h1,h2⟩:=hasAllW_cons hsh
 obtain rfl:=hasAllW_nil h2
 obtain⟨xs,rfl,h3⟩:=hasW_list h1
 obtain⟨ns,rfl⟩:=items_int h3
 have hlen:ns.length≤n:=by
  unfold OpenLaw.pre at hc
  have h4:(WTm.not (.lt (.lit (.int (n:Int))) (.len (.arg 0)))).holds [] {args:=[.list (ns.map .int)]}=true:=by
   have h4:=(holds_andW hc).1
   rw[hn]at h4
   exact h4
  have h5:=condW_of h4 (w_not (w_lt w_lit (w_len_list (w_arg rfl))))
  rw[AG]at h5
  refine Nat.le_of_not_lt fun q=>?_
  have q':(n:Int)<((ns.length:Nat):Int):=by lia
  first
   | (rw[decide_eq_true q']at h5;exact absurd h5 (by decide))
   | (simp at h5;lia)
 cases hwl with
 | cons w1 w2 =>
  cases w2
  cases w1 with
  | list ho hall=>exact⟨_,_,ns,rfl,rfl,ho,si ns _ hall,hlen⟩
theorem Fg (l:OpenLaw) (args:List WData):l.row.toRowW.claim.post args (.bool true) args=true :=
 postW_of (r:=l.row.toRowW) (X:=(true==true))
  (show WShape.has [] (.bool true) .bool=true by first | rfl | decide | simp[WShape.has,WShape.arms,WShape.armsAll])
  (show(WTm.eq .res (.lit (.bool true))).value [] {args:=args,res:=some (.bool true),after:=args}=some (.bool (true==true))from w_eq_bool (w_res rfl) w_lit) rfl
theorem As {l:OpenLaw} {n:Nat} {q:Program} {loose:List Str} {XP:(Str→Option Value)→Heap→Prop} {YP:World→Heap→Prop} {d:DefRec}
  (hn:l.most=some n) (hdf:d.params.defaults=[])
  (call:∀(w:World) (s₀ s₁:Shared) (mg mb:Str→Option Value) (fa:Addr) (o:Obj) (pm cd doc:Value) (a:Addr) (vs:List Value) (ns:List Int),
   Ground q loose [] XP w s₀ mg mb s₁.heap→YP w s₁.heap →
   s₁.heap.get? fa=some o→o.data=.func (docDef d.name d.params d.body d.scope pm cd doc)→s₁.heap.CodeRec cd d.name→mg d.name=some (.ref fa) →
   s₁.heap.get? a=some {cls:=.type "list",data:=.seq vs.toArray}→IntsAre vs ns→ns.length≤n→s₁.gens=#[] →
   codeAny (model l.prog w) callerA (.call (.ref fa) ⟨[.ref a],[]⟩) (fun r s'=>r=.ok (.ret (.bool true))∧OldK s₁.heap s'.heap∧s'.os=s₁.os∧AllBare s'.gens) s₁) :
  WalkO q loose XP YP l.row.toRowW d [] (fun f vs=>PySem.call f vs):=by
 intro w s₀ s₁ mg mb G Y fa o pm cd doc dV kV ho hd hcd hD hmg hg args vals as hpre hlay hrd hwl hlo
 obtain rfl:dV=.none:=Dflts.none hD hdf
 obtain rfl:kV=.none:=Dflts.noKw hD
 obtain⟨a,vs,ns,rfl,rfl,hobj,hints,hlen⟩:=Ff hn hpre hwl
 refine enter_call (FJ (call w s₀ s₁ mg mb fa o pm cd doc a vs ns G Y ho (fd_plain hd) hcd hmg hobj hints hlen hg) fun r s' hq=>?_)
 obtain⟨rfl,h2,h3,h4⟩:=hq
 exact⟨.inl ⟨.bool true,.bool true,[],rfl,fun _=>rfl,.bool true,Fg l _,fun _=>⟨List.Pairwise.nil,fun _ hm=>(nomatch hm)⟩⟩,h2,h3,h4⟩
end Att
namespace L2
open PySem PySem.Spec PyProof.Rows
noncomputable def FzL (K:PySem.W.Frag) (H:Hp) (a:Addr) (xs:List V):Prop :=
 (∃o,H a=some (.frz o (.lst xs))) ∨
  ∃(its:List Value) (n:Nat),K.lookup a=some {cls:=.type "list",data:=.seq its.toArray n}∧xs.length≤sizeLine∧cz xs its
theorem vals_ints:∀{vs:List Value} {ns:List Int},IntsAre vs ns→cz (ns.map V.int) vs
 | _,_,.nil=>.nil
 | _,_,.cons n t h=>.cons ⟨t,rfl⟩ (vals_ints h)
noncomputable def Ta (H:Hp):Prop:=∀b,H b=none∨∃o xs,H b=some (.frz o (.lst xs))
theorem Iw {P:Program} {w:World} {K:PySem.W.Frag} {mg mb:Str→Option Value} {CX:CXT} {k:Nat} {fa a:Addr} {fd:FuncData} {x:Str} {sp:Sp} {s₁:Shared} {vs:List Value} {ns:List Int}
  (KX:K.In s₁.heap) (hns:s₁.heap.Ns mainGlobals mg) (hb:s₁.heap.Ns builtinsNs mb) (hbb:∀x:Str,x≠"__name__"→mb x=bootBuiltins x) (hlim:s₁.heap.NoLimit) (hg:s₁.gens=#[])
  (ha:s₁.heap.get? a=some {cls:=.type "list",data:=.seq vs.toArray}) (hi:IntsAre vs ns) (hl:ns.length≤sizeLine) (hr:Room k callerA)
  (F:∀base:Heap,K.In base→base.Ns mainGlobals mg→FnOk P w K mg base CX k fa fd [x] sp) (hbind:∀(s:Shared) (u:Value),BindsTo s fd ⟨[u],[]⟩ [(x,u)])
  (hsp:∀H:Hp,Ta H→FzL K H a (ns.map V.int)→sp [.ref a] H (fun v _=>v=.bl true) fun _ _ _=>False)
  (hCX:∀H e s',CX [] H s₁ (fun _ _ _=>False) e s'→False) :
  codeAny (model P w) callerA (.call (.ref fa) ⟨[.ref a],[]⟩) (fun r s'=>r=.ok (.ret (.bool true))∧OldK s₁.heap s'.heap∧s'.os=s₁.os∧AllBare s'.gens) s₁:=by
 have rv:=vals_ints hi
 have lenV:=hi.length
 -- from an abstract heap in which nothing but the script may be tracked
 have core:∀H:Hp,Ta H→FzL K H a (ns.map V.int)→HOk P w H s₁.heap→(∀b,H b≠none→b=a)→(H a≠none→K.lookup a=none) →
   codeAny (model P w) callerA (.call (.ref fa) ⟨[.ref a],[]⟩) (fun r s'=>r=.ok (.ret (.bool true))∧OldK s₁.heap s'.heap∧s'.os=s₁.os∧AllBare s'.gens) s₁:=by
  intro H hO hS hok hA hK
  have base_of:∀{b:Addr} {o:Obj},s₁.heap.get? b=some o→H b=none→(Ib s₁.heap H).get? b=some o:=fun e n=>Ic e n
  have noA:∀{b:Addr} {o:Obj} {es:Array DictEntry} {ep:Nat},s₁.heap.get? b=some o→o.data=.dict es ep→H b=none:=fun {b o es ep} e d=>by
   cases q:H b with
   | none=>rfl
   | some u =>
    have e':b=a:=hA b (by rw[q];simp)
    subst e'
    rw[ha]at e;cases e
    have d':Data.seq vs.toArray _=Data.dict es ep:=d
    cases d'
  have nsK:∀{b:Addr} {m:Str→Option Value},s₁.heap.Ns b m→(Ib s₁.heap H).Ns b m:=fun {b m} ⟨o,es,ep,e,d,r⟩=>⟨o,es,ep,base_of e (noA e d),d,r⟩
  have hKb:K.In (Ib s₁.heap H):=fun b o e=>base_of (KX b o e) (by
   cases q:H b with
   | none=>rfl
   | some u =>
    have e':b=a:=hA b (by rw[q];simp)
    subst e'
    rw[hK (by rw[q];simp)]at e;cases e)
  have hM:Mod K mg (Ib s₁.heap H):=⟨hKb,nsK hns,⟨mb,nsK hb,hbb⟩,let ⟨mc,h1,h2⟩:=hlim;⟨mc,nsK h1,h2⟩⟩
  have e0:Env0 P w K mg (Ib s₁.heap H) callerA [] s₁ H:=⟨rfl,hM,fun b o e=>Lz e,Nat.le_of_eq (Et _ _),trivial,fun b hb=>absurd (show b∈([]:List Addr)from hb) (by simp),hok,.of_eq hg⟩
  refine FJ ((F _ hKb (nsK hns)).run callerA [] s₁ H ⟨[.ref a],[]⟩ [.ref a] [.ref a] _ _ hr e0 (hbind s₁ (.ref a)) (.cons rfl .nil) (hsp H hO hS)) fun r s' h=>?_
  cases r with
  | error e=>exact(hCX H e s' h).elim
  | ok fl =>
   cases fl with
   | next=>exact False.elim h
   | brk=>exact False.elim h
   | cont=>exact False.elim h
   | ret u =>
    obtain⟨v,H',os,bare,un,hok',r',q⟩:=h
    have q':v=.bl true:=q
    subst q'
    obtain rfl:u=Value.bool true:=r'
    refine⟨rfl,OldK.of_keep fun b o e=>?_,os,bare⟩
    cases q:H b with
    | none=>exact un.keep b o e q (by intro z;exact absurd (show b∈([]:List Addr)from z) (by simp)) (by simp)
    | some u =>
     rcases hO b with z | ⟨ob,xs,z⟩
     ·rw[q]at z;cases z
     ·have z2:=un.frzs b ob _ z
      obtain⟨e1,_⟩:=hok b _ z
      obtain⟨e2,_⟩:=hok' b _ z2
      rw[e]at e1;cases e1
      exact e2
 cases hk:K.lookup a with
 | some o =>
  -- the script is one of the module's own objects
  have e:=KX a o hk
  rw[ha]at e
  cases e
  refine core (fun _=>none) (fun _=>.inl rfl) (.inr ⟨vs,_,hk,by rw[AG];exact hl,rv⟩) (fun b u z=>by have z':(none:Option HO)=some u:=z;cases z') (fun b z=>absurd rfl z) fun z=>absurd rfl z
 | none =>
  refine core (fun b=>if b=a then some (.frz {cls:=.type "list",data:=.seq vs.toArray} (.lst (ns.map V.int)))else none) (fun b=>?_) (.inl ⟨{cls:=.type "list",data:=.seq vs.toArray},if_pos rfl⟩) (fun b u z=>?_) (fun b z=>?_) fun _=>hk
  ·by_cases hb:b=a
   ·exact .inr ⟨_,_,if_pos hb⟩
   ·exact .inl (if_neg hb)
  ·by_cases hb:b=a
   ·have z':=(if_pos hb).symm.trans z
    cases z'
    subst hb
    exact⟨ha,by rw[AG];exact hl,vs,_,rv,ha⟩
   ·have z':=(if_neg hb).symm.trans z
    cases z'
  ·by_cases hb:b=a
   ·exact hb
   ·exact absurd (if_neg hb) z
end L2
namespace L2
open PySem PySem.Spec PyProof.Rows
noncomputable abbrev KOf {K:PySem.W.Frag} {h:Heap} (_:K.In h):PySem.W.Frag:=K
theorem Mo {l:PySem.W.OpenLaw} {n k:Nat} {q:Program} {loose:List Str} {XP:(Str→Option Value)→Heap→Prop} {YP:World→Heap→Prop} {d:DefRec} {K:Params→PySem.W.Frag} {CX:World→CXT} {sp:World→Sp} {x:Str}
  (hn:l.most=some n) (hn2:n≤sizeLine) (hdf:d.params.defaults=[]) (hr:Room k callerA)
  (hY:∀(w:World) (h:Heap),YP w h→(K w.params).In h)
  (F:∀(w:World) (mg:Str→Option Value) (fa:Addr) (h:Heap),(K w.params).In h→h.Ns mainGlobals mg→mg d.name=some (.ref fa) →
   ∃fd:FuncData,(∀(s:Shared) (u:Value),BindsTo s fd ⟨[u],[]⟩ [(x,u)]) ∧
    ∀base:Heap,(K w.params).In base→base.Ns mainGlobals mg→FnOk l.prog w (K w.params) mg base (CX w) k fa fd [x] (sp w))
  (hsp:∀(w:World) (H:Hp) (a:Addr) (ns:List Int),ns.length≤n→Ta H→FzL (K w.params) H a (ns.map V.int)→sp w [.ref a] H (fun v _=>v=.bl true) fun _ _ _=>False)
  (hCX:∀(w:World) (H:Hp) (s:Shared) (e:Value) (s':Shared),CX w [] H s (fun _ _ _=>False) e s'→False) :
  PySem.W.WalkO q loose XP YP l.row.toRowW d [] (fun f vs=>PySem.call f vs):=by
 refine Att.As hn hdf fun w s₀ s₁ mg mb fa o pm cd doc a vs ns G Y ho hd hcd hmg hobj hints hlen hg=>?_
 have KX:=hY w _ Y
 obtain⟨fd,hb,hF⟩:=F w mg fa _ KX G.T.g hmg
 exact Iw KX G.T.g G.T.b G.T.builtins G.T.nolimit hg hobj hints (CN hlen hn2) hr hF hb (fun H hO hS=>hsp w H a ns hlen hO hS) fun H e s'=>hCX w H s₁ e s'
end L2
namespace L2
open PySem PySem.Spec PyProof.Rows
noncomputable def a9 (s:Stmt):Arguments:=match s with
 | .FunctionDef _ a _ _ _ _ _ _ _ _=>a
 | _=>{posonlyargs:=[],args:=[],vararg:=none,kwonlyargs:=[],kw_defaults:=[],kwarg:=none,defaults:=[]}
noncomputable def a8 (s:Stmt):List Stmt:=match s with
 | .FunctionDef _ _ b _ _ _ _ _ _ _=>b
 | _=>[]
noncomputable def ao (s:Stmt):Scope:=match s with
 | .FunctionDef _ _ _ _ _ _ sc _ _ _=>sc
 | _=>{kind:=.function,names:=[],isGenerator:=false,isCoroutine:=false}
noncomputable abbrev CX0:CXT:=fun _ _ _ _ _ _=>False
noncomputable abbrev E0:XK:=fun _ _ _=>False
theorem Tb {X:Cx}:E3 CX0 X E0:=fun _ _ _ _ _ _ _ h=>h.elim
structure Fun (K:PySem.W.Frag) (x qual:Str) (st:Stmt) (f:Addr) (fd:FuncData):Prop where
 ex:∃(oc:Value) (od:Option Addr) (kV doc pm:Value) (an:Option Addr) (cdv ct:Value) (osl:Array (Option Value)),
  fd=PySem.W.fnOf x qual (a9 st) (a8 st) (ao st) .none kV doc pm an cdv ct∧K.lookup f=some ⟨oc,od,.func fd,osl⟩∧PySem.W.codeIn K cdv qual=true
 kp:PySem.W.keepIn K (.ref f)=true
section
variable {P : Program} {w : World} {K : PySem.W.Frag} {mg : Str → Option Value} {base : Heap}
theorem Fun.ok {x qual:Str} {st:Stmt} {f:Addr} {fd:FuncData} {N ps:List Str} {k:Nat} {sp:Sp} (F:Fun K x qual st f fd) (S:FnScope N ps (ao st)) (len:∀vs H Q E,sp vs H Q E→vs.length=ps.length)
  (hbody:∀(cdv:Value) (A:Around) (outer:List Env) (s:Shared) (H:Hp) (vs:List V) (Q:VK) (E:XK),Room k (A.deeper (envOfC qual (ao st) s.heap.objs.size f cdv))→sp vs H Q E →
   ∃t,PSs (Kv CX0 P w K mg base N qual (ao st) f cdv A outer s H E).nox (a8 st) t∧t {nx:=fun _ H'=>Q .non H',rt:=Q} (start N vs) H):FnOk P w K mg base CX0 (k+1) f fd ps sp:=by
 obtain⟨oc,od,kV,doc,pm,an,cdv,ct,osl,rfl,lk,hcd⟩:=F.ex
 refine S4 lk hcd S len fun A outer s H vs Q E hr hsp=>?_
 obtain⟨t,h,q⟩:=hbody cdv A outer s H vs Q E hr hsp
 exact⟨t,h.nox,q⟩
theorem P8 {x qual:Str} {st:Stmt} {f:Addr} {oc:Value} {od an:Option Addr} {osl:Array (Option Value)} {kV doc pm cdv ct:Value} (l:K.lookup f=some ⟨oc,od,.func (PySem.W.fnOf x qual (a9 st) (a8 st) (ao st) .none kV doc pm an cdv ct),osl⟩)
  (c:PySem.W.codeIn K cdv qual=true) (k:PySem.W.keepIn K (.ref f)=true):Fun K x qual st f (PySem.W.fnOf x qual (a9 st) (a8 st) (ao st) .none kV doc pm an cdv ct):=⟨⟨oc,od,kV,doc,pm,an,cdv,ct,osl,rfl,l,c⟩,k⟩
end
theorem yr {n:Nat} (h:n≤1000):n<sizeLine:=Nat.lt_of_le_of_lt h (by decide)
section
variable {X : Cx}
theorem pv (i:Nat) {x:Str} {pos:Pos} (hN:X.N[i]? = some x:=by rfl) (hv:Vis X.env.scope x:=by first | exact Or.inl rfl | exact Or.inr (Or.inl rfl) | exact Or.inr (Or.inr rfl)) (hd:(x==("__debug__":Str))=false:=by decide)
  (hcd:(x==("__classdict__":Str))=false:=by decide):PE X (.Name x pos) (Vo i):=uz hN hv hd hcd
end
end L2
namespace Lp
open PySem
inductive D where
 | non | bl (b:Bool) | int (i:Int) | str (x:Str)
 | tup (ds:List D) | lst (ds:List D) | loc (n:Nat)
 deriving Inhabited
noncomputable def D.pureN:Nat→D→Bool
 | 0,d=>match d with | .tup _=>false | .lst _=>false | .loc _=>false | _=>true
 | k+1,d=>match d with | .tup ds=>ds.all (D.pureN k) | .lst ds=>ds.all (D.pureN k) | .loc _=>false | _=>true
noncomputable abbrev D.pure (d:D):Bool:=D.pureN 8 d
inductive O where
 | l (ds:List D)
 | r (ds:List D)
 | d (kvs:List (D×D))
 | dt (kvs:List (D×D))
 | dead
 deriving Inhabited
noncomputable abbrev Sto:=List O
noncomputable abbrev Sl:=List (Option D)
inductive Res (α:Type) where
 | ok (a:α) (μ:Sto)
 | exc (c:Nat) (ds:List D) (μ:Sto)
 | stuck
namespace Res
variable {α β : Type}
noncomputable def bind (x:Res α) (f:α→Sto→Res β):Res β:=match x with
 | .ok a μ=>f a μ
 | .exc c ds μ=>.exc c ds μ
 | .stuck=>.stuck
@[simp] theorem bw (a:α) (μ:Sto) (f:α→Sto→Res β):(Res.ok a μ).bind f=f a μ:=rfl
@[simp] theorem R1 (c:Nat) (ds:List D) (μ:Sto) (f:α→Sto→Res β):(Res.exc c ds μ:Res α).bind f=.exc c ds μ:=rfl
@[simp] theorem O1 (f:α→Sto→Res β):(Res.stuck:Res α).bind f=.stuck:=rfl
theorem bind_assoc {γ:Type} (x:Res α) (f:α→Sto→Res β) (g:β→Sto→Res γ):(x.bind f).bind g=x.bind fun a μ=>(f a μ).bind g:=by
 cases x<;>rfl
end Res
inductive Mk where | z | l | r
 deriving DecidableEq,Inhabited
inductive Bt where
 | len | tuple | list | sum | min | min1 | max | all | any | sorted | sortedSet | int | listRev | listRange | tupleRange
 deriving DecidableEq,Inhabited
inductive Mt where
 | append | pop | extend | extendT | insert | remove | reverse | clear | count | countL | get
 deriving DecidableEq,Inhabited
inductive Cl where
 | int | bool | tuple | list | str | own (c:Nat)
 deriving DecidableEq,Inhabited
inductive Tg where
 | one (i:Nat) | many (is:List Nat)
 deriving DecidableEq,Inhabited
inductive Cp where
 | eq | ne | eqM | neM | lt | le | gt | ge | is | isnot | in_ | notin
 deriving DecidableEq,Inhabited
mutual
inductive Ex where
 | var (i:Nat)
 | frz (i:Nat)
 | cst (d:D)
 | bin (op:Operator) (m:Mk) (a b:Ex)
 | neg (a:Ex)
 | not (a:Ex)
 | and (a b:Ex)
 | or (a b:Ex)
 | ite (c a b:Ex)
 | cmp (a:Ex) (r:Cps)
 | call (keep:Bool) (f:Nat) (es:Exs)
 | blt (b:Bt) (m:Mk) (es:Exs)
 | isi (a:Ex) (c:Cl)
 | meth (mt:Mt) (o:Ex) (es:Exs)
 | ix (a b:Ex)
 | dix (a b:Ex)
 | sl (m:Mk) (a:Ex) (lo hi:ExO)
 | tup (es:Exs)
 | lst (m:Mk) (es:Exs)
 | dic (t:Bool) (es:Exs)
 | inT (neg:Bool) (es:Exs) (d:Ex)
 | comp (m:Mk) (cap:List Nat) (nl:Nat) (tg:Tg) (it:It) (cs:Exs) (elt:Ex)
inductive Exs where
 | nil
 | cons (e:Ex) (es:Exs)
inductive Cps where
 | nil
 | cons (op:Cp) (e:Ex) (r:Cps)
inductive ExO where
 | no
 | so (e:Ex)
inductive It where
 | seq (e:Ex)
 | rng (a:Ex)
 | rng2 (a b:Ex)
 | rng3 (a b c:Ex)
 | zip (a b:Ex)
 | enum (a:Ex)
 | rev (a:Ex)
 | vals (a:Ex)
end
mutual
inductive Sm where
 | set (i:Nat) (e:Ex)
 | unp (is:List Nat) (e:Ex)
 | setx (o i v:Ex)
 | augx (op:Operator) (o i v:Ex)
 | setxT (o:Ex) (i:Exs) (v:Ex)
 | ex (e:Ex)
 | ite (c:Ex) (a b:Sms)
 | loop (tg:Tg) (it:It) (b:Sms)
 | ret (e:Ex)
 | raise (c:Nat) (es:Exs)
 | pass | brk | cont
 | never
inductive Sms where
 | nil
 | cons (s:Sm) (r:Sms)
end
@[irreducible] def lim:Nat:=2 ^ 24
theorem K2:lim=2 ^ 24:=by with_unfolding_all rfl
theorem vy:1000000≤lim:=by rw[K2];decide
noncomputable def fg (μ:Sto):D→Option (List D)
 | .tup ds=>some ds
 | .lst ds=>some ds
 | .loc n=>match μ[n]? with
  | some (.l ds)=>some ds
  | some (.r ds)=>some ds
  | _=>none
 | _=>none
noncomputable def listOf (μ:Sto):D→Option (List D)
 | .lst ds=>some ds
 | .loc n=>match μ[n]? with
  | some (.l ds)=>some ds
  | some (.r ds)=>some ds
  | _=>none
 | _=>none
noncomputable def nz {α β:Type} (o:Option α) (k:α→Res β):Res β:=match o with
 | some a=>k a
 | none=>.stuck
@[simp] theorem Au {α β:Type} (a:α) (k:α→Res β):nz (some a) k=k a:=rfl
@[simp] theorem Mp {α β:Type} (k:α→Res β):nz none k=.stuck:=rfl
noncomputable def mkL (m:Mk) (ds:List D) (μ:Sto):Res D:=match m with
 | .z=>.ok (.lst ds) μ
 | .l=>if ds.all (D.pureN 8)=true then .ok (.loc μ.length) (μ++[.l ds])else .stuck
 | .r=>.ok (.loc μ.length) (μ++[.r ds])
mutual
noncomputable def deq:D→D→Bool
 | .non,.non=>true
 | .bl a,.bl b=>a==b
 | .int a,.int b=>decide (a=b)
 | .bl a,.int b=>decide ((if a then 1 else 0:Int)=b)
 | .int a,.bl b=>decide (a=(if b then 1 else 0:Int))
 | .str a,.str b=>decide (a=b)
 | .tup a,.tup b=>En a b
 | .lst a,.lst b=>En a b
 | _,_=>false
noncomputable def En:List D→List D→Bool
 | [],[]=>true
 | a::r,b::q=>deq a b&&En r q
 | _,_=>false
end
noncomputable def rs1 (μ:Sto):Nat→D→D
 | 0,d=>d
 | _,.loc n=>match μ[n]? with
  | some (.l ds)=>.lst ds
  | some (.r ds)=>.lst ds
  | _=>.loc n
 | k+1,.tup ds=>.tup (ds.map (rs1 μ k))
 | k+1,.lst ds=>.lst (ds.map (rs1 μ k))
 | _,d=>d
noncomputable def rs (μ:Sto) (d:D):D:=rs1 μ 8 (rs1 μ 8 (rs1 μ 8 d))
noncomputable def gc:List D→Option (List Int)
 | []=>some []
 | .int i::r=>(gc r).map (i::·)
 | _=>none
noncomputable def n3:List D→Option (List Bool)
 | []=>some []
 | .bl i::r=>(n3 r).map (i::·)
 | _=>none
noncomputable def lexLt:List Int→List Int→Bool
 | _,[]=>false
 | [],_::_=>true
 | x::xs,y::ys=>if x=y then lexLt xs ys else decide (x<y)
noncomputable def rowsOf:List D→Option (List (List Int))
 | []=>some []
 | .tup ds::r=>(gc ds).bind fun x=>(rowsOf r).map (x::·)
 | _=>none
noncomputable def ixN (n:Nat) (i:Int):Option Nat:=if 0≤i then(if i<n then some i.toNat else none)else if -(n:Int)≤i then some (i+n).toNat else none
noncomputable def sIx (n d:Nat):Option Int→Nat
 | none=>d
 | some v=>if v<0 then(v+(n:Int)).toNat else min v.toNat n
noncomputable def cut (ds:List D) (lo hi:Option Int):List D:=(ds.drop (sIx ds.length 0 lo)).take (sIx ds.length ds.length hi-sIx ds.length 0 lo)
noncomputable def CMul (i j:Int):Prop:=(-(2 ^ 64)<i∧i<2 ^ 64)∨(-(2 ^ 64)<j∧j<2 ^ 64)
instance (i j:Int):Decidable (CMul i j):=by unfold CMul;infer_instance
noncomputable def opI (op:Operator) (i j:Int) (μ:Sto):Res D:=match op with
 | .Add=>.ok (.int (i+j)) μ
 | .Sub=>.ok (.int (i-j)) μ
 | .Mult=>if CMul i j then .ok (.int (i*j)) μ else .stuck
 | .FloorDiv=>if 0<j∧j<1073741824 then .ok (.int (i / j)) μ else .stuck
 | .Mod=>if 0<j then .ok (.int (i % j)) μ else .stuck
 | .Pow=>if 0≤j∧j≤1000000∧i.natAbs<2 ^ 64 then .ok (.int (i ^ j.toNat)) μ else .stuck
 | .RShift=>if 0≤j then .ok (.int (i / 2 ^ j.toNat)) μ else .stuck
 | _=>.stuck
noncomputable def opD (op:Operator) (m:Mk) (a b:D) (μ:Sto):Res D:=match a,b with
 | .int i,.int j=>opI op i j μ
 | .tup xs,.tup ys=>match op with
  | .Add=>if xs.length+ys.length≤lim then .ok (.tup (xs++ys)) μ else .stuck
  | _=>.stuck
 | x,.int j=>match op,listOf μ x with
  | .Mult,some xs=>if xs.length*j.toNat≤lim ∧ -(2 ^ 63)≤j∧j<2 ^ 63 then mkL m (List.replicate j.toNat xs).flatten μ else .stuck
  | _,_=>.stuck
 | x,y=>match op,listOf μ x,listOf μ y with
  | .Add,some xs,some ys=>if xs.length+ys.length≤lim then mkL m (xs++ys) μ else .stuck
  | _,_,_=>.stuck
noncomputable def flat:D→Bool
 | .tup _=>false
 | .lst _=>false
 | .loc _=>false
 | _=>true
noncomputable def dy (μ:Sto) (x:D):Option (List D×Option (Nat×O)):=match x with
 | .tup ds=>some (ds,none)
 | .lst ds=>some (ds,none)
 | .loc n=>match μ[n]? with
  | some (.l ds)=>some (ds,some (n,.l ds))
  | some (.r ds)=>some (ds,some (n,.r ds))
  | _=>none
 | _=>none
noncomputable def Iy:D→Bool
 | .int _=>true
 | .str _=>true
 | _=>false
noncomputable def X0:D→Bool
 | .tup ds=>ds.all Iy
 | _=>false
noncomputable def Fh (k:D):List (D×D)→Option D
 | []=>none
 | (x,v)::r=>if deq x k then some v else Fh k r
noncomputable def dput (k v:D) (kvs:List (D×D)):List (D×D) :=
 if(kvs.any fun p=>deq p.1 k)=true then kvs.map (fun p=>if deq p.1 k=true then(p.1,v)else p)else kvs++[(k,v)]
noncomputable def dictAt (μ:Sto) (o k:D):Option (List (D×D)):=match o with
 | .loc n=>match μ[n]? with
  | some (.d kvs)=>if Iy k=true then some kvs else none
  | _=>none
 | _=>none
noncomputable def Mq (μ:Sto) (o:D) (ks:List D):Option (List (D×D)):=match o with
 | .loc n=>match μ[n]? with
  | some (.dt kvs)=>if ks.all Iy=true then some kvs else none
  | _=>none
 | _=>none
noncomputable def fw:List (Option D)→Option (List D)
 | []=>some []
 | none::_=>none
 | some d::r=>match fw r with
  | some ds=>some (d::ds)
  | none=>none
noncomputable def ck (μ:Sto):Nat→D→Option D
 | 0,d=>if flat d=true then some d else none
 | k+1,d=>match d with
  | .tup ds=>(fw (ds.map (ck μ k))).map .tup
  | .lst ds=>(fw (ds.map (ck μ k))).map .lst
  | .loc n=>match μ[n]? with
   | some (.l ds)=>(fw (ds.map (ck μ k))).map .lst
   | some (.r ds)=>(fw (ds.map (ck μ k))).map .lst
   | _=>none
  | d=>some d
noncomputable def cpD (op:Cp) (a b:D) (μ:Sto):Res D:=match op with
 | .eq=>if a.pure=true∧b.pure=true then .ok (.bl (deq a b)) μ else .stuck
 | .ne=>if a.pure=true∧b.pure=true then .ok (.bl (!deq a b)) μ else .stuck
 | .eqM=>match ck μ 8 a,ck μ 8 b with
  | some x,some y=>.ok (.bl (deq x y)) μ
  | _,_=>.stuck
 | .neM=>match ck μ 8 a,ck μ 8 b with
  | some x,some y=>.ok (.bl (!deq x y)) μ
  | _,_=>.stuck
 | .lt=>match a,b with
  | .int i,.int j=>.ok (.bl (decide (i<j))) μ
  | .tup x,.tup y=>match gc x,gc y with
   | some xs,some ys=>.ok (.bl (lexLt xs ys)) μ
   | _,_=>.stuck
  | _,_=>.stuck
 | .le=>match a,b with
  | .int i,.int j=>.ok (.bl (decide (i≤j))) μ
  | .tup x,.tup y=>match gc x,gc y with
   | some xs,some ys=>.ok (.bl (!lexLt ys xs)) μ
   | _,_=>.stuck
  | _,_=>.stuck
 | .gt=>match a,b with
  | .int i,.int j=>.ok (.bl (decide (j<i))) μ
  | _,_=>.stuck
 | .ge=>match a,b with
  | .int i,.int j=>.ok (.bl (decide (j≤i))) μ
  | .tup x,.tup y=>match gc x,gc y with
   | some xs,some ys=>.ok (.bl (!lexLt xs ys)) μ
   | _,_=>.stuck
  | _,_=>.stuck
 | .is=>match b with
  | .non=>.ok (.bl (match a with | .non=>true | _=>false)) μ
  | .bl k=>match a with
   | .bl j=>.ok (.bl (j==k)) μ
   | .non=>.ok (.bl false) μ
   | _=>.stuck
  | _=>.stuck
 | .isnot=>match b with
  | .non=>.ok (.bl (match a with | .non=>false | _=>true)) μ
  | .bl k=>match a with
   | .bl j=>.ok (.bl (!(j==k))) μ
   | .non=>.ok (.bl true) μ
   | _=>.stuck
  | _=>.stuck
 | .in_=>match fg μ b with
  | some ds=>if flat a=true∧ds.all flat=true then .ok (.bl (ds.any fun y=>deq y a)) μ else .stuck
  | none=>match dictAt μ b a with
   | some kvs=>.ok (.bl (Fh a kvs).isSome) μ
   | none=>.stuck
 | .notin=>match fg μ b with
  | some ds=>if flat a=true∧ds.all flat=true then .ok (.bl (!ds.any fun y=>deq y a)) μ else .stuck
  | none=>match dictAt μ b a with
   | some kvs=>.ok (.bl (!(Fh a kvs).isSome)) μ
   | none=>.stuck
noncomputable def insI (x:Int):List Int→List Int
 | []=>[x]
 | y::r=>if x≤y then x::y::r else y::insI x r
noncomputable def sortI:List Int→List Int
 | []=>[]
 | x::r=>insI x (sortI r)
noncomputable def Mr (x:List Int):List (List Int)→List (List Int)
 | []=>[x]
 | y::r=>if lexLt y x=true then y::Mr x r else x::y::r
noncomputable def uo:List (List Int)→List (List Int)
 | []=>[]
 | x::r=>Mr x (uo r)
noncomputable def Fi:Int→List Int→Int
 | x,[]=>x
 | x,y::r=>Fi (if y<x then y else x) r
noncomputable def u6 (f:D→Sto→Res D) (ds:List D) (μ:Sto):Res D:=match ds with
 | [x]=>f x μ
 | _=>.stuck
@[simp] theorem j5 (f:D→Sto→Res D) (x:D) (μ:Sto):u6 f [x] μ=f x μ:=rfl
noncomputable def seq1 (f:List D→Sto→Res D) (x:D) (μ:Sto):Res D:=match fg μ x with
 | some xs=>f xs μ
 | none=>.stuck
noncomputable def K3 (f:List Int→Sto→Res D) (x:D) (μ:Sto):Res D:=match(fg μ x).bind gc with
 | some ns=>f ns μ
 | none=>.stuck
noncomputable def Dr (f:List Bool→Sto→Res D) (x:D) (μ:Sto):Res D:=match(fg μ x).bind n3 with
 | some ns=>f ns μ
 | none=>.stuck
noncomputable def vz (m:Mk) (x:D) (μ:Sto):Res D:=match listOf μ x with
 | some xs=>mkL m xs.reverse μ
 | none=>.stuck
noncomputable def minD (ds:List D) (μ:Sto):Res D:=match ds with
 | [.int i,.int j]=>.ok (.int (if j<i then j else i)) μ
 | _=>.stuck
noncomputable def maxD (ds:List D) (μ:Sto):Res D:=match ds with
 | [.int i,.int j]=>.ok (.int (if j > i then j else i)) μ
 | _=>.stuck
noncomputable def Av (m:Mk) (xs:List D) (μ:Sto):Res D:=match rowsOf xs with
 | some rs=>if rs.all (fun r=>!r.isEmpty)=true then mkL m ((uo rs).map fun r=>.tup (r.map .int)) μ else .stuck
 | none=>.stuck
noncomputable def B5 (ns:List Int):List Int:=ns.foldl (fun σ k=>if σ.any (·==k)then σ else σ++[k]) []
noncomputable def K4 (m:Mk):D→Sto→Res D:=K3 fun ns μ=>if ns.length<64 then mkL m ((sortI (B5 ns)).map .int) μ else .stuck
noncomputable def Fj (m:Mk) (x:D) (μ:Sto):Res D:=match listOf μ x with
 | some xs=>if xs.length<64 then Av m xs μ else .stuck
 | none=>.stuck
noncomputable def P9:D→Sto→Res D:=K3 fun ns μ=>match ns with
 | n::r=>.ok (.int (Fi n r)) μ
 | []=>.stuck
noncomputable def Qa (x:D) (μ:Sto):Res D:=match x with
 | .bl b=>.ok (.int (if b then 1 else 0)) μ
 | .int i=>.ok (.int i) μ
 | _=>.stuck
noncomputable def K5 (f:List D→Sto→Res D) (x:D) (μ:Sto):Res D:=match x with
 | .int j=>if -(lim:Int)≤j∧j≤lim then f ((List.range j.toNat).map fun(i:Nat)=>D.int i) μ else .stuck
 | _=>.stuck
noncomputable def btD (b:Bt) (m:Mk) (ds:List D) (μ:Sto):Res D:=match b with
 | .len=>u6 (seq1 fun xs μ=>.ok (.int xs.length) μ) ds μ
 | .tuple=>u6 (seq1 fun xs μ=>.ok (.tup xs) μ) ds μ
 | .list=>u6 (seq1 fun xs μ=>mkL m xs μ) ds μ
 | .listRev=>u6 (vz m) ds μ
 | .sum=>u6 (K3 fun ns μ=>.ok (.int ns.sum) μ) ds μ
 | .min=>minD ds μ
 | .max=>maxD ds μ
 | .all=>u6 (Dr fun bs μ=>.ok (.bl (bs.all id)) μ) ds μ
 | .any=>u6 (Dr fun bs μ=>.ok (.bl (bs.any id)) μ) ds μ
 | .sorted=>u6 (Fj m) ds μ
 | .min1=>u6 P9 ds μ
 | .sortedSet=>u6 (K4 m) ds μ
 | .int=>u6 Qa ds μ
 | .listRange=>u6 (K5 fun xs μ=>mkL m xs μ) ds μ
 | .tupleRange=>u6 (K5 fun xs μ=>.ok (.tup xs) μ) ds μ
noncomputable def K6 (c:Cl) (d:D) (μ:Sto):Res D:=match d,c with
 | .int _,.int=>.ok (.bl true) μ
 | .bl _,.int=>.ok (.bl true) μ
 | .bl _,.bool=>.ok (.bl true) μ
 | .tup _,.tuple=>.ok (.bl true) μ
 | .lst _,.list=>.ok (.bl true) μ
 | .str _,.str=>.ok (.bl true) μ
 | .loc n,.list=>match μ[n]? with
  | some (.l _)=>.ok (.bl true) μ
  | some (.r _)=>.ok (.bl true) μ
  | _=>.stuck
 | .loc _,_=>.stuck
 | _,.own _=>.stuck
 | _,_=>.ok (.bl false) μ
noncomputable def putL (n:Nat) (o:O) (ds:List D) (d:D) (μ:Sto):Res D:=match o with
 | .l _=>.ok d (μ.set n (.l ds))
 | .r _=>.ok d (μ.set n (.r ds))
 | _=>.stuck
noncomputable def fits (o:O) (d:D):Bool:=match o with
 | .l _=>d.pure
 | .r _=>true
 | _=>false
noncomputable def ma:O→Option (List D)
 | .l ds=>some ds
 | .r ds=>some ds
 | _=>none
noncomputable def mtL (mt:Mt) (n:Nat) (ob:O) (xs:List D) (ds:List D) (μ:Sto):Res D:=match mt with
 | .append=>u6 (fun d μ=>if fits ob d=true∧xs.length<lim then putL n ob (xs++[d]) .non μ else .stuck) ds μ
 | .pop=>match ds with
  | []=>match xs.getLast? with
   | some d=>putL n ob xs.dropLast d μ
   | none=>.stuck
  | [.int i]=>if 0≤i∧i<lim then(match xs[i.toNat]? with
   | some d=>putL n ob (xs.eraseIdx i.toNat) d μ
   | none=>.stuck)else .stuck
  | _=>.stuck
 | .extend=>u6 (fun y μ=>match listOf μ y with
  | some ys=>if ys.all (fits ob)=true∧xs.length+ys.length≤lim then putL n ob (xs++ys) .non μ else .stuck
  | none=>.stuck) ds μ
 | .extendT=>u6 (fun y μ=>match y with
  | .tup ys=>if ys.all (fits ob)=true∧xs.length+ys.length≤lim then putL n ob (xs++ys) .non μ else .stuck
  | _=>.stuck) ds μ
 | .reverse=>match ds with
  | []=>putL n ob xs.reverse .non μ
  | _=>.stuck
 | .clear=>match ds with
  | []=>putL n ob [] .non μ
  | _=>.stuck
 | _=>.stuck
noncomputable def Vw (xs ds:List D) (μ:Sto):Res D:=u6 (fun x μ=>if flat x=true∧xs.all flat=true then .ok (.int (xs.countP fun y=>deq y x)) μ else .stuck) ds μ
noncomputable def X3 (o:D) (ds:List D) (μ:Sto):Res D:=match o with
 | .tup xs=>Vw xs ds μ
 | _=>.stuck
noncomputable def X4 (o:D) (ds:List D) (μ:Sto):Res D:=match listOf μ o with
 | some xs=>Vw xs ds μ
 | none=>.stuck
noncomputable def jr (mt:Mt) (x:D) (μ:Sto):Bool:=match mt with
 | .get=>match x with
  | .loc n=>match μ[n]? with
   | some (.d _)=>true
   | _=>false
  | _=>false
 | .count=>match x with
  | .tup _=>true
  | _=>false
 | _=>(listOf μ x).isSome
noncomputable def Ms (o:D) (ds:List D) (μ:Sto):Res D:=match ds with
 | [k,x]=>match dictAt μ o k with
  | some kvs=>.ok ((Fh k kvs).getD x) μ
  | none=>.stuck
 | _=>.stuck
noncomputable def Aw (mt:Mt) (o:D) (ds:List D) (μ:Sto):Res D:=match o with
 | .loc n=>match μ[n]? with
  | none=>.stuck
  | some ob=>match ma ob with
   | none=>.stuck
   | some xs=>mtL mt n ob xs ds μ
 | _=>.stuck
noncomputable def mtD (mt:Mt) (o:D) (ds:List D) (μ:Sto):Res D:=match mt with
 | .count=>X3 o ds μ
 | .countL=>X4 o ds μ
 | .get=>Ms o ds μ
 | mt=>Aw mt o ds μ
noncomputable def Tc (a:D) (ks:List D) (v:D) (μ:Sto):Res Unit:=match a with
 | .loc n=>match μ[n]? with
  | some (.dt kvs)=>if ks.all Iy=true∧v.pure=true∧kvs.length<lim then .ok () (μ.set n (.dt (dput (.tup ks) v kvs)))else .stuck
  | _=>.stuck
 | _=>.stuck
noncomputable def X5 (neg:Bool) (ks:List D) (a:D) (μ:Sto):Res D:=match Mq μ a ks with
 | some kvs=>.ok (.bl (neg ^^ (Fh (.tup ks) kvs).isSome)) μ
 | none=>.stuck
noncomputable def ixD (a b:D) (μ:Sto):Res D:=match b with
 | .int i=>match fg μ a with
  | some xs=>match ixN xs.length i with
   | some j=>match xs[j]? with
    | some d=>.ok d μ
    | none=>.stuck
   | none=>.stuck
  | none=>.stuck
 | _=>.stuck
noncomputable def ixL (a b:D) (μ:Sto):Res D:=match a with
 | .loc n=>ixD (.loc n) b μ
 | _=>.stuck
noncomputable def Td (a b:D) (μ:Sto):Res D:=match dictAt μ a b with
 | some kvs=>match Fh b kvs with
  | some v=>.ok v μ
  | none=>.stuck
 | none=>.stuck
noncomputable def Vx (op:Operator) (a b:D) (μ:Sto):Res D:=match a,b with
 | .int i,.int j=>match op with
  | .Add=>.ok (.int (i+j)) μ
  | .Sub=>.ok (.int (i-j)) μ
  | _=>.stuck
 | _,_=>.stuck
noncomputable def slD (m:Mk) (a:D) (lo hi:Option Int) (μ:Sto):Res D:=match a with
 | .tup xs=>.ok (.tup (cut xs lo hi)) μ
 | x=>match listOf μ x with
  | some xs=>mkL m (cut xs lo hi) μ
  | none=>.stuck
noncomputable def Ds (a b v:D) (μ:Sto):Res Unit:=match a with
 | .loc n=>match μ[n]? with
  | none=>.stuck
  | some (.d kvs)=>if Iy b=true∧v.pure=true∧kvs.length<lim then .ok () (μ.set n (.d (dput b v kvs)))else .stuck
  | some ob=>match ma ob,b with
   | some xs,.int i=>match ixN xs.length i with
    | some j=>if fits ob v=true then(putL n ob (xs.set j v) .non μ).bind fun _ μ=>.ok () μ else .stuck
    | none=>.stuck
   | _,_=>.stuck
 | _=>.stuck
noncomputable def gk (tg:Tg) (d:D) (σ:Sl):Option Sl:=match tg with
 | .one i=>some (σ.set i (some d))
 | .many is=>match d with
  | .tup ds=>if ds.length=is.length then some ((is.zip ds).foldl (fun s p=>s.set p.1 (some p.2)) σ)else none
  | _=>none
noncomputable abbrev Gd:=Option (Nat×O)
noncomputable def gd (g:Gd) (μ:Sto):Prop:=match g with
 | none=>True
 | some (n,o)=>μ[n]? = some o
@[simp] theorem sj (μ:Sto):gd none μ=True:=rfl
open Classical in
noncomputable def mapR (g:Gd) (f:D→Sto→Res (List D)):List D→Sto→Res (List D)
 | [],μ=>if gd g μ then .ok [] μ else .stuck
 | d::ds,μ=>if gd g μ then(f d μ).bind fun xs μ1=>(mapR g f ds μ1).bind fun ys μ2=>.ok (xs++ys) μ2 else .stuck
inductive Fl where
 | nx (σ:Sl) | rt (d:D) | bk (σ:Sl) | ct (σ:Sl)
open Classical in
noncomputable def jt (g:Gd) (f:D→Sl→Sto→Res Fl):List D→Sl→Sto→Res Fl
 | [],σ,μ=>if gd g μ then .ok (.nx σ) μ else .stuck
 | d::ds,σ,μ=>if gd g μ then(f d σ μ).bind fun fl μ1=>match fl with
  | .nx σ1=>jt g f ds σ1 μ1
  | .ct σ1=>jt g f ds σ1 μ1
  | .bk σ1=>.ok (.nx σ1) μ1
  | .rt v=>.ok (.rt v) μ1 else .stuck
noncomputable def K7 (t:Bool) (ds:List D) (μ:Sto):Res D:=match ds with
 | []=>.ok (.loc μ.length) (μ++[if t then .dt []else .d []])
 | [.int a,x]=>if t=false∧x.pure=true then .ok (.loc μ.length) (μ++[.d [(.int a,x)]])else .stuck
 | [.int a,x,.int b,y]=>if t=false∧x.pure=true∧y.pure=true then .ok (.loc μ.length) (μ++[.d (dput (.int b) y [(.int a,x)])])else .stuck
 | _=>.stuck
noncomputable abbrev Phi:=Nat→List D→Sto→Res D
noncomputable def D.belowN (b:Nat):Nat→D→Bool
 | 0,d=>match d with | .tup _=>false | .lst _=>false | .loc n=>decide (n<b) | _=>true
 | k+1,d=>match d with | .tup ds=>ds.all (D.belowN b k) | .lst ds=>ds.all (D.belowN b k) | .loc n=>decide (n<b) | _=>true
noncomputable def ik (b:Nat):O→Bool
 | .r ds=>ds.all (D.belowN b 8)
 | _=>true
noncomputable def noR:O→Bool
 | .r _=>false
 | _=>true
noncomputable def rh (keep:Bool) (base:Nat) (r:Res D):Res D:=match r with
 | .ok d μ'=>if keep=true then .ok d μ' else if D.belowN base 8 d=true∧(μ'.take base).all (ik base)=true then .ok d (μ'.take base)else .stuck
 | x=>x
noncomputable def Vy (d:D) (μ:Sto):Res Bool:=match d with
 | .bl b=>.ok b μ
 | _=>.stuck
section
variable (φ : Phi)
mutual
noncomputable def evE:Ex→Sl→Sto→Res D
 | .var i,σ,μ=>match σ[i]? with
  | some (some d)=>.ok d μ
  | _=>.stuck
 | .frz i,σ,μ=>match σ[i]? with
  | some (some (.loc n))=>match μ[n]? with
   | some (.l ds)=>.ok (.lst ds) (μ.set n .dead)
   | some (.r ds)=>.ok (.lst ds) (μ.set n .dead)
   | _=>.stuck
  | _=>.stuck
 | .cst d,_,μ=>.ok d μ
 | .bin op m a b,σ,μ=>(evE a σ μ).bind fun x μ=>(evE b σ μ).bind fun y μ=>opD op m x y μ
 | .neg a,σ,μ=>(evE a σ μ).bind fun x μ=>match x with
  | .int i=>.ok (.int (-i)) μ
  | _=>.stuck
 | .not a,σ,μ=>(evE a σ μ).bind fun x μ=>match x with
  | .bl b=>.ok (.bl (!b)) μ
  | _=>.stuck
 | .and a b,σ,μ=>(evE a σ μ).bind fun x μ=>match x with
  | .bl c=>if c=true then evE b σ μ else .ok (.bl false) μ
  | _=>.stuck
 | .or a b,σ,μ=>(evE a σ μ).bind fun x μ=>match x with
  | .bl c=>if c=true then .ok (.bl true) μ else evE b σ μ
  | _=>.stuck
 | .ite c a b,σ,μ=>(evE c σ μ).bind fun x μ=>match x with
  | .bl c=>if c=true then evE a σ μ else evE b σ μ
  | _=>.stuck
 | .cmp a r,σ,μ=>(evE a σ μ).bind fun x μ=>evC r x σ μ
 | .call keep f es,σ,μ=>(i7 es σ μ).bind fun ds μ=>rh keep μ.length (φ f ds μ)
 | .blt b m es,σ,μ=>(i7 es σ μ).bind fun ds μ=>btD b m ds μ
 | .isi a c,σ,μ=>(evE a σ μ).bind fun x μ=>K6 c x μ
 | .meth mt o es,σ,μ=>(evE o σ μ).bind fun x μ=>if jr mt x μ=true then(i7 es σ μ).bind fun ds μ=>mtD mt x ds μ else .stuck
 | .ix a b,σ,μ=>(evE a σ μ).bind fun x μ=>(evE b σ μ).bind fun y μ=>ixD x y μ
 | .dix a b,σ,μ=>(evE a σ μ).bind fun x μ=>(evE b σ μ).bind fun y μ=>Td x y μ
 | .sl m a lo hi,σ,μ=>(evE a σ μ).bind fun x μ=>(evO lo σ μ).bind fun l μ=>(evO hi σ μ).bind fun h μ=>slD m x l h μ
 | .tup es,σ,μ=>(i7 es σ μ).bind fun ds μ=>.ok (.tup ds) μ
 | .lst m es,σ,μ=>(i7 es σ μ).bind fun ds μ=>mkL m ds μ
 | .dic t es,σ,μ=>(i7 es σ μ).bind fun ds μ=>K7 t ds μ
 | .inT neg es d,σ,μ=>(i7 es σ μ).bind fun ds μ=>(evE d σ μ).bind fun x μ=>X5 neg ds x μ
 | .comp m cap nl tg it cs elt,σ,μ=>(evI it σ μ).bind fun ds μ =>
   (mapR ds.2 (fun d μ=>nz (gk tg d (cap.map (fun i=>(σ[i]?).getD none)++List.replicate nl none)) fun σ' =>
    (Dt cs σ' μ).bind fun b μ=>if b=true then(evE elt σ' μ).bind fun x μ=>.ok [x] μ else .ok [] μ) ds.1 μ).bind fun xs μ=>mkL m xs μ
noncomputable def i7:Exs→Sl→Sto→Res (List D)
 | .nil,_,μ=>.ok [] μ
 | .cons e es,σ,μ=>(evE e σ μ).bind fun d μ=>(i7 es σ μ).bind fun ds μ=>.ok (d::ds) μ
noncomputable def evC:Cps→D→Sl→Sto→Res D
 | .nil,_,_,_=>.stuck
 | .cons op e r,x,σ,μ=>(evE e σ μ).bind fun y μ=>(cpD op x y μ).bind fun z μ=>match r with
  | .nil=>.ok z μ
  | r=>match z with
   | .bl b=>if b=true then evC r y σ μ else .ok (.bl false) μ
   | _=>.stuck
noncomputable def evO:ExO→Sl→Sto→Res (Option Int)
 | .no,_,μ=>.ok none μ
 | .so e,σ,μ=>(evE e σ μ).bind fun x μ=>match x with
  | .int i=>.ok (some i) μ
  | _=>.stuck
noncomputable def Dt:Exs→Sl→Sto→Res Bool
 | .nil,_,μ=>.ok true μ
 | .cons e es,σ,μ=>(evE e σ μ).bind fun x μ=>match x with
  | .bl b=>if b=true then Dt es σ μ else .ok false μ
  | _=>.stuck
noncomputable def evI:It→Sl→Sto→Res (List D×Gd)
 | .seq e,σ,μ=>(evE e σ μ).bind fun x μ=>match dy μ x with
  | some w=>.ok w μ
  | none=>.stuck
 | .rng a,σ,μ=>(evE a σ μ).bind fun x μ=>match x with
  | .int j=>if -(lim:Int)≤j∧j≤lim then .ok ((List.range j.toNat).map fun(i:Nat)=>D.int i,none) μ else .stuck
  | _=>.stuck
 | .rng2 a b,σ,μ=>(evE a σ μ).bind fun x μ=>(evE b σ μ).bind fun y μ=>match x,y with
  | .int i,.int j=>if -(lim:Int)≤i∧i≤lim∧j≤lim ∧ -(lim:Int)≤j∧(j-i)≤lim then .ok ((List.range (j-i).toNat).map fun(k:Nat)=>D.int (i+k),none) μ else .stuck
  | _,_=>.stuck
 | .rng3 a b c,σ,μ=>(evE a σ μ).bind fun x μ=>(evE b σ μ).bind fun y μ=>(evE c σ μ).bind fun z μ=>match x,y,z with
  | .int i,.int j,.int k=>if 0≤i∧i≤lim∧j≤lim∧0≤j∧1≤k∧k≤1000 then .ok ((List.range (if i<j then((j-i-1) / k+1).toNat else 0)).map fun(n:Nat)=>D.int (i+n*k),none) μ else .stuck
  | _,_,_=>.stuck
 | .zip a b,σ,μ=>(evE a σ μ).bind fun x μ=>(evE b σ μ).bind fun y μ=>match dy μ x,fg [] y with
  | some w,some ys=>.ok ((w.1.zip ys).map fun p=>.tup [p.1,p.2],w.2) μ
  | _,_=>.stuck
 | .enum a,σ,μ=>(evE a σ μ).bind fun x μ=>match dy μ x with
  | some w=>.ok ((List.range w.1.length |>.zip w.1).map fun(p:Nat×D)=>.tup [.int p.1,p.2],w.2) μ
  | none=>.stuck
 | .rev _,_,_=>.stuck
 | .vals a,σ,μ=>(evE a σ μ).bind fun x μ=>match x with
  | .loc n=>match μ[n]? with
   | some (.d kvs)=>.ok (kvs.map (·.2),none) (μ.set n .dead)
   | _=>.stuck
  | _=>.stuck
end
mutual
noncomputable def evS:Sm→Sl→Sto→Res Fl
 | .set i e,σ,μ=>(evE φ e σ μ).bind fun d μ=>.ok (.nx (σ.set i (some d))) μ
 | .unp is e,σ,μ=>(evE φ e σ μ).bind fun d μ=>match gk (.many is) d σ with
  | some σ'=>.ok (.nx σ') μ
  | none=>.stuck
 | .setx o i v,σ,μ=>(evE φ v σ μ).bind fun d μ=>(evE φ o σ μ).bind fun x μ=>(evE φ i σ μ).bind fun y μ=>(Ds x y d μ).bind fun _ μ=>.ok (.nx σ) μ
 | .augx op o i v,σ,μ=>(evE φ o σ μ).bind fun x μ=>(evE φ i σ μ).bind fun y μ=>(ixL x y μ).bind fun old μ=>(evE φ v σ μ).bind fun d μ=>(Vx op old d μ).bind fun z μ=>(Ds x y z μ).bind fun _ μ=>.ok (.nx σ) μ
 | .setxT o i v,σ,μ=>(evE φ v σ μ).bind fun d μ=>(evE φ o σ μ).bind fun x μ=>(i7 φ i σ μ).bind fun y μ=>(Tc x y d μ).bind fun _ μ=>.ok (.nx σ) μ
 | .ex e,σ,μ=>(evE φ e σ μ).bind fun _ μ=>.ok (.nx σ) μ
 | .ite c a b,σ,μ=>(evE φ c σ μ).bind fun x μ=>match x with
  | .bl k=>if k=true then p8 a σ μ else p8 b σ μ
  | _=>.stuck
 | .loop tg it b,σ,μ=>(evI φ it σ μ).bind fun ds μ=>jt ds.2 (fun d σ μ=>nz (gk tg d σ) fun σ'=>p8 b σ' μ) ds.1 σ μ
 | .ret e,σ,μ=>(evE φ e σ μ).bind fun d μ=>.ok (.rt d) μ
 | .raise c es,σ,μ=>(i7 φ es σ μ).bind fun ds μ=>.exc c ds μ
 | .pass,σ,μ=>.ok (.nx σ) μ
 | .brk,σ,μ=>.ok (.bk σ) μ
 | .cont,σ,μ=>.ok (.ct σ) μ
 | .never,_,_=>.stuck
noncomputable def p8:Sms→Sl→Sto→Res Fl
 | .nil,σ,μ=>.ok (.nx σ) μ
 | .cons s r,σ,μ=>(evS s σ μ).bind fun fl μ=>match fl with
  | .nx σ'=>p8 r σ' μ
  | fl=>.ok fl μ
end
end
structure Df where
 np:Nat
 nn:Nat
 body:Sms
noncomputable def O2 (φ:Phi) (f:Df) (ds:List D) (μ:Sto):Res D :=
 if ds.length=f.np then(p8 φ f.body (ds.map some++List.replicate (f.nn-f.np) none) μ).bind fun fl μ=>match fl with
  | .nx _=>.ok .non μ
  | .rt d=>.ok d μ
  | _=>.stuck
 else .stuck
noncomputable def ak (T:List Df):Nat→Phi
 | 0=>fun _ _ _=>.stuck
 | n+1=>fun f ds μ=>match T[f]? with
  | some d=>O2 (ak T n) d ds μ
  | none=>.stuck
end Lp
set_option maxHeartbeats 4000000
namespace Lp
open PySem PySem.Spec PyProof.Rows L2
noncomputable abbrev St:=L2.St
theorem _root_.L2.FzL.sq {K:PySem.W.Frag} {H:Hp} {a:Addr} {xs:List V} (h:FzL K H a xs):SqL K H a xs:=by
 rcases h with⟨o,h⟩ | ⟨its,n,h,hz,hv⟩
 ·exact .inl (.inr ⟨o,h⟩)
 ·exact .inr ⟨_,its.toArray,n,h,rfl,rfl,rfl,by rw[AE,←hv.length];exact hz,by simpa using hv⟩
noncomputable def LsL (K:PySem.W.Frag) (H:Hp) (a:Addr) (xs:List V):Prop:=H a=some (.lst xs)∨FzL K H a xs
theorem LsL.sq {K:PySem.W.Frag} {H:Hp} {a:Addr} {xs:List V} (h:LsL K H a xs):SqL K H a xs:=by
 rcases h with h | h
 ·exact .of h
 ·exact h.sq
theorem _root_.L2.Inv.ls {X:Cx} {pins:List (Addr×Obj)} {σ:St} {H:Hp} {s:Shared} {a:Addr} {xs:List V} (I:Inv X pins σ H s) (h:LsL X.K H a xs) :
  xs.length≤sizeLine∧∃(its:List Value) (n:Nat),cz xs its∧xs.length=its.length∧s.heap.get? a=some {cls:=.type "list",data:=.seq its.toArray n}:=by
 rcases h with h | ⟨o,h⟩ | ⟨its,n,h,hz,hv⟩
 ·obtain⟨z,its,n,hv,e⟩:=I.hok a _ h
  exact⟨z,its,n,hv,hv.length,e⟩
 ·obtain⟨_,z,its,n,hv,e⟩:=I.hok a _ h
  exact⟨z,its,n,hv,hv.length,e⟩
 ·exact⟨hz,its,n,hv,hv.length,I.kIn a _ h⟩
structure Ext (H H':Hp):Prop where
 tups:∀b xs,H b=some (.tup xs)→H' b=some (.tup xs)
 frzs:∀b o u,H b=some (.frz o u)→H' b=some (.frz o u)
theorem Ext.refl (H:Hp):Ext H H:=⟨fun _ _ h=>h,fun _ _ _ h=>h⟩
theorem Ext.trans {H H1 H2:Hp} (a:Ext H H1) (b:Ext H1 H2):Ext H H2:=⟨fun c xs h=>b.tups c xs (a.tups c xs h),fun c o u h=>b.frzs c o u (a.frzs c o u h)⟩
theorem Ext.new {H:Hp} {p:Addr} {o:HO} (h:H p=none):Ext H (upd H p o) :=
 ⟨fun b xs e=>by rw[a7 (c8 e h)];exact e,fun b o u e=>by rw[a7 (c8 e h)];exact e⟩
theorem Ext.lst {H:Hp} {p:Addr} {xs:List V} {o:HO} (h:H p=some (.lst xs)):Ext H (upd H p o) :=
 ⟨fun b ys e=>by rw[a7 (n9 e h (by intro z;cases z))];exact e,fun b o u e=>by rw[a7 (n9 e h (by intro z;cases z))];exact e⟩
theorem Ext.dK {H:Hp} {p:Addr} {xs:List (Key×V)} {o:HO} (h:H p=some (.dK xs)):Ext H (upd H p o) :=
 ⟨fun b ys e=>by rw[a7 (n9 e h (by intro z;cases z))];exact e,fun b o u e=>by rw[a7 (n9 e h (by intro z;cases z))];exact e⟩
theorem _root_.L2.SqT.ext {K:PySem.W.Frag} {H H':Hp} {a:Addr} {xs:List V} (h:SqT K H a xs) (e:Ext H H'):SqT K H' a xs:=by
 rcases h with(h | ⟨o,h⟩) | h
 ·exact .inl (.inl (e.tups _ _ h))
 ·exact .inl (.inr ⟨o,e.frzs _ _ _ h⟩)
 ·exact .inr h
theorem _root_.L2.FzL.ext {K:PySem.W.Frag} {H H':Hp} {a:Addr} {xs:List V} (h:FzL K H a xs) (e:Ext H H'):FzL K H' a xs:=by
 rcases h with⟨o,h⟩ | h
 ·exact .inl ⟨o,e.frzs _ _ _ h⟩
 ·exact .inr h
section
variable (K : PySem.W.Frag) (ι : List Addr) (H : Hp)
mutual
noncomputable def IsD:D→V→Prop
 | .non,v=>v=.non
 | .bl b,v=>v=.bl b
 | .int i,v=>v=.int i
 | .str x,v=>v=.str x
 | .tup ds,v=>∃a xs,v=.ref a∧SqT K H a xs∧aq ds xs
 | .lst ds,v=>∃a xs,v=.ref a∧FzL K H a xs∧aq ds xs
 | .loc n,v=>∃a,v=.ref a∧ι[n]? = some a
noncomputable def aq:List D→List V→Prop
 | [],xs=>xs=[]
 | d::ds,xs=>∃v r,xs=v::r∧IsD d v∧aq ds r
end
end
section
variable {K : PySem.W.Frag} {ι ι' : List Addr} {H H' : Hp}
mutual
theorem IsD.mono (hp:ι <+: ι') (he:Ext H H'):∀(d:D) (v:V),IsD K ι H d v→IsD K ι' H' d v
 | .non,_,h=>by simpa[IsD]using h
 | .bl b,_,h=>by simpa[IsD]using h
 | .int i,_,h=>by simpa[IsD]using h
 | .str x,_,h=>by simpa[IsD]using h
 | .tup ds,v,h=>by
  simp only[IsD]at h ⊢
  obtain⟨a,xs,e,q,r⟩:=h
  exact⟨a,xs,e,q.ext he,aq.mono hp he ds xs r⟩
 | .lst ds,v,h=>by
  simp only[IsD]at h ⊢
  obtain⟨a,xs,e,q,r⟩:=h
  exact⟨a,xs,e,q.ext he,aq.mono hp he ds xs r⟩
 | .loc n,v,h=>by
  simp only[IsD]at h ⊢
  obtain⟨a,e,q⟩:=h
  obtain⟨t,rfl⟩:=hp
  exact⟨a,e,by rw[AX (AL.mp q).1];exact q⟩
theorem aq.mono (hp:ι <+: ι') (he:Ext H H'):∀(ds:List D) (xs:List V),aq K ι H ds xs→aq K ι' H' ds xs
 | [],xs,h=>by simpa[aq]using h
 | d::ds,xs,h=>by
  simp only[aq]at h ⊢
  obtain⟨v,r,e,q,t⟩:=h
  exact⟨v,r,e,IsD.mono hp he d v q,aq.mono hp he ds r t⟩
end
theorem aq.length:∀{ds:List D} {xs:List V},aq K ι H ds xs→xs.length=ds.length
 | [],xs,h=>by simp only[aq]at h;subst h;rfl
 | d::ds,xs,h=>by
  simp only[aq]at h
  obtain⟨v,r,rfl,_,t⟩:=h
  simp[aq.length t]
theorem aq.get:∀{ds:List D} {xs:List V} {i:Nat} {d:D},aq K ι H ds xs→ds[i]? = some d→∃v,xs[i]? = some v∧IsD K ι H d v
 | [],_,_,_,_,e=>by simp at e
 | d::ds,xs,0,_,h,e=>by
  simp only[aq]at h
  obtain⟨v,r,rfl,q,_⟩:=h
  simp at e;subst e
  exact⟨v,rfl,q⟩
 | d::ds,xs,i+1,x,h,e=>by
  simp only[aq]at h
  obtain⟨v,r,rfl,_,t⟩:=h
  obtain⟨w,h1,h2⟩:=aq.get (i:=i) (d:=x) t (by simpa using e)
  exact⟨w,by simpa using h1,h2⟩
theorem aq.append:∀{ds es:List D} {xs ys:List V},aq K ι H ds xs→aq K ι H es ys→aq K ι H (ds++es) (xs++ys)
 | [],_,_,_,h,g=>by simp only[aq]at h;subst h;exact g
 | d::ds,es,xs,ys,h,g=>by
  simp only[aq]at h
  obtain⟨v,r,rfl,q,t⟩:=h
  simp only[IB,aq]
  exact⟨v,r++ys,rfl,q,aq.append t g⟩
theorem aq.one {d:D} {v:V} (h:IsD K ι H d v):aq K ι H [d] [v]:=by
 simp only[aq];exact⟨v,[],rfl,h,rfl⟩
theorem aq.take:∀{ds:List D} {xs:List V} (n:Nat),aq K ι H ds xs→aq K ι H (ds.take n) (xs.take n)
 | _,_,0,_=>by simp[aq]
 | [],_,n+1,h=>by simp only[aq]at h;subst h;simp[aq]
 | d::ds,xs,n+1,h=>by
  simp only[aq]at h
  obtain⟨v,r,rfl,q,t⟩:=h
  simp only[List.take_succ_cons,aq]
  exact⟨v,_,rfl,q,aq.take n t⟩
theorem aq.drop:∀{ds:List D} {xs:List V} (n:Nat),aq K ι H ds xs→aq K ι H (ds.drop n) (xs.drop n)
 | _,_,0,h=>by simpa using h
 | [],_,n+1,h=>by simp only[aq]at h;subst h;simp[aq]
 | d::ds,xs,n+1,h=>by
  simp only[aq]at h
  obtain⟨v,r,rfl,q,t⟩:=h
  simpa using aq.drop n t
theorem aq.set {d:D} {v:V} (hd:IsD K ι H d v):∀{ds:List D} {xs:List V} (n:Nat),aq K ι H ds xs→aq K ι H (ds.set n d) (xs.set n v)
 | [],_,n,h=>by simp only[aq]at h;subst h;simp[aq]
 | e::ds,xs,0,h=>by
  simp only[aq]at h
  obtain⟨w,r,rfl,q,t⟩:=h
  simp only[List.set_cons_zero,aq]
  exact⟨v,r,rfl,hd,t⟩
 | e::ds,xs,n+1,h=>by
  simp only[aq]at h
  obtain⟨w,r,rfl,q,t⟩:=h
  simp only[List.set_cons_succ,aq]
  exact⟨w,_,rfl,q,aq.set hd n t⟩
theorem aq.eraseIdx:∀{ds:List D} {xs:List V} (n:Nat),aq K ι H ds xs→aq K ι H (ds.eraseIdx n) (xs.eraseIdx n)
 | [],_,n,h=>by simp only[aq]at h;subst h;simp[aq]
 | e::ds,xs,0,h=>by
  simp only[aq]at h
  obtain⟨w,r,rfl,q,t⟩:=h
  simpa using t
 | e::ds,xs,n+1,h=>by
  simp only[aq]at h
  obtain⟨w,r,rfl,q,t⟩:=h
  simp only[If,aq]
  exact⟨w,_,rfl,q,aq.eraseIdx n t⟩
theorem aq.reverse:∀{ds:List D} {xs:List V},aq K ι H ds xs→aq K ι H ds.reverse xs.reverse
 | [],_,h=>by simp only[aq]at h;subst h;simp[aq]
 | e::ds,xs,h=>by
  simp only[aq]at h
  obtain⟨w,r,rfl,q,t⟩:=h
  simp only[HG]
  exact(aq.reverse t).append (.one q)
theorem aq.dropLast {ds:List D} {xs:List V} (h:aq K ι H ds xs):aq K ι H ds.dropLast xs.dropLast:=by
 rw[IL,IL,h.length]
 exact h.take _
theorem aq.rep {ds:List D} {xs:List V} (h:aq K ι H ds xs):∀k:Nat,aq K ι H (List.replicate k ds).flatten (List.replicate k xs).flatten
 | 0=>by simp[aq]
 | k+1=>by
  simp only[DJ,ER]
  exact h.append (aq.rep h k)
theorem aq.ints:∀(ns:List Int),aq K ι H (ns.map D.int) (ns.map V.int)
 | []=>by simp[aq]
 | n::r=>by
  simp only[AT,aq]
  exact⟨_,_,rfl,by simp[IsD],aq.ints r⟩
theorem IsD.puren:∀(k:Nat) (d:D) (v:V),D.pureN k d=true→IsD K ι H d v→IsD K ι' H d v:=by
 have list:∀(k:Nat),(∀(d:D) (v:V),D.pureN k d=true→IsD K ι H d v→IsD K ι' H d v) →
   ∀(ds:List D) (xs:List V),ds.all (D.pureN k)=true→aq K ι H ds xs→aq K ι' H ds xs:=by
  intro k ih ds
  induction ds with
  | nil=>intro xs _ h;simpa[aq]using h
  | cons d ds ihd =>
   intro xs hp h
   simp only[aq]at h ⊢
   simp only[BC,AZ]at hp
   obtain⟨v,r,e,q,t⟩:=h
   exact⟨v,r,e,ih d v hp.1 q,ihd r hp.2 t⟩
 intro k
 induction k with
 | zero =>
  intro d v hp h
  cases d<;>simp_all[D.pureN,IsD]
 | succ k ih =>
  intro d v hp h
  cases d with
  | tup ds =>
   simp only[D.pureN]at hp
   simp only[IsD]at h ⊢
   obtain⟨a,xs,e,q,r⟩:=h
   exact⟨a,xs,e,q,list k ih ds xs hp r⟩
  | lst ds =>
   simp only[D.pureN]at hp
   simp only[IsD]at h ⊢
   obtain⟨a,xs,e,q,r⟩:=h
   exact⟨a,xs,e,q,list k ih ds xs hp r⟩
  | loc n=>simp[D.pureN]at hp
  | _=>simpa[IsD]using h
theorem IsD.pur {d:D} {v:V} (hp:d.pure=true) (h:IsD K ι H d v):IsD K ι' H d v:=IsD.puren 8 d v hp h
theorem aq.pur {ds:List D} {xs:List V} (hp:ds.all (D.pureN 8)=true) (h:aq K ι H ds xs):aq K ι' H ds xs:=by
 induction ds generalizing xs with
 | nil=>simpa[aq]using h
 | cons d ds ih =>
  simp only[aq]at h ⊢
  simp only[BC,AZ]at hp
  obtain⟨v,r,e,q,t⟩:=h
  exact⟨v,r,e,IsD.pur hp.1 q,ih hp.2 t⟩
end
section
variable (K : PySem.W.Frag) (ι : List Addr) (H : Hp)
noncomputable def Iz (kvs:List (D×D)) (xs:List (Key×V)):Prop :=
 Paired (fun(p:D×D) (q:Key×V)=>IsD K [] H p.1 (kV q.1)∧IsD K [] H p.2 q.2) kvs xs
noncomputable def X6 (kvs:List (D×D)) (xs:List (List Key×V)):Prop :=
 Paired (fun(p:D×D) (q:List Key×V)=>(∃ds,p.1=.tup ds∧aq K [] H ds (q.1.map kV))∧IsD K [] H p.2 q.2) kvs xs
noncomputable def OIs (a:Addr):O→Prop
 | .l ds=>∃xs,H a=some (.lst xs)∧aq K [] H ds xs
 | .r ds=>∃xs,H a=some (.lst xs)∧aq K ι H ds xs
 | .d kvs=>∃xs,H a=some (.dK xs)∧Iz K H kvs xs
 | .dt kvs=>∃xs,H a=some (.dT xs)∧X6 K H kvs xs
 | .dead=>∃u,H a=some u
structure Sim (μ:Sto):Prop where
 len:ι.length=μ.length
 nd:ι.Nodup
 obj:∀(n:Nat) a o,ι[n]? = some a→μ[n]? = some o→OIs K ι H a o
noncomputable def p9 (σ:Sl) (σv:St):Prop:=∀(i:Nat) d,σ[i]? = some (some d)→∃v,σv[i]? = some (some v)∧IsD K ι H d v
end
section
variable {K : PySem.W.Frag} {ι ι' : List Addr} {H H' : Hp} {μ : Sto} {σ : Sl} {σv : St}
theorem p9.mono (h:p9 K ι H σ σv) (hp:ι <+: ι') (he:Ext H H'):p9 K ι' H' σ σv:=fun i d e=>by
 obtain⟨v,q,r⟩:=h i d e
 exact⟨v,q,IsD.mono hp he d v r⟩
theorem p9.set (h:p9 K ι H σ σv) (hl:σ.length=σv.length) {i:Nat} {d:D} {v:V} (hd:IsD K ι H d v):p9 K ι H (σ.set i (some d)) (σv.set i (some v)):=fun j e q=>by
 by_cases hj:i=j
 ·subst hj
  by_cases hi:i<σ.length
  ·rw[DM hi]at q
   cases q
   exact⟨v,by rw[DM (by lia)],hd⟩
  ·rw[AV (by simp;lia)]at q;cases q
 ·rw[CC hj]at q
  obtain⟨w,q1,q2⟩:=h j e q
  exact⟨w,by rw[CC hj];exact q1,q2⟩
theorem OIs.ne (h:OIs K ι H a o):∃u,H a=some u:=by
 cases o with
 | l ds=>obtain⟨xs,e,_⟩:=h;exact⟨_,e⟩
 | r ds=>obtain⟨xs,e,_⟩:=h;exact⟨_,e⟩
 | d kvs=>obtain⟨xs,e,_⟩:=h;exact⟨_,e⟩
 | dt kvs=>obtain⟨xs,e,_⟩:=h;exact⟨_,e⟩
 | dead=>exact h
theorem OIs.mono {a:Addr} {o:O} (h:OIs K ι H a o) (hp:ι <+: ι') (he:Ext H H') (ha:H' a=H a):OIs K ι' H' a o:=by
 cases o with
 | l ds=>obtain⟨xs,e,q⟩:=h;exact⟨xs,ha.trans e,aq.mono (AM _) he ds xs q⟩
 | r ds=>obtain⟨xs,e,q⟩:=h;exact⟨xs,ha.trans e,aq.mono hp he ds xs q⟩
 | d kvs =>
  obtain⟨xs,e,q⟩:=h
  exact⟨xs,ha.trans e,Paired.mapP q fun p r z=>⟨IsD.mono (AM _) he _ _ z.1,IsD.mono (AM _) he _ _ z.2⟩⟩
 | dt kvs =>
  obtain⟨xs,e,q⟩:=h
  exact⟨xs,ha.trans e,Paired.mapP q fun p r z=>⟨let ⟨ds,e,t⟩:=z.1;⟨ds,e,aq.mono (AM _) he _ _ t⟩,IsD.mono (AM _) he _ _ z.2⟩⟩
 | dead=>obtain⟨u,e⟩:=h;exact⟨u,ha.trans e⟩
theorem Sim.at (h:Sim K ι H μ) {n:Nat} {o:O} (e:μ[n]? = some o):∃a,ι[n]? = some a∧OIs K ι H a o:=by
 have hn:n<ι.length:=by rw[h.len];exact(AL.mp e).1
 exact⟨ι[n],AC hn,h.obj n _ o (AC hn) e⟩
theorem Sim.used (h:Sim K ι H μ) {n:Nat} {a:Addr} (e:ι[n]? = some a):∃u,H a=some u:=by
 have hn:n<μ.length:=by rw[←h.len];exact(AL.mp e).1
 exact(h.obj n a _ e (AC hn)).ne
theorem Sim.new (h:Sim K ι H μ) {p:Addr} {o:HO} (hp:H p=none):Sim K ι (upd H p o) μ :=
 ⟨h.len,h.nd,fun n a ob e1 e2=>by
  obtain⟨u,hu⟩:=h.used e1
  exact(h.obj n a ob e1 e2).mono (AM _) (.new hp) (a7 (c8 hu hp))⟩
theorem Sim.push (h:Sim K ι H μ) {p:Addr} {u:HO} {o:O} (hp:H p=none) (ho:OIs K (ι++[p]) (upd H p u) p o):Sim K (ι++[p]) (upd H p u) (μ++[o]):=by
 have hne:∀a∈ι,a≠p:=fun a ha z=>by
  obtain⟨n,hn,e⟩:=CV.mp ha
  obtain⟨u,hu⟩:=h.used (n:=n) (by rw[AC hn,e])
  rw[z,hp]at hu;cases hu
 refine⟨by simp[h.len],?_,fun n a ob e1 e2=>?_⟩
 ·refine List.nodup_append.mpr ⟨h.nd,by simp,?_⟩
  intro a ha b hb
  have:b=p:=by simpa using hb
  subst this
  exact hne a ha
 ·by_cases hn:n<ι.length
  ·rw[AX hn]at e1
   rw[AX (by rw[←h.len];exact hn)]at e2
   exact(h.obj n a ob e1 e2).mono ⟨[p],rfl⟩ (.new hp) (a7 (hne a (BD e1)))
  ·have hm:n=ι.length:=by
    have:=(AL.mp e1).1
    simp at this;lia
   subst hm
   simp at e1
   rw[h.len]at e2
   simp at e2
   subst e1;subst e2
   exact ho
theorem Sim.put (h:Sim K ι H μ) {n:Nat} {p:Addr} {u:HO} {o:O} (hn:ι[n]? = some p) (he:Ext H (upd H p u)) (ho:OIs K ι (upd H p u) p o):Sim K ι (upd H p u) (μ.set n o):=by
 refine⟨by simp[h.len],h.nd,fun k a ob e1 e2=>?_⟩
 by_cases hk:n=k
 ·subst hk
  rw[hn]at e1;cases e1
  have:n<μ.length:=by rw[←h.len];exact(AL.mp hn).1
  rw[DM this]at e2;cases e2
  exact ho
 ·rw[CC hk]at e2
  refine(h.obj k a ob e1 e2).mono (AM _) he (a7 fun z=>hk ?_)
  subst z
  obtain⟨h1,e1'⟩:=AL.mp e1
  obtain⟨h2,e2'⟩:=AL.mp hn
  exact(List.getElem_inj h.nd).mp (e2'.trans e1'.symm)
end
end Lp
namespace Lp
open PySem PySem.Spec PyProof.Rows L2
noncomputable def h9 {α β:Type} (K:PySem.W.Frag) (R:List Addr→Hp→α→β→Prop) (ι:List Addr) (H:Hp) (r:Res α) (Q:β→Hp→Prop):Prop:=match r with
 | .ok d μ'=>∀ι' v H',ι <+: ι'→Ext H H'→Sim K ι' H' μ'→R ι' H' d v→Q v H'
 | .exc _ _ _=>False
 | .stuck=>False
noncomputable abbrev RD (K:PySem.W.Frag):List Addr→Hp→D→V→Prop:=fun ι H d v=>IsD K ι H d v
noncomputable abbrev RDs (K:PySem.W.Frag):List Addr→Hp→List D→List V→Prop:=fun ι H d v=>aq K ι H d v
noncomputable abbrev RB:List Addr→Hp→Bool→Bool→Prop:=fun _ _ d v=>d=v
noncomputable abbrev RO:List Addr→Hp→Option Int→Option Int→Prop:=fun _ _ d v=>d=v
section
variable {α β γ δ : Type} {K : PySem.W.Frag} {R : List Addr → Hp → α → β → Prop} {S : List Addr → Hp → γ → δ → Prop} {ι ι' : List Addr} {H H' : Hp}
theorem h9.mono {r:Res α} {Q:β→Hp→Prop} (h:h9 K R ι H r Q) (hp:ι <+: ι') (he:Ext H H'):h9 K R ι' H' r Q:=by
 cases r with
 | ok d μ=>exact fun ι2 v H2 p e s q=>h ι2 v H2 (hp.trans p) (he.trans e) s q
 | exc _ _ _=>exact h
 | stuck=>exact h
theorem h9.imp {r:Res α} {Q Q':β→Hp→Prop} (h:h9 K R ι H r Q) (hq:∀v H',Q v H'→Q' v H'):h9 K R ι H r Q':=by
 cases r with
 | ok d μ=>exact fun ι2 v H2 p e s q=>hq _ _ (h ι2 v H2 p e s q)
 | exc _ _ _=>exact h
 | stuck=>exact h
theorem h9.ok {d:α} {μ:Sto} {v:β} {Q:β→Hp→Prop} (h:h9 K R ι H (.ok d μ) Q) (hs:Sim K ι H μ) (hr:R ι H d v):Q v H:=h ι v H (AM _) (.refl _) hs hr
theorem h9.bind {x:Res α} {f:α→Sto→Res γ} {Q:δ→Hp→Prop} (h:h9 K S ι H (x.bind f) Q) :
  ∃d μ1,x=.ok d μ1∧h9 K S ι H (f d μ1) Q:=by
 cases x with
 | ok d μ=>exact⟨d,μ,rfl,h⟩
 | exc _ _ _=>exact h.elim
 | stuck=>exact h.elim
end
noncomputable def tE (K:PySem.W.Frag) (φ:Phi) (x:Ex):TE:=fun σv H Q=>∃ι σ μ,Sim K ι H μ∧p9 K ι H σ σv∧h9 K (RD K) ι H (evE φ x σ μ) Q
noncomputable def tEs (K:PySem.W.Frag) (φ:Phi) (x:Exs):TA:=fun σv H Q=>∃ι σ μ,Sim K ι H μ∧p9 K ι H σ σv∧h9 K (RDs K) ι H (i7 φ x σ μ) Q
noncomputable def tEo (K:PySem.W.Frag) (φ:Phi) (x:ExO):TO:=fun σv H Q=>∃ι σ μ,Sim K ι H μ∧p9 K ι H σ σv∧h9 K RO ι H (evO φ x σ μ) Q
noncomputable def tT (K:PySem.W.Frag) (φ:Phi) (x:Ex):TT:=fun σv H Q=>∃ι σ μ,Sim K ι H μ∧p9 K ι H σ σv∧h9 K RB ι H ((evE φ x σ μ).bind fun d μ=>Vy d μ) Q
theorem PE.imp {X:Cx} {e:Expr} {t t':TE} (h:PE X e t) (i:∀σ H Q,t' σ H Q→t σ H Q):PE X e t':=fun pins s σ H Q I q=>h pins s σ H Q I (i σ H Q q)
theorem PA.imp {X:Cx} {e:List Expr} {t t':TA} (h:PA X e t) (i:∀σ H Q,t' σ H Q→t σ H Q):PA X e t':=fun pos pins s σ H Q I q=>h pos pins s σ H Q I (i σ H Q q)
theorem PT.imp {X:Cx} {e:Expr} {t t':TT} (h:PT X e t) (i:∀σ H Q,t' σ H Q→t σ H Q):PT X e t':=fun pins s σ H Q I q=>h pins s σ H Q I (i σ H Q q)
theorem PW.imp {X:Cx} {e:Expr} {t t':TT} (h:PW X e t) (i:∀σ H Q,t' σ H Q→t σ H Q):PW X e t':=fun wh pins s σ H Q I q=>h wh pins s σ H Q I (i σ H Q q)
section
variable {X : Cx} {φ : Phi} {a b c : Expr} {xa xb xc : Ex} {pos : Pos}
theorem Te {i:Nat} {x:Str} (hN:X.N[i]? = some x) (hv:Vis X.env.scope x) (hd:(x==("__debug__":Str))=false) (hcd:(x==("__classdict__":Str))=false):PE X (.Name x pos) (tE X.K φ (.var i)) :=
 PE.imp (uz hN hv hd hcd) fun σv H Q ⟨ι,σ,μ,hS,hL,h⟩=>by
  simp only[evE]at h
  split at h
  ·rename_i d e
   obtain⟨v,e1,e2⟩:=hL i d e
   exact⟨v,e1,h.ok hS e2⟩
  ·exact h.elim
theorem Tf {i:Int} {j:Nat}:PE X (.Constant (.int i) j pos) (tE X.K φ (.cst (.int i))) :=
 PE.imp Kp fun σv H Q ⟨ι,σ,μ,hS,hL,h⟩=>by simp only[evE]at h;exact h.ok hS (by simp[IsD])
theorem X7 {i:Bool} {j:Nat}:PE X (.Constant (.bool i) j pos) (tE X.K φ (.cst (.bl i))) :=
 PE.imp Si fun σv H Q ⟨ι,σ,μ,hS,hL,h⟩=>by simp only[evE]at h;exact h.ok hS (by simp[IsD])
theorem Th {j:Nat}:PE X (.Constant .none j pos) (tE X.K φ (.cst .non)) :=
 PE.imp O7 fun σv H Q ⟨ι,σ,μ,hS,hL,h⟩=>by simp only[evE]at h;exact h.ok hS (by simp[IsD])
theorem Ti {i:Str} {j:Nat}:PE X (.Constant (.str i) j pos) (tE X.K φ (.cst (.str i))) :=
 PE.imp O8 fun σv H Q ⟨ι,σ,μ,hS,hL,h⟩=>by simp only[evE]at h;exact h.ok hS (by simp[IsD])
theorem two {σv:St} {H:Hp} {ι:List Addr} {σ:Sl} {μ:Sto} {f:D→D→Sto→Res D} {Q:VK} {R:V→V→Hp→Prop} (hS:Sim X.K ι H μ) (hL:p9 X.K ι H σ σv)
  (h:h9 X.K (RD X.K) ι H ((evE φ xa σ μ).bind fun x μ=>(evE φ xb σ μ).bind fun y μ=>f x y μ) Q)
  (k:∀ι' H' d e x y μ',Sim X.K ι' H' μ'→IsD X.K ι' H' d x→IsD X.K ι' H' e y→h9 X.K (RD X.K) ι' H' (f d e μ') Q→R x y H') :
  tE X.K φ xa σv H fun x H1=>tE X.K φ xb σv H1 fun y H2=>R x y H2:=by
 obtain⟨d,μ1,e1,h⟩:=h.bind
 refine⟨ι,σ,μ,hS,hL,?_⟩
 rw[e1]
 intro ι1 x H1 p1 x1 s1 d1
 obtain⟨e,μ2,e2,h⟩:=h.bind
 refine⟨ι1,σ,μ1,s1,hL.mono p1 x1,?_⟩
 rw[e2]
 intro ι2 y H2 p2 x2 s2 d2
 exact k ι2 H2 d e x y μ2 s2 (IsD.mono p2 x2 d x d1) d2 (h.mono (p1.trans p2) (x1.trans x2))
noncomputable def rOp (K:PySem.W.Frag) (f:D→D→Sto→Res D):R2:=fun x y H Q=>∃ι d e μ,Sim K ι H μ∧IsD K ι H d x∧IsD K ι H e y∧h9 K (RD K) ι H (f d e μ) Q
theorem Tj {op:Operator} {m:Mk} (ho:OpR X (binaryOp op) (rOp X.K (opD op m))) (ha:PE X a (tE X.K φ xa)) (hb:PE X b (tE X.K φ xb)):PE X (.BinOp a op b pos) (tE X.K φ (.bin op m xa xb)) :=
 PE.imp (Sw ho ha hb) fun σv H Q ⟨ι,σ,μ,hS,hL,h⟩=>by
  simp only[evE]at h
  exact two hS hL h fun ι' H' d e x y μ' s d1 d2 p=>⟨ι',d,e,μ',s,d1,d2,p⟩
theorem X8 (ho:IxR X (rOp X.K ixD)) (ha:PE X a (tE X.K φ xa)) (hb:PE X b (tE X.K φ xb)) (hs:Aq b):PE X (.Subscript a b pos) (tE X.K φ (.ix xa xb)) :=
 PE.imp (S7 ho ha hb hs) fun σv H Q ⟨ι,σ,μ,hS,hL,h⟩=>by
  simp only[evE]at h
  exact two hS hL h fun ι' H' d e x y μ' s d1 d2 p=>⟨ι',d,e,μ',s,d1,d2,p⟩
theorem I0:PA X [] (tEs X.K φ .nil) :=
 PA.imp Ku fun σv H Q ⟨ι,σ,μ,hS,hL,h⟩=>by simp only[i7]at h;exact h.ok hS (by simp[aq])
theorem yt {es:List Expr} {xs:Exs} (ha:PE X a (tE X.K φ xa)) (hb:PA X es (tEs X.K φ xs)) (hs:starEach (a::es) X.env=(false,eval a X.env)::starEach es X.env):PA X (a::es) (tEs X.K φ (.cons xa xs)) :=
 PA.imp (Ao ha hb hs) fun σv H Q ⟨ι,σ,μ,hS,hL,h⟩=>by
  simp only[i7]at h
  obtain⟨d,μ1,e1,h⟩:=h.bind
  refine⟨ι,σ,μ,hS,hL,?_⟩
  rw[e1]
  intro ι1 x H1 p1 x1 s1 d1
  obtain⟨e,μ2,e2,h⟩:=h.bind
  refine⟨ι1,σ,μ1,s1,hL.mono p1 x1,?_⟩
  rw[e2]
  intro ι2 y H2 p2 x2 s2 d2
  refine h ι2 (x::y) H2 (p1.trans p2) (x1.trans x2) s2 ?_
  show aq _ _ _ _ _
  simp only[aq]
  exact⟨x,y,rfl,IsD.mono p2 x2 d x d1,d2⟩
theorem To {es:List Expr} {xs:Exs} {k:Nat} (h:PA X es (tEs X.K φ xs)) (hl:∀σ μ ds μ',i7 φ xs σ μ=.ok ds μ'→ds.length≤sizeLine):PE X (.Tuple es k pos) (tE X.K φ (.tup xs)) :=
 PE.imp (Pn h) fun σv H Q ⟨ι,σ,μ,hS,hL,h⟩=>by
  simp only[evE]at h
  obtain⟨ds,μ1,e1,h⟩:=h.bind
  refine⟨ι,σ,μ,hS,hL,?_⟩
  rw[e1]
  intro ι1 vs H1 p1 x1 s1 d1
  have hd:aq X.K ι1 H1 ds vs:=d1
  refine⟨by rw[hd.length];exact hl σ μ ds μ1 e1,fun p hp=>?_⟩
  refine h ι1 (.ref p) (upd H1 p (.tup vs)) p1 (x1.trans (.new hp)) (s1.new hp) ?_
  show IsD _ _ _ _ _
  simp only[IsD]
  exact⟨p,vs,rfl,.of bg,aq.mono (AM _) (.new hp) ds vs d1⟩
theorem Tp {x:Ex} {σv:St} {H:Hp} {Q:Bool→Hp→Prop} (h:tT X.K φ x σv H Q):tE X.K φ x σv H fun v H'=>∃k,v=.bl k∧Q k H':=by
 obtain⟨ι,σ,μ,hS,hL,h⟩:=h
 obtain⟨d,μ1,e1,h⟩:=h.bind
 refine⟨ι,σ,μ,hS,hL,?_⟩
 rw[e1]
 intro ι1 x H1 p1 x1 s1 d1
 cases d with
 | bl k=>exact⟨k,by simpa[IsD]using d1,h ι1 k H1 p1 x1 s1 rfl⟩
 | _=>exact h.elim
theorem Mu {x:Ex} (ha:PE X a (tE X.K φ x)) (he:∀whole,isTrue a X.env whole=(do let v ←whole;standAt a.pos;holding [v] (truthy v))):PT X a (tT X.K φ x) :=
 PT.imp (Ij ha he) fun σv H Q h=>by
  have q:=Tp h
  obtain⟨ι,σ,μ,hS,hL,q⟩:=q
  exact⟨ι,σ,μ,hS,hL,q.imp fun v H' ⟨k,e,z⟩=>⟨k,by subst e;exact rfl,z⟩⟩
theorem Qb (ha:PT X a (tT X.K φ xa)):PT X (.UnaryOp .Not a pos) (tT X.K φ (.not xa)) :=
 PT.imp (Pb ha) fun σv H Q ⟨ι,σ,μ,hS,hL,h⟩=>by
  simp only[evE]at h
  rw[Res.bind_assoc]at h
  obtain⟨d,μ1,e1,h⟩:=h.bind
  refine⟨ι,σ,μ,hS,hL,?_⟩
  rw[e1]
  cases d with
  | bl k=>exact fun ι1 x H1 p1 x1 s1 d1=>h ι1 (!x) H1 p1 x1 s1 (by cases d1;rfl)
  | _=>exact h.elim
theorem Qc (ha:PE X a (tE X.K φ xa)):PE X (.UnaryOp .Not a pos) (tE X.K φ (.not xa)) :=
 PE.imp (Pd ha) fun σv H Q ⟨ι,σ,μ,hS,hL,h⟩=>by
  simp only[evE]at h
  obtain⟨d,μ1,e1,h⟩:=h.bind
  refine⟨ι,σ,μ,hS,hL,?_⟩
  rw[e1]
  intro ι1 x H1 p1 x1 s1 d1
  cases d with
  | bl k=>exact⟨k,by simpa[IsD]using d1,h ι1 (.bl !k) H1 p1 x1 s1 (by simp[IsD])⟩
  | _=>exact h.elim
theorem Tq (ha:PE X a (tE X.K φ xa)):PE X (.UnaryOp .USub a pos) (tE X.K φ (.neg xa)) :=
 PE.imp (Pk Ks ha) fun σv H Q ⟨ι,σ,μ,hS,hL,h⟩=>by
  simp only[evE]at h
  obtain⟨d,μ1,e1,h⟩:=h.bind
  refine⟨ι,σ,μ,hS,hL,?_⟩
  rw[e1]
  intro ι1 x H1 p1 x1 s1 d1
  cases d with
  | int k=>exact⟨k,by simpa[IsD]using d1,h ι1 (.int (-k)) H1 p1 x1 s1 (by simp[IsD])⟩
  | _=>exact h.elim
theorem Qd {rest:List Expr} (ha:PE X a (tE X.K φ xa)) (hb:PE X (.BoolOp .And (b::rest) pos) (tE X.K φ xb)):PE X (.BoolOp .And (a::b::rest) pos) (tE X.K φ (.and xa xb)) :=
 PE.imp (Pc ha hb) fun σv H Q ⟨ι,σ,μ,hS,hL,h⟩=>by
  simp only[evE]at h
  obtain⟨d,μ1,e1,h⟩:=h.bind
  refine⟨ι,σ,μ,hS,hL,?_⟩
  rw[e1]
  intro ι1 x H1 p1 x1 s1 d1
  cases d with
  | bl k =>
   refine⟨k,by simpa[IsD]using d1,?_⟩
   cases k with
   | true=>exact⟨ι1,σ,μ1,s1,hL.mono p1 x1,(show h9 _ _ _ _ (evE φ xb σ μ1) _ from h).mono p1 x1⟩
   | false=>exact h ι1 (.bl false) H1 p1 x1 s1 (by simp[IsD])
  | _=>exact h.elim
theorem Tr {rest:List Expr} (ha:PE X a (tE X.K φ xa)) (hb:PE X (.BoolOp .Or (b::rest) pos) (tE X.K φ xb)):PE X (.BoolOp .Or (a::b::rest) pos) (tE X.K φ (.or xa xb)) :=
 PE.imp (So ha hb) fun σv H Q ⟨ι,σ,μ,hS,hL,h⟩=>by
  simp only[evE]at h
  obtain⟨d,μ1,e1,h⟩:=h.bind
  refine⟨ι,σ,μ,hS,hL,?_⟩
  rw[e1]
  intro ι1 x H1 p1 x1 s1 d1
  cases d with
  | bl k =>
   refine⟨k,by simpa[IsD]using d1,?_⟩
   cases k with
   | true=>exact h ι1 (.bl true) H1 p1 x1 s1 (by simp[IsD])
   | false=>exact⟨ι1,σ,μ1,s1,hL.mono p1 x1,(show h9 _ _ _ _ (evE φ xb σ μ1) _ from h).mono p1 x1⟩
  | _=>exact h.elim
theorem Qe {rest:List Expr} (ha:PT X a (tT X.K φ xa)) (hb:PW X (.BoolOp .And (b::rest) pos) (tT X.K φ xb)):PW X (.BoolOp .And (a::b::rest) pos) (tT X.K φ (.and xa xb)) :=
 PW.imp (Pa ha hb) fun σv H Q ⟨ι,σ,μ,hS,hL,h⟩=>by
  simp only[evE]at h
  rw[Res.bind_assoc]at h
  obtain⟨d,μ1,e1,h⟩:=h.bind
  refine⟨ι,σ,μ,hS,hL,?_⟩
  rw[e1]
  cases d with
  | bl k =>
   intro ι1 x H1 p1 x1 s1 d1
   cases d1
   cases k with
   | true=>exact⟨ι1,σ,μ1,s1,hL.mono p1 x1,(show h9 _ _ _ _ ((evE φ xb σ μ1).bind _) _ from h).mono p1 x1⟩
   | false=>exact h ι1 false H1 p1 x1 s1 rfl
  | _=>exact h.elim
theorem Ts {rest:List Expr} (ha:PT X a (tT X.K φ xa)) (hb:PW X (.BoolOp .Or (b::rest) pos) (tT X.K φ xb)):PW X (.BoolOp .Or (a::b::rest) pos) (tT X.K φ (.or xa xb)) :=
 PW.imp (Sj ha hb) fun σv H Q ⟨ι,σ,μ,hS,hL,h⟩=>by
  simp only[evE]at h
  rw[Res.bind_assoc]at h
  obtain⟨d,μ1,e1,h⟩:=h.bind
  refine⟨ι,σ,μ,hS,hL,?_⟩
  rw[e1]
  cases d with
  | bl k =>
   intro ι1 x H1 p1 x1 s1 d1
   cases d1
   cases k with
   | true=>exact h ι1 true H1 p1 x1 s1 rfl
   | false=>exact⟨ι1,σ,μ1,s1,hL.mono p1 x1,(show h9 _ _ _ _ ((evE φ xb σ μ1).bind _) _ from h).mono p1 x1⟩
  | _=>exact h.elim
end
end Lp
namespace Lp
open PySem PySem.Spec PyProof.Rows L2
noncomputable def mf (K:PySem.W.Frag) (ι:List Addr) (H:Hp) (r:Res Fl) (E:Ends):Prop:=match r with
 | .ok (.nx σ') μ'=>∀ι' σv H',ι <+: ι'→Ext H H'→Sim K ι' H' μ'→p9 K ι' H' σ' σv→σ'.length=σv.length→E.nx σv H'
 | .ok (.bk σ') μ'=>∀ι' σv H',ι <+: ι'→Ext H H'→Sim K ι' H' μ'→p9 K ι' H' σ' σv→σ'.length=σv.length→E.bk σv H'
 | .ok (.ct σ') μ'=>∀ι' σv H',ι <+: ι'→Ext H H'→Sim K ι' H' μ'→p9 K ι' H' σ' σv→σ'.length=σv.length→E.ct σv H'
 | .ok (.rt d) μ'=>∀ι' v H',ι <+: ι'→Ext H H'→Sim K ι' H' μ'→IsD K ι' H' d v→E.rt v H'
 | .exc _ _ _=>False
 | .stuck=>False
theorem mf.mono {K:PySem.W.Frag} {ι ι':List Addr} {H H':Hp} {r:Res Fl} {E:Ends} (h:mf K ι H r E) (hp:ι <+: ι') (he:Ext H H'):mf K ι' H' r E:=by
 cases r with
 | ok f μ=>cases f<;>exact fun ι2 v H2 p e=>h ι2 v H2 (hp.trans p) (he.trans e)
 | exc _ _ _=>exact h
 | stuck=>exact h
theorem mf.bind {α:Type} {K:PySem.W.Frag} {ι:List Addr} {H:Hp} {E:Ends} {x:Res α} {f:α→Sto→Res Fl} (h:mf K ι H (x.bind f) E):∃d μ1,x=.ok d μ1∧mf K ι H (f d μ1) E:=by
 cases x with
 | ok d μ=>exact⟨d,μ,rfl,h⟩
 | exc _ _ _=>exact h.elim
 | stuck=>exact h.elim
noncomputable def tS (K:PySem.W.Frag) (φ:Phi) (x:Sm):TS:=fun E σv H=>∃ι σ μ,Sim K ι H μ∧p9 K ι H σ σv∧σ.length=σv.length∧mf K ι H (evS φ x σ μ) E
noncomputable def tSs (K:PySem.W.Frag) (φ:Phi) (x:Sms):TS:=fun E σv H=>∃ι σ μ,Sim K ι H μ∧p9 K ι H σ σv∧σ.length=σv.length∧mf K ι H (p8 φ x σ μ) E
theorem PS.imp {X:Cx} {e:Stmt} {t t':TS} (h:PS X e t) (i:∀E σ H,t' E σ H→t E σ H):PS X e t':=fun pins s σ H E I q=>h pins s σ H E I (i E σ H q)
theorem PSs.imp {X:Cx} {e:List Stmt} {t t':TS} (h:PSs X e t) (i:∀E σ H,t' E σ H→t E σ H):PSs X e t':=fun pins s σ H E I q=>h pins s σ H E I (i E σ H q)
section
variable {X : Cx} {φ : Phi} {e : Expr} {x : Ex} {pos : Pos} {s : Stmt} {ss : List Stmt} {xs : Sm} {xss : Sms}
theorem Tt:PSs X [] (tSs X.K φ .nil) :=
 PSs.imp L6 fun E σv H ⟨ι,σ,μ,hS,hL,hl,h⟩=>by
  simp only[p8]at h
  exact h ι σv H (AM _) (.refl _) hS hL hl
theorem Qf (h1:PS X s (tS X.K φ xs)) (h2:PSs X ss (tSs X.K φ xss)):PSs X (s::ss) (tSs X.K φ (.cons xs xss)) :=
 PSs.imp (Ie h1 h2) fun E σv H ⟨ι,σ,μ,hS,hL,hl,h⟩=>by
  simp only[p8]at h
  refine⟨ι,σ,μ,hS,hL,hl,?_⟩
  obtain⟨f,μ1,e1,h⟩:=h.bind
  rw[e1]
  cases f with
  | nx σ'=>exact fun ι1 σ1 H1 p1 x1 s1 l1 z1=>⟨ι1,σ',μ1,s1,l1,z1,(show mf _ _ _ (p8 φ xss σ' μ1) _ from h).mono p1 x1⟩
  | rt d=>exact h
  | bk σ'=>exact h
  | ct σ'=>exact h
theorem Qg (he:PE X e (tE X.K φ x)) (hs:swapsWith e none pos.line X.env=pure false):PS X (.Expr e pos) (tS X.K φ (.ex x)) :=
 PS.imp (L7 he hs) fun E σv H ⟨ι,σ,μ,hS,hL,hl,h⟩=>by
  simp only[evS]at h
  obtain⟨d,μ1,e1,h⟩:=h.bind
  refine⟨ι,σ,μ,hS,hL,?_⟩
  rw[e1]
  exact fun ι1 v H1 p1 x1 s1 d1=>h ι1 σv H1 p1 x1 s1 (hL.mono p1 x1) hl
theorem Tu (he:PE X e (tE X.K φ x)):PS X (.Return (some e) pos) (tS X.K φ (.ret x)) :=
 PS.imp (Pe he) fun E σv H ⟨ι,σ,μ,hS,hL,hl,h⟩=>by
  simp only[evS]at h
  obtain⟨d,μ1,e1,h⟩:=h.bind
  refine⟨ι,σ,μ,hS,hL,?_⟩
  rw[e1]
  exact h
theorem X9 {c:Expr} {xc:Ex} {a b:List Stmt} {xa xb:Sms} (hc:PT X c (tT X.K φ xc)) (ha:PSs X a (tSs X.K φ xa)) (hb:PSs X b (tSs X.K φ xb)):PS X (.If c a b pos) (tS X.K φ (.ite xc xa xb)) :=
 PS.imp (Ss hc ha hb) fun E σv H ⟨ι,σ,μ,hS,hL,hl,h⟩=>by
  simp only[evS]at h
  obtain⟨d,μ1,e1,h⟩:=h.bind
  refine⟨ι,σ,μ,hS,hL,?_⟩
  rw[e1]
  cases d with
  | bl k =>
   intro ι1 x H1 p1 x1 s1 d1
   cases d1
   cases k with
   | true=>exact⟨ι1,σ,μ1,s1,hL.mono p1 x1,hl,(show mf _ _ _ (p8 φ xa σ μ1) _ from h).mono p1 x1⟩
   | false=>exact⟨ι1,σ,μ1,s1,hL.mono p1 x1,hl,(show mf _ _ _ (p8 φ xb σ μ1) _ from h).mono p1 x1⟩
  | _=>exact h.elim
noncomputable def slots:Tg→List Nat
 | .one i=>[i]
 | .many is=>is
noncomputable def tG (K:PySem.W.Frag) (tg:Tg):TG:=fun v σv H Q=>∃ι σ d σ',p9 K ι H σ σv∧σ.length=σv.length∧IsD K ι H d v∧gk tg d σ=some σ' ∧
 ∀σv',p9 K ι H σ' σv'→σ'.length=σv'.length→σv'.length=σv.length→(∀j,j∉slots tg→σv'[j]? = σv[j]?)→Q σv' H
theorem PG.imp {e:Expr} {t t':TG} (h:PG X e t) (i:∀v σ H Q,t' v σ H Q→t v σ H Q):PG X e t':=by
 intro pins s σ H x u Q I r q
 exact h pins s σ H x u Q I r (i _ _ _ _ q)
theorem Qh {i:Nat} {y:Str} (hN:X.N.Nodup) (hi:X.N[i]? = some y) (hx:Loc X.env.scope y) (hf:X.fn y=true∨X.env.scope.names.lookup y=some .local):PG X (.Name y pos) (tG X.K (.one i)) :=
 PG.imp (Eu hN hi hx hf) fun v σv H Q ⟨ι,σ,d,σ',hL,hl,hd,hb,q⟩=>by
  simp only[gk,BP]at hb
  subst hb
  exact q _ (hL.set hl hd) (by simp[hl]) (by simp) fun j hj=>CC (fun z=>hj (by simp[slots,z]))
noncomputable def tGs (K:PySem.W.Frag) (is:List Nat):TGs:=fun vs σv H Q=>∃ι σ ds,p9 K ι H σ σv∧σ.length=σv.length∧aq K ι H ds vs∧ds.length=is.length ∧
 ∀σv',p9 K ι H ((is.zip ds).foldl (fun s p=>s.set p.1 (some p.2)) σ) σv'→((is.zip ds).foldl (fun s p=>s.set p.1 (some p.2)) σ).length=σv'.length→σv'.length=σv.length→(∀j,j∉is→σv'[j]? = σv[j]?)→Q σv' H
theorem PGs.imp {es:List Expr} {t t':TGs} (h:PGs X es t) (i:∀v σ H Q,t' v σ H Q→t v σ H Q):PGs X es t':=by
 intro pins s σ H vs us Q I r q
 exact h pins s σ H vs us Q I r (i _ _ _ _ q)
theorem Qi:PGs X [] (tGs X.K []) :=
 PGs.imp L9 fun vs σv H Q ⟨ι,σ,ds,hL,hl,hd,hn,q⟩=>by
  have e:ds=[]:=FH.mp hn
  subst e
  exact⟨by simpa[aq]using hd,q σv (by simpa using hL) (by simpa using hl) rfl fun _ _=>rfl⟩
theorem Mv {i:Nat} {is:List Nat} {es:List Expr} (h1:PG X e (L8 i)) (h2:PGs X es (tGs X.K is)) (hs:(assignEach (e::es) X.env).map (·.2)=assign e X.env::(assignEach es X.env).map (·.2)):PGs X (e::es) (tGs X.K (i::is)) :=
 PGs.imp (Ig h1 h2 hs) fun vs σv H Q ⟨ι,σ,ds,hL,hl,hd,hn,q⟩=>by
  cases ds with
  | nil=>simp at hn
  | cons d ds =>
   simp only[aq]at hd
   obtain⟨v,r,e,hd1,hd2⟩:=hd
   refine⟨v,r,e,ι,σ.set i (some d),ds,hL.set hl hd1,by simp[hl],hd2,by simpa using hn,fun σv' l z z2 ks=>q σv' (by simpa using l) (by simpa using z) (by simpa using z2) fun j hj=>?_⟩
   have hj':j≠i∧j∉is:=by simpa using hj
   rw[ks j hj'.2,CC (Ne.symm hj'.1)]
theorem Tv {is:List Nat} {es:List Expr} {k:Nat} (hc:X.calm=true) (h:PGs X es (tGs X.K is)) (hn:(assignEach es X.env).length=is.length) (hst:(assignEach es X.env).findIdx? (·.1)=none) :
  PG X (.Tuple es k pos) (tG X.K (.many is)) :=
 PG.imp (Pf hc h hn hst) fun v σv H Q ⟨ι,σ,d,σ',hL,hl,hd,hb,q⟩=>by
  cases d with
  | tup ds =>
   simp only[gk]at hb
   split at hb
   ·rename_i hlen
    cases hb
    simp only[IsD]at hd
    obtain⟨a,xs,e,hq,hds⟩:=hd
    exact⟨a,xs,e,hq,hds.length.trans hlen,ι,σ,ds,hL,hl,hds,hlen,q⟩
   ·cases hb
  | _=>simp[gk]at hb
theorem Tw {i:Nat} {y:Str} {pos':Pos} (hN:X.N.Nodup) (hi:X.N[i]? = some y) (hx:Loc X.env.scope y) (hf:X.fn y=true∨X.env.scope.names.lookup y=some .local) (he:PE X e (tE X.K φ x)) (hs:swapsWith e (some (.Name y pos')) pos.line X.env=pure false) :
  PS X (.Assign [.Name y pos'] e pos) (tS X.K φ (.set i x)) :=
 PS.imp (Ph hN hi hx he hs hf) fun E σv H ⟨ι,σ,μ,hS,hL,hl,h⟩=>by
  simp only[evS]at h
  obtain⟨d,μ1,e1,h⟩:=h.bind
  refine⟨ι,σ,μ,hS,hL,?_⟩
  rw[e1]
  exact fun ι1 v H1 p1 x1 s1 d1=>h ι1 _ H1 p1 x1 s1 ((hL.mono p1 x1).set hl d1) (by simp[hl])
theorem Tx {is:List Nat} {tg:Expr} (hg:PG X tg (tG X.K (.many is))) (he:PE X e (tE X.K φ x)) (hs:swapsWithSole [tg] e pos.line X.env=pure false) (hw:swappedStores [tg] e X.env=pure none)
  (h1:(assignEach [tg] X.env).map (·.2)=[assign tg X.env]):PS X (.Assign [tg] e pos) (tS X.K φ (.unp is x)) :=
 PS.imp (Kr he hg hs hw h1) fun E σv H ⟨ι,σ,μ,hS,hL,hl,h⟩=>by
  simp only[evS]at h
  obtain⟨d,μ1,e1,h⟩:=h.bind
  refine⟨ι,σ,μ,hS,hL,?_⟩
  rw[e1]
  intro ι1 v H1 p1 x1 s1 d1
  split at h
  ·rename_i σ' eb
   exact⟨ι1,σ,d,σ',hL.mono p1 x1,hl,d1,eb,fun σv' l z _ _=>h ι1 σv' H1 p1 x1 s1 l z⟩
  ·exact h.elim
noncomputable def Vz (K:PySem.W.Frag):TSet:=fun o i v H Q=>∃ι a b d μ,Sim K ι H μ∧IsD K ι H a o∧IsD K ι H b i∧IsD K ι H d v∧h9 K (fun _ _ _ (_:Unit)=>True) ι H (Ds a b d μ) fun _ H'=>Q H'
theorem Qj {o i:Expr} {xo xi:Ex} {tp:Pos} (hset:Ry X (Vz X.K)) (ho:PE X o (tE X.K φ xo)) (hi:PE X i (tE X.K φ xi)) (he:PE X e (tE X.K φ x))
  (ha:∀v,assign (.Subscript o i tp) X.env v=(do
   let ov ←holding [v] (eval o X.env)
   let iv ←holding [v,ov] (eval i X.env)
   standAt tp
   holding [v,ov,iv] (setItem ov iv v)
   release [v,ov,iv] [])) (hs:swapsWithSole [.Subscript o i tp] e pos.line X.env=pure false) (hw:swappedStores [.Subscript o i tp] e X.env=pure none)
  (h1:(assignEach [.Subscript o i tp] X.env).map (·.2)=[assign (.Subscript o i tp) X.env]):PS X (.Assign [.Subscript o i tp] e pos) (tS X.K φ (.setx xo xi x)) :=
 PS.imp (Kr he (Pg ho hi hset ha) hs hw h1) fun E σv H ⟨ι,σ,μ,hS,hL,hl,h⟩=>by
  simp only[evS]at h
  obtain⟨d,μ1,e1,h⟩:=h.bind
  refine⟨ι,σ,μ,hS,hL,?_⟩
  rw[e1]
  intro ι1 v H1 p1 x1 s1 d1
  obtain⟨a,μ2,e2,h⟩:=h.bind
  refine⟨ι1,σ,μ1,s1,hL.mono p1 x1,?_⟩
  rw[e2]
  intro ι2 va H2 p2 x2 s2 d2
  obtain⟨b,μ3,e3,h⟩:=h.bind
  refine⟨ι2,σ,μ2,s2,(hL.mono p1 x1).mono p2 x2,?_⟩
  rw[e3]
  intro ι3 vb H3 p3 x3 s3 d3
  obtain⟨_,μ4,e4,h⟩:=h.bind
  refine⟨ι3,a,b,d,μ3,s3,IsD.mono p3 x3 _ _ d2,d3,IsD.mono p3 x3 _ _ (IsD.mono p2 x2 _ _ d1),?_⟩
  rw[e4]
  exact fun ι4 _ H4 p4 x4 s4 _=>h ι4 σv H4 (((p1.trans p2).trans p3).trans p4) (((x1.trans x2).trans x3).trans x4) s4 ((((hL.mono p1 x1).mono p2 x2).mono p3 x3).mono p4 x4) hl
structure Walk (K:PySem.W.Frag) (ι0:List Addr) (H0:Hp) (J:L2.It) (ds:List D) (g:Gd):Prop where
 len:ds.length≤sizeLine
 go:∀(i:Nat) ι H μ,ι0 <+: ι→Ext H0 H→Sim K ι H μ→gd g μ→i<ds.length→J.go i H
 yld:∀(i:Nat) ι H μ x H',ι0 <+: ι→Ext H0 H→Sim K ι H μ→gd g μ→i<ds.length→J.yld i H x H'→Ext H H'∧Sim K ι H' μ∧∃d,ds[i]? = some d∧IsD K ι H' d x
 stop:∀ι H μ,ι0 <+: ι→Ext H0 H→Sim K ι H μ→gd g μ→J.stop ds.length H
noncomputable def tI (K:PySem.W.Frag) (φ:Phi) (it:It):TI:=fun σv H R=>∃ι σ μ,Sim K ι H μ∧p9 K ι H σ σv ∧
 match evI φ it σ μ with
 | .ok (ds,g) μ'=>∀ι' H' J,ι <+: ι'→Ext H H'→Sim K ι' H' μ'→Walk K ι' H' J ds g→R J H'
 | _=>False
theorem PI.imp {tg it:Expr} {t t':TI} (h:PI X tg it t) (i:∀σ H R,t' σ H R→t σ H R):PI X tg it t':=fun pins s σ H R I q=>h pins s σ H R I (i _ _ _ q)
theorem Tz {tg it:Expr} {body:List Stmt} {xt:Tg} {xi:It} {xb:Sms} (hp:PassesOwn (model X.prog X.w) X.A X.env X.xe) (hc:X.calm=true) (hi:PI X tg it (tI X.K φ xi)) (hg:PG X tg (tG X.K xt)) (hb:PSs X body (tSs X.K φ xb))
  (hs:∀x,foldedSetIterable it X.env x=pure x):PS X (.For tg it body [] pos) (tS X.K φ (.loop xt xi xb)) :=
 PS.imp (Pj hp hc hi hg hb hs) fun E σv H ⟨ι,σ,μ,hS,hL,hl,h⟩=>by
  simp only[evS]at h
  obtain⟨⟨ds,g⟩,μ1,e1,h⟩:=h.bind
  refine⟨ι,σ,μ,hS,hL,?_⟩
  rw[e1]
  intro ι1 H1 J p1 x1 s1 wk
  refine⟨fun i m σv' H'=>m=ds.length-i∧i≤ds.length∧∃ι' σ' μ',ι1 <+: ι'∧Ext H1 H'∧Sim X.K ι' H' μ'∧p9 X.K ι' H' σ' σv'∧σ'.length=σv'.length ∧
   mf X.K ι' H' (jt g (fun d σ μ=>nz (gk xt d σ) fun σ'=>p8 φ xb σ' μ) (ds.drop i) σ' μ') E,⟨ds.length,by simp,CP _,ι1,σ,μ1,AM _,.refl _,s1,hL.mono p1 x1,hl,?_⟩,?_⟩
  ·simpa using(show mf _ _ _ (jt g _ ds σ μ1) _ from h).mono p1 x1
  ·rintro i m σv' H' ⟨rfl,hi,ι',σ',μ',p',x',s',l',z',h'⟩
   by_cases hlt:i<ds.length
   ·obtain⟨d,ed⟩:∃d,ds[i]? = some d:=⟨ds[i],AC hlt⟩
    have edrop:ds.drop i=d::ds.drop (i+1):=by
     rw[HC hlt]
     rw[AC hlt]at ed
     cases ed;rfl
    rw[edrop]at h'
    simp only[jt]at h'
    split at h'
    ·rename_i hgd
     right
     refine⟨wk.go i ι' H' μ' p' x' s' hgd hlt,?_⟩
     obtain⟨fl,μ2,e2,h2⟩:=h'.bind
     refine⟨fun σ2 H2=>ds.length-(i+1)<ds.length-i∧∃ι2 σs,ι1 <+: ι2∧Ext H1 H2∧Sim X.K ι2 H2 μ2∧p9 X.K ι2 H2 σs σ2∧σs.length=σ2.length ∧
      mf X.K ι2 H2 (jt g (fun d σ μ=>nz (gk xt d σ) fun σ'=>p8 φ xb σ' μ) (ds.drop (i+1)) σs μ2) E,?_,?_⟩
     ·rintro σ2 H2 ⟨_,ι2,σs,q1,q2,q3,q4,q5,q6⟩
      exact⟨ds.length-(i+1),by lia,rfl,hlt,ι2,σs,μ2,q1,q2,q3,q4,q5,q6⟩
     ·intro v H2 hy
      obtain⟨x2,s2,d',ed',hd'⟩:=wk.yld i ι' H' μ' v H2 p' x' s' hgd hlt hy
      rw[ed]at ed';cases ed'
      cases eb:gk xt d σ' with
      | none=>rw[eb]at e2;cases e2
      | some σb =>
       rw[eb]at e2
       refine⟨ι',σ',d,σb,l'.mono (AM _) x2,z',hd',eb,fun σv2 l2 z2 _ _=>⟨ι',σb,μ',s2,l2,z2,?_⟩⟩
       have e2':p8 φ xb σb μ'=.ok fl μ2:=e2
       rw[e2']
       cases fl with
       | nx σ3=>exact fun ι3 σv3 H3 p3 x3 s3 l3 z3=>⟨by lia,ι3,σ3,p'.trans p3,(x'.trans x2).trans x3,s3,l3,z3,(show mf _ _ _ (jt g _ (ds.drop (i+1)) σ3 μ2) _ from h2).mono p3 (x2.trans x3)⟩
       | ct σ3=>exact fun ι3 σv3 H3 p3 x3 s3 l3 z3=>⟨by lia,ι3,σ3,p'.trans p3,(x'.trans x2).trans x3,s3,l3,z3,(show mf _ _ _ (jt g _ (ds.drop (i+1)) σ3 μ2) _ from h2).mono p3 (x2.trans x3)⟩
       | bk σ3=>exact(show mf _ _ _ (.ok (.nx σ3) μ2) _ from h2).mono (AM _) x2
       | rt w=>exact(show mf _ _ _ (.ok (.rt w) μ2) _ from h2).mono (AM _) x2
    ·exact h'.elim
   ·have ei:i=ds.length:=by lia
    subst ei
    simp only[List.drop_length,jt]at h'
    split at h'
    ·rename_i hgd
     exact .inl ⟨wk.stop ι' H' μ' p' x' s' hgd,h' ι' σv' H' (AM _) (.refl _) s' l' z'⟩
    ·exact h'.elim
end
end Lp
namespace Lp
open PySem PySem.Spec PyProof.Rows L2
theorem j6:lim=sizeLine:=by rw[K2];rfl
section
variable {X : Cx} {pins : List (Addr × Obj)} {σ : St} {H : Hp} {s : Shared} {φ : Phi}
theorem _root_.L2.Inv.freeze {p:Addr} {xs:List V} (I:Inv X pins σ H s) (h:H p=some (.lst xs)):∃o,Inv X pins σ (upd H p (.frz o (.lst xs))) s:=by
 have hp:=I.hok p _ h
 obtain⟨hz,its,n,hv,hget⟩:=id hp
 refine⟨{cls:=.type "list",data:=.seq its.toArray n},I.ok,I.os,I.bare,⟨I.base.keep,I.base.slot,fun b o e hn hx=>?_,I.base.there,fun b ys e=>?_,fun b o u e=>?_,fun b ps e=>?_⟩,I.loc,I.cell,?_,fun x c e=>?_,fun q hq=>?_,fun b u e=>?_,I.len⟩
 ·have q:=I.base.free b o e hn hx
  rw[a7 (fun z=>by subst z;rw[h]at q;cases q)]
  exact q
 ·have q:=I.base.tups b ys e
  rw[a7 (n9 q h (by intro z;cases z))];exact q
 ·have q:=I.base.frzs b o u e
  rw[a7 (n9 q h (by intro z;cases z))];exact q
 ·obtain⟨more,q⟩:=I.base.tbls b ps e
  exact⟨more,by rw[a7 (n9 q h (by intro z;cases z))];exact q⟩
 ·rw[a7 (fun z=>by rw[←z,I.free]at h;cases h)];exact I.free
 ·rw[a7 (fun z=>by rw[←z,I.freeC x c e]at h;cases h)];exact I.freeC x c e
 ·obtain⟨e1,e2,e3⟩:=I.pin q hq
  refine⟨e1,?_,e3⟩
  rw[a7 (fun z=>by rw[←z,e2]at h;cases h)];exact e2
 ·by_cases hb:b=p
  ·subst hb
   rw[bg]at e;cases e
   exact⟨hget,hz,its,n,hv,hget⟩
  ·rw[a7 hb]at e
   refine(I.hok b u e).stay (fun c v _ q=>q) (fun c q=>?_) (fun c ys q=>?_)
   ·rw[a7 (n9 q h (by intro z;cases z))];exact q
   ·rw[a7 (n9 q h (by intro z;cases z))];exact q
noncomputable def FQ (Q:VK):VK:=fun v H=>Q v H∨∃p xs,v=.ref p∧H p=some (.lst xs)∧∀o,Q v (upd H p (.frz o (.lst xs)))
theorem Ja {Q:VK} {u:Value} (h:EP X pins σ (FQ Q) u s):EP X pins σ Q u s:=by
 obtain⟨v,H',I,r,q⟩:=h
 rcases q with q | ⟨p,xs,rfl,e,q⟩
 ·exact⟨v,H',I,r,q⟩
 ·obtain⟨o,I'⟩:=L2.Inv.freeze I e
  exact⟨_,_,I',r,q o⟩
theorem B6 {A:Around} {E:Value→Shared→Prop} {M:Model} {t:Sem Value} {Q:VK} (h:wpAny M A t (EP X pins σ (FQ Q)) E s):wpAny M A t (EP X pins σ Q) E s:=thn h fun _ _ z=>Ja z
theorem PE.fq {e:Expr} {t:TE} (h:PE X e t):PE X e (fun σ H Q=>t σ H (FQ Q)):=fun pins s σ H Q I q=>thn (h pins s σ H _ I q) fun _ _ z=>Ja z
theorem SlR.fq {r:V→Option Int→Option Int→Hp→VK→Prop} (h:SlR X r):SlR X (fun x l u H Q=>r x l u H (FQ Q)):=by
 intro pins s σ H x v vl vu lo hi sl Q I rx h1 h2 h3 q
 obtain⟨T,id,e1,e2,e3⟩:=h pins s σ H x v vl vu lo hi sl _ I rx h1 h2 h3 q
 exact⟨T,id,e1,e2,thn e3 fun _ _ z=>Ja z⟩
theorem mm {K:PySem.W.Frag} {ι:List Addr} {μ:Sto} {ds:List D} {xs:List V} {m:Mk} {Q:VK} {p:Addr} (hS:Sim K ι H μ) (hd:aq K ι H ds xs) (h:h9 K (RD K) ι H (mkL m ds μ) Q) (hp:H p=none) :
  FQ Q (.ref p) (upd H p (.lst xs)):=by
 cases m with
 | z =>
  refine .inr ⟨p,xs,rfl,bg,fun o=>?_⟩
  rw[Es]
  refine h ι (.ref p) _ (AM _) (.new hp) (hS.new hp) ?_
  show IsD _ _ _ _ _
  simp only[IsD]
  exact⟨p,xs,rfl,.inl ⟨o,bg⟩,aq.mono (AM _) (.new hp) ds xs hd⟩
 | l =>
  simp only[mkL]at h
  split at h
  ·rename_i hpure
   refine .inl (h (ι++[p]) (.ref p) _ ⟨[p],rfl⟩ (.new hp) (hS.push hp ⟨xs,bg,aq.pur hpure (aq.mono (AM _) (.new hp) ds xs hd)⟩) ?_)
   show IsD _ _ _ _ _
   simp only[IsD]
   exact⟨p,rfl,by rw[←hS.len];simp⟩
  ·exact h.elim
 | r =>
  simp only[mkL]at h
  refine .inl (h (ι++[p]) (.ref p) _ ⟨[p],rfl⟩ (.new hp) (hS.push hp ⟨xs,bg,aq.mono ⟨[p],rfl⟩ (.new hp) ds xs hd⟩) ?_)
  show IsD _ _ _ _ _
  simp only[IsD]
  exact⟨p,rfl,by rw[←hS.len];simp⟩
theorem T3 {es:List Expr} {xs:Exs} {m:Mk} {pos:Pos} (h:PA X es (tEs X.K φ xs)) (hl:∀σ μ ds μ',i7 φ xs σ μ=.ok ds μ'→ds.length≤sizeLine):PE X (.List es pos) (tE X.K φ (.lst m xs)) :=
 PE.imp (PE.fq (Po h)) fun σv H Q ⟨ι,σ,μ,hS,hL,h⟩=>by
  simp only[evE]at h
  obtain⟨ds,μ1,e1,h⟩:=h.bind
  refine⟨ι,σ,μ,hS,hL,?_⟩
  rw[e1]
  intro ι1 vs H1 p1 x1 s1 d1
  have hd:aq X.K ι1 H1 ds vs:=d1
  exact⟨by rw[hd.length];exact hl σ μ ds μ1 e1,fun p hp=>mm s1 hd (h.mono p1 x1) hp⟩
theorem u7 {K:PySem.W.Frag} {ι:List Addr} {μ:Sto} {d:D} {v:V} {ds:List D} (hS:Sim K ι H μ) (hd:IsD K ι H d v) (h:fg μ d=some ds) :
  ∃a xs,v=.ref a∧(LsL K H a xs∨SqT K H a xs)∧aq K ι H ds xs:=by
 cases d with
 | tup es =>
  cases h
  simp only[IsD]at hd
  obtain⟨a,xs,e,q,r⟩:=hd
  exact⟨a,xs,e,.inr q,r⟩
 | lst es =>
  cases h
  simp only[IsD]at hd
  obtain⟨a,xs,e,q,r⟩:=hd
  exact⟨a,xs,e,.inl (.inr q),r⟩
 | loc n =>
  simp only[IsD]at hd
  obtain⟨a,e,q⟩:=hd
  simp only[fg]at h
  split at h
  ·rename_i es em
   cases h
   obtain⟨a',q',ho⟩:=hS.at em
   rw[q]at q';cases q'
   obtain⟨xs,e1,e2⟩:=ho
   exact⟨a,xs,e,.inl (.inl e1),aq.mono (CJ) (.refl _) _ _ e2⟩
  ·rename_i es em
   cases h
   obtain⟨a',q',ho⟩:=hS.at em
   rw[q]at q';cases q'
   obtain⟨xs,e1,e2⟩:=ho
   exact⟨a,xs,e,.inl (.inl e1),e2⟩
  ·cases h
 | _=>simp[fg]at h
theorem lb {K:PySem.W.Frag} {ι:List Addr} {μ:Sto} {d:D} {v:V} {ds:List D} (hS:Sim K ι H μ) (hd:IsD K ι H d v) (h:listOf μ d=some ds) :
  ∃a xs,v=.ref a∧LsL K H a xs∧aq K ι H ds xs:=by
 cases d with
 | lst es =>
  cases h
  simp only[IsD]at hd
  obtain⟨a,xs,e,q,r⟩:=hd
  exact⟨a,xs,e,.inr q,r⟩
 | loc n =>
  simp only[IsD]at hd
  obtain⟨a,e,q⟩:=hd
  simp only[listOf]at h
  split at h
  ·rename_i es em
   cases h
   obtain⟨a',q',ho⟩:=hS.at em
   rw[q]at q';cases q'
   obtain⟨xs,e1,e2⟩:=ho
   exact⟨a,xs,e,.inl e1,aq.mono (CJ) (.refl _) _ _ e2⟩
  ·rename_i es em
   cases h
   obtain⟨a',q',ho⟩:=hS.at em
   rw[q]at q';cases q'
   obtain⟨xs,e1,e2⟩:=ho
   exact⟨a,xs,e,.inl e1,e2⟩
  ·cases h
 | _=>simp[listOf]at h
theorem T4 {i:Nat} {x:Str} {pos:Pos} (hN:X.N[i]? = some x) (hv:Vis X.env.scope x) (hd:(x==("__debug__":Str))=false) (hcd:(x==("__classdict__":Str))=false):PE X (.Name x pos) (tE X.K φ (.frz i)) :=
 PE.imp (PE.fq (uz hN hv hd hcd)) fun σv H Q ⟨ι,σ,μ,hS,hL,h⟩=>by
  simp only[evE]at h
  split at h
  ·rename_i n e
   obtain⟨v,e1,e2⟩:=hL i _ e
   refine⟨v,e1,?_⟩
   simp only[IsD]at e2
   obtain⟨a,rfl,ha⟩:=e2
   split at h
   ·rename_i ds em
    obtain⟨a',q',ho⟩:=hS.at em
    rw[ha]at q';cases q'
    obtain⟨xs,f1,f2⟩:=ho
    refine .inr ⟨a,xs,rfl,f1,fun o=>?_⟩
    refine h ι (.ref a) _ (AM _) (.lst f1) (hS.put ha (.lst f1) ⟨_,bg⟩) ?_
    show IsD _ _ _ _ _
    simp only[IsD]
    exact⟨a,xs,rfl,.inl ⟨o,bg⟩,aq.mono (CJ) (.lst f1) ds xs f2⟩
   ·rename_i ds em
    obtain⟨a',q',ho⟩:=hS.at em
    rw[ha]at q';cases q'
    obtain⟨xs,f1,f2⟩:=ho
    refine .inr ⟨a,xs,rfl,f1,fun o=>?_⟩
    refine h ι (.ref a) _ (AM _) (.lst f1) (hS.put ha (.lst f1) ⟨_,bg⟩) ?_
    show IsD _ _ _ _ _
    simp only[IsD]
    exact⟨a,xs,rfl,.inl ⟨o,bg⟩,aq.mono (AM _) (.lst f1) ds xs f2⟩
   ·exact h.elim
  ·exact h.elim
theorem OpR.imp {f:Value→Value→Sem Value} {r r':R2} (h:OpR X f r) (i:∀x y H Q,r' x y H Q→r x y H Q):OpR X f r':=fun pins s σ H x y v u Q I rx ry q=>h pins s σ H x y v u Q I rx ry (i _ _ _ _ q)
theorem IxR.imp {r r':R2} (h:IxR X r) (i:∀x y H Q,r' x y H Q→r x y H Q):IxR X r':=fun e1 e2 pins s σ H x y v u Q I rx ry q=>h e1 e2 pins s σ H x y v u Q I rx ry (i _ _ _ _ q)
theorem jq.imp {f:Value} {r r':List V→Hp→VK→Prop} (h:jq X f r) (i:∀xs H Q,r' xs H Q→r xs H Q):jq X f r':=fun pins s σ H xs us Q I rx q=>h pins s σ H xs us Q I rx (i _ _ _ q)
theorem MtR.imp {id:String} {r r':V→List V→Hp→VK→Prop} (h:MtR X id r) (i:∀x xs H Q,r' x xs H Q→r x xs H Q):MtR X id r':=fun pins s σ H x xs v us Q I rx rr q=>h pins s σ H x xs v us Q I rx rr (i _ _ _ _ q)
theorem Qk {K:PySem.W.Frag} {ι:List Addr} {ds:List D} {xs:List V} {i:Int} {j:Nat} {d:D} (h:aq K ι H ds xs) (hi:Lp.ixN ds.length i=some j) (hj:ds[j]? = some d):∃v,atI xs i=some v∧IsD K ι H d v:=by
 obtain⟨v,e,q⟩:=h.get hj
 refine⟨v,?_,q⟩
 unfold atI
 rw[h.length,show L2.ixN ds.length i=some j from hi]
 exact e
theorem T5:IxR X (rOp X.K ixD):=IxR.imp Px fun x y H Q ⟨ι,d,e,μ,hS,hd,he,h⟩=>by
 unfold ixD at h
 split at h
 ·rename_i i
  have hy:y=.int i:=by simpa[IsD]using he
  subst hy
  split at h
  ·rename_i ds es
   obtain⟨a,xs,rfl,hq,hds⟩:=u7 hS hd es
   split at h
   ·rename_i j ej
    split at h
    ·rename_i d' ed
     obtain⟨v,ev,hv⟩:=Qk hds ej ed
     have qv:=h.ok hS hv
     rcases hq with hq | hq
     ·exact .inl ⟨a,xs,i,v,rfl,rfl,hq.sq,ev,qv⟩
     ·exact .inr (.inl ⟨a,xs,i,v,rfl,rfl,hq,ev,qv⟩)
    ·exact h.elim
   ·exact h.elim
  ·exact h.elim
 ·exact h.elim
theorem K8 {K:PySem.W.Frag} {ι:List Addr} {ds:List D} {xs:List V} (h:aq K ι H ds xs) (lo hi:Option Int):aq K ι H (cut ds lo hi) (Kw xs lo hi):=by
 have e1:∀n d o,Lp.sIx n d o=HT.sIx n d o:=fun n d o=>by cases o<;>rfl
 unfold cut Kw
 rw[h.length,e1,e1]
 exact(h.drop _).take _
end
end Lp
namespace Lp
open PySem PySem.Spec PyProof.Rows L2
noncomputable def Eo (env:Env):List (Str×NameKind)→List (Str×Addr)→List (Str×Addr)
 | [],acc=>acc
 | (n,k)::r,acc=>Eo env r (if k==.free then(n,(env.cells.lookup n).getD 0)::acc else acc)
noncomputable def qy (env:Env) (x:Str×NameKind) (cs:List (Str×Addr)):Sem (ForInStep (List (Str×Addr))):=match x with
 | (name,kind)=>if kind==.free then(do let a ←cellOf env name;pure (ForInStep.yield ((name,a)::cs)))else pure (ForInStep.yield cs)
theorem qd {env:Env}:∀(names:List (Str×NameKind)) (acc:List (Str×Addr)),(∀n,(n,NameKind.free)∈names→∃c,env.cells.lookup n=some c) →
  forIn names acc (qy env)=pure (Eo env names acc)
 | [],acc,_=>rfl
 | (n,k)::r,acc,h=>by
  rw[FC]
  by_cases hk:k=.free
  ·subst hk
   obtain⟨c,hc⟩:=h n AQ
   have e:qy env (n,.free) acc=pure (ForInStep.yield ((n,c)::acc)):=by
    simp only[qy,cellOf,hc,beq_self_eq_true,if_true]
    rfl
   rw[e]
   refine Eq.trans (b:=forIn r ((n,c)::acc) (qy env)) rfl ?_
   rw[qd r ((n,c)::acc) fun m hm=>h m (AK _ hm)]
   simp[Eo,hc]
  ·have hb:(k==NameKind.free)=false:=by simpa using hk
   have e:qy env (n,k) acc=pure (ForInStep.yield acc):=by
    unfold qy
    simp only[hb,AR,if_false]
   rw[e]
   refine Eq.trans (b:=forIn r acc (qy env)) rfl ?_
   rw[qd r acc fun m hm=>h m (AK _ hm)]
   simp[Eo,hb]
theorem u9 {env:Env} {scope:Scope} (h:∀n,(n,NameKind.free)∈scope.names→∃c,env.cells.lookup n=some c):closureFor scope env=pure (Eo env scope.names []):=by
 have e:=qd (env:=env) scope.names [] h
 have e2:closureFor scope env=(forIn scope.names [] (qy env)>>=fun cs=>pure cs):=rfl
 rw[e2,e]
 rfl
theorem r8 {env:Env}:∀(names:List (Str×NameKind)) (acc:List (Str×Addr)) (x:Str) (c:Addr),(∀n,(n,NameKind.free)∈names→∃c,env.cells.lookup n=some c)→(Eo env names acc).lookup x=some c→acc.lookup x=some c∨env.cells.lookup x=some c
 | [],acc,x,c,_,h=>.inl h
 | (n,k)::r,acc,x,c,hh,h=>by
  rcases r8 r _ x c (fun m hm=>hh m (AK _ hm)) h with q | q
  ·by_cases hk:k=.free
   ·subst hk
    obtain⟨c',hc⟩:=hh n AQ
    simp only[beq_self_eq_true,if_true,EA]at q
    by_cases hx:x=n
    ·subst hx
     simp only[beq_self_eq_true,hc,FZ,BP]at q
     subst q
     exact .inr hc
    ·have hb:(x==n)=false:=beq_eq_false_iff_ne.mpr hx
     rw[hb]at q
     exact .inl q
   ·have hb:(k==NameKind.free)=false:=by simpa using hk
    simp only[hb,AR,if_false]at q
    exact .inl q
  ·exact .inr q
theorem yu {env:Env}:∀(names:List (Str×NameKind)) (acc:List (Str×Addr)) (x:Str),(∃c,acc.lookup x=some c)→∃c,(Eo env names acc).lookup x=some c
 | [],acc,x,h=>h
 | (n,k)::r,acc,x,h=>by
  refine yu r _ x ?_
  by_cases hk:(k==NameKind.free)=true
  ·rw[if_pos hk,EA]
   cases hx:x==n with
   | true=>exact⟨_,rfl⟩
   | false=>exact h
  ·rw[if_neg hk];exact h
theorem v8 {env:Env}:∀(names:List (Str×NameKind)) (acc:List (Str×Addr)) (x:Str),(x,NameKind.free)∈names→∃c,(Eo env names acc).lookup x=some c
 | [],acc,x,h=>by cases h
 | (n,k)::r,acc,x,h=>by
  rcases AJ.mp h with e | e
  ·cases e
   refine yu r _ n ?_
   exact⟨(env.cells.lookup n).getD 0,by simp⟩
  ·exact v8 r _ x e
noncomputable def og (X:Cx) (scope:Scope) (Nb:List Str) (C:Addr) (s:Shared) (H:Hp) (fp:List Addr):Cx :=
 {X with N:=Nb,s₀:=s,H₀:=H,env:=compEnvC scope (Eo X.env scope.names []) C X.env,outer:=X.stack,stack:=X.stack,ex:=fp,fn:=fun _=>false,pn:=[],xe:=fun _ _=>False}
structure CompScope (sc scope:Scope) (N Nb:List Str) (cap:List Nat) (nl:Nat):Prop where
 kind:scope.kind=.function
 nocell:∀y∈scope.names,y.2≠.cell
 uniq:∀y∈scope.names,scope.names.lookup y.1=some y.2
 free:∀n,(n,NameKind.free)∈scope.names→sc.names.lookup n=some .cell∨sc.names.lookup n=some .free
 fnames:∀n,(relabel scope {scope:=sc,locals:=0,globals:=0,cells:=[]}).names.lookup n=some .cell∨(relabel scope {scope:=sc,locals:=0,globals:=0,cells:=[]}).names.lookup n=some .free→(n,NameKind.free)∈scope.names
 nd:Nb.Nodup
 len:Nb.length=cap.length+nl
 capt:∀(j:Nat) i,cap[j]? = some i→∃x,Nb[j]? = some x∧N[i]? = some x∧(x,NameKind.free)∈scope.names
theorem Du (scope:Scope) (env env':Env) (h:env.scope=env'.scope):relabel scope env=relabel scope env':=by
 unfold relabel Env.kindOf
 rw[h]
section
variable {X : Cx} {pins : List (Addr × Obj)} {σ : St} {H : Hp} {s : Shared} {scope : Scope} {Nb : List Str} {cap : List Nat} {nl : Nat}
noncomputable def ku (cap:List Nat) (nl:Nat) (σ:St):St:=cap.map (fun i=>(σ[i]?).getD none)++List.replicate nl none
theorem Fk {fp:List Addr} {h':Heap} {tk:Nat} {C:Addr} {m:Str→Option Value} {D:Addr} {n0:Nat} (I:Inv X pins σ H s) (S:CompScope X.env.scope scope X.N Nb cap nl)
  (hf:∀b∈fp,Dd X pins H b) (hfp:∀b∈fp,∃o,s.heap.get? b=some o) (hk:∀b o,s.heap.get? b=some o→h'.get? b=some o) (hC:s.heap.objs.size≤C) (hD:s.heap.objs.size≤D) (hDC:D≠C)
  (hns:h'.Ns C m) (hm:∀x,m x=none) (hDo:h'.get? D=some {cls:=.type "list",data:=.seq #[] n0}) :
  Inv (og X scope Nb C s H fp) [(D,{cls:=.type "list",data:=.seq #[] n0})] (ku cap nl σ) H {s with heap:=h',toks:=tk}:=by
 have hcells:∀n,(n,NameKind.free)∈scope.names→∃c,X.env.cells.lookup n=some c:=fun n hn=>by
  rcases S.free n hn with e | e
  ·exact I.ok.has n (.inl e)
  ·exact I.ok.has n (.inr e)
 have sub:∀x c,(Eo X.env scope.names []).lookup x=some c→X.env.cells.lookup x=some c:=fun x c e=>by
  rcases r8 scope.names [] x c hcells e with q | q
  ·cases q
  ·exact q
 have hlt:∀b∈fp,b<s.heap.objs.size:=fun b hb=>let ⟨o,e⟩:=hfp b hb;AI e
 have hrel:relabel scope X.env=relabel scope {scope:=X.env.scope,locals:=0,globals:=0,cells:=[]}:=Du _ _ _ rfl
 have hcm:∀x c,X.env.cells.lookup x=some c→c<s.heap.objs.size:=fun x c e=>let ⟨v,q⟩:=I.cell x c e;q.lt
 refine⟨⟨I.ok.mod,by show(relabel scope X.env).kind=_;unfold relabel;exact S.kind,I.ok.glob,I.ok.blt,hC,fun x y c e1 e2=>I.ok.inj x y c (sub x c e1) (sub y c e2),fun x hx=>?_,fun x c hfn=>?_,I.ok.hd,I.ok.frames,.inl rfl,
  fun b hb=>⟨AN (AS (hlt b hb) hC),fun x c e=>(hf b hb).2.2.2.2.1 x c (sub x c e)⟩,I.bs,CN I.ok.bsz I.sz,fun b o e hb=>?_,fun b hb hb2=>?_,I.stack,I.stkFree⟩,
  rfl,I.bare,Un.kept hk,⟨m,hns,fun i x v e1 e2 e3=>?_⟩,fun x c e=>?_,I.hok.fresh hC,fun x c e=>I.freeC x c (sub x c e),fun p hp=>?_,I.hok.kept hk,?_⟩
 ·have hx':(relabel scope {scope:=X.env.scope,locals:=0,globals:=0,cells:=[]}).names.lookup x=some .cell∨(relabel scope {scope:=X.env.scope,locals:=0,globals:=0,cells:=[]}).names.lookup x=some .free:=by
   rw[←hrel];exact hx
  exact v8 scope.names [] x (S.fnames x hx')
 ·cases hfn
 ·rcases(hf b hb).2.2.2.1 with z | z
  ·exact I.ok.noex b o e z
  ·have:=AI e
   exact absurd (AS this (CN I.ok.bsz z)) (CW _)
 ·rcases AJ.mp (I.stkSub b hb2)with z | z
  ·exact(hf b hb).2.1 z
  ·exact(hf b hb).2.2.1 z
 ·-- a captured name
  have hi:i<cap.length:=by
   by_cases hi:i<cap.length
   ·exact hi
   ·unfold ku at e2
    rw[CY (by simpa using hi),DD]at e2
    split at e2<;>cases e2
  unfold ku at e2
  rw[AX (by simpa using hi),BS,AC hi]at e2
  simp only[GH,BP]at e2
  obtain⟨y,q1,q2,q3⟩:=S.capt i _ (AC hi)
  have ey:y=x:=BL (q1.symm.trans e1)
  subst ey
  have e4:σ[cap[i]]? = some (some v):=by
   cases e5:σ[cap[i]]? with
   | none=>rw[e5]at e2;cases e2
   | some w=>rw[e5]at e2;simp at e2;rw[e2]
  obtain⟨m0,hn0,hl0⟩:=I.loc
  have hkind:X.env.kindOf y=some .cell∨X.env.kindOf y=some .free:=S.free y q3
  obtain⟨u,r,l⟩:=hl0 _ y v q2 e4 (by rcases hkind with z | z;exact .inr (.inl z);exact .inr (.inr z))
  refine⟨u,r,.inr ?_⟩
  rcases l with⟨z,_⟩ | ⟨_,c,ec,hc⟩
  ·rcases hkind with w | w<;>(rw[w]at z;cases z)
  ·obtain⟨c',ec'⟩:=v8 (env:=X.env) scope.names [] y q3
   have:c'=c:=by have:=sub y c' ec';rw[ec]at this;cases this;rfl
   subst this
   obtain⟨o,ho,hd⟩:=hc
   refine⟨?_,c',ec',o,hk _ _ ho,hd⟩
   -- a free name is seen as a cell or as free
   have hv:(og X scope Nb C s H fp).env.kindOf y=some .local∨(og X scope Nb C s H fp).env.kindOf y=some .cell∨(og X scope Nb C s H fp).env.kindOf y=some .free:=e3
   rcases hv with z | z | z
   ·exfalso
    have hl:(relabel scope X.env).names.lookup y=some .local:=z
    have mem:∀(l:List (Str×NameKind)) (y:Str),(l.map fun(n,k)=>if(k==NameKind.free&&X.env.scope.kind==.function&&X.env.kindOf n==some .cell)then(n,NameKind.cell)else(n,k)).lookup y=some .local→l.lookup y=some .local:=by
     intro l
     induction l with
     | nil=>intro y h;simp at h
     | cons a r ih =>
      obtain⟨n,k⟩:=a
      intro y h
      simp only[AT]at h
      rw[EA]
      by_cases hc:(k==NameKind.free&&X.env.scope.kind==.function&&X.env.kindOf n==some .cell)=true
      ·rw[if_pos hc,EA]at h
       cases hy:y==n with
       | true=>rw[hy]at h;cases h
       | false=>rw[hy]at h;exact ih y h
      ·rw[if_neg hc,EA]at h
       cases hy:y==n with
       | true=>rw[hy]at h;exact h
       | false=>rw[hy]at h;exact ih y h
    have hloc:=mem scope.names y hl
    rw[S.uniq (y,NameKind.free) q3]at hloc
    cases hloc
   ·exact .inl z
   ·exact .inr z
 ·obtain⟨v,o,ho,hd⟩:=I.cell x c (sub x c e)
  exact⟨v,o,hk _ _ ho,hd⟩
 ·have e:p=(D,{cls:=.type "list",data:=.seq #[] n0}):=by
   have:p∈([]:List (Addr×Obj))++[(D,{cls:=.type "list",data:=.seq #[] n0})]:=hp
   simpa using this
  subst e
  refine⟨hDo,I.hok.fresh hD,hDC,fun z=>?_,fun v z=>by cases z⟩
  have z':D∈frs X.stack:=z
  rcases AJ.mp (I.stkSub D z')with w | w
  ·exact absurd (AS I.lt hD) (by rw[w];exact CW _)
  ·exact I.nofs hD w
 ·show(ku cap nl σ).length=Nb.length
  rw[S.len];simp[ku]
end
noncomputable abbrev Ax (ifs:List Expr) (env:Env) (b:Bool):Sem Bool:=forIn ifs b fun c r=>if r=true then do let ok ←isTrue c env (eval c env);pure (ForInStep.yield ok)else pure (ForInStep.yield r)
noncomputable def PTs (X:Cx) (ifs:List Expr) (t:TT):Prop :=
 ∀(pins:List (Addr×Obj)) (s:Shared) (σ:St) (H:Hp) (Q:Bool→Hp→Prop),Inv X pins σ H s→t σ H Q→wpAny (model X.prog X.w) X.A (Ax ifs X.env true) (TP X pins σ Q) X.xe s
theorem sk {M:Model} {A:Around} {E:Value→Shared→Prop} {env:Env} {Q:Bool→Shared→Prop}:∀(ifs:List Expr) {s:Shared},Q false s→wpAny M A (Ax ifs env false) Q E s
 | [],s,h=>AD h
 | c::r,s,h=>by
  show wpAny M A (forIn (c::r) false _) Q E s
  rw[FC]
  exact AA (AD (sk r h))
noncomputable def tTsNil:TT:=fun _ H Q=>Q true H
noncomputable def Mw (t u:TT):TT:=fun σ H Q=>t σ H fun b H1=>if b=true then u σ H1 Q else Q false H1
theorem Mx {X:Cx}:PTs X [] tTsNil:=fun pins s σ H Q I h=>AD ⟨H,I,h⟩
theorem Jb {X:Cx} {c:Expr} {r:List Expr} {t u:TT} (h1:PT X c t) (h2:PTs X r u):PTs X (c::r) (Mw t u):=fun pins s σ H Q I h=>by
 show wpAny _ _ (forIn (c::r) true _) _ _ s
 rw[FC]
 refine AA (AA (thn (h1 pins s σ H _ I h) fun b s1 ⟨H1,I1,q1⟩=>AD ?_))
 cases b with
 | true=>exact h2 pins s1 σ H1 Q I1 q1
 | false=>exact sk r ⟨H1,I1,q1⟩
noncomputable def Kept (σ σ':St):Prop:=σ.length=σ'.length∧∀(i:Nat) v,σ[i]? = some (some v)→σ'[i]? = some (some v)
noncomputable def My (wi:TI) (g:TG) (ts:TT) (te:TE) (σb:St→St):TE:=fun σ H Q=>wi σ H fun J H1=>∃W:Nat→Nat→Hp→List V→Prop,(∃m,W 0 m H1 [])∧∀i m H acc,W i m H acc →
 (J.stop i H∧acc.length≤sizeLine∧∀p,H p=none→Q (.ref p) (upd H p (.lst acc))) ∨
 (J.go i H∧acc.length<sizeLine∧∀x H',J.yld i H x H'→g x (σb σ) H' fun σ2 H2=>Kept (σb σ) σ2∧ts σ2 H2 fun b H3=>if b=true then te σ2 H3 fun v H4=>∃m',m'<m∧W (i+1) m' H4 (acc++[v])else ∃m',m'<m∧W (i+1) m' H3 acc)
section
variable {X : Cx} {scope : Scope} {Nb : List Str} {cap : List Nat} {nl : Nat}
theorem _root_.L2.HOk.track {P:Program} {w:World} {H:Hp} {h:Heap} {p:Addr} {o:HO} (x:HOk P w H h) (hp:H p=none) (new:i5 P w (upd H p o) h p o):HOk P w (upd H p o) h:=fun b u e=>by
 by_cases hb:b=p
 ·subst hb;rw[bg]at e;cases e;exact new
 ·rw[a7 hb]at e
  exact(x b u e).stay (fun c v _ q=>q) (fun c q=>by rw[a7 (c8 q hp)];exact q) fun c xs q=>by rw[a7 (c8 q hp)];exact q
theorem Fm {prog:Program} {w:World} {A:Around} {R:Result→Shared→Prop} {s:Shared} {elt target iter:Expr} {ifs:List Expr} {pos:Pos} {it acc:Value} {env:Env} (I:Nat→Shared→Prop)
  (turn:∀n s,I n s→wpAny (model prog w) A (pyNext it) (fun r s₁=>match r with
   | none=>R (.ok .next) s₁
   | some v=>wpAny (model prog w) A (letOwnedTupleGo target it v) (fun _ s₀=>wpAny (model prog w) A (assign target env v) (fun _ s₂ =>
     wpAny (model prog w) A (Ax ifs env true) (fun ok s₃ =>
      if ok=true then wpAny (model prog w) A (eval elt env) (fun x s₄ =>
       wpAny (model prog w) A (call (.builtin "list.append") [acc,x]) (fun _ s₅=>∃m,m<n∧I m s₅) (fun _ _=>False) s₄) (fun _ _=>False) s₃
      else ∃m,m<n∧I m s₃) (fun _ _=>False) s₂) (fun _ _=>False) s₀) (fun _ _=>False) s₁) (fun _ _=>False) s)
  (n:Nat) (h:I n s) :
  codeAny (model prog w) A (.compLoop (.ListComp elt [⟨target,iter,ifs,0⟩] scope pos) 0 it acc env) R s:=by
 refine codeAny_loop rfl I (fun n s hI=>?_) n h
 show wpAny _ A ((compTurn (.ListComp elt [⟨target,iter,ifs,0⟩] scope pos) 0 it acc env).onRaise (fun x=>do noteFrame x env;theTreesLotGoes x)) _ _ s
 refine wpAny_noted ?_
 rw[compTurn_list]
 have no:∀{α:Type} {t:Sem α} {Q:α→Shared→Prop} {E:Value→Shared→Prop} {s:Shared},wpAny (model prog w) A t Q (fun _ _=>False) s→wpAny (model prog w) A t Q E s:=fun h=>DQ h (fun _ _ q=>q) fun _ _ q=>q.elim
 refine AA (wpAny_standAt (AA (DQ (turn n s hI) (fun r s₁ h₁=>?_) fun _ _ h'=>h'.elim)))
 cases r with
 | none=>exact AD h₁
 | some v =>
  refine AA (DQ h₁ (fun _ s₀ h₀=>?_) fun _ _ h'=>h'.elim)
  refine AA (DQ h₀ (fun _ s₂ h₂=>AA (DQ h₂ (fun ok s₃ h₃=>?_) fun _ _ h'=>h'.elim)) fun _ _ h'=>h'.elim)
  cases ok with
  | false=>exact AD ⟨rfl,h₃⟩
  | true =>
   exact AA (AA (DQ h₃ (fun x s₄ h₄=>AA (DQ h₄ (fun _ s₅ h₅=>AD (AD ⟨rfl,h₅⟩)) fun _ _ h'=>h'.elim)) fun _ _ h'=>h'.elim))
noncomputable def Ay (X:Cx) (scope:Scope) (Nb:List Str) (target:Expr) (ifs:List Expr) (elt:Expr) (g:TG) (ts:TT) (te:TE):Prop :=
 ∀C s H fp,PG (og X scope Nb C s H fp) target g∧PTs (og X scope Nb C s H fp) ifs ts∧PE (og X scope Nb C s H fp) elt te
theorem vc {elt target iter:Expr} {ifs:List Expr} {pos:Pos} {g:TG} {ts:TT} {te:TE} {pins:List (Addr×Obj)} {σ:St} {H:Hp} {s:Shared} {it:Addr} {fp:List Addr} {tn:Nat→Heap→Prop} {J:L2.It} {Q:VK} {E:Value→Shared→Prop} {use:Option (Value→Sem Unit)} {QQ:Value→Shared→Prop}
  (S:CompScope X.env.scope scope X.N Nb cap nl) (hc:X.calm=true) (B:Ay X scope Nb target ifs elt g ts te) (I:Inv X pins σ H s) (T:Turn X.prog X.w X.K target J fp it tn) (t0:tn 0 s.heap) (hf:∀b∈fp,Dd X pins H b)
  (h:∃W:Nat→Nat→Hp→List V→Prop,(∃m,W 0 m H [])∧∀i m H acc,W i m H acc →
   (J.stop i H∧acc.length≤sizeLine∧∀p,H p=none→Q (.ref p) (upd H p (.lst acc))) ∨
   (J.go i H∧acc.length<sizeLine∧∀x H',J.yld i H x H'→g x (ku cap nl σ) H' fun σ2 H2=>Kept (ku cap nl σ) σ2∧ts σ2 H2 fun b H3=>if b=true then te σ2 H3 fun v H4=>∃m',m'<m∧W (i+1) m' H4 (acc++[v])else ∃m',m'<m∧W (i+1) m' H3 acc))
  (hQ:∀(D C:Addr) (s':Shared) m,s.heap.objs.size≤C→(∀h',Heap.SameBut C s'.heap h'→EP X pins σ (fun v H=>H C=none∧Q v H) (.ref D) {s' with heap:=h'})→s'.heap.Ns C m→compPost (model X.prog X.w) X.A E use QQ (.ref D) C (.ok .next) s') :
  wpAny (model X.prog X.w) X.A (newList []) (fun acc s₃=>wpAny (model X.prog X.w) X.A (newFunctionEnv scope X.env.globals (Eo X.env scope.names []) [] X.env.qual none .none (some X.env)) (fun cenv s₄ =>
   codeAny (model X.prog X.w) X.A (.compStart (.ListComp elt [⟨target,iter,ifs,0⟩] scope pos) 0 (.ref it) acc {cenv with scope:=relabel scope X.env}) (compPost (model X.prog X.w) X.A E use QQ acc cenv.locals) s₄) E s₃) E s:=by
 refine BO (wpAny_newFunctionEnv S.nocell (by intro y hy;simp at hy) (fun h₁ hns₁ hsb₁=>?_) S.kind)
 dsimp only at hns₁ hsb₁ ⊢
 generalize hH2:s.heap.push {cls:=.type "list",dict:=none,data:=.seq ([]:List Value).toArray}=H2 at hns₁ hsb₁ ⊢
 have hC:H2.objs.size=s.heap.objs.size+1:=by rw[←hH2,CS]
 have hDC:s.heap.objs.size≠H2.objs.size:=by rw[hC];exact AN (EV _)
 have hCle:s.heap.objs.size≤H2.objs.size:=by rw[hC];exact ED _
 have old:∀b o,s.heap.get? b=some o→h₁.get? b=some o:=fun b o e=>hsb₁.extBut b o (by rw[hC];exact AN (DE (AI e))) (AB _ (hH2 ▸ AB _ e))
 have hDo:h₁.get? s.heap.objs.size=some {cls:=.type "list",data:=.seq #[]}:=hsb₁.extBut _ _ hDC (AB _ (hH2 ▸ AF _ rfl))
 have hfp:∀b∈fp,∃o,s.heap.get? b=some o:=fun b hb=>let ⟨o,e,_⟩:=T.obj 0 _ t0 b hb;⟨o,e⟩
 have hlt:∀b∈fp,b<s.heap.objs.size:=fun b hb=>let ⟨o,e⟩:=hfp b hb;AI e
 obtain⟨W,⟨m0,w0⟩,turn⟩:=h
 obtain⟨BG,BT,BE⟩:=B H2.objs.size s H fp
 have I4:=Fk (tk:=s.toks+([]:List (Str×Value)).length) I S hf hfp old hCle (AH _) hDC hns₁ (fun x=>by simp) hDo
 have hcells:∀n,(n,NameKind.free)∈scope.names→∃c,X.env.cells.lookup n=some c:=fun n hn=>by
  rcases S.free n hn with e | e
  ·exact I.ok.has n (.inl e)
  ·exact I.ok.has n (.inr e)
 -- what the iterator's objects are to the block
 have stat:∀{H':Hp},(∀b∈fp,H' b=none)→∀b∈fp,Dd (og X scope Nb H2.objs.size s H fp) [] H' b:=fun hn b hb=>by
  refine⟨hn b hb,AN (AS (hlt b hb) hCle),fun z=>?_,.inl hb,fun x c e=>?_,fun p hp=>absurd (show p∈([]:List (Addr×Obj))++[]from hp) (by simp)⟩
  ·rcases AJ.mp (I.stkSub b z)with z | z
   ·exact(hf b hb).2.1 z
   ·exact(hf b hb).2.2.1 z
  ·rcases r8 scope.names [] x c hcells e with q | q
   ·cases q
   ·exact(hf b hb).2.2.2.2.1 x c q
 have loop:∀s₃:Shared,s₃={s with heap:=h₁,toks:=s.toks+([]:List (Str×Value)).length} →
   codeAny (model X.prog X.w) X.A (.compLoop (.ListComp elt [⟨target,iter,ifs,0⟩] scope pos) 0 (.ref it) (.ref s.heap.objs.size) (compEnvC scope (Eo X.env scope.names []) H2.objs.size X.env))
    (compPost (model X.prog X.w) X.A E use QQ (.ref s.heap.objs.size) H2.objs.size) s₃:=by
  rintro s₃ rfl
  refine Fm (fun n s'=>∃i H' acc its n',Inv (og X scope Nb H2.objs.size s H fp) [] (ku cap nl σ) H' s'∧tn i s'.heap∧(∀b∈fp,H' b=none)∧H' s.heap.objs.size=none ∧
   s'.heap.get? s.heap.objs.size=some {cls:=.type "list",data:=.seq (its:List Value).toArray n'}∧cz acc its∧W i n H' acc) ?_ m0
   ⟨0,H,[],[],_,I4.pins_of (fun p hp=>absurd hp (by simp)),T.keep _ _ _ t0 fun b hb o e=>old b o e,fun b hb=>(hf b hb).1,I.hok.fresh (AH _),hDo,.nil,w0⟩
  rintro n s5 ⟨i,H5,acc,its,n5,I5,t5,f5,hD5,hget5,hv5,w5⟩
  rcases turn i n H5 acc w5 with⟨stop,hz,q⟩ | ⟨go,hz,q⟩
  ·refine thn (T.done (og X scope Nb H2.objs.size s H fp) rfl rfl rfl hc i [(s.heap.objs.size,{cls:=.type "list",data:=.seq its.toArray n5})] s5 _ H5 _ (I5.pins_of ?_) ?_ t5 stop) fun r s6 ⟨hr,I6⟩=>?_
   ·intro p hp
    have e:p=(s.heap.objs.size,{cls:=.type "list",data:=.seq its.toArray n5}):=by simpa using hp
    subst e
    refine⟨hget5,hD5,hDC,fun z=>?_,fun v z=>by cases z⟩
    rcases AJ.mp (I.stkSub _ (show s.heap.objs.size∈frs X.stack from z))with w | w
    ·exact absurd I.lt (by rw[←w];exact CW _)
    ·exact I.nofs (AH _) w
   ·intro b hb
    obtain⟨a1,a2,a3,a4,a5,a6⟩:=stat f5 b hb
    refine⟨a1,a2,a3,a4,a5,fun p hp=>?_⟩
    have e:p=(s.heap.objs.size,{cls:=.type "list",data:=.seq its.toArray n5}):=by
     have:p∈([]:List (Addr×Obj))++[(s.heap.objs.size,{cls:=.type "list",data:=.seq its.toArray n5})]:=hp
     simpa using this
    subst e
    exact fun z=>absurd (hlt b hb) (by rw[←z];exact CW _)
   ·subst hr
    have hget6:=(I6.pin (s.heap.objs.size,{cls:=.type "list",data:=.seq its.toArray n5}) (by show _∈([]:List (Addr×Obj))++_;simp)).1
    obtain⟨m6,hn6,_⟩:=I6.loc
    refine hQ _ _ s6 m6 hCle (fun h' hs'=>?_) hn6
    have hk6:∀b o,b≠H2.objs.size→s6.heap.get? b=some o→h'.get? b=some o:=fun b o hb e=>hs'.extBut b o hb e
    have hgetD:=hk6 _ _ hDC hget6
    have Cn:H5 H2.objs.size=none:=I6.free
    have hok':HOk X.prog X.w H5 h':=fun b u e=>by
     refine(I6.hok b u e).stay (fun c v hcc q=>hk6 c v ?_ q) (fun _ q=>q) fun _ _ q=>q
     rcases hcc with z | z
     ·rintro rfl;rw[←z]at e;rw[Cn]at e;cases e
     ·rintro rfl;rw[Cn]at z;cases z
    refine⟨.ref s.heap.objs.size,upd H5 s.heap.objs.size (.lst acc),?_,rfl,by rw[a7 (Ne.symm hDC)];exact Cn,q _ hD5⟩
    have hU:Un (frs X.stack) fp H H5 s.heap s6.heap:=I6.base
    have nC:∀b o,s.heap.get? b=some o→b≠H2.objs.size:=fun b o e=>AN (AS (AI e) hCle)
    have nD:∀b o,s.heap.get? b=some o→b≠s.heap.objs.size:=fun b o e=>AN (AI e)
    refine I.call' (s':={s6 with heap:=h'}) (ch:=fp) (by show s6.os=s.os;exact I6.os) ⟨fun b o e nn hb hx=>hk6 b o (nC b o e) (hU.keep b o e nn hb hx),fun b o e nn hb hx=>?_,fun b o e nn hx=>?_,fun b o e hx=>?_,fun b xs e=>?_,fun b o u e=>?_,fun b ps e=>?_⟩ ?_ I6.bare ?_
    ·obtain⟨sl,e2⟩:=hU.slot b o e nn hb hx
     exact⟨sl,hk6 b _ (nC b o e) e2⟩
    ·rw[a7 (nD b o e)];exact hU.free b o e nn hx
    ·obtain⟨o',e2⟩:=hU.there b o e hx
     exact⟨o',hk6 b _ (nC b o e) e2⟩
    ·have e2:=hU.tups b xs e
     rw[a7 (c8 e2 hD5)];exact e2
    ·have e2:=hU.frzs b o u e
     rw[a7 (c8 e2 hD5)];exact e2
    ·obtain⟨more,e2⟩:=hU.tbls b ps e
     exact⟨more,by rw[a7 (c8 e2 hD5)];exact e2⟩
    ·exact L2.HOk.track hok' hD5 ⟨hz,its,n5,hv5,hgetD⟩
    ·intro b hb
     obtain⟨a1,a2,a3,a4,a5,a6⟩:=hf b hb
     exact⟨a4,a2,a5,a6⟩
  ·-- one more turn
   have notfs:s.heap.objs.size∉frs X.stack:=fun z=>by
    rcases AJ.mp (I.stkSub _ z)with w | w
    ·exact absurd I.lt (by rw[←w];exact CW _)
    ·exact I.nofs (AH _) w
   have I5':Inv (og X scope Nb H2.objs.size s H fp) [(s.heap.objs.size,{cls:=.type "list",data:=.seq its.toArray n5})] (ku cap nl σ) H5 s5:=I5.pins_of fun p hp=>by
    have e:p=(s.heap.objs.size,{cls:=.type "list",data:=.seq its.toArray n5}):=by simpa using hp
    subst e
    exact⟨hget5,hD5,hDC,notfs,fun v z=>by cases z⟩
   have stat':∀{H':Hp},(∀b∈fp,H' b=none)→∀b∈fp,Dd (og X scope Nb H2.objs.size s H fp) [(s.heap.objs.size,{cls:=.type "list",data:=.seq its.toArray n5})] H' b:=fun hn b hb=>by
    obtain⟨a1,a2,a3,a4,a5,a6⟩:=stat hn b hb
    refine⟨a1,a2,a3,a4,a5,fun p hp=>?_⟩
    have e:p=(s.heap.objs.size,{cls:=.type "list",data:=.seq its.toArray n5}):=by
     have:p∈([]:List (Addr×Obj))++[(s.heap.objs.size,{cls:=.type "list",data:=.seq its.toArray n5})]:=hp
     simpa using this
    subst e
    exact fun z=>absurd (hlt b hb) (by rw[←z];exact CW _)
   refine thn (T.item (og X scope Nb H2.objs.size s H fp) rfl rfl rfl hc i _ s5 _ H5 (fun _ _=>False) I5' (stat' f5) t5 go) fun r s6 ⟨u,hr,h6⟩=>?_
   subst hr
   refine thn h6 fun _ s7 ⟨x,H7,I7,r7,y7,t7,f7⟩=>?_
   have I7':=I7.pinned (stat' f7) (T.obj _ _ t7)
   have back:∀{σ':St} {H':Hp} {s':Shared},Inv (og X scope Nb H2.objs.size s H fp) ([(s.heap.objs.size,{cls:=.type "list",data:=.seq its.toArray n5})]++yg fp s7.heap) σ' H' s' →
     tn (i+1) s'.heap∧(∀b∈fp,H' b=none)∧H' s.heap.objs.size=none∧s'.heap.get? s.heap.objs.size=some {cls:=.type "list",data:=.seq its.toArray n5}:=fun {σ' H' s'} J'=>by
    have pD:=J'.pin (s.heap.objs.size,{cls:=.type "list",data:=.seq its.toArray n5}) (by show _∈([]:List (Addr×Obj))++_;simp)
    refine⟨T.keep _ _ _ t7 fun b hb o e=>(J'.pin (b,o) (BV _ (BV _ (my hb e)))).1,fun b hb=>?_,pD.2.1,pD.1⟩
    obtain⟨o,e,d⟩:=T.obj _ _ t7 b hb
    exact(J'.pin (b,o) (BV _ (BV _ (my hb e)))).2.1
   refine thn (BG _ s7 _ H7 x u _ I7' r7 (q x H7 y7)) fun _ s8 ⟨σ8,H8,I8,ks,q8⟩=>?_
   refine thn (BT _ s8 σ8 H8 _ I8 q8) fun ok s9 ⟨H9,I9,q9⟩=>?_
   cases ok with
   | false =>
    obtain⟨m',hm',w9⟩:∃m',m'<n∧W (i+1) m' H9 acc:=q9
    obtain⟨b1,b2,b3,b4⟩:=back I9
    exact⟨m',hm',i+1,H9,acc,its,n5,(I9.weak ks.1 ks.2).pins_of (fun p hp=>absurd hp (by simp)),b1,b2,b3,b4,hv5,w9⟩
   | true =>
    refine thn (BE _ s9 σ8 H9 _ I9 q9) fun xv s10 ⟨v,H10,I10,r10,m',hm',w10⟩=>?_
    obtain⟨b1,b2,b3,b4⟩:=back I10
    have hl5:=hv5.length
    refine wpAny_list_append_plain (items:=its.toArray) ⟨n5,b4⟩ (fun h' hpl hs'=>?_) (by rw[AE,←hl5];exact EE hz)
    obtain⟨n6,hg6⟩:=hpl
    have I11:Inv (og X scope Nb H2.objs.size s H fp) [] (ku cap nl σ) H10 {s10 with heap:=h'}:=by
     have I10':=(I10.weak ks.1 ks.2).pins_of (pins':=[]) (fun p hp=>absurd hp (by simp))
     refine I10'.turned (t':=s10.toks) (it:=s.heap.objs.size) (fun b o hb e=>hs'.extBut b o hb e) b3 hDC (.inr (AH _)) (fun x c e=>?_) (fun p hp=>absurd (show p∈([]:List (Addr×Obj))++[]from hp) (by simp))
     rcases r8 scope.names [] x c hcells e with q | q
     ·cases q
     ·obtain⟨v,hcc⟩:=I.cell x c q
      exact AN hcc.lt
    refine⟨m',hm',i+1,H10,acc++[v],its++[xv],n6,I11,?_,b2,b3,by rw[hg6];simp,hv5.append (.cons r10 .nil),w10⟩
    exact T.keep _ _ _ b1 fun b hb o e=>hs'.extBut b o (AN (hlt b hb)) e
 exact codeAny_compStart_list (loop _ rfl) (T.self X.A 0 _ _ _ (T.keep _ _ _ t0 fun b hb o e=>old b o e) (loop _ rfl))
theorem Mz {elt target iter:Expr} {ifs:List Expr} {pos:Pos} {wi:TI} {g:TG} {ts:TT} {te:TE} (S:CompScope X.env.scope scope X.N Nb cap nl) (hc:X.calm=true) (hi:PI X target iter wi) (B:Ay X scope Nb target ifs elt g ts te)
  (hs:∀x,foldedSetIterable iter X.env x=pure x):PE X (.ListComp elt [⟨target,iter,ifs,0⟩] scope pos) (My wi g ts te (ku cap nl)):=by
 intro pins s σ H Q I h
 rw[eval_ListComp]
 have hcells:∀n,(n,NameKind.free)∈scope.names→∃c,X.env.cells.lookup n=some c:=fun n hn=>by
  rcases S.free n hn with e | e
  ·exact I.ok.has n (.inl e)
  ·exact I.ok.has n (.inr e)
 refine wpAny_comprehension_free (use:=none) rfl hs (u9 hcells) S.kind (fun y hy hl=>by rw[S.uniq y hy,hl]) ?_
 refine thn (hi pins s σ H _ I h) fun v s1 h1=>thn h1 fun itv s2 ⟨it,fp,tn,J,H2,e,I2,T,t2,f2,hW⟩=>?_
 subst e
 exact vc (Q:=Q) (QQ:=EP X pins σ Q) S hc B I2 T t2 f2 hW fun D C s' m _ hq hn=>⟨m,hn,fun h' hs'=>let ⟨v,H',I',r,q⟩:=hq h' hs';⟨v,H',I',r,q.2⟩⟩
theorem Dw {elt target iter:Expr} {ifs:List Expr} {pos spos py:Pos} {y:Str} {i:Nat} {wi:TI} {g:TG} {ts:TT} {te:TE} (S:CompScope X.env.scope scope X.N Nb cap nl) (hc:X.calm=true) (hi:PI X target iter wi) (B:Ay X scope Nb target ifs elt g ts te)
  (hs:∀x,foldedSetIterable iter X.env x=pure x) (hsw:swapsWith (.ListComp elt [⟨target,iter,ifs,0⟩] scope pos) (some (.Name y py)) spos.line X.env=pure true)
  (hN:X.N.Nodup) (hiN:X.N[i]? = some y) (hy:X.env.scope.names.lookup y=some .local) :
  PS X (.Assign [.Name y py] (.ListComp elt [⟨target,iter,ifs,0⟩] scope pos) spos) (fun E σ H=>My wi g ts te (ku cap nl) σ H (FQ fun v H1=>E.nx (σ.set i (some v)) H1)):=by
 intro pins s σ H E I h
 rw[exec_Assign_Name_used _ _ _ _ hsw]
 have hcells:∀n,(n,NameKind.free)∈scope.names→∃c,X.env.cells.lookup n=some c:=fun n hn=>by
  rcases S.free n hn with e | e
  ·exact I.ok.has n (.inl e)
  ·exact I.ok.has n (.inr e)
 refine AA (wpAny_standAt (AA ?_))
 show wpAny _ _ (comprehension _ scope X.env _ (newList []) false (eval iter X.env) (some (assign (.Name y py) X.env))>>=fun _=>pure ()) _ _ _
 refine AA (wpAny_comprehension_free (use:=some (assign (.Name y py) X.env)) rfl hs (u9 hcells) S.kind (fun z hz hl=>by rw[S.uniq z hz,hl]) ?_)
 refine thn (hi pins s σ H _ I h) fun v s1 h1=>thn h1 fun itv s2 ⟨it,fp,tn,J,H2,e,I2,T,t2,f2,hW⟩=>?_
 subst e
 refine vc (Q:=FQ fun v H1=>E.nx (σ.set i (some v)) H1) S hc B I2 T t2 f2 hW fun D C s' m hC hq hn=>?_
 obtain⟨v,H',I',r,hCn,q⟩:=hq s'.heap (.refl ..)
 have hep:∃H',Inv X pins σ H' s'∧H' C=none∧E.nx (σ.set i (some v)) H':=by
  rcases q with q | ⟨p,xs,rfl,e,q⟩
  ·exact⟨H',I',hCn,q⟩
  ·obtain⟨o,I''⟩:=L2.Inv.freeze I' e
   exact⟨_,I'',by rw[a7 (fun z=>by rw[z,e]at hCn;cases hCn)];exact hCn,q o⟩
 obtain⟨H',I',hCn,q⟩:=hep
 have hCL:C≠X.env.locals:=CF (AS I2.lt hC)
 show wpAny _ _ (assign (.Name y py) X.env (.ref D)) _ _ s'
 refine wpAny_assign_Name (yf I' hN hiN (.inl hy) r (fun s'' I'' ⟨a,hsb,ha⟩=>?_) (.inr hy))
 have haC:C≠a:=by
  rcases ha with z | z
  ·rw[z];exact hCL
  ·obtain⟨w,hc⟩:=I2.cell y a z
   exact CF (AS hc.lt hC)
 refine⟨m,hn.sameBut hsb haC,fun h' hs'=>?_⟩
 refine AD (AD ⟨_,H',?_,q⟩)
 refine I''.turned (t':=s''.toks) (it:=C) (fun b o hb e=>hs'.extBut b o hb e) hCn hCL (.inr (CN I2.sz hC)) (fun x c e=>?_) (fun p hp=>?_)
 ·obtain⟨w,hc⟩:=I2.cell x c e
  exact AN (AS hc.lt hC)
 ·exact AN (AS (AI (I2.pin p hp).1) hC)
end
end Lp
namespace Lp
open PySem PySem.Spec PyProof.Rows L2
noncomputable def tTs (K:PySem.W.Frag) (φ:Phi) (x:Exs):TT:=fun σv H Q=>∃ι σ μ,Sim K ι H μ∧p9 K ι H σ σv∧h9 K RB ι H (Dt φ x σ μ) Q
section
variable {X : Cx} {φ : Phi} {scope : Scope} {Nb : List Str} {cap : List Nat} {nl : Nat}
theorem PTs.imp {ifs:List Expr} {t t':TT} (h:PTs X ifs t) (i:∀σ H Q,t' σ H Q→t σ H Q):PTs X ifs t':=fun pins s σ H Q I q=>h pins s σ H Q I (i σ H Q q)
theorem Ql:PTs X [] (tTs X.K φ .nil):=PTs.imp Mx fun σv H Q ⟨ι,σ,μ,hS,hL,h⟩=>by
 simp only[Dt]at h
 exact h.ok hS rfl
theorem M0 {c:Expr} {r:List Expr} {xc:Ex} {xr:Exs} (h1:PT X c (tT X.K φ xc)) (h2:PTs X r (tTs X.K φ xr)):PTs X (c::r) (tTs X.K φ (.cons xc xr)):=PTs.imp (Jb h1 h2) fun σv H Q ⟨ι,σ,μ,hS,hL,h⟩=>by
 simp only[Dt]at h
 obtain⟨d,μ1,e1,h⟩:=h.bind
 refine⟨ι,σ,μ,hS,hL,?_⟩
 rw[e1]
 cases d with
 | bl k =>
  intro ι1 x H1 p1 x1 s1 d1
  cases d1
  cases k with
  | true=>exact⟨ι1,σ,μ1,s1,hL.mono p1 x1,(show h9 _ _ _ _ (Dt φ xr σ μ1) _ from h).mono p1 x1⟩
  | false=>exact h ι1 false H1 p1 x1 s1 rfl
 | _=>exact h.elim
theorem Jc {K:PySem.W.Frag} {ι:List Addr} {H:Hp} {σ:Sl} {σv:St} (hL:p9 K ι H σ σv):p9 K ι H (cap.map (fun i=>(σ[i]?).getD none)++List.replicate nl none) (ku cap nl σv):=fun j d e=>by
 by_cases hj:j<cap.length
 ·rw[AX (by simpa using hj),BS,AC hj]at e
  simp only[GH,BP]at e
  have e4:σ[cap[j]]? = some (some d):=by
   cases e5:σ[cap[j]]? with
   | none=>rw[e5]at e;cases e
   | some w=>rw[e5]at e;simp at e;rw[e]
  obtain⟨v,q1,q2⟩:=hL _ _ e4
  refine⟨v,?_,q2⟩
  unfold ku
  rw[AX (by simpa using hj),BS,AC hj]
  simp[q1]
 ·rw[CY (by simpa using hj),DD]at e
  split at e<;>cases e
theorem Jd {σv σv':St} {tg:Tg} (hs:∀j∈slots tg,cap.length≤j) (hl:σv'.length=(ku cap nl σv).length) (h:∀j,j∉slots tg→σv'[j]? = (ku cap nl σv)[j]?):Kept (ku cap nl σv) σv':=by
 refine⟨hl.symm,fun i v e=>?_⟩
 have hi:i<cap.length:=by
  by_cases hi:i<cap.length
  ·exact hi
  ·unfold ku at e
   rw[CY (by simpa using hi),DD]at e
   split at e<;>cases e
 rw[h i fun z=>absurd (hs i z) (by lia)]
 exact e
theorem yw {m:Mk} {tg:Tg} {it:It} {cs:Exs} {elt:Ex} {σv:St} {H:Hp} {Q:VK} (hs:∀j∈slots tg,cap.length≤j) (h:tE X.K φ (.comp m cap nl tg it cs elt) σv H Q) :
  My (tI X.K φ it) (tG X.K tg) (tTs X.K φ cs) (tE X.K φ elt) (ku cap nl) σv H (FQ Q):=by
 obtain⟨ι,σ,μ,hS,hL,h⟩:=h
 simp only[evE]at h
 obtain⟨⟨ds,g⟩,μ1,e1,h⟩:=h.bind
 refine⟨ι,σ,μ,hS,hL,?_⟩
 rw[e1]
 intro ι1 H1 J p1 x1 s1 wk
 refine⟨fun i k H' acc=>k=ds.length-i∧i≤ds.length∧acc.length≤i∧∃ι' μ' ys,ι1 <+: ι'∧Ext H1 H'∧Sim X.K ι' H' μ'∧aq X.K ι' H' ys acc ∧
  h9 X.K (RD X.K) ι' H' ((mapR g (fun d μ=>nz (gk tg d (cap.map (fun i=>(σ[i]?).getD none)++List.replicate nl none)) fun σ' =>
    (Dt φ cs σ' μ).bind fun b μ=>if b=true then(evE φ elt σ' μ).bind fun x μ=>.ok [x] μ else .ok [] μ) (ds.drop i) μ').bind fun xs μ=>mkL m (ys++xs) μ) Q,
  ⟨ds.length,by simp,CP _,AH _,ι1,μ1,[],AM _,.refl _,s1,by simp[aq],?_⟩,?_⟩
 ·simpa using h.mono p1 x1
 ·rintro i k H' acc ⟨rfl,hi,hacc,ι',μ',ys,p',x',s',hys,h'⟩
  have wl:=wk.len
  by_cases hlt:i<ds.length
  ·obtain⟨d,ed⟩:∃d,ds[i]? = some d:=⟨ds[i],AC hlt⟩
   have edrop:ds.drop i=d::ds.drop (i+1):=by
    rw[HC hlt]
    rw[AC hlt]at ed
    cases ed;rfl
   rw[edrop]at h'
   simp only[mapR]at h'
   split at h'
   ·rename_i hgd
    right
    refine⟨wk.go i ι' H' μ' p' x' s' hgd hlt,by lia,fun v H2 hy=>?_⟩
    obtain⟨x2,s2,d',ed',hd'⟩:=wk.yld i ι' H' μ' v H2 p' x' s' hgd hlt hy
    rw[ed]at ed';cases ed'
    rw[Res.bind_assoc]at h'
    cases eb:gk tg d (cap.map (fun i=>(σ[i]?).getD none)++List.replicate nl none)with
    | none=>rw[eb]at h';exact h'.elim
    | some σb =>
     rw[eb]at h'
     simp only[Au]at h'
     have hLb:=Jc (cap:=cap) (nl:=nl) ((hL.mono (p1.trans p') (x1.trans x')).mono (AM _) x2)
     refine⟨ι',_,d,σb,hLb,?_,hd',eb,fun σv2 l2 z2 z3 k2=>⟨Jd hs z3 k2,ι',σb,μ',s2,l2,?_⟩⟩
     ·simp[ku]
     ·rw[Res.bind_assoc]at h'
      obtain⟨b,μ2,e2,h2⟩:=h'.bind
      rw[e2]
      intro ι3 b' H3 p3 x3 s3 d3
      cases d3
      cases b with
      | false =>
       refine⟨ds.length-(i+1),by lia,rfl,hlt,by lia,ι3,μ2,ys,p'.trans p3,(x'.trans x2).trans x3,s3,aq.mono p3 (x2.trans x3) _ _ hys,?_⟩
       have h3:=h2.mono p3 (x2.trans x3)
       simpa[Res.bind_assoc]using h3
      | true =>
       simp only[if_true]at h2 ⊢
       rw[Res.bind_assoc]at h2
       obtain⟨y,μ3,e3,h3⟩:=h2.bind
       refine⟨ι3,σb,μ2,s3,l2.mono p3 x3,?_⟩
       rw[e3]
       intro ι4 w H4 p4 x4 s4 d4
       refine⟨ds.length-(i+1),by lia,rfl,hlt,by simp;lia,ι4,μ3,ys++[y],(p'.trans p3).trans p4,((x'.trans x2).trans x3).trans x4,s4,(aq.mono (p3.trans p4) ((x2.trans x3).trans x4) _ _ hys).append (.one d4),?_⟩
       have h4:=h3.mono (p3.trans p4) ((x2.trans x3).trans x4)
       simpa[Res.bind_assoc]using h4
   ·exact h'.elim
  ·have ei:i=ds.length:=by lia
   subst ei
   simp only[List.drop_length,mapR]at h'
   split at h'
   ·rename_i hgd
    refine .inl ⟨wk.stop ι' H' μ' p' x' s' hgd,by lia,fun p hp=>mm s' hys (by simpa using h') hp⟩
   ·exact h'.elim
theorem Qm {e target iter:Expr} {ifs:List Expr} {pos:Pos} {m:Mk} {tg:Tg} {it:It} {cs:Exs} {elt:Ex} (S:CompScope X.env.scope scope X.N Nb cap nl) (hc:X.calm=true) (hi:PI X target iter (tI X.K φ it))
  (B:Ay X scope Nb target ifs e (tG X.K tg) (tTs X.K φ cs) (tE X.K φ elt)) (hf:∀x,foldedSetIterable iter X.env x=pure x) (hs:∀j∈slots tg,cap.length≤j) :
  PE X (.ListComp e [⟨target,iter,ifs,0⟩] scope pos) (tE X.K φ (.comp m cap nl tg it cs elt)) :=
 PE.imp (PE.fq (Mz S hc hi B hf)) fun σv H Q h=>yw hs h
theorem Fn {e target iter:Expr} {ifs:List Expr} {pos spos py:Pos} {y:Str} {i:Nat} {m:Mk} {tg:Tg} {it:It} {cs:Exs} {elt:Ex} (S:CompScope X.env.scope scope X.N Nb cap nl) (hc:X.calm=true) (hi:PI X target iter (tI X.K φ it))
  (B:Ay X scope Nb target ifs e (tG X.K tg) (tTs X.K φ cs) (tE X.K φ elt)) (hf:∀x,foldedSetIterable iter X.env x=pure x) (hs:∀j∈slots tg,cap.length≤j)
  (hsw:swapsWith (.ListComp e [⟨target,iter,ifs,0⟩] scope pos) (some (.Name y py)) spos.line X.env=pure true) (hN:X.N.Nodup) (hiN:X.N[i]? = some y) (hy:X.env.scope.names.lookup y=some .local) :
  PS X (.Assign [.Name y py] (.ListComp e [⟨target,iter,ifs,0⟩] scope pos) spos) (tS X.K φ (.set i (.comp m cap nl tg it cs elt))) :=
 PS.imp (Dw S hc hi B hf hsw hN hiN hy) fun E σv H ⟨ι,σ,μ,hS,hL,hl,h⟩=>by
  refine yw (m:=m) (Q:=fun v H1=>E.nx (σv.set i (some v)) H1) hs ?_
  simp only[evS]at h
  obtain⟨d,μ1,e1,h⟩:=h.bind
  refine⟨ι,σ,μ,hS,hL,?_⟩
  rw[e1]
  exact fun ι1 v H1 p1 x1 s1 d1=>h ι1 _ H1 p1 x1 s1 ((hL.mono p1 x1).set hl d1) (by simp[hl])
end
end Lp
namespace Lp
open PySem PySem.Spec PyProof.Rows L2
section
variable {X : Cx} {φ : Phi}
theorem iz {K:PySem.W.Frag} {ι:List Addr} {H:Hp} {ds:List D} {v:V} (h:IsD K ι H (.tup ds) v):∃a xs,v=.ref a∧SqT K H a xs∧aq K ι H ds xs:=by
 simpa[IsD]using h
theorem tup_is {K:PySem.W.Frag} {ι:List Addr} {H:Hp} {ds:List D} {a:Addr} {xs:List V} (h:SqT K H a xs) (h2:aq K ι H ds xs):IsD K ι H (.tup ds) (.ref a):=by
 simp only[IsD]
 exact⟨a,xs,rfl,h,h2⟩
theorem fh {K:PySem.W.Frag} {ι:List Addr} {H:Hp} {i:Int} {v:V} (h:IsD K ι H (.int i) v):v=.int i:=by simpa[IsD]using h
theorem yx {K:PySem.W.Frag} {ι:List Addr} {H:Hp} {i:Bool} {v:V} (h:IsD K ι H (.bl i) v):v=.bl i:=by simpa[IsD]using h
theorem v9 {K:PySem.W.Frag} {ι:List Addr} {H:Hp} {μ:Sto} {ds:List D} {xs:List V} {Q:VK} {p:Addr} (hS:Sim K ι H μ) (hd:aq K ι H ds xs) (h:h9 K (RD K) ι H (.ok (.tup ds) μ) Q) (hp:H p=none):Q (.ref p) (upd H p (.tup xs)) :=
 h ι (.ref p) _ (AM _) (.new hp) (hS.new hp) (tup_is (.of bg) (aq.mono (AM _) (.new hp) ds xs hd))
theorem Fo {pins:List (Addr×Obj)} {s:Shared} {σ:St} {H:Hp} {l b:Addr} {xs zs:List V} {Q:VK} (I:Inv X pins σ H s) (hl:LsL X.K H l xs) (hb:LsL X.K H b zs) (hz:xs.length+zs.length≤sizeLine)
  (q:∀p,H p=none→Q (.ref p) (upd H p (.lst (xs++zs)))):wpAny (model X.prog X.w) X.A (binaryOp .Add (.ref l) (.ref b)) (EP X pins σ Q) X.xe s:=by
 obtain⟨z,its,n,r,hl,e⟩:=I.ls hl
 obtain⟨z2,its2,n2,r2,hl2,e2⟩:=I.ls hb
 refine PySem.P.add_list e e2 ?_ (by rw[AE,AE];lia)
 have ea:its.toArray++its2.toArray=(its++its2).toArray:=by simp
 rw[ea]
 exact⟨.ref _,_,I.lnew (t':=s.toks) (r.append r2) (by rw[CG];lia),rfl,q _ I.fresh⟩
theorem Je {pins:List (Addr×Obj)} {s:Shared} {σ:St} {H:Hp} {l:Addr} {k:Int} {t:Tok} {xs:List V} {Q:VK} (I:Inv X pins σ H s) (hH:LsL X.K H l xs) (h1:-(2 ^ 63)≤k) (h2:k<2 ^ 63) (hz:xs.length*k.toNat≤sizeLine)
  (q:∀p,H p=none→Q (.ref p) (upd H p (.lst (List.replicate k.toNat xs).flatten))):wpAny (model X.prog X.w) X.A (binaryOp .Mult (.ref l) (.int k t)) (EP X pins σ Q) X.xe s:=by
 obtain⟨z,its,n,r,hl,e⟩:=I.ls hH
 have hlen:its.toArray.size*k.toNat≤sizeLine:=by rw[AE,←hl];exact hz
 have hcap:¬its.toArray.size*k.toNat > (2 ^ 63-1) / 8:=by
  have:(sizeLine:Nat)≤(2 ^ 63-1) / 8:=by decide
  lia
 have hfit:¬(!Builtin.List.listFitsIndex k)=true:=by
  rw[fitsIndex_both h1 h2]
  exact AU
 have hlong:¬Builtin.List.listTooLong (its.toArray.size*k.toNat)=true:=by
  rw[By hlen]
  exact AU
 have hnew:List.foldl (fun x1 x2=>x1++x2) #[] (List.replicate (if its.toArray.isEmpty=true then 0 else k.toNat) its.toArray)=(List.replicate k.toNat its).flatten.toArray:=by
  have f0:∀m:Nat,List.foldl (fun x1 x2=>x1++x2) #[] (List.replicate m its.toArray)=(List.replicate m its).flatten.toArray:=fun m=>by
   have:=foldl_rep its m []
   rw[List.nil_append]at this
   exact this
  rw[f0]
  cases its with
  | nil=>simp
  | cons a r'=>rw[if_neg (by simp)]
 refine wpAny_binaryOp_repeat_ref (T:="list") (U:="int") (by decide) ⟨_,e,rfl⟩ (fun s'=>typeIs_int s' k t) noFill_list_mul F.fills_int_mul F.slot_int_rmul repeat_list F.slot_int_index.lookup
  (GV F.slot_int_rmul (typeIs_int s k t) F.entry_int_rmul (F.args_int_rmul_2 _ _) (int___rmul___int_list k t l its.toArray n)
   ⟨e,rfl,⟨_,e,rfl⟩,GV F.slot_list_mul ⟨_,e,rfl⟩ F.entry_list_mul (F.args_list_mul_2 _ _) (AutoListH.list___mul___list_int_3 l its.toArray n k t hfit hcap hlong) ⟨e,?_⟩⟩)
 rw[hnew]
 exact⟨.ref _,_,I.lnew (t':=s.toks) (r.rep k.toNat) (by rw[len_rep,Nat.mul_comm];exact hz),rfl,q _ I.fresh⟩
theorem M1 {pins:List (Addr×Obj)} {s:Shared} {σ:St} {H:Hp} {a b:Addr} {ys:List V} {Q:VK} (I:Inv X pins σ H s) (ha:SqT X.K H a []) (hb:SqT X.K H b ys) (q:Q (.ref b) H) :
  wpAny (model X.prog X.w) X.A (binaryOp .Add (.ref a) (.ref b)) (EP X pins σ Q) X.xe s:=by
 obtain⟨its,r1,p1,_⟩:=I.tuple ha
 obtain⟨its2,r2,p2,_⟩:=I.tuple hb
 have e1:its=[]:=by cases r1;rfl
 subst e1
 obtain⟨⟨cls,dd,data,sl⟩,ho,hc,n,hd⟩:=id p1
 obtain⟨⟨cls2,dd2,data2,sl2⟩,ho2,hc2,n2,hd2⟩:=id p2
 simp only at hc hd hc2 hd2
 subst hc hd hc2 hd2
 exact concat_meets ⟨_,ho,rfl⟩ ⟨_,ho2,rfl⟩ HZ seq_tuple_add FL FG (EY _ _)
   (tuple_addW0 a b ([]:List Value).toArray its2.toArray n n2 dd dd2 sl sl2 (by simp)) ⟨ho,ho2,⟨.ref b,H,I,rfl,q⟩⟩
theorem Qn {op:Operator} {m:Mk}:OpR X (binaryOp op) (rOp X.K (opD op m)):=by
 intro pins s σ H x y v u Q I rx ry ⟨ι,d,e,μ,hS,hd,he,h⟩
 unfold opD at h
 split at h
 ·rename_i i j
  cases fh hd
  cases fh he
  unfold opI at h
  split at h
  ·exact op_add pins s σ H _ _ v u Q I rx ry ⟨i,j,rfl,rfl,h.ok hS (by simp[IsD])⟩
  ·exact op_sub pins s σ H _ _ v u Q I rx ry ⟨i,j,rfl,rfl,h.ok hS (by simp[IsD])⟩
  ·split at h
   ·rename_i hc
    exact op_mul pins s σ H _ _ v u Q I rx ry ⟨i,j,rfl,rfl,hc,h.ok hS (by simp[IsD])⟩
   ·exact h.elim
  ·split at h
   ·rename_i hc
    exact Ma pins s σ H _ _ v u Q I rx ry ⟨i,j,rfl,rfl,hc,h.ok hS (by simp[IsD])⟩
   ·exact h.elim
  ·split at h
   ·rename_i hc
    exact op_mod pins s σ H _ _ v u Q I rx ry ⟨i,j,rfl,rfl,hc,h.ok hS (by simp[IsD])⟩
   ·exact h.elim
  ·split at h
   ·rename_i hc
    exact op_pow pins s σ H _ _ v u Q I rx ry ⟨i,j,rfl,rfl,hc,h.ok hS (by simp[IsD])⟩
   ·exact h.elim
  ·split at h
   ·rename_i hc
    exact op_shr pins s σ H _ _ v u Q I rx ry ⟨i,j,rfl,rfl,hc,h.ok hS (by simp[IsD])⟩
   ·exact h.elim
  ·exact h.elim
 ·rename_i xs ys
  split at h
  ·split at h
   ·rename_i hz
    obtain⟨a,vs,rfl,ha,hvs⟩:=iz hd
    obtain⟨b,ws,rfl,hb,hws⟩:=iz he
    cases rx
    cases ry
    rw[j6]at hz
    by_cases hx:vs=[]
    ·subst hx
     have e1:xs=[]:=by have:=hvs.length;simpa using this.symm
     subst e1
     exact M1 I ha hb (h.ok hS he)
    ·refine Mg pins s σ H (.ref a) (.ref b) _ _ Q I rfl rfl ⟨a,b,vs,ws,rfl,rfl,ha,hb,hx,by rw[hvs.length,hws.length];exact hz,fun z=>?_,fun z p hp=>v9 hS (hvs.append hws) h hp⟩
     subst z
     have e1:ys=[]:=by have:=hws.length;simpa using this.symm
     subst e1
     exact h.ok hS (by simpa using hd)
   ·exact h.elim
  ·exact h.elim
 ·rename_i j _
  cases fh he
  split at h
  ·rename_i es
   split at h
   ·rename_i hz
    obtain⟨a,xs,rfl,ha,hxs⟩:=lb hS hd es
    cases rx
    obtain⟨t,rfl⟩:=ry
    rw[j6]at hz
    exact B6 (Je I ha hz.2.1 hz.2.2 (by rw[hxs.length];exact hz.1) fun p hp=>mm hS (hxs.rep _) h hp)
   ·exact h.elim
  ·exact h.elim
 ·split at h
  ·rename_i es1 es2
   split at h
   ·rename_i hz
    obtain⟨a,xs,rfl,ha,hxs⟩:=lb hS hd es1
    obtain⟨b,ys,rfl,hb,hys⟩:=lb hS he es2
    cases rx
    cases ry
    rw[j6]at hz
    exact B6 (Fo I ha hb (by rw[hxs.length,hys.length];exact hz) fun p hp=>mm hS (hxs.append hys) h hp)
   ·exact h.elim
  ·exact h.elim
end
end Lp
namespace Lp
open PySem PySem.Spec PyProof.Rows L2
section
variable (K : PySem.W.Frag) (H : Hp)
mutual
noncomputable def IsW:D→V→Prop
 | .non,v=>v=.non
 | .bl b,v=>v=.bl b
 | .int i,v=>v=.int i
 | .str x,v=>v=.str x
 | .tup ds,v=>∃a xs,v=.ref a∧SqT K H a xs∧jo ds xs
 | .lst ds,v=>∃a xs,v=.ref a∧LsL K H a xs∧jo ds xs
 | .loc _,_=>False
noncomputable def jo:List D→List V→Prop
 | [],xs=>xs=[]
 | d::ds,xs=>∃v r,xs=v::r∧IsW d v∧jo ds r
end
end
section
variable {K : PySem.W.Frag} {H : Hp}
theorem jo.length:∀{ds:List D} {xs:List V},jo K H ds xs→xs.length=ds.length
 | [],xs,h=>by simp only[jo]at h;subst h;rfl
 | d::ds,xs,h=>by
  simp only[jo]at h
  obtain⟨v,r,rfl,_,t⟩:=h
  simp[jo.length t]
theorem jo.get:∀{ds:List D} {xs:List V} {i:Nat} {d:D},jo K H ds xs→ds[i]? = some d→∃v,xs[i]? = some v∧IsW K H d v
 | [],_,_,_,_,e=>by simp at e
 | d::ds,xs,0,_,h,e=>by
  simp only[jo]at h
  obtain⟨v,r,rfl,q,_⟩:=h
  simp at e;subst e
  exact⟨v,rfl,q⟩
 | d::ds,xs,i+1,x,h,e=>by
  simp only[jo]at h
  obtain⟨v,r,rfl,_,t⟩:=h
  obtain⟨w,h1,h2⟩:=jo.get (i:=i) (d:=x) t (by simpa using e)
  exact⟨w,by simpa using h1,h2⟩
theorem ip {ds:List D} {v:V} (h:IsW K H (.tup ds) v):∃a xs,v=.ref a∧SqT K H a xs∧jo K H ds xs:=by simpa[IsW]using h
theorem Fp {ι:List Addr} {μ:Sto} (S:Sim K ι H μ) (f:D→Option D) (hf:∀d e v,f d=some e→IsD K ι H d v→IsW K H e v):∀{ds es:List D} {xs:List V},fw (ds.map f)=some es→aq K ι H ds xs→jo K H es xs
 | [],es,xs,h,hd=>by
  simp only[DN,fw,BP]at h
  subst h
  simpa[aq,jo]using hd
 | d::ds,es,xs,h,hd=>by
  simp only[AT]at h
  cases e1:f d with
  | none=>rw[e1]at h;simp[fw]at h
  | some e =>
   rw[e1]at h
   simp only[fw]at h
   cases e2:fw (ds.map f)with
   | none=>rw[e2]at h;cases h
   | some r =>
    rw[e2]at h
    cases h
    simp only[aq]at hd
    obtain⟨v,t,rfl,q,hd⟩:=hd
    simp only[jo]
    exact⟨v,t,rfl,hf d e v e1 q,Fp S f hf e2 hd⟩
theorem yy {ι:List Addr} {μ:Sto} (S:Sim K ι H μ):∀(k:Nat) (d e:D) (v:V),ck μ k d=some e→IsD K ι H d v→IsW K H e v
 | 0,d,e,v,h,hd=>by
  cases d<;>simp_all[ck,flat,IsD,IsW]<;>(subst h;simp[IsW])
 | k+1,d,e,v,h,hd=>by
  have ih:=yy S k
  have sub:∀{ι':List Addr} {ds es:List D} {xs:List V},ι' <+: ι→fw (ds.map (ck μ k))=some es→aq K ι' H ds xs→jo K H es xs:=fun p h hd=>Fp S _ ih h (aq.mono p (.refl _) _ _ hd)
  cases d with
  | tup ds =>
   simp only[ck]at h
   cases e1:fw (ds.map (ck μ k))with
   | none=>rw[e1]at h;cases h
   | some es =>
    rw[e1]at h;cases h
    obtain⟨a,xs,rfl,hq,hds⟩:=iz hd
    simp only[IsW]
    exact⟨a,xs,rfl,hq,sub (AM _) e1 hds⟩
  | lst ds =>
   simp only[ck]at h
   cases e1:fw (ds.map (ck μ k))with
   | none=>rw[e1]at h;cases h
   | some es =>
    rw[e1]at h;cases h
    obtain⟨a,xs,rfl,hq,hds⟩:∃a xs,v=.ref a∧FzL K H a xs∧aq K ι H ds xs:=by simpa[IsD]using hd
    simp only[IsW]
    exact⟨a,xs,rfl,.inr hq,sub (AM _) e1 hds⟩
  | loc n =>
   obtain⟨a,rfl,hn⟩:∃a,v=.ref a∧ι[n]? = some a:=by simpa[IsD]using hd
   simp only[ck]at h
   cases em:μ[n]? with
   | none=>rw[em]at h;cases h
   | some o =>
    obtain⟨a',q',ho⟩:=S.at em
    rw[hn]at q';cases q'
    rw[em]at h
    cases o with
    | l ds =>
     simp only at h
     obtain⟨xs,f1,f2⟩:=ho
     cases e1:fw (ds.map (ck μ k))with
     | none=>rw[e1]at h;cases h
     | some es =>
      rw[e1]at h;cases h
      simp only[IsW]
      exact⟨a,xs,rfl,(.inl f1),sub CJ e1 f2⟩
    | r ds =>
     simp only at h
     obtain⟨xs,f1,f2⟩:=ho
     cases e1:fw (ds.map (ck μ k))with
     | none=>rw[e1]at h;cases h
     | some es =>
      rw[e1]at h;cases h
      simp only[IsW]
      exact⟨a,xs,rfl,(.inl f1),sub (AM _) e1 f2⟩
    | _=>cases h
  | _=>simp only[ck]at h;cases h;simpa[IsD,IsW]using hd
mutual
theorem IsW.ofD:∀{d:D} {v:V},IsD K [] H d v→IsW K H d v
 | .non,v,h=>by simpa[IsD,IsW]using h
 | .bl _,v,h=>by simpa[IsD,IsW]using h
 | .int _,v,h=>by simpa[IsD,IsW]using h
 | .str _,v,h=>by simpa[IsD,IsW]using h
 | .tup ds,v,h=>by
  obtain⟨a,xs,rfl,hq,hds⟩:=iz h
  simp only[IsW]
  exact⟨a,xs,rfl,hq,jo.ofD hds⟩
 | .lst ds,v,h=>by
  obtain⟨a,xs,rfl,hq,hds⟩:∃a xs,v=.ref a∧FzL K H a xs∧aq K [] H ds xs:=by simpa[IsD]using h
  simp only[IsW]
  exact⟨a,xs,rfl,.inr hq,jo.ofD hds⟩
 | .loc n,v,h=>by simp[IsD]at h
theorem jo.ofD:∀{ds:List D} {xs:List V},aq K [] H ds xs→jo K H ds xs
 | [],xs,h=>by simpa[aq,jo]using h
 | d::ds,xs,h=>by
  simp only[aq]at h
  obtain⟨v,r,rfl,q,t⟩:=h
  simp only[jo]
  exact⟨v,r,rfl,IsW.ofD q,jo.ofD t⟩
end
theorem sr {μ:Sto} {k:Nat} (ih:∀d e,ck μ k d=some e→D.pureN k e=true):∀{ds es:List D},fw (ds.map (ck μ k))=some es→es.all (D.pureN k)=true
 | [],es,h=>by simp only[DN,fw,BP]at h;subst h;rfl
 | d::ds,es,h=>by
  simp only[AT]at h
  cases e1:ck μ k d with
  | none=>rw[e1]at h;simp[fw]at h
  | some e =>
   rw[e1]at h
   simp only[fw]at h
   cases e2:fw (ds.map (ck μ k))with
   | none=>rw[e2]at h;cases h
   | some r =>
    rw[e2]at h;cases h
    simp only[BC,ih d e e1,sr ih e2,HR]
theorem ky {μ:Sto}:∀(k:Nat) (d e:D),ck μ k d=some e→D.pureN k e=true
 | 0,d,e,h=>by
  cases d<;>simp_all[ck,flat]<;>(subst h;rfl)
 | k+1,d,e,h=>by
  have ih:=ky (μ:=μ) k
  have mp:∀{ds:List D} {c:List D→D},(∀es,es.all (D.pureN k)=true→D.pureN (k+1) (c es)=true)→(fw (ds.map (ck μ k))).map c=some e→D.pureN (k+1) e=true:=fun {ds c} hc h=>by
   cases e1:fw (ds.map (ck μ k))with
   | none=>rw[e1]at h;cases h
   | some es=>rw[e1]at h;cases h;exact hc es (sr ih e1)
  cases d with
  | tup ds=>simp only[ck]at h;exact mp (c:=.tup) (fun es h=>h) h
  | lst ds=>simp only[ck]at h;exact mp (c:=.lst) (fun es h=>h) h
  | loc n =>
   simp only[ck]at h
   cases em:μ[n]? with
   | none=>rw[em]at h;cases h
   | some o =>
    rw[em]at h
    cases o with
    | l ds=>exact mp (c:=.lst) (fun es h=>h) h
    | r ds=>exact mp (c:=.lst) (fun es h=>h) h
    | _=>cases h
  | _=>simp only[ck]at h;cases h;rfl
end
end Lp
namespace Lp
open PySem PySem.Spec PyProof.Rows L2
open PySem.SeqAt (EqAt RcAt)
section
variable {X : Cx} {φ : Phi} {pins : List (Addr × Obj)} {σ : St} {H : Hp} {s : Shared}
theorem in1_units (A:Around):A.in1.units=A.units+1:=by
 first | rfl | simp[Around.in1]
theorem g7:∀(as bs:List D),as.length=bs.length→En as bs=(List.range as.length).all fun j=>deq (as.getD j .non) (bs.getD j .non)
 | [],[],_=>rfl
 | a::as,b::bs,h=>by
  rw[En,g7 as bs (by simpa using h),BJ,FP,BC,EG]
  rfl
 | [],_::_,h=>by simp at h
 | _::_,[],h=>by simp at h
theorem lg:∀(as bs:List D),as.length≠bs.length→En as bs=false
 | [],[],h=>absurd rfl h
 | a::as,b::bs,h=>by rw[En,lg as bs (by simpa using h),Bool.and_false]
 | [],_::_,_=>rfl
 | _::_,[],_=>rfl
theorem su:∀(k:Nat) (a b:D) (v:V),D.pureN k a=true→D.pureN k b=true→IsW X.K H a v→IsW X.K H b v→Inv X pins σ H s→deq a b=true:=by
 intro k
 have list:∀k,(∀(a b:D) (v:V),D.pureN k a=true→D.pureN k b=true→IsW X.K H a v→IsW X.K H b v→Inv X pins σ H s→deq a b=true) →
   ∀(as bs:List D) (xs:List V),as.all (D.pureN k)=true→bs.all (D.pureN k)=true→jo X.K H as xs→jo X.K H bs xs→Inv X pins σ H s→En as bs=true:=by
  intro k ih as
  induction as with
  | nil =>
   intro bs xs _ _ ha hb _
   have e:xs=[]:=by simpa[jo]using ha
   subst e
   have:=hb.length
   have e2:bs=[]:=by simpa using this.symm
   subst e2
   rfl
  | cons a as iha =>
   intro bs xs pa pb ha hb I
   cases bs with
   | nil =>
    have e:xs=[]:=by simpa[jo]using hb
    subst e
    have:=ha.length
    simp at this
   | cons b bs =>
    simp only[jo]at ha hb
    obtain⟨v,r,e,q,t⟩:=ha
    obtain⟨v',r',e',q',t'⟩:=hb
    rw[e]at e'
    cases e'
    simp only[BC,AZ]at pa pb
    rw[En,ih a b v pa.1 pb.1 q q' I,iha bs r pa.2 pb.2 t t' I]
    rfl
 have flat:∀(a b:D) (v:V),(∀ds,a≠.tup ds)→(∀ds,a≠.lst ds)→(∀n,a≠.loc n)→(∀n,b≠.loc n)→IsW X.K H a v→IsW X.K H b v→deq a b=true:=by
  intro a b v h1 h2 h3 h4 ha hb
  cases a with
  | tup ds=>exact absurd rfl (h1 ds)
  | lst ds=>exact absurd rfl (h2 ds)
  | loc n=>exact absurd rfl (h3 n)
  | _=>cases b<;>simp_all[IsW,deq]
 induction k with
 | zero =>
  intro a b v pa pb ha hb I
  refine flat a b v ?_ ?_ ?_ ?_ ha hb
  ·intro z e;subst e;simp[D.pureN]at pa
  ·intro z e;subst e;simp[D.pureN]at pa
  ·intro z e;subst e;simp[D.pureN]at pa
  ·intro z e;subst e;simp[D.pureN]at pb
 | succ k ih =>
  intro a b v pa pb ha hb I
  cases a with
  | loc n=>simp[D.pureN]at pa
  | tup as =>
   simp only[IsW]at ha
   obtain⟨p,xs,rfl,hq,hds⟩:=ha
   cases b with
   | tup bs =>
    simp only[IsW]at hb
    obtain⟨p',xs',e,hq',hds'⟩:=hb
    cases e
    have:=I.tuple_inj hq hq'
    subst this
    rw[deq]
    exact list k ih as bs xs (by simpa[D.pureN]using pa) (by simpa[D.pureN]using pb) hds hds' I
   | lst bs =>
    simp only[IsW]at hb
    obtain⟨p',xs',e,hq',hds'⟩:=hb
    cases e
    exfalso
    obtain⟨its,_,⟨o,e1,c1,_⟩,_⟩:=I.tuple hq
    obtain⟨its',_,⟨o',n',e2,c2,_⟩,_⟩:=I.list hq'.sq
    rw[e1]at e2;cases e2
    rw[c1]at c2
    injection c2 with c3
    exact absurd c3 (by decide)
   | loc n=>simp[D.pureN]at pb
   | _=>simp[IsW]at hb
  | lst as =>
   simp only[IsW]at ha
   obtain⟨p,xs,rfl,hq,hds⟩:=ha
   cases b with
   | lst bs =>
    simp only[IsW]at hb
    obtain⟨p',xs',e,hq',hds'⟩:=hb
    cases e
    have:=I.list_inj hq.sq hq'.sq
    subst this
    rw[deq]
    exact list k ih as bs xs (by simpa[D.pureN]using pa) (by simpa[D.pureN]using pb) hds hds' I
   | tup bs =>
    simp only[IsW]at hb
    obtain⟨p',xs',e,hq',hds'⟩:=hb
    cases e
    exfalso
    obtain⟨its,_,⟨o,e1,c1,_⟩,_⟩:=I.tuple hq'
    obtain⟨its',_,⟨o',n',e2,c2,_⟩,_⟩:=I.list hq.sq
    rw[e1]at e2;cases e2
    rw[c1]at c2
    injection c2 with c3
    exact absurd c3 (by decide)
   | loc n=>simp[D.pureN]at pb
   | _=>simp[IsW]at hb
  | _ =>
   refine flat _ b v (by intro _ z;cases z) (by intro _ z;cases z) (by intro _ z;cases z) ?_ ha hb
   intro z e;subst e;simp[D.pureN]at pb
theorem yz (A:Around) (a b:D) (x y:V) (u v:Value) (pa:D.pureN 0 a=true) (pb:D.pureN 0 b=true) (ha:IsW X.K H a x) (hb:IsW X.K H b y) (ru:RelV x u) (rv:RelV y v):EqAt A s u v (deq a b):=by
 have b2:∀(a b:Int),decide (a=b)=(a==b):=fun a b=>(CK a b).symm
 cases a with
 | tup _=>simp[D.pureN]at pa
 | lst _=>simp[D.pureN]at pa
 | loc _=>simp[D.pureN]at pa
 | non =>
  have ex:x=.non:=by simpa[IsW]using ha
  subst ex
  cases(show u=Value.none from ru)
  cases b with
  | tup _=>simp[D.pureN]at pb
  | lst _=>simp[D.pureN]at pb
  | loc _=>simp[D.pureN]at pb
  | non=>cases(show y=.non by simpa[IsW]using hb);cases(show v=Value.none from rv);exact EqAt.same _
  | bl c=>cases(show y=.bl c by simpa[IsW]using hb);cases(show v=Value.bool c from rv);exact EqAt.none_bool _
  | int c=>cases(show y=.int c by simpa[IsW]using hb);obtain⟨t,rfl⟩:=rv;exact EqAt.none_int _ _
  | str c=>cases(show y=.str c by simpa[IsW]using hb);obtain⟨t,rfl⟩:=rv;exact EqAt.none_str _ _
 | bl d =>
  have ex:x=.bl d:=by simpa[IsW]using ha
  subst ex
  cases(show u=Value.bool d from ru)
  cases b with
  | tup _=>simp[D.pureN]at pb
  | lst _=>simp[D.pureN]at pb
  | loc _=>simp[D.pureN]at pb
  | non=>cases(show y=.non by simpa[IsW]using hb);cases(show v=Value.none from rv);exact EqAt.bool_none _
  | bl c=>cases(show y=.bl c by simpa[IsW]using hb);cases(show v=Value.bool c from rv);exact EqAt.bool_bool _ _
  | int c=>cases(show y=.int c by simpa[IsW]using hb);obtain⟨t,rfl⟩:=rv;rw[deq,b2];exact EqAt.bool_int _ _ _
  | str c=>cases(show y=.str c by simpa[IsW]using hb);obtain⟨t,rfl⟩:=rv;exact EqAt.bool_str _ _ _
 | int d =>
  have ex:x=.int d:=by simpa[IsW]using ha
  subst ex
  obtain⟨t',rfl⟩:=ru
  cases b with
  | tup _=>simp[D.pureN]at pb
  | lst _=>simp[D.pureN]at pb
  | loc _=>simp[D.pureN]at pb
  | non=>cases(show y=.non by simpa[IsW]using hb);cases(show v=Value.none from rv);exact EqAt.int_none _ _
  | bl c=>cases(show y=.bl c by simpa[IsW]using hb);cases(show v=Value.bool c from rv);rw[deq,b2];exact EqAt.int_bool _ _ _
  | int c=>cases(show y=.int c by simpa[IsW]using hb);obtain⟨t,rfl⟩:=rv;rw[deq,b2];exact EqAt.int_int _ _ _ _
  | str c=>cases(show y=.str c by simpa[IsW]using hb);obtain⟨t,rfl⟩:=rv;exact EqAt.int_str _ _ _ _
 | str d =>
  have ex:x=.str d:=by simpa[IsW]using ha
  subst ex
  obtain⟨t',rfl⟩:=ru
  cases b with
  | tup _=>simp[D.pureN]at pb
  | lst _=>simp[D.pureN]at pb
  | loc _=>simp[D.pureN]at pb
  | non=>cases(show y=.non by simpa[IsW]using hb);cases(show v=Value.none from rv);exact EqAt.str_none _ _
  | bl c=>cases(show y=.bl c by simpa[IsW]using hb);cases(show v=Value.bool c from rv);exact EqAt.str_bool _ _ _
  | int c=>cases(show y=.int c by simpa[IsW]using hb);obtain⟨t,rfl⟩:=rv;exact EqAt.str_int _ _ _ _
  | str c =>
   cases(show y=.str c by simpa[IsW]using hb);obtain⟨t,rfl⟩:=rv
   have e:deq (.str d) (.str c)=(d==c):=by rw[deq];exact(CK d c).symm
   rw[e];exact EqAt.str_str _ _ _ _
theorem K9 (I:Inv X pins σ H s):∀(k:Nat) (A:Around) (a b:D) (x y:V) (u v:Value),A.units+k<cLine→D.pureN k a=true→D.pureN k b=true→IsW X.K H a x→IsW X.K H b y→RelV x u→RelV y v→EqAt A s u v (deq a b):=by
 intro k
 induction k with
 | zero=>exact fun A a b x y u v _ pa pb ha hb ru rv=>yz A a b x y u v pa pb ha hb ru rv
 | succ k ih =>
  intro A a b x y u v hu pa pb ha hb ru rv
  have hu0:A.units<cLine:=by lia
  have each:∀(as bs:List D) (xs ys:List V) (is js:List Value),as.all (D.pureN k)=true→bs.all (D.pureN k)=true→jo X.K H as xs→jo X.K H bs ys→cz xs is→cz ys js →
    ∀j (h1:j<is.toArray.size) (h2:j<js.toArray.size),EqAt A.in1 s is.toArray[j] js.toArray[j] (deq (as.getD j .non) (bs.getD j .non)):=by
   intro as bs xs ys is js pas pbs has hbs hvx hvy j h1 h2
   have l1:as.length=is.length:=by rw[←has.length,hvx.length]
   have l2:bs.length=js.length:=by rw[←hbs.length,hvy.length]
   have j1:j<as.length:=by rw[l1];simpa using h1
   have j2:j<bs.length:=by rw[l2];simpa using h2
   obtain⟨p,e1,q1⟩:=has.get (AC j1)
   obtain⟨p',e1',q1'⟩:=hbs.get (AC j2)
   obtain⟨w,e2,q2⟩:=hvx.get e1
   obtain⟨w',e2',q2'⟩:=hvy.get e1'
   have g1:is.toArray[j]=w:=by
    have:is[j]? = some is.toArray[j]:=by simp[AC (show j<is.length by lia)]
    rw[this]at e2;exact BL e2
   have g2:js.toArray[j]=w':=by
    have:js[j]? = some js.toArray[j]:=by simp[AC (show j<js.length by lia)]
    rw[this]at e2';exact BL e2'
   rw[g1,g2,AW,AW,AC j1,AC j2]
   exact ih A.in1 _ _ p p' w w' (by rw[in1_units];lia) (AO.mp pas _ (BQ j1)) (AO.mp pbs _ (BQ j2)) q1 q1' q2 q2'
  have flat0:∀d:D,D.pureN (k+1) d=true→(∀ds,d≠.tup ds)→(∀ds,d≠.lst ds)→D.pureN 0 d=true:=fun d h h1 h2=>by
   cases d with
   | tup ds=>exact absurd rfl (h1 ds)
   | lst ds=>exact absurd rfl (h2 ds)
   | loc n=>simp[D.pureN]at h
   | _=>rfl
  cases a with
  | loc n=>simp[D.pureN]at pa
  | tup as =>
   have pas:as.all (D.pureN k)=true:=by simpa[D.pureN]using pa
   obtain⟨p,xs,rfl,hq,hds⟩:=ip ha
   cases(show u=Value.ref p from ru)
   obtain⟨its,hv,ht,hz⟩:=I.tuple hq
   have ht':s.heap.IsTuple p its.toArray:=ht
   cases b with
   | loc n=>simp[D.pureN]at pb
   | tup bs =>
    have pbs:bs.all (D.pureN k)=true:=by simpa[D.pureN]using pb
    obtain⟨p',xs',rfl,hq',hds'⟩:=ip hb
    cases(show v=Value.ref p' from rv)
    obtain⟨its',hv',ht2,hz'⟩:=I.tuple hq'
    by_cases hp:p=p'
    ·subst hp
     rw[su (k+1) _ _ _ pa pb ha hb I]
     exact EqAt.same _
    ·refine EqAt.of_refs hp ?_
     have q:=RcAt.tuples (A:=A) ht' (show s.heap.IsTuple p' its'.toArray from ht2) hu0 (each as bs xs xs' its its' pas pbs hds hds' hv hv')
     have l1:as.length=its.length:=by rw[←hds.length,hv.length]
     have l2:bs.length=its'.length:=by rw[←hds'.length,hv'.length]
     have e:((List.range (min its.toArray.size its'.toArray.size)).all (fun j=>deq (as.getD j .non) (bs.getD j .non))&&its.toArray.size==its'.toArray.size)=deq (.tup as) (.tup bs):=by
      rw[deq]
      simp only[AE,←l1,←l2]
      by_cases hl:as.length=bs.length
      ·rw[g7 as bs hl,←hl];simp
      ·rw[lg as bs hl];simp[hl]
     rw[e]at q
     exact q
   | lst bs =>
    obtain⟨p',xs',rfl,hq',hds'⟩:∃a xs,y=.ref a∧LsL X.K H a xs∧jo X.K H bs xs:=by simpa[IsW]using hb
    cases(show v=Value.ref p' from rv)
    obtain⟨z,its',n',hv',_,hg⟩:=I.ls hq'
    exact EqAt.tuple_list ht' ⟨_,hg,rfl,n',rfl⟩ hu0
   | non=>cases(show y=.non by simpa[IsW]using hb);cases(show v=Value.none from rv);exact EqAt.tuple_none ht' hu0
   | bl c=>cases(show y=.bl c by simpa[IsW]using hb);cases(show v=Value.bool c from rv);exact EqAt.tuple_bool _ ht' hu0
   | int c=>cases(show y=.int c by simpa[IsW]using hb);obtain⟨t,rfl⟩:=rv;exact EqAt.tuple_int _ _ ht' hu0
   | str c=>cases(show y=.str c by simpa[IsW]using hb);obtain⟨t,rfl⟩:=rv;exact EqAt.tuple_str _ _ ht' hu0
  | lst as =>
   have pas:as.all (D.pureN k)=true:=by simpa[D.pureN]using pa
   obtain⟨p,xs,rfl,hq,hds⟩:∃a xs,x=.ref a∧LsL X.K H a xs∧jo X.K H as xs:=by simpa[IsW]using ha
   cases(show u=Value.ref p from ru)
   obtain⟨z,its,n,hv,_,hg⟩:=I.ls hq
   have hl':s.heap.IsList p its.toArray:=⟨_,hg,rfl,n,rfl⟩
   cases b with
   | loc n=>simp[D.pureN]at pb
   | lst bs =>
    have pbs:bs.all (D.pureN k)=true:=by simpa[D.pureN]using pb
    obtain⟨p',xs',rfl,hq',hds'⟩:∃a xs,y=.ref a∧LsL X.K H a xs∧jo X.K H bs xs:=by simpa[IsW]using hb
    cases(show v=Value.ref p' from rv)
    obtain⟨z',its',n',hv',_,hg'⟩:=I.ls hq'
    have hl2:s.heap.IsList p' its'.toArray:=⟨_,hg',rfl,n',rfl⟩
    by_cases hp:p=p'
    ·subst hp
     rw[su (k+1) _ _ _ pa pb ha hb I]
     exact EqAt.same _
    ·refine EqAt.of_refs hp ?_
     have l1:as.length=its.length:=by rw[←hds.length,hv.length]
     have l2:bs.length=its'.length:=by rw[←hds'.length,hv'.length]
     by_cases hl:as.length=bs.length
     ·have q:=RcAt.lists (A:=A) hl' hl2 (by simp only[AE];lia) hu0 (each as bs xs xs' its its' pas pbs hds hds' hv hv')
      have e:(List.range its.toArray.size).all (fun j=>deq (as.getD j .non) (bs.getD j .non))=deq (.lst as) (.lst bs):=by
       rw[deq,g7 as bs hl]
       simp only[AE,←l1]
      rw[e]at q
      exact q
     ·rw[deq,lg as bs hl]
      exact RcAt.lists_lengths hl' hl2 (by simp only[AE];simp;lia) hu0
   | tup bs =>
    obtain⟨p',xs',rfl,hq',hds'⟩:=ip hb
    cases(show v=Value.ref p' from rv)
    obtain⟨its',hv',ht2,hz'⟩:=I.tuple hq'
    exact EqAt.list_tuple hl' (show s.heap.IsTuple p' its'.toArray from ht2) hu0
   | non=>cases(show y=.non by simpa[IsW]using hb);cases(show v=Value.none from rv);exact EqAt.list_none hl' hu0
   | bl c=>cases(show y=.bl c by simpa[IsW]using hb);cases(show v=Value.bool c from rv);exact EqAt.list_bool _ hl' hu0
   | int c=>cases(show y=.int c by simpa[IsW]using hb);obtain⟨t,rfl⟩:=rv;exact EqAt.list_int _ _ hl' hu0
   | str c=>cases(show y=.str c by simpa[IsW]using hb);obtain⟨t,rfl⟩:=rv;exact EqAt.list_str _ _ hl' hu0
  | _ =>
   cases b with
   | loc n=>simp[D.pureN]at pb
   | tup bs =>
    obtain⟨p',xs',rfl,hq',hds'⟩:=ip hb
    cases(show v=Value.ref p' from rv)
    obtain⟨its',hv',ht2,hz'⟩:=I.tuple hq'
    have ht':s.heap.IsTuple p' its'.toArray:=ht2
    first
    | (cases(show x=.non by simpa[IsW]using ha);cases(show u=Value.none from ru);exact EqAt.none_tuple ht' hu0)
    | (cases(show x=.bl _ by simpa[IsW]using ha);cases(show u=Value.bool _ from ru);exact EqAt.bool_tuple _ ht' hu0)
    | (cases(show x=.int _ by simpa[IsW]using ha);obtain⟨t,rfl⟩:=ru;exact EqAt.int_tuple _ _ ht' hu0)
    | (cases(show x=.str _ by simpa[IsW]using ha);obtain⟨t,rfl⟩:=ru;exact EqAt.str_tuple _ _ ht' hu0)
   | lst bs =>
    obtain⟨p',xs',rfl,hq',hds'⟩:∃a xs,y=.ref a∧LsL X.K H a xs∧jo X.K H bs xs:=by simpa[IsW]using hb
    cases(show v=Value.ref p' from rv)
    obtain⟨z',its',n',hv',_,hg'⟩:=I.ls hq'
    have hl':s.heap.IsList p' its'.toArray:=⟨_,hg',rfl,n',rfl⟩
    first
    | (cases(show x=.non by simpa[IsW]using ha);cases(show u=Value.none from ru);exact EqAt.none_list hl' hu0)
    | (cases(show x=.bl _ by simpa[IsW]using ha);cases(show u=Value.bool _ from ru);exact EqAt.bool_list _ hl' hu0)
    | (cases(show x=.int _ by simpa[IsW]using ha);obtain⟨t,rfl⟩:=ru;exact EqAt.int_list _ _ hl' hu0)
    | (cases(show x=.str _ by simpa[IsW]using ha);obtain⟨t,rfl⟩:=ru;exact EqAt.str_list _ _ hl' hu0)
   | _=>exact yz A _ _ x y u v rfl rfl ha hb ru rv
end
end Lp
namespace Lp
open PySem PySem.Spec PyProof.Rows L2
open PySem.SeqAt (EqAt RcAt)
section
variable {X : Cx} {φ : Phi} {pins : List (Addr × Obj)} {σ : St} {H : Hp} {s : Shared}
theorem y0 (A:Around) (a b:D) (x y:V) (u v:Value) (pa:D.pureN 0 a=true) (pb:D.pureN 0 b=true) (ha:IsW X.K H a x) (hb:IsW X.K H b y) (ru:RelV x u) (rv:RelV y v):RcAt A s u v (deq a b):=by
 have b2:∀(a b:Int),decide (a=b)=(a==b):=fun a b=>(CK a b).symm
 cases a with
 | tup _=>simp[D.pureN]at pa
 | lst _=>simp[D.pureN]at pa
 | loc _=>simp[D.pureN]at pa
 | non =>
  have ex:x=.non:=by simpa[IsW]using ha
  subst ex
  cases(show u=Value.none from ru)
  cases b with
  | tup _=>simp[D.pureN]at pb
  | lst _=>simp[D.pureN]at pb
  | loc _=>simp[D.pureN]at pb
  | non=>cases(show y=.non by simpa[IsW]using hb);cases(show v=Value.none from rv);exact RcAt.none_none
  | bl c=>cases(show y=.bl c by simpa[IsW]using hb);cases(show v=Value.bool c from rv);exact RcAt.none_bool _
  | int c=>cases(show y=.int c by simpa[IsW]using hb);obtain⟨t,rfl⟩:=rv;exact RcAt.none_int _ _
  | str c=>cases(show y=.str c by simpa[IsW]using hb);obtain⟨t,rfl⟩:=rv;exact RcAt.none_str _ _
 | bl d =>
  have ex:x=.bl d:=by simpa[IsW]using ha
  subst ex
  cases(show u=Value.bool d from ru)
  cases b with
  | tup _=>simp[D.pureN]at pb
  | lst _=>simp[D.pureN]at pb
  | loc _=>simp[D.pureN]at pb
  | non=>cases(show y=.non by simpa[IsW]using hb);cases(show v=Value.none from rv);exact RcAt.bool_none _
  | bl c=>cases(show y=.bl c by simpa[IsW]using hb);cases(show v=Value.bool c from rv);exact RcAt.bool_bool _ _
  | int c=>cases(show y=.int c by simpa[IsW]using hb);obtain⟨t,rfl⟩:=rv;rw[deq,b2];exact RcAt.bool_int _ _ _
  | str c=>cases(show y=.str c by simpa[IsW]using hb);obtain⟨t,rfl⟩:=rv;exact RcAt.bool_str _ _ _
 | int d =>
  have ex:x=.int d:=by simpa[IsW]using ha
  subst ex
  obtain⟨t',rfl⟩:=ru
  cases b with
  | tup _=>simp[D.pureN]at pb
  | lst _=>simp[D.pureN]at pb
  | loc _=>simp[D.pureN]at pb
  | non=>cases(show y=.non by simpa[IsW]using hb);cases(show v=Value.none from rv);exact RcAt.int_none _ _
  | bl c=>cases(show y=.bl c by simpa[IsW]using hb);cases(show v=Value.bool c from rv);rw[deq,b2];exact RcAt.int_bool _ _ _
  | int c=>cases(show y=.int c by simpa[IsW]using hb);obtain⟨t,rfl⟩:=rv;rw[deq,b2];exact RcAt.int_int _ _ _ _
  | str c=>cases(show y=.str c by simpa[IsW]using hb);obtain⟨t,rfl⟩:=rv;exact RcAt.int_str _ _ _ _
 | str d =>
  have ex:x=.str d:=by simpa[IsW]using ha
  subst ex
  obtain⟨t',rfl⟩:=ru
  cases b with
  | tup _=>simp[D.pureN]at pb
  | lst _=>simp[D.pureN]at pb
  | loc _=>simp[D.pureN]at pb
  | non=>cases(show y=.non by simpa[IsW]using hb);cases(show v=Value.none from rv);exact RcAt.str_none _ _
  | bl c=>cases(show y=.bl c by simpa[IsW]using hb);cases(show v=Value.bool c from rv);exact RcAt.str_bool _ _ _
  | int c=>cases(show y=.int c by simpa[IsW]using hb);obtain⟨t,rfl⟩:=rv;exact RcAt.str_int _ _ _ _
  | str c =>
   cases(show y=.str c by simpa[IsW]using hb);obtain⟨t,rfl⟩:=rv
   have e:deq (.str d) (.str c)=(d==c):=by rw[deq];exact(CK d c).symm
   rw[e];exact RcAt.str_str _ _ _ _
theorem La (I:Inv X pins σ H s):∀(k:Nat) (A:Around) (a b:D) (x y:V) (u v:Value),A.units+k<cLine→D.pureN k a=true→D.pureN k b=true→IsW X.K H a x→IsW X.K H b y→RelV x u→RelV y v→RcAt A s u v (deq a b):=by
 intro k
 cases k with
 | zero=>exact fun A a b x y u v _ pa pb ha hb ru rv=>y0 A a b x y u v pa pb ha hb ru rv
 | succ k =>
  have ih:=K9 I k
  intro A a b x y u v hu pa pb ha hb ru rv
  have hu0:A.units<cLine:=by lia
  have each:∀(as bs:List D) (xs ys:List V) (is js:List Value),as.all (D.pureN k)=true→bs.all (D.pureN k)=true→jo X.K H as xs→jo X.K H bs ys→cz xs is→cz ys js →
    ∀j (h1:j<is.toArray.size) (h2:j<js.toArray.size),EqAt A.in1 s is.toArray[j] js.toArray[j] (deq (as.getD j .non) (bs.getD j .non)):=by
   intro as bs xs ys is js pas pbs has hbs hvx hvy j h1 h2
   have l1:as.length=is.length:=by rw[←has.length,hvx.length]
   have l2:bs.length=js.length:=by rw[←hbs.length,hvy.length]
   have j1:j<as.length:=by rw[l1];simpa using h1
   have j2:j<bs.length:=by rw[l2];simpa using h2
   obtain⟨p,e1,q1⟩:=has.get (AC j1)
   obtain⟨p',e1',q1'⟩:=hbs.get (AC j2)
   obtain⟨w,e2,q2⟩:=hvx.get e1
   obtain⟨w',e2',q2'⟩:=hvy.get e1'
   have g1:is.toArray[j]=w:=by
    have:is[j]? = some is.toArray[j]:=by simp[AC (show j<is.length by lia)]
    rw[this]at e2;exact BL e2
   have g2:js.toArray[j]=w':=by
    have:js[j]? = some js.toArray[j]:=by simp[AC (show j<js.length by lia)]
    rw[this]at e2';exact BL e2'
   rw[g1,g2,AW,AW,AC j1,AC j2]
   exact ih A.in1 _ _ p p' w w' (by rw[in1_units];lia) (AO.mp pas _ (BQ j1)) (AO.mp pbs _ (BQ j2)) q1 q1' q2 q2'
  have flat0:∀d:D,D.pureN (k+1) d=true→(∀ds,d≠.tup ds)→(∀ds,d≠.lst ds)→D.pureN 0 d=true:=fun d h h1 h2=>by
   cases d with
   | tup ds=>exact absurd rfl (h1 ds)
   | lst ds=>exact absurd rfl (h2 ds)
   | loc n=>simp[D.pureN]at h
   | _=>rfl
  cases a with
  | loc n=>simp[D.pureN]at pa
  | tup as =>
   have pas:as.all (D.pureN k)=true:=by simpa[D.pureN]using pa
   obtain⟨p,xs,rfl,hq,hds⟩:=ip ha
   cases(show u=Value.ref p from ru)
   obtain⟨its,hv,ht,hz⟩:=I.tuple hq
   have ht':s.heap.IsTuple p its.toArray:=ht
   cases b with
   | loc n=>simp[D.pureN]at pb
   | tup bs =>
    have pbs:bs.all (D.pureN k)=true:=by simpa[D.pureN]using pb
    obtain⟨p',xs',rfl,hq',hds'⟩:=ip hb
    cases(show v=Value.ref p' from rv)
    obtain⟨its',hv',ht2,hz'⟩:=I.tuple hq'
    ·skip
     have q:=RcAt.tuples (A:=A) ht' (show s.heap.IsTuple p' its'.toArray from ht2) hu0 (each as bs xs xs' its its' pas pbs hds hds' hv hv')
     have l1:as.length=its.length:=by rw[←hds.length,hv.length]
     have l2:bs.length=its'.length:=by rw[←hds'.length,hv'.length]
     have e:((List.range (min its.toArray.size its'.toArray.size)).all (fun j=>deq (as.getD j .non) (bs.getD j .non))&&its.toArray.size==its'.toArray.size)=deq (.tup as) (.tup bs):=by
      rw[deq]
      simp only[AE,←l1,←l2]
      by_cases hl:as.length=bs.length
      ·rw[g7 as bs hl,←hl];simp
      ·rw[lg as bs hl];simp[hl]
     rw[e]at q
     exact q
   | lst bs =>
    obtain⟨p',xs',rfl,hq',hds'⟩:∃a xs,y=.ref a∧LsL X.K H a xs∧jo X.K H bs xs:=by simpa[IsW]using hb
    cases(show v=Value.ref p' from rv)
    obtain⟨z,its',n',hv',_,hg⟩:=I.ls hq'
    exact RcAt.tuple_list ht' ⟨_,hg,rfl,n',rfl⟩ hu0
   | non=>cases(show y=.non by simpa[IsW]using hb);cases(show v=Value.none from rv);exact RcAt.tuple_none ht' hu0
   | bl c=>cases(show y=.bl c by simpa[IsW]using hb);cases(show v=Value.bool c from rv);exact RcAt.tuple_bool _ ht' hu0
   | int c=>cases(show y=.int c by simpa[IsW]using hb);obtain⟨t,rfl⟩:=rv;exact RcAt.tuple_int _ _ ht' hu0
   | str c=>cases(show y=.str c by simpa[IsW]using hb);obtain⟨t,rfl⟩:=rv;exact RcAt.tuple_str _ _ ht' hu0
  | lst as =>
   have pas:as.all (D.pureN k)=true:=by simpa[D.pureN]using pa
   obtain⟨p,xs,rfl,hq,hds⟩:∃a xs,x=.ref a∧LsL X.K H a xs∧jo X.K H as xs:=by simpa[IsW]using ha
   cases(show u=Value.ref p from ru)
   obtain⟨z,its,n,hv,_,hg⟩:=I.ls hq
   have hl':s.heap.IsList p its.toArray:=⟨_,hg,rfl,n,rfl⟩
   cases b with
   | loc n=>simp[D.pureN]at pb
   | lst bs =>
    have pbs:bs.all (D.pureN k)=true:=by simpa[D.pureN]using pb
    obtain⟨p',xs',rfl,hq',hds'⟩:∃a xs,y=.ref a∧LsL X.K H a xs∧jo X.K H bs xs:=by simpa[IsW]using hb
    cases(show v=Value.ref p' from rv)
    obtain⟨z',its',n',hv',_,hg'⟩:=I.ls hq'
    have hl2:s.heap.IsList p' its'.toArray:=⟨_,hg',rfl,n',rfl⟩
    ·skip
     have l1:as.length=its.length:=by rw[←hds.length,hv.length]
     have l2:bs.length=its'.length:=by rw[←hds'.length,hv'.length]
     by_cases hl:as.length=bs.length
     ·have q:=RcAt.lists (A:=A) hl' hl2 (by simp only[AE];lia) hu0 (each as bs xs xs' its its' pas pbs hds hds' hv hv')
      have e:(List.range its.toArray.size).all (fun j=>deq (as.getD j .non) (bs.getD j .non))=deq (.lst as) (.lst bs):=by
       rw[deq,g7 as bs hl]
       simp only[AE,←l1]
      rw[e]at q
      exact q
     ·rw[deq,lg as bs hl]
      exact RcAt.lists_lengths hl' hl2 (by simp only[AE];simp;lia) hu0
   | tup bs =>
    obtain⟨p',xs',rfl,hq',hds'⟩:=ip hb
    cases(show v=Value.ref p' from rv)
    obtain⟨its',hv',ht2,hz'⟩:=I.tuple hq'
    exact RcAt.list_tuple hl' (show s.heap.IsTuple p' its'.toArray from ht2) hu0
   | non=>cases(show y=.non by simpa[IsW]using hb);cases(show v=Value.none from rv);exact RcAt.list_none hl' hu0
   | bl c=>cases(show y=.bl c by simpa[IsW]using hb);cases(show v=Value.bool c from rv);exact RcAt.list_bool _ hl' hu0
   | int c=>cases(show y=.int c by simpa[IsW]using hb);obtain⟨t,rfl⟩:=rv;exact RcAt.list_int _ _ hl' hu0
   | str c=>cases(show y=.str c by simpa[IsW]using hb);obtain⟨t,rfl⟩:=rv;exact RcAt.list_str _ _ hl' hu0
  | _ =>
   cases b with
   | loc n=>simp[D.pureN]at pb
   | tup bs =>
    obtain⟨p',xs',rfl,hq',hds'⟩:=ip hb
    cases(show v=Value.ref p' from rv)
    obtain⟨its',hv',ht2,hz'⟩:=I.tuple hq'
    have ht':s.heap.IsTuple p' its'.toArray:=ht2
    first
    | (cases(show x=.non by simpa[IsW]using ha);cases(show u=Value.none from ru);exact RcAt.none_tuple ht' hu0)
    | (cases(show x=.bl _ by simpa[IsW]using ha);cases(show u=Value.bool _ from ru);exact RcAt.bool_tuple _ ht' hu0)
    | (cases(show x=.int _ by simpa[IsW]using ha);obtain⟨t,rfl⟩:=ru;exact RcAt.int_tuple _ _ ht' hu0)
    | (cases(show x=.str _ by simpa[IsW]using ha);obtain⟨t,rfl⟩:=ru;exact RcAt.str_tuple _ _ ht' hu0)
   | lst bs =>
    obtain⟨p',xs',rfl,hq',hds'⟩:∃a xs,y=.ref a∧LsL X.K H a xs∧jo X.K H bs xs:=by simpa[IsW]using hb
    cases(show v=Value.ref p' from rv)
    obtain⟨z',its',n',hv',_,hg'⟩:=I.ls hq'
    have hl':s.heap.IsList p' its'.toArray:=⟨_,hg',rfl,n',rfl⟩
    first
    | (cases(show x=.non by simpa[IsW]using ha);cases(show u=Value.none from ru);exact RcAt.none_list hl' hu0)
    | (cases(show x=.bl _ by simpa[IsW]using ha);cases(show u=Value.bool _ from ru);exact RcAt.bool_list _ hl' hu0)
    | (cases(show x=.int _ by simpa[IsW]using ha);obtain⟨t,rfl⟩:=ru;exact RcAt.int_list _ _ hl' hu0)
    | (cases(show x=.str _ by simpa[IsW]using ha);obtain⟨t,rfl⟩:=ru;exact RcAt.str_list _ _ hl' hu0)
   | _=>exact y0 A _ _ x y u v rfl rfl ha hb ru rv
theorem Qo (hu:X.A.units+8<cLine):OpR X (compareOp .Eq) (rOp X.K (cpD .eq)):=by
 intro pins s σ H x y v u Q I rx ry ⟨ι,a,b,μ,hS,ha,hb,h⟩
 unfold cpD at h
 simp only at h
 split at h
 ·rename_i hp
  exact La I 8 X.A a b x y v u hu hp.1 hp.2 (IsW.ofD (IsD.pur hp.1 ha)) (IsW.ofD (IsD.pur hp.2 hb)) rx ry _ _ _ _ ⟨.bl (deq a b),H,I,rfl,h.ok hS (by simp[IsD])⟩
 ·exact h.elim
end
end Lp
namespace Lp
open PySem PySem.Spec PyProof.Rows L2
open PySem.SeqAt (EqAt RcNeAt)
section
variable {X : Cx} {φ : Phi} {pins : List (Addr × Obj)} {σ : St} {H : Hp} {s : Shared}
theorem sv (A:Around) (a b:D) (x y:V) (u v:Value) (pa:D.pureN 0 a=true) (pb:D.pureN 0 b=true) (ha:IsW X.K H a x) (hb:IsW X.K H b y) (ru:RelV x u) (rv:RelV y v):RcNeAt A s u v (!deq a b):=by
 have b2:∀(a b:Int),decide (a=b)=(a==b):=fun a b=>(CK a b).symm
 cases a with
 | tup _=>simp[D.pureN]at pa
 | lst _=>simp[D.pureN]at pa
 | loc _=>simp[D.pureN]at pa
 | non =>
  have ex:x=.non:=by simpa[IsW]using ha
  subst ex
  cases(show u=Value.none from ru)
  cases b with
  | tup _=>simp[D.pureN]at pb
  | lst _=>simp[D.pureN]at pb
  | loc _=>simp[D.pureN]at pb
  | non=>cases(show y=.non by simpa[IsW]using hb);cases(show v=Value.none from rv);exact RcNeAt.none_none
  | bl c=>cases(show y=.bl c by simpa[IsW]using hb);cases(show v=Value.bool c from rv);exact RcNeAt.none_bool _
  | int c=>cases(show y=.int c by simpa[IsW]using hb);obtain⟨t,rfl⟩:=rv;exact RcNeAt.none_int _ _
  | str c=>cases(show y=.str c by simpa[IsW]using hb);obtain⟨t,rfl⟩:=rv;exact RcNeAt.none_str _ _
 | bl d =>
  have ex:x=.bl d:=by simpa[IsW]using ha
  subst ex
  cases(show u=Value.bool d from ru)
  cases b with
  | tup _=>simp[D.pureN]at pb
  | lst _=>simp[D.pureN]at pb
  | loc _=>simp[D.pureN]at pb
  | non=>cases(show y=.non by simpa[IsW]using hb);cases(show v=Value.none from rv);exact RcNeAt.bool_none _
  | bl c=>cases(show y=.bl c by simpa[IsW]using hb);cases(show v=Value.bool c from rv);exact RcNeAt.bool_bool _ _
  | int c=>cases(show y=.int c by simpa[IsW]using hb);obtain⟨t,rfl⟩:=rv;rw[deq,b2];exact RcNeAt.bool_int _ _ _
  | str c=>cases(show y=.str c by simpa[IsW]using hb);obtain⟨t,rfl⟩:=rv;exact RcNeAt.bool_str _ _ _
 | int d =>
  have ex:x=.int d:=by simpa[IsW]using ha
  subst ex
  obtain⟨t',rfl⟩:=ru
  cases b with
  | tup _=>simp[D.pureN]at pb
  | lst _=>simp[D.pureN]at pb
  | loc _=>simp[D.pureN]at pb
  | non=>cases(show y=.non by simpa[IsW]using hb);cases(show v=Value.none from rv);exact RcNeAt.int_none _ _
  | bl c=>cases(show y=.bl c by simpa[IsW]using hb);cases(show v=Value.bool c from rv);rw[deq,b2];exact RcNeAt.int_bool _ _ _
  | int c=>cases(show y=.int c by simpa[IsW]using hb);obtain⟨t,rfl⟩:=rv;rw[deq,b2];exact RcNeAt.int_int _ _ _ _
  | str c=>cases(show y=.str c by simpa[IsW]using hb);obtain⟨t,rfl⟩:=rv;exact RcNeAt.int_str _ _ _ _
 | str d =>
  have ex:x=.str d:=by simpa[IsW]using ha
  subst ex
  obtain⟨t',rfl⟩:=ru
  cases b with
  | tup _=>simp[D.pureN]at pb
  | lst _=>simp[D.pureN]at pb
  | loc _=>simp[D.pureN]at pb
  | non=>cases(show y=.non by simpa[IsW]using hb);cases(show v=Value.none from rv);exact RcNeAt.str_none _ _
  | bl c=>cases(show y=.bl c by simpa[IsW]using hb);cases(show v=Value.bool c from rv);exact RcNeAt.str_bool _ _ _
  | int c=>cases(show y=.int c by simpa[IsW]using hb);obtain⟨t,rfl⟩:=rv;exact RcNeAt.str_int _ _ _ _
  | str c =>
   cases(show y=.str c by simpa[IsW]using hb);obtain⟨t,rfl⟩:=rv
   have e:deq (.str d) (.str c)=(d==c):=by rw[deq];exact(CK d c).symm
   rw[e];exact RcNeAt.str_str _ _ _ _
theorem B7 (I:Inv X pins σ H s):∀(k:Nat) (A:Around) (a b:D) (x y:V) (u v:Value),A.units+k<cLine→D.pureN k a=true→D.pureN k b=true→IsW X.K H a x→IsW X.K H b y→RelV x u→RelV y v→RcNeAt A s u v (!deq a b):=by
 intro k
 cases k with
 | zero=>exact fun A a b x y u v _ pa pb ha hb ru rv=>sv A a b x y u v pa pb ha hb ru rv
 | succ k =>
  have ih:=K9 I k
  intro A a b x y u v hu pa pb ha hb ru rv
  have hu0:A.units<cLine:=by lia
  have each:∀(as bs:List D) (xs ys:List V) (is js:List Value),as.all (D.pureN k)=true→bs.all (D.pureN k)=true→jo X.K H as xs→jo X.K H bs ys→cz xs is→cz ys js →
    ∀j (h1:j<is.toArray.size) (h2:j<js.toArray.size),EqAt A.in1 s is.toArray[j] js.toArray[j] (deq (as.getD j .non) (bs.getD j .non)):=by
   intro as bs xs ys is js pas pbs has hbs hvx hvy j h1 h2
   have l1:as.length=is.length:=by rw[←has.length,hvx.length]
   have l2:bs.length=js.length:=by rw[←hbs.length,hvy.length]
   have j1:j<as.length:=by rw[l1];simpa using h1
   have j2:j<bs.length:=by rw[l2];simpa using h2
   obtain⟨p,e1,q1⟩:=has.get (AC j1)
   obtain⟨p',e1',q1'⟩:=hbs.get (AC j2)
   obtain⟨w,e2,q2⟩:=hvx.get e1
   obtain⟨w',e2',q2'⟩:=hvy.get e1'
   have g1:is.toArray[j]=w:=by
    have:is[j]? = some is.toArray[j]:=by simp[AC (show j<is.length by lia)]
    rw[this]at e2;exact BL e2
   have g2:js.toArray[j]=w':=by
    have:js[j]? = some js.toArray[j]:=by simp[AC (show j<js.length by lia)]
    rw[this]at e2';exact BL e2'
   rw[g1,g2,AW,AW,AC j1,AC j2]
   exact ih A.in1 _ _ p p' w w' (by rw[in1_units];lia) (AO.mp pas _ (BQ j1)) (AO.mp pbs _ (BQ j2)) q1 q1' q2 q2'
  have flat0:∀d:D,D.pureN (k+1) d=true→(∀ds,d≠.tup ds)→(∀ds,d≠.lst ds)→D.pureN 0 d=true:=fun d h h1 h2=>by
   cases d with
   | tup ds=>exact absurd rfl (h1 ds)
   | lst ds=>exact absurd rfl (h2 ds)
   | loc n=>simp[D.pureN]at h
   | _=>rfl
  cases a with
  | loc n=>simp[D.pureN]at pa
  | tup as =>
   have pas:as.all (D.pureN k)=true:=by simpa[D.pureN]using pa
   obtain⟨p,xs,rfl,hq,hds⟩:=ip ha
   cases(show u=Value.ref p from ru)
   obtain⟨its,hv,ht,hz⟩:=I.tuple hq
   have ht':s.heap.IsTuple p its.toArray:=ht
   cases b with
   | loc n=>simp[D.pureN]at pb
   | tup bs =>
    have pbs:bs.all (D.pureN k)=true:=by simpa[D.pureN]using pb
    obtain⟨p',xs',rfl,hq',hds'⟩:=ip hb
    cases(show v=Value.ref p' from rv)
    obtain⟨its',hv',ht2,hz'⟩:=I.tuple hq'
    ·skip
     have q:=RcNeAt.tuples (A:=A) ht' (show s.heap.IsTuple p' its'.toArray from ht2) hu0 (each as bs xs xs' its its' pas pbs hds hds' hv hv')
     have l1:as.length=its.length:=by rw[←hds.length,hv.length]
     have l2:bs.length=its'.length:=by rw[←hds'.length,hv'.length]
     have e:((List.range (min its.toArray.size its'.toArray.size)).all (fun j=>deq (as.getD j .non) (bs.getD j .non))&&its.toArray.size==its'.toArray.size)=deq (.tup as) (.tup bs):=by
      rw[deq]
      simp only[AE,←l1,←l2]
      by_cases hl:as.length=bs.length
      ·rw[g7 as bs hl,←hl];simp
      ·rw[lg as bs hl];simp[hl]
     rw[e]at q
     exact q
   | lst bs =>
    obtain⟨p',xs',rfl,hq',hds'⟩:∃a xs,y=.ref a∧LsL X.K H a xs∧jo X.K H bs xs:=by simpa[IsW]using hb
    cases(show v=Value.ref p' from rv)
    obtain⟨z,its',n',hv',_,hg⟩:=I.ls hq'
    exact RcNeAt.tuple_list ht' ⟨_,hg,rfl,n',rfl⟩ hu0
   | non=>cases(show y=.non by simpa[IsW]using hb);cases(show v=Value.none from rv);exact RcNeAt.tuple_none ht' hu0
   | bl c=>cases(show y=.bl c by simpa[IsW]using hb);cases(show v=Value.bool c from rv);exact RcNeAt.tuple_bool _ ht' hu0
   | int c=>cases(show y=.int c by simpa[IsW]using hb);obtain⟨t,rfl⟩:=rv;exact RcNeAt.tuple_int _ _ ht' hu0
   | str c=>cases(show y=.str c by simpa[IsW]using hb);obtain⟨t,rfl⟩:=rv;exact RcNeAt.tuple_str _ _ ht' hu0
  | lst as =>
   have pas:as.all (D.pureN k)=true:=by simpa[D.pureN]using pa
   obtain⟨p,xs,rfl,hq,hds⟩:∃a xs,x=.ref a∧LsL X.K H a xs∧jo X.K H as xs:=by simpa[IsW]using ha
   cases(show u=Value.ref p from ru)
   obtain⟨z,its,n,hv,_,hg⟩:=I.ls hq
   have hl':s.heap.IsList p its.toArray:=⟨_,hg,rfl,n,rfl⟩
   cases b with
   | loc n=>simp[D.pureN]at pb
   | lst bs =>
    have pbs:bs.all (D.pureN k)=true:=by simpa[D.pureN]using pb
    obtain⟨p',xs',rfl,hq',hds'⟩:∃a xs,y=.ref a∧LsL X.K H a xs∧jo X.K H bs xs:=by simpa[IsW]using hb
    cases(show v=Value.ref p' from rv)
    obtain⟨z',its',n',hv',_,hg'⟩:=I.ls hq'
    have hl2:s.heap.IsList p' its'.toArray:=⟨_,hg',rfl,n',rfl⟩
    ·skip
     have l1:as.length=its.length:=by rw[←hds.length,hv.length]
     have l2:bs.length=its'.length:=by rw[←hds'.length,hv'.length]
     by_cases hl:as.length=bs.length
     ·have q:=RcNeAt.lists (A:=A) hl' hl2 (by simp only[AE];lia) hu0 (each as bs xs xs' its its' pas pbs hds hds' hv hv')
      have e:(List.range its.toArray.size).all (fun j=>deq (as.getD j .non) (bs.getD j .non))=deq (.lst as) (.lst bs):=by
       rw[deq,g7 as bs hl]
       simp only[AE,←l1]
      rw[e]at q
      exact q
     ·rw[deq,lg as bs hl]
      exact RcNeAt.lists_lengths hl' hl2 (by simp only[AE];simp;lia) hu0
   | tup bs =>
    obtain⟨p',xs',rfl,hq',hds'⟩:=ip hb
    cases(show v=Value.ref p' from rv)
    obtain⟨its',hv',ht2,hz'⟩:=I.tuple hq'
    exact RcNeAt.list_tuple hl' (show s.heap.IsTuple p' its'.toArray from ht2) hu0
   | non=>cases(show y=.non by simpa[IsW]using hb);cases(show v=Value.none from rv);exact RcNeAt.list_none hl' hu0
   | bl c=>cases(show y=.bl c by simpa[IsW]using hb);cases(show v=Value.bool c from rv);exact RcNeAt.list_bool _ hl' hu0
   | int c=>cases(show y=.int c by simpa[IsW]using hb);obtain⟨t,rfl⟩:=rv;exact RcNeAt.list_int _ _ hl' hu0
   | str c=>cases(show y=.str c by simpa[IsW]using hb);obtain⟨t,rfl⟩:=rv;exact RcNeAt.list_str _ _ hl' hu0
  | _ =>
   cases b with
   | loc n=>simp[D.pureN]at pb
   | tup bs =>
    obtain⟨p',xs',rfl,hq',hds'⟩:=ip hb
    cases(show v=Value.ref p' from rv)
    obtain⟨its',hv',ht2,hz'⟩:=I.tuple hq'
    have ht':s.heap.IsTuple p' its'.toArray:=ht2
    first
    | (cases(show x=.non by simpa[IsW]using ha);cases(show u=Value.none from ru);exact RcNeAt.none_tuple ht' hu0)
    | (cases(show x=.bl _ by simpa[IsW]using ha);cases(show u=Value.bool _ from ru);exact RcNeAt.bool_tuple _ ht' hu0)
    | (cases(show x=.int _ by simpa[IsW]using ha);obtain⟨t,rfl⟩:=ru;exact RcNeAt.int_tuple _ _ ht' hu0)
    | (cases(show x=.str _ by simpa[IsW]using ha);obtain⟨t,rfl⟩:=ru;exact RcNeAt.str_tuple _ _ ht' hu0)
   | lst bs =>
    obtain⟨p',xs',rfl,hq',hds'⟩:∃a xs,y=.ref a∧LsL X.K H a xs∧jo X.K H bs xs:=by simpa[IsW]using hb
    cases(show v=Value.ref p' from rv)
    obtain⟨z',its',n',hv',_,hg'⟩:=I.ls hq'
    have hl':s.heap.IsList p' its'.toArray:=⟨_,hg',rfl,n',rfl⟩
    first
    | (cases(show x=.non by simpa[IsW]using ha);cases(show u=Value.none from ru);exact RcNeAt.none_list hl' hu0)
    | (cases(show x=.bl _ by simpa[IsW]using ha);cases(show u=Value.bool _ from ru);exact RcNeAt.bool_list _ hl' hu0)
    | (cases(show x=.int _ by simpa[IsW]using ha);obtain⟨t,rfl⟩:=ru;exact RcNeAt.int_list _ _ hl' hu0)
    | (cases(show x=.str _ by simpa[IsW]using ha);obtain⟨t,rfl⟩:=ru;exact RcNeAt.str_list _ _ hl' hu0)
   | _=>exact sv A _ _ x y u v rfl rfl ha hb ru rv
theorem Qp (hu:X.A.units+8<cLine):OpR X (compareOp .NotEq) (rOp X.K (cpD .ne)):=by
 intro pins s σ H x y v u Q I rx ry ⟨ι,a,b,μ,hS,ha,hb,h⟩
 unfold cpD at h
 simp only at h
 split at h
 ·rename_i hp
  exact B7 I 8 X.A a b x y v u hu hp.1 hp.2 (IsW.ofD (IsD.pur hp.1 ha)) (IsW.ofD (IsD.pur hp.2 hb)) rx ry _ _ _ _ ⟨.bl (!deq a b),H,I,rfl,h.ok hS (by simp[IsD])⟩
 ·exact h.elim
end
end Lp
namespace LT
open PySem PySem.Spec PyProof.Rows HT
open PySem.SeqAt
open PySem.AutoSeq1 (wpAny_loadPart')
open PySem.MeetsSeq PySem.MeetsSeq2 PySem.MeetsSeq3
theorem Ya (A:Around) (s:Shared) (a:Int) (t:Tok) (c:Int) (u:Tok) (prog:Program) (w:World) (E:Value→Shared→Prop) (Q:Value→Shared→Prop) (h:Q (.bool (decide (a≤c))) s) :
  wpAny (model prog w) A (richCompare .LtE (.int a t) (.int c u)) Q E s :=
 (PyProof.Rows.le_int h:wpAny (model prog w) A (compareOp .LtE (.int a t) (.int c u)) Q E s)
theorem Jf (l b:Addr) (items items2:Array Value) (n n2:Nat) (dd dd2:Option Addr) (sl sl2:Array (Option Value)) (ns ms:List Int) (ii:IntsAre items.toList ns) (jj:IntsAre items2.toList ms) :
  Meets (Builtin.«tuple.__le__» ⟨[.ref l,.ref b],[]⟩) (fun _ R s=>s.heap.get? l=some {cls:=.type "tuple",dict:=dd,data:=.seq items n,slots:=sl}∧s.heap.get? b=some {cls:=.type "tuple",dict:=dd2,data:=.seq items2 n2,slots:=sl2}∧R (.ok (.ret (.bool (!lexLt ms ns)))) s) :=
 .of_wp fun prog w A R s h=>by
  obtain⟨hh0,g,d,tk0,os0⟩:=s;obtain⟨ql,hb,h⟩:=h
  have sub0:=EX
  have n1:ns.length=items.size:=by rw[←ii.length,BN]
  have n2e:ms.length=items2.size:=by rw[←jj.length,BN]
  wp_walk using CH ql,CH hb,HY _ (fun rest b s'=>b.1=none∧s'=⟨hh0,g,d,tk0,os0⟩∧∃(us1 us2:List Value) (ms1 ms2:List Int),rest=us1.zip us2 ∧
   IntsAre us1 ms1∧IntsAre us2 ms2∧ms1.length+items2.size=ms2.length+items.size∧R (.ok (.ret (.bool (!lexLt ms2 ms1)))) ⟨hh0,g,d,tk0,os0⟩) _
  case turn =>
   rintro⟨y,x⟩ rest b s' ⟨p0,rfl,us1,us2,ms1,ms2,pz,pv,pw,pl,fin0⟩
   cases pv with
   | nil=>rw[HF]at pz;cases pz
   | cons a t pv1 =>
    cases pw with
    | nil=>rw[FD]at pz;cases pz
    | cons c u pw1 =>
     rw[DA]at pz
     injection pz with pyx pr
     injection pyx with py px
     subst py px
     rw[jn]at fin0
     simp only[BJ]at pl
     obtain⟨same,eq0,eqi⟩:=vp A.in1 ⟨hh0,g,d,tk0,os0⟩ a t c u
     refine AA (eq0 prog w _ _ ?_)
     cases same with
     | true =>
      rw[if_pos (eqi.mp rfl).symm]at fin0
      wp_walk
      exact⟨rfl,rfl,_,_,_,_,pr,pv1,pw1,by lia,fin0⟩
     | false =>
      have hne:¬c=a:=fun q=>absurd (eqi.mpr q.symm) AU
      rw[if_neg hne]at fin0
      have ed:(!decide (c<a))=decide (a≤c):=by
       by_cases hc:c<a
       ·rw[decide_eq_true hc,decide_eq_false (by lia)];rfl
       ·rw[decide_eq_false hc,decide_eq_true (by lia)];rfl
      rw[ed]at fin0
      have low:=Ya A.in1 ⟨hh0,g,d,tk0,os0⟩ a t c u prog w
      wp_walk using low
      exact⟨_,rfl,by simpa using fin0⟩
  case fin =>
   rintro⟨c1,c2⟩ s' ⟨p0,rfl,us1,us2,ms1,ms2,pz,pv,pw,pl,fin0⟩
   simp only at p0
   subst p0
   have hv:(!lexLt ms2 ms1)=decide (items.size≤items2.size):=by
    cases pv with
    | nil =>
     cases pw with
     | nil =>
      simp only[CI]at pl
      rw[k9,decide_eq_true (by lia)];rfl
     | cons c u hw =>
      simp only[CI,BJ]at pl
      rw[ki,decide_eq_true (by lia)];rfl
    | cons a t hv =>
     cases pw with
     | nil =>
      simp only[CI,BJ]at pl
      rw[kh,decide_eq_false (by lia)];rfl
     | cons c u hw =>
      rw[DA]at pz
      cases pz
   rw[hv]at fin0
   wp_walk
   exact⟨_,rfl,by simpa[Builtin.Tuple.tupleCompareSizes]using fin0⟩
  case h =>
   exact⟨rfl,rfl,items.toList,items2.toList,ns,ms,rfl,ii,jj,by lia,h⟩
theorem Qq {prog:Program} {w:World} {A:Around} {E:Value→Shared→Prop} {s:Shared} {l b:Addr} {items items2:Array Value} {ns ms:List Int} {Q:Value→Shared→Prop} (hl:IsTup s.heap l items) (hb:IsTup s.heap b items2) (hi:IntsAre items.toList ns) (hj:IntsAre items2.toList ms)
  (hu:A.units<cLine) (h:Q (.bool (!lexLt ms ns)) s):wpAny (model prog w) A (compareOp .LtE (.ref l) (.ref b)) Q E s:=by
 obtain⟨⟨_,dd,_,sl⟩,ho,rfl,n,rfl⟩:=id hl
 obtain⟨⟨_,dd2,_,sl2⟩,ho2,rfl,n2,rfl⟩:=id hb
 exact FK (op:=.LtE) ⟨_,ho,rfl⟩ ⟨_,ho2,rfl⟩ PySem.F.slot_tuple_le PySem.F.entry_tuple_le (PySem.F.args_tuple_le_2 _ _) (Jf l b items items2 n n2 dd dd2 sl sl2 ns ms hi hj)
  ⟨ho,ho2,show Value.bool (!lexLt ms ns)≠Value.notImplemented∧Q (.bool (!lexLt ms ns)) s from⟨(fun x=>nomatch x),h⟩⟩ hu
theorem Yb (A:Around) (s:Shared) (a:Int) (t:Tok) (c:Int) (u:Tok) (prog:Program) (w:World) (E:Value→Shared→Prop) (Q:Value→Shared→Prop) (h:Q (.bool (decide (c≤a))) s) :
  wpAny (model prog w) A (richCompare .GtE (.int a t) (.int c u)) Q E s :=
 (PyProof.Rows.ge_int h:wpAny (model prog w) A (compareOp .GtE (.int a t) (.int c u)) Q E s)
theorem Jg (l b:Addr) (items items2:Array Value) (n n2:Nat) (dd dd2:Option Addr) (sl sl2:Array (Option Value)) (ns ms:List Int) (ii:IntsAre items.toList ns) (jj:IntsAre items2.toList ms) :
  Meets (Builtin.«tuple.__ge__» ⟨[.ref l,.ref b],[]⟩) (fun _ R s=>s.heap.get? l=some {cls:=.type "tuple",dict:=dd,data:=.seq items n,slots:=sl}∧s.heap.get? b=some {cls:=.type "tuple",dict:=dd2,data:=.seq items2 n2,slots:=sl2}∧R (.ok (.ret (.bool (!lexLt ns ms)))) s) :=
 .of_wp fun prog w A R s h=>by
  obtain⟨hh0,g,d,tk0,os0⟩:=s;obtain⟨ql,hb,h⟩:=h
  have sub0:=EX
  have n1:ns.length=items.size:=by rw[←ii.length,BN]
  have n2e:ms.length=items2.size:=by rw[←jj.length,BN]
  wp_walk using CH ql,CH hb,HY _ (fun rest b s'=>b.1=none∧s'=⟨hh0,g,d,tk0,os0⟩∧∃(us1 us2:List Value) (ms1 ms2:List Int),rest=us1.zip us2 ∧
   IntsAre us1 ms1∧IntsAre us2 ms2∧ms1.length+items2.size=ms2.length+items.size∧R (.ok (.ret (.bool (!lexLt ms1 ms2)))) ⟨hh0,g,d,tk0,os0⟩) _
  case turn =>
   rintro⟨y,x⟩ rest b s' ⟨p0,rfl,us1,us2,ms1,ms2,pz,pv,pw,pl,fin0⟩
   cases pv with
   | nil=>rw[HF]at pz;cases pz
   | cons a t pv1 =>
    cases pw with
    | nil=>rw[FD]at pz;cases pz
    | cons c u pw1 =>
     rw[DA]at pz
     injection pz with pyx pr
     injection pyx with py px
     subst py px
     rw[jn]at fin0
     simp only[BJ]at pl
     obtain⟨same,eq0,eqi⟩:=vp A.in1 ⟨hh0,g,d,tk0,os0⟩ a t c u
     refine AA (eq0 prog w _ _ ?_)
     cases same with
     | true =>
      rw[if_pos (eqi.mp rfl)]at fin0
      wp_walk
      exact⟨rfl,rfl,_,_,_,_,pr,pv1,pw1,by lia,fin0⟩
     | false =>
      have hne:¬a=c:=fun q=>absurd (eqi.mpr q) AU
      rw[if_neg hne]at fin0
      have ed:(!decide (a<c))=decide (c≤a):=by
       by_cases hc:a<c
       ·rw[decide_eq_true hc,decide_eq_false (by lia)];rfl
       ·rw[decide_eq_false hc,decide_eq_true (by lia)];rfl
      rw[ed]at fin0
      have low:=Yb A.in1 ⟨hh0,g,d,tk0,os0⟩ a t c u prog w
      wp_walk using low
      exact⟨_,rfl,by simpa using fin0⟩
  case fin =>
   rintro⟨c1,c2⟩ s' ⟨p0,rfl,us1,us2,ms1,ms2,pz,pv,pw,pl,fin0⟩
   simp only at p0
   subst p0
   have hv:(!lexLt ms1 ms2)=decide (items2.size≤items.size):=by
    cases pv with
    | nil =>
     cases pw with
     | nil =>
      simp only[CI]at pl
      rw[k9,decide_eq_true (by lia)];rfl
     | cons c u hw =>
      simp only[CI,BJ]at pl
      rw[kh,decide_eq_false (by lia)];rfl
    | cons a t hv =>
     cases pw with
     | nil =>
      simp only[CI,BJ]at pl
      rw[ki,decide_eq_true (by lia)];rfl
     | cons c u hw =>
      rw[DA]at pz
      cases pz
   rw[hv]at fin0
   wp_walk
   exact⟨_,rfl,by simpa[Builtin.Tuple.tupleCompareSizes]using fin0⟩
  case h =>
   exact⟨rfl,rfl,items.toList,items2.toList,ns,ms,rfl,ii,jj,by lia,h⟩
theorem Qr {prog:Program} {w:World} {A:Around} {E:Value→Shared→Prop} {s:Shared} {l b:Addr} {items items2:Array Value} {ns ms:List Int} {Q:Value→Shared→Prop} (hl:IsTup s.heap l items) (hb:IsTup s.heap b items2) (hi:IntsAre items.toList ns) (hj:IntsAre items2.toList ms)
  (hu:A.units<cLine) (h:Q (.bool (!lexLt ns ms)) s):wpAny (model prog w) A (compareOp .GtE (.ref l) (.ref b)) Q E s:=by
 obtain⟨⟨_,dd,_,sl⟩,ho,rfl,n,rfl⟩:=id hl
 obtain⟨⟨_,dd2,_,sl2⟩,ho2,rfl,n2,rfl⟩:=id hb
 exact FK (op:=.GtE) ⟨_,ho,rfl⟩ ⟨_,ho2,rfl⟩ PySem.F.slot_tuple_ge PySem.F.entry_tuple_ge (PySem.F.args_tuple_ge_2 _ _) (Jg l b items items2 n n2 dd dd2 sl sl2 ns ms hi hj)
  ⟨ho,ho2,show Value.bool (!lexLt ns ms)≠Value.notImplemented∧Q (.bool (!lexLt ns ms)) s from⟨(fun x=>nomatch x),h⟩⟩ hu
end LT
namespace L2
open PySem PySem.Spec PyProof.Rows
variable {X : Cx}
theorem Qs (hu:X.A.units<cLine) {pins s σ H x y v u Q} (I:Inv X pins σ H s) (rx:RelV x v) (ry:RelV y u) (h:∃a b ns ms,x=.ref a∧y=.ref b∧SqT X.K H a (ns.map V.int)∧SqT X.K H b (ms.map V.int)∧Q (.bl (!HT.lexLt ms ns)) H) :
  wpAny (model X.prog X.w) X.A (compareOp .LtE v u) (EP X pins σ Q) X.xe s:=by
 obtain⟨c,d,ns,ms,rfl,rfl,hc,hd,q⟩:=h
 cases rx
 cases ry
 obtain⟨us,r1,p1,_⟩:=I.tuple hc
 obtain⟨us2,r2,p2,_⟩:=I.tuple hd
 exact LT.Qq p1 p2 (intsAre_of r1) (intsAre_of r2) hu ⟨.bl (!HT.lexLt ms ns),H,I,rfl,q⟩
theorem Qt (hu:X.A.units<cLine) {pins s σ H x y v u Q} (I:Inv X pins σ H s) (rx:RelV x v) (ry:RelV y u) (h:∃a b ns ms,x=.ref a∧y=.ref b∧SqT X.K H a (ns.map V.int)∧SqT X.K H b (ms.map V.int)∧Q (.bl (!HT.lexLt ns ms)) H) :
  wpAny (model X.prog X.w) X.A (compareOp .GtE v u) (EP X pins σ Q) X.xe s:=by
 obtain⟨c,d,ns,ms,rfl,rfl,hc,hd,q⟩:=h
 cases rx
 cases ry
 obtain⟨us,r1,p1,_⟩:=I.tuple hc
 obtain⟨us2,r2,p2,_⟩:=I.tuple hd
 exact LT.Qr p1 p2 (intsAre_of r1) (intsAre_of r2) hu ⟨.bl (!HT.lexLt ns ms),H,I,rfl,q⟩
end L2
namespace Lp
open PySem PySem.Spec PyProof.Rows L2
open PySem.SeqAt (EqAt RcAt)
noncomputable def opOf:Cp→CmpOp
 | .eq=>.Eq
 | .ne=>.NotEq
 | .eqM=>.Eq
 | .neM=>.NotEq
 | .lt=>.Lt
 | .le=>.LtE
 | .gt=>.Gt
 | .ge=>.GtE
 | .is=>.Is
 | .isnot=>.IsNot
 | .in_=>.In
 | .notin=>.NotIn
section
variable {X : Cx} {φ : Phi} {pins : List (Addr × Obj)} {σ : St} {H : Hp} {s : Shared}
theorem ints_of {K:PySem.W.Frag} {ι:List Addr}:∀{ds:List D} {xs:List V} {ns:List Int},aq K ι H ds xs→gc ds=some ns→xs=ns.map V.int
 | [],xs,ns,h,e=>by
  simp only[gc,BP]at e
  subst e
  simpa[aq]using h
 | d::ds,xs,ns,h,e=>by
  simp only[aq]at h
  obtain⟨v,r,rfl,q,t⟩:=h
  cases d with
  | int i =>
   simp only[gc,FR]at e
   obtain⟨ms,e1,rfl⟩:=e
   cases fh q
   rw[ints_of t e1]
   rfl
  | _=>simp[gc]at e
theorem B8 {K:PySem.W.Frag} {ι:List Addr}:∀{ds:List D} {xs:List V} {ns:List Bool},aq K ι H ds xs→n3 ds=some ns→xs=ns.map V.bl
 | [],xs,ns,h,e=>by
  simp only[n3,BP]at e
  subst e
  simpa[aq]using h
 | d::ds,xs,ns,h,e=>by
  simp only[aq]at h
  obtain⟨v,r,rfl,q,t⟩:=h
  cases d with
  | bl i =>
   simp only[n3,FR]at e
   obtain⟨ms,e1,rfl⟩:=e
   cases yx q
   rw[B8 t e1]
   rfl
  | _=>simp[n3]at e
theorem Az {K:PySem.W.Frag} {ι:List Addr} {d:D} {v:V} (h:IsD K ι H d v) (hf:flat d=true):um v=true:=by
 cases d with
 | tup _=>simp[flat]at hf
 | lst _=>simp[flat]at hf
 | loc _=>simp[flat]at hf
 | _=>have e:=h;simp only[IsD]at e;subst e;rfl
theorem wa {K:PySem.W.Frag} {ι:List Addr}:∀{ds:List D} {xs:List V},aq K ι H ds xs→ds.all flat=true→xs.all um=true
 | [],xs,h,_=>by
  have e:xs=[]:=by simpa[aq]using h
  subst e
  rfl
 | d::ds,xs,h,hf=>by
  simp only[aq]at h
  obtain⟨v,r,rfl,q,t⟩:=h
  simp only[BC,AZ]at hf ⊢
  exact⟨Az q hf.1,wa t hf.2⟩
theorem Qu {K:PySem.W.Frag} {ι:List Addr} {d e:D} {v w:V} (hd:IsD K ι H d v) (he:IsD K ι H e w) (fd:flat d=true) (fe:flat e=true):eqV v w=deq d e:=by
 have b2:∀(a b:Int),decide (a=b)=(a==b):=fun a b=>(CK a b).symm
 have b3:∀(a b:Str),decide (a=b)=(a==b):=fun a b=>(CK a b).symm
 cases d with
 | tup _=>simp[flat]at fd
 | lst _=>simp[flat]at fd
 | loc _=>simp[flat]at fd
 | _ =>
  cases e with
  | tup _=>simp[flat]at fe
  | lst _=>simp[flat]at fe
  | loc _=>simp[flat]at fe
  | _ =>
   simp only[IsD]at hd he
   subst hd he
   simp only[eqV,deq,b2,b3]
theorem Fq {K:PySem.W.Frag} {ι:List Addr} {e:D} {w:V} (he:IsD K ι H e w) (fe:flat e=true):∀{ds:List D} {xs:List V},aq K ι H ds xs→ds.all flat=true→inV w xs=ds.any fun y=>deq y e
 | [],xs,h,_=>by
  have e:xs=[]:=by simpa[aq]using h
  subst e
  rfl
 | d::ds,xs,h,hf=>by
  simp only[aq]at h
  obtain⟨v,r,rfl,q,t⟩:=h
  simp only[BC,AZ]at hf
  have ih:=Fq he fe t hf.2
  unfold inV at ih ⊢
  rw[CM,CM,Qu q he hf.1 fe,ih]
theorem is_bool {u:Bool} {v:Bool} {Q:VK} (I:Inv X pins σ H s) (q:Q (.bl (u==v)) H):wpAny (model X.prog X.w) X.A (compareOp .Is (.bool u) (.bool v)) (EP X pins σ Q) X.xe s:=by
 cases u<;>cases v<;>exact AD ⟨.bl _,H,I,rfl,q⟩
theorem isnot_bool {u:Bool} {v:Bool} {Q:VK} (I:Inv X pins σ H s) (q:Q (.bl (!(u==v))) H):wpAny (model X.prog X.w) X.A (compareOp .IsNot (.bool u) (.bool v)) (EP X pins σ Q) X.xe s:=by
 cases u<;>cases v<;>exact AD ⟨.bl _,H,I,rfl,q⟩
theorem y6 {v:Bool} {Q:VK} (I:Inv X pins σ H s) (q:Q (.bl false) H):wpAny (model X.prog X.w) X.A (compareOp .Is .none (.bool v)) (EP X pins σ Q) X.xe s:=by
 cases v<;>exact AD ⟨.bl _,H,I,rfl,q⟩
theorem sx {v:Bool} {Q:VK} (I:Inv X pins σ H s) (q:Q (.bl true) H):wpAny (model X.prog X.w) X.A (compareOp .IsNot .none (.bool v)) (EP X pins σ Q) X.xe s:=by
 cases v<;>exact AD ⟨.bl _,H,I,rfl,q⟩
noncomputable def kD:Key→D
 | .inl i=>.int i
 | .inr x=>.str x
theorem Fs {K:PySem.W.Frag} {ι:List Addr} {d:D} {x:V} (hk:Iy d=true) (h:IsD K ι H d x):∃k,d=kD k∧x=kV k:=by
 cases d with
 | int i=>exact⟨.inl i,rfl,by simpa[IsD,kV]using h⟩
 | str i=>exact⟨.inr i,rfl,by simpa[IsD,kV]using h⟩
 | _=>simp[Iy]at hk
theorem A0 {K:PySem.W.Frag} {ι:List Addr} {d:D} {k:Key} (h:IsD K ι H d (kV k)):d=kD k:=by
 cases k with
 | inl i=>cases d<;>simp_all[IsD,kV,kD]
 | inr i=>cases d<;>simp_all[IsD,kV,kD]
theorem y8 (a b:Key):deq (kD a) (kD b)=decide (a=b):=by
 cases a<;>cases b<;>simp[kD,deq]
noncomputable def OR (K:PySem.W.Frag) (H:Hp):Option D→Option V→Prop
 | some d,some v=>IsD K [] H d v
 | none,none=>True
 | _,_=>False
theorem OR.isSome {K:PySem.W.Frag} {o:Option D} {p:Option V} (h:OR K H o p):p.isSome=o.isSome:=by
 cases o<;>cases p<;>first | rfl | exact h.elim
theorem OR.getD {K:PySem.W.Frag} {ι:List Addr} {o:Option D} {p:Option V} {d:D} {v:V} (h:OR K H o p) (hd:IsD K ι H d v):IsD K ι H (o.getD d) (p.getD v):=by
 cases o with
 | none=>cases p with
  | none=>exact hd
  | some _=>exact h.elim
 | some _=>cases p with
  | none=>exact h.elim
  | some _=>exact IsD.mono (CJ) (.refl _) _ _ h
theorem r9 {K:PySem.W.Frag} {k:Key}:∀{kvs:List (D×D)} {xs:List (Key×V)},Iz K H kvs xs→OR K H (Fh (kD k) kvs) (Bz xs k)
 | _,_,.nil=>True.intro
 | p::kvs,q::xs,.cons h t=>by
  obtain⟨d,e⟩:=p
  have hk:=A0 h.1
  dsimp only at hk
  subst hk
  have ih:=r9 (k:=k) (kvs:=kvs) (xs:=xs) t
  by_cases z:q.1=k
  ·rw[rq z,Fh,y8,if_pos (by simpa using z)]
   exact h.2
  ·rw[r6 z,Fh,y8,if_neg (by simpa using z)]
   exact ih
theorem Ft {K:PySem.W.Frag} {k:Key}:∀{kvs:List (D×D)} {xs:List (Key×V)},Iz K H kvs xs→(kvs.any fun p=>deq p.1 (kD k))=xs.any fun kv=>decide (kv.1=k)
 | _,_,.nil=>rfl
 | p::kvs,q::xs,.cons h t=>by
  obtain⟨d,e⟩:=p
  have hk:=A0 h.1
  dsimp only at hk
  subst hk
  rw[CM,CM,Ft t,y8]
theorem B9 {K:PySem.W.Frag} {k:Key} {d:D} {v:V} (hv:IsD K [] H d v):∀{kvs:List (D×D)} {xs:List (Key×V)},Iz K H kvs xs →
  Iz K H (kvs.map fun p=>if deq p.1 (kD k)=true then(p.1,d)else p) (xs.map fun kv=>if kv.1=k then(kv.1,v)else kv)
 | _,_,.nil=>.nil
 | p::kvs,q::xs,.cons h t=>by
  obtain⟨e,w⟩:=p
  have hk:=A0 h.1
  dsimp only at hk
  subst hk
  rw[AT,AT]
  refine .cons ?_ (B9 hv t)
  by_cases z:q.1=k
  ·rw[if_pos z,y8,if_pos (by simpa using z)]
   exact⟨h.1,hv⟩
  ·rw[if_neg z,y8,if_neg (by simpa using z)]
   exact h
theorem tf {α β:Type} {F:α→β→Prop}:∀{xs:List α} {ys:List β} {x:α} {y:β},Paired F xs ys→F x y→Paired F (xs++[x]) (ys++[y])
 | _,_,_,_,.nil,h=>.cons h .nil
 | _,_,_,_,.cons a t,h=>.cons a (tf t h)
theorem Ca {K:PySem.W.Frag} {k:Key} {d:D} {v:V} (hv:IsD K [] H d v) {kvs:List (D×D)} {xs:List (Key×V)} (h:Iz K H kvs xs):Iz K H (dput (kD k) d kvs) (putK xs k v):=by
 unfold dput putK
 rw[Ft h]
 split
 ·exact B9 hv h
 ·refine tf h ⟨?_,hv⟩
  cases k<;>simp[kD,kV,IsD]
theorem A1 {K:PySem.W.Frag} {ι:List Addr} {μ:Sto} {o k:D} {x y:V} {kvs:List (D×D)} (hS:Sim K ι H μ) (ho:IsD K ι H o x) (hk:IsD K ι H k y) (h:dictAt μ o k=some kvs) :
  ∃p q xs,x=.ref p∧y=kV q∧k=kD q∧H p=some (.dK xs)∧Iz K H kvs xs:=by
 cases o with
 | loc n =>
  simp only[dictAt]at h
  split at h
  ·rename_i kvs' em
   split at h
   ·rename_i hkey
    cases h
    obtain⟨p,rfl,hp⟩:∃p,x=.ref p∧ι[n]? = some p:=by simpa[IsD]using ho
    obtain⟨a',q',ob⟩:=hS.at em
    rw[hp]at q';cases q'
    obtain⟨xs,e1,e2⟩:=ob
    obtain⟨q,rfl,rfl⟩:=Fs hkey hk
    exact⟨p,q,xs,rfl,rfl,rfl,e1,e2⟩
   ·cases h
  ·cases h
 | _=>simp[dictAt]at h
theorem Fu (cp:Cp) (hu:X.A.units+8<cLine):OpR X (compareOp (opOf cp)) (rOp X.K (cpD cp)):=by
 have hu0:X.A.units<cLine:=by lia
 cases cp with
 | eq=>exact Qo hu
 | ne=>exact Qp hu
 | eqM =>
  intro pins s σ H x y v u Q I rx ry ⟨ι,a,b,μ,hS,ha,hb,h⟩
  simp only[cpD]at h
  cases e1:ck μ 8 a with
  | none=>simp only[e1]at h;exact h.elim
  | some a1 =>
   cases e2:ck μ 8 b with
   | none=>simp only[e1,e2]at h;exact h.elim
   | some b1 =>
    simp only[e1,e2]at h
    exact La I 8 X.A a1 b1 x y v u hu (ky 8 _ _ e1) (ky 8 _ _ e2) (yy hS 8 _ _ _ e1 ha) (yy hS 8 _ _ _ e2 hb) rx ry _ _ _ _ ⟨.bl (deq a1 b1),H,I,rfl,h.ok hS (by simp[IsD])⟩
 | neM =>
  intro pins s σ H x y v u Q I rx ry ⟨ι,a,b,μ,hS,ha,hb,h⟩
  simp only[cpD]at h
  cases e1:ck μ 8 a with
  | none=>simp only[e1]at h;exact h.elim
  | some a1 =>
   cases e2:ck μ 8 b with
   | none=>simp only[e1,e2]at h;exact h.elim
   | some b1 =>
    simp only[e1,e2]at h
    exact B7 I 8 X.A a1 b1 x y v u hu (ky 8 _ _ e1) (ky 8 _ _ e2) (yy hS 8 _ _ _ e1 ha) (yy hS 8 _ _ _ e2 hb) rx ry _ _ _ _ ⟨.bl (!deq a1 b1),H,I,rfl,h.ok hS (by simp[IsD])⟩
 | lt =>
  intro pins s σ H x y v u Q I rx ry ⟨ι,a,b,μ,hS,ha,hb,h⟩
  simp only[cpD]at h
  split at h
  ·cases fh ha;cases fh hb
   exact Sx pins s σ H _ _ v u Q I rx ry ⟨_,_,rfl,rfl,h.ok hS (by simp[IsD])⟩
  ·obtain⟨p,xs,rfl,hq,hds⟩:=iz ha
   obtain⟨p',xs',rfl,hq',hds'⟩:=iz hb
   split at h
   ·rename_i ns ms e1 e2
    have:=ints_of hds e1
    subst this
    have:=ints_of hds' e2
    subst this
    refine Pt hu0 pins s σ H _ _ v u Q I rx ry ⟨p,p',ns,ms,rfl,rfl,hq,hq',?_⟩
    have el:∀(a b:List Int),HT.lexLt a b=Lp.lexLt a b:=by
     intro a
     induction a with
     | nil=>intro b;cases b<;>rfl
     | cons x r ih=>intro b;cases b with
      | nil=>rfl
      | cons y q=>rw[HT.jn,Lp.lexLt,ih]
    rw[el]
    exact h.ok hS (by simp[IsD])
   ·exact h.elim
  ·exact h.elim
 | le =>
  intro pins s σ H x y v u Q I rx ry ⟨ι,a,b,μ,hS,ha,hb,h⟩
  simp only[cpD]at h
  split at h
  ·cases fh ha;cases fh hb
   exact Sy pins s σ H _ _ v u Q I rx ry ⟨_,_,rfl,rfl,h.ok hS (by simp[IsD])⟩
  ·obtain⟨p,xs,rfl,hq,hds⟩:=iz ha
   obtain⟨p',xs',rfl,hq',hds'⟩:=iz hb
   split at h
   ·rename_i ns ms e1 e2
    have:=ints_of hds e1
    subst this
    have:=ints_of hds' e2
    subst this
    refine Qs hu0 I rx ry ⟨p,p',ns,ms,rfl,rfl,hq,hq',?_⟩
    have el:∀(a b:List Int),HT.lexLt a b=Lp.lexLt a b:=by
     intro a
     induction a with
     | nil=>intro b;cases b<;>rfl
     | cons x r ih=>intro b;cases b with
      | nil=>rfl
      | cons y q=>rw[HT.jn,Lp.lexLt,ih]
    rw[el]
    exact h.ok hS (by simp[IsD])
   ·exact h.elim
  ·exact h.elim
 | gt =>
  refine OpR.imp Sz fun x y H Q ⟨ι,a,b,μ,hS,ha,hb,h⟩=>?_
  simp only[cpD]at h
  split at h
  ·cases fh ha;cases fh hb
   exact⟨_,_,rfl,rfl,h.ok hS (by simp[IsD])⟩
  ·exact h.elim
 | ge =>
  intro pins s σ H x y v u Q I rx ry ⟨ι,a,b,μ,hS,ha,hb,h⟩
  simp only[cpD]at h
  split at h
  ·cases fh ha;cases fh hb
   exact S0 pins s σ H _ _ v u Q I rx ry ⟨_,_,rfl,rfl,h.ok hS (by simp[IsD])⟩
  ·obtain⟨p,xs,rfl,hq,hds⟩:=iz ha
   obtain⟨p',xs',rfl,hq',hds'⟩:=iz hb
   split at h
   ·rename_i ns ms e1 e2
    have:=ints_of hds e1
    subst this
    have:=ints_of hds' e2
    subst this
    refine Qt hu0 I rx ry ⟨p,p',ns,ms,rfl,rfl,hq,hq',?_⟩
    have el:∀(a b:List Int),HT.lexLt a b=Lp.lexLt a b:=by
     intro a
     induction a with
     | nil=>intro b;cases b<;>rfl
     | cons x r ih=>intro b;cases b with
      | nil=>rfl
      | cons y q=>rw[HT.jn,Lp.lexLt,ih]
    rw[el]
    exact h.ok hS (by simp[IsD])
   ·exact h.elim
  ·exact h.elim
 | is =>
  intro pins s σ H x y v u Q I rx ry ⟨ι,a,b,μ,hS,ha,hb,h⟩
  simp only[cpD]at h
  split at h
  ·refine Pl pins s σ H x y v u Q I rx ry ⟨by simpa[IsD]using hb,?_⟩
   cases a with
   | tup ds=>obtain⟨p,xs,rfl,_⟩:=iz ha;exact h.ok hS (by simp[IsD])
   | lst ds =>
         obtain⟨p,xs,rfl,_⟩:∃p xs,x=V.ref p∧FzL X.K H p xs∧aq X.K ι H ds xs:=by simpa[IsD]using ha
         exact h.ok hS (by simp[IsD])
   | loc n =>
        obtain⟨p,rfl,_⟩:∃p,x=V.ref p∧ι[n]? = some p:=by simpa[IsD]using ha
        exact h.ok hS (by simp[IsD])
   | _=>have e:=ha;simp only[IsD]at e;subst e;exact h.ok hS (by simp[IsD])
  ·cases yx hb
   cases(show u=Value.bool _ from ry)
   split at h
   ·cases yx ha
    cases(show v=Value.bool _ from rx)
    exact is_bool I (h.ok hS (by simp[IsD]))
   ·cases(show x=.non by simpa[IsD]using ha)
    cases(show v=Value.none from rx)
    exact y6 I (h.ok hS (by simp[IsD]))
   ·exact h.elim
  ·exact h.elim
 | isnot =>
  intro pins s σ H x y v u Q I rx ry ⟨ι,a,b,μ,hS,ha,hb,h⟩
  simp only[cpD]at h
  split at h
  ·refine Mb pins s σ H x y v u Q I rx ry ⟨by simpa[IsD]using hb,?_⟩
   cases a with
   | tup ds=>obtain⟨p,xs,rfl,_⟩:=iz ha;exact h.ok hS (by simp[IsD])
   | lst ds =>
         obtain⟨p,xs,rfl,_⟩:∃p xs,x=V.ref p∧FzL X.K H p xs∧aq X.K ι H ds xs:=by simpa[IsD]using ha
         exact h.ok hS (by simp[IsD])
   | loc n =>
        obtain⟨p,rfl,_⟩:∃p,x=V.ref p∧ι[n]? = some p:=by simpa[IsD]using ha
        exact h.ok hS (by simp[IsD])
   | _=>have e:=ha;simp only[IsD]at e;subst e;exact h.ok hS (by simp[IsD])
  ·cases yx hb
   cases(show u=Value.bool _ from ry)
   split at h
   ·cases yx ha
    cases(show v=Value.bool _ from rx)
    exact isnot_bool I (h.ok hS (by simp[IsD]))
   ·cases(show x=.non by simpa[IsD]using ha)
    cases(show v=Value.none from rx)
    exact sx I (h.ok hS (by simp[IsD]))
   ·exact h.elim
  ·exact h.elim
 | in_ =>
  intro pins s σ H x y v u Q I rx ry ⟨ι,a,b,μ,hS,ha,hb,h⟩
  simp only[cpD]at h
  split at h
  ·rename_i ds e
   obtain⟨p,xs,rfl,hq,hds⟩:=u7 hS hb e
   split at h
   ·rename_i hf
    refine E8 pins s σ H _ _ v u Q I rx ry ⟨p,xs,rfl,hq.imp (·.sq) id,Az ha hf.1,wa hds hf.2,?_⟩
    simp only[AR,if_false]
    rw[Fq ha hf.1 hds hf.2]
    exact h.ok hS (by simp[IsD])
   ·exact h.elim
  ·split at h
   ·rename_i kvs e
    obtain⟨p,q,xs,rfl,rfl,rfl,hp,hk⟩:=A1 hS hb ha e
    cases(show u=Value.ref p from ry)
    refine Xz (by lia) I (Ip.k hp) rx fun s' I'=>⟨.bl (Bz xs q).isSome,H,I',rfl,?_⟩
    rw[(r9 hk).isSome]
    exact h.ok hS (by simp[IsD])
   ·exact h.elim
 | notin =>
  intro pins s σ H x y v u Q I rx ry ⟨ι,a,b,μ,hS,ha,hb,h⟩
  simp only[cpD]at h
  split at h
  ·rename_i ds e
   obtain⟨p,xs,rfl,hq,hds⟩:=u7 hS hb e
   split at h
   ·rename_i hf
    refine ym pins s σ H _ _ v u Q I rx ry ⟨p,xs,rfl,hq.imp (·.sq) id,Az ha hf.1,wa hds hf.2,?_⟩
    simp only[if_true]
    rw[Fq ha hf.1 hds hf.2]
    exact h.ok hS (by simp[IsD])
   ·exact h.elim
  ·split at h
   ·rename_i kvs e
    obtain⟨p,q,xs,rfl,rfl,rfl,hp,hk⟩:=A1 hS hb ha e
    cases(show u=Value.ref p from ry)
    refine Ml (by lia) I (Ip.k hp) rx fun s' I'=>⟨.bl (!(Bz xs q).isSome),H,I',rfl,?_⟩
    rw[(r9 hk).isSome]
    exact h.ok hS (by simp[IsD])
   ·exact h.elim
end
end Lp
namespace Lp
open PySem PySem.Spec PyProof.Rows L2
open PySem.SeqAt (EqAt RcAt)
section
variable {X : Cx} {φ : Phi} {pins : List (Addr × Obj)} {σ : St} {H : Hp} {s : Shared}
noncomputable def PCh (X:Cx) (ops:List CmpOp) (es:List Expr) (t:V→TE):Prop :=
 ∀(pos:Pos) (pins:List (Addr×Obj)) (s:Shared) (σ:St) (H:Hp) (Q:VK) (x:V) (v:Value),Inv X pins σ H s→RelV x v→t x σ H Q →
  wpAny (model X.prog X.w) X.A (compareChain pos v ops (evalEach es X.env)) (EP X pins σ Q) X.xe s
noncomputable def PTh (X:Cx) (ops:List CmpOp) (es:List Expr) (t:V→TT):Prop :=
 ∀(pos:Pos) (pins:List (Addr×Obj)) (s:Shared) (σ:St) (H:Hp) (Q:Bool→Hp→Prop) (x:V) (v:Value),Inv X pins σ H s→RelV x v→t x σ H Q →
  wpAny (model X.prog X.w) X.A (testChain pos v ops (evalEach es X.env)) (TP X pins σ Q) X.xe s
noncomputable def tCh (K:PySem.W.Frag) (φ:Phi) (r:Cps):V→TE:=fun x σv H Q=>∃ι σ μ d,Sim K ι H μ∧p9 K ι H σ σv∧IsD K ι H d x∧h9 K (RD K) ι H (evC φ r d σ μ) Q
noncomputable def tTh (K:PySem.W.Frag) (φ:Phi) (r:Cps):V→TT:=fun x σv H Q=>∃ι σ μ d,Sim K ι H μ∧p9 K ι H σ σv∧IsD K ι H d x∧h9 K RB ι H ((evC φ r d σ μ).bind fun z μ=>Vy z μ) Q
theorem Fv {op:Cp} {xe:Ex} {d:D} {σ:Sl} {μ:Sto}:evC φ (.cons op xe .nil) d σ μ=(evE φ xe σ μ).bind fun y μ=>cpD op d y μ:=by
 simp only[evC]
 cases evE φ xe σ μ with
 | ok y μ1 =>
  simp only[Res.bw]
  cases cpD op d y μ1<;>rfl
 | exc _ _ _=>rfl
 | stuck=>rfl
theorem Jh {op op':Cp} {xe xe':Ex} {r:Cps} {d:D} {σ:Sl} {μ:Sto}:evC φ (.cons op xe (.cons op' xe' r)) d σ μ=(evE φ xe σ μ).bind fun y μ=>(cpD op d y μ).bind fun z μ=>match z with
  | .bl b=>if b=true then evC φ (.cons op' xe' r) y σ μ else .ok (.bl false) μ
  | _=>.stuck:=by
 rw[evC]
 all_goals rfl
theorem M3 {op:Cp} {e:Expr} {xe:Ex} (ho:OpR X (compareOp (opOf op)) (rOp X.K (cpD op))) (he:PE X e (tE X.K φ xe)):PCh X [opOf op] [e] (tCh X.K φ (.cons op xe .nil)):=by
 intro pos pins s σv H Q x v I rx ⟨ι,σ,μ,d,hS,hL,hd,h⟩
 rw[Fv]at h
 obtain⟨y,μ1,e1,h⟩:=h.bind
 refine chain_last (thn (he pins s σv H (fun w H1=>rOp X.K (cpD op) x w H1 Q) I ⟨ι,σ,μ,hS,hL,?_⟩) fun u s1 ⟨w,H1,I1,r1,q1⟩=>ho pins s1 σv H1 x w v u Q I1 rx r1 q1)
 rw[e1]
 exact fun ι1 w H1 p1 x1 s1 d1=>⟨ι1,d,y,μ1,s1,IsD.mono p1 x1 _ _ hd,d1,h.mono p1 x1⟩
theorem M4 {op:Cp} {e:Expr} {xe:Ex} (ho:OpR X (compareOp (opOf op)) (rOp X.K (cpD op))) (he:PE X e (tE X.K φ xe)):PTh X [opOf op] [e] (tTh X.K φ (.cons op xe .nil)):=by
 intro pos pins s σv H Q x v I rx ⟨ι,σ,μ,d,hS,hL,hd,h⟩
 rw[Fv,Res.bind_assoc]at h
 obtain⟨y,μ1,e1,h⟩:=h.bind
 refine test_last (thn (he pins s σv H (fun w H1=>rOp X.K (cpD op) x w H1 (fun z H2=>∃k,z=.bl k∧Q k H2)) I ⟨ι,σ,μ,hS,hL,?_⟩) fun u s1 ⟨w,H1,I1,r1,q1⟩=>thn (ho pins s1 σv H1 x w v u _ I1 rx r1 q1) fun c s2 ⟨z,H2,I2,r2,k,ek,q2⟩=>?_)
 ·rw[e1]
  intro ι1 w H1 p1 x1 s1 d1
  obtain⟨z,μ2,e2,h⟩:=h.bind
  refine⟨ι1,d,y,μ1,s1,IsD.mono p1 x1 _ _ hd,d1,?_⟩
  rw[e2]
  intro ι2 z' H2 p2 x2 s2 d2
  cases z with
  | bl k=>exact⟨k,yx d2,h ι2 k H2 (p1.trans p2) (x1.trans x2) s2 rfl⟩
  | _=>exact h.elim
 ·subst ek
  cases r2
  exact DC ⟨H2,I2,q2⟩
theorem M5 {op op':Cp} {e e':Expr} {es:List Expr} {ops:List CmpOp} {xe xe':Ex} {r:Cps} (ho:OpR X (compareOp (opOf op)) (rOp X.K (cpD op))) (he:PE X e (tE X.K φ xe)) (hr:PTh X (opOf op'::ops) (e'::es) (tTh X.K φ (.cons op' xe' r))) :
  PTh X (opOf op::opOf op'::ops) (e::e'::es) (tTh X.K φ (.cons op xe (.cons op' xe' r))):=by
 intro pos pins s σv H Q x v I rx ⟨ι,σ,μ,d,hS,hL,hd,h⟩
 rw[Jh,Res.bind_assoc]at h
 obtain⟨y,μ1,e1,h⟩:=h.bind
 refine test_link (thn (he pins s σv H (fun w H1=>rOp X.K (cpD op) x w H1 (fun z H2=>∃k,z=.bl k∧if k=true then tTh X.K φ (.cons op' xe' r) w σv H2 Q else Q false H2)) I ⟨ι,σ,μ,hS,hL,?_⟩) fun u s1 ⟨w,H1,I1,r1,q1⟩ =>
  thn (ho pins s1 σv H1 x w v u _ I1 rx r1 q1) fun c s2 ⟨z,H2,I2,r2,k,ek,q2⟩=>?_)
 ·rw[e1]
  intro ι1 w H1 p1 x1 s1 d1
  rw[Res.bind_assoc]at h
  obtain⟨z,μ2,e2,h⟩:=h.bind
  refine⟨ι1,d,y,μ1,s1,IsD.mono p1 x1 _ _ hd,d1,?_⟩
  rw[e2]
  intro ι2 z' H2 p2 x2 s2 d2
  cases z with
  | bl k =>
   refine⟨k,yx d2,?_⟩
   cases k with
   | true=>exact⟨ι2,σ,μ2,y,s2,(hL.mono p1 x1).mono p2 x2,IsD.mono p2 x2 _ _ d1,(show h9 _ _ _ _ ((evC φ (.cons op' xe' r) y σ μ2).bind _) _ from h).mono (p1.trans p2) (x1.trans x2)⟩
   | false=>exact h ι2 false H2 (p1.trans p2) (x1.trans x2) s2 rfl
  | _=>exact h.elim
 ·subst ek
  cases r2
  refine DC ?_
  cases k with
  | false=>exact ite_ff ⟨H2,I2,q2⟩
  | true=>exact ite_tt (hr pos pins s2 σv H2 Q w u I2 r1 q2)
theorem T6 {a:Expr} {xa:Ex} {ops:List CmpOp} {es:List Expr} {r:Cps} {pos:Pos} (ha:PE X a (tE X.K φ xa)) (hr:PCh X ops es (tCh X.K φ r)) (hm:lastMarks ops es=false):PE X (.Compare a ops es pos) (tE X.K φ (.cmp xa r)):=by
 intro pins s σv H Q I ⟨ι,σ,μ,hS,hL,h⟩
 simp only[evE]at h
 obtain⟨d,μ1,e1,h⟩:=h.bind
 show wpAny _ _ (do compareChain pos (←eval a X.env) ops (markedEach ops es (evalEach es X.env))) _ _ _
 rw[markedEach_of_false _ _ _ hm]
 refine AA (thn (ha pins s σv H (fun x H1=>tCh X.K φ r x σv H1 Q) I ⟨ι,σ,μ,hS,hL,?_⟩) fun v s1 ⟨x,H1,I1,r1,q1⟩=>hr pos pins s1 σv H1 Q x v I1 r1 q1)
 rw[e1]
 exact fun ι1 x H1 p1 x1 s1 d1=>⟨ι1,σ,μ1,d,s1,hL.mono p1 x1,d1,h.mono p1 x1⟩
theorem Qv {a:Expr} {xa:Ex} {ops:List CmpOp} {es:List Expr} {r:Cps} {pos:Pos} (ha:PE X a (tE X.K φ xa)) (hr:PTh X ops es (tTh X.K φ r)) (hm:lastMarks ops es=false):PT X (.Compare a ops es pos) (tT X.K φ (.cmp xa r)):=by
 intro pins s σv H Q I ⟨ι,σ,μ,hS,hL,h⟩
 simp only[evE]at h
 rw[Res.bind_assoc]at h
 obtain⟨d,μ1,e1,h⟩:=h.bind
 show wpAny _ _ (do testChain pos (←eval a X.env) ops (markedEach ops es (evalEach es X.env))) _ _ _
 rw[markedEach_of_false _ _ _ hm]
 refine AA (thn (ha pins s σv H (fun x H1=>tTh X.K φ r x σv H1 Q) I ⟨ι,σ,μ,hS,hL,?_⟩) fun v s1 ⟨x,H1,I1,r1,q1⟩=>hr pos pins s1 σv H1 Q x v I1 r1 q1)
 rw[e1]
 exact fun ι1 x H1 p1 x1 s1 d1=>⟨ι1,σ,μ1,d,s1,hL.mono p1 x1,d1,h.mono p1 x1⟩
theorem Qw {l:Expr} {xl:Ex} {tg:Expr} (hl:PE X l (tE X.K φ xl)):PI X tg l (tI X.K φ (.seq xl)):=by
 intro pins s σv H R I ⟨ι,σ,μ,hS,hL,h⟩
 simp only[evI]at h
 cases e1:evE φ xl σ μ with
 | exc _ _ _=>rw[e1]at h;exact h.elim
 | stuck=>rw[e1]at h;exact h.elim
 | ok d μ1 =>
 rw[e1]at h
 simp only[Res.bw]at h
 have hq:tE X.K φ xl σv H (fun v H1=>∃ι1,ι <+: ι1∧Ext H H1∧Sim X.K ι1 H1 μ1∧IsD X.K ι1 H1 d v):=⟨ι,σ,μ,hS,hL,by rw[e1];exact fun ι1 v H1 p1 x1 s1 d1=>⟨ι1,p1,x1,s1,d1⟩⟩
 refine thn (hl pins s σv H _ I hq) fun u s1 ⟨v,H1,I1,r1,ι1,p1,x1,S1,d1⟩=>?_
 -- a list,at a,whatever its items
 have lst:∀(a:Addr) (xs:List V) (ds:List D) (g:Gd),v=.ref a→LsL X.K H1 a xs→aq X.K ι1 H1 ds xs→(∀ι2 H2 μ2,ι1 <+: ι2→Ext H1 H2→Sim X.K ι2 H2 μ2→gd g μ2→∃ys,LsL X.K H2 a ys∧aq X.K ι2 H2 ds ys) →
   (∀ι' H' J,ι <+: ι'→Ext H H'→Sim X.K ι' H' μ1→Walk X.K ι' H' J ds g→R J H')→wpAny (model X.prog X.w) X.A (pyIter u) (PIE X pins σv tg R) X.xe s1:=by
  intro a xs ds g ev hls hds stay hR
  subst ev
  cases(show u=Value.ref a from r1)
  obtain⟨its,rv,p,hz⟩:=I1.list hls.sq
  refine HJ p.isList ?_
  refine⟨s1.heap.objs.size,[s1.heap.objs.size],_,_,H1,rfl,I1.kept (t':=s1.toks) fun b o e=>AB _ e,Ew a _,⟨_,AF _ rfl,rfl,rfl⟩,fun b hb=>?_,hR ι1 H1 _ p1 x1 S1 ?_⟩
  ·have e:b=s1.heap.objs.size:=by simpa using hb
   subst e
   exact I1.fpOk (AH _) (I1.hok.fresh (AH _))
  ·refine⟨by rw[←hds.length];exact hz,fun i ι2 H2 μ2 q1 q2 q3 q4 hi=>?_,fun i ι2 H2 μ2 w H3 q1 q2 q3 q4 hi hy=>?_,fun ι2 H2 μ2 q1 q2 q3 q4=>?_⟩
   ·obtain⟨ys,y1,y2⟩:=stay ι2 H2 μ2 q1 q2 q3 q4
    obtain⟨w,e,_⟩:=y2.get (AC hi)
    exact⟨ys,w,y1.sq,e⟩
   ·obtain⟨ys,y1,y2⟩:=stay ι2 H2 μ2 q1 q2 q3 q4
    obtain⟨e,hy⟩:=hy
    subst e
    obtain⟨w',e',q'⟩:=y2.get (AC hi)
    have:=hy ys y1.sq
    rw[e']at this;cases this
    exact⟨.refl _,q3,_,AC hi,q'⟩
   ·obtain⟨ys,y1,y2⟩:=stay ι2 H2 μ2 q1 q2 q3 q4
    exact⟨ys,y1.sq,by rw[y2.length];exact AH _⟩
 cases d with
 | tup ds =>
  simp only[dy]at h
  obtain⟨a,xs,rfl,hq,hds⟩:=iz d1
  cases(show u=Value.ref a from r1)
  obtain⟨its,rv,p,hz⟩:=I1.tuple hq
  refine DR (show s1.heap.IsTuple a its.toArray from p) ?_
  refine⟨s1.heap.objs.size,[s1.heap.objs.size],_,_,H1,rfl,I1.kept (t':=s1.toks) fun b o e=>AB _ e,De a _,⟨_,AF _ rfl,rfl,rfl⟩,fun b hb=>?_,h ι1 H1 _ p1 x1 S1 ?_⟩
  ·have e:b=s1.heap.objs.size:=by simpa using hb
   subst e
   exact I1.fpOk (AH _) (I1.hok.fresh (AH _))
  ·refine⟨by rw[←hds.length];exact hz,fun i ι2 H2 μ2 q1 q2 q3 q4 hi=>?_,fun i ι2 H2 μ2 w H3 q1 q2 q3 q4 hi hy=>?_,fun ι2 H2 μ2 q1 q2 q3 q4=>?_⟩
   ·obtain⟨w,e,_⟩:=hds.get (AC hi)
    exact⟨xs,w,hq.ext q2,e⟩
   ·obtain⟨e,hy⟩:=hy
    subst e
    obtain⟨w',e',q'⟩:=hds.get (AC hi)
    have:=hy xs (hq.ext q2)
    rw[e']at this;cases this
    exact⟨.refl _,q3,_,AC hi,IsD.mono q1 q2 _ _ q'⟩
   ·exact⟨xs,hq.ext q2,by rw[hds.length];exact AH _⟩
 | lst ds =>
  simp only[dy]at h
  obtain⟨a,xs,rfl,hq,hds⟩:∃a xs,v=.ref a∧FzL X.K H1 a xs∧aq X.K ι1 H1 ds xs:=by simpa[IsD]using d1
  exact lst a xs ds none rfl (.inr hq) hds (fun ι2 H2 μ2 q1 q2 q3 q4=>⟨xs,.inr (hq.ext q2),aq.mono q1 q2 _ _ hds⟩) h
 | loc n =>
  obtain⟨a,rfl,hn⟩:∃a,v=.ref a∧ι1[n]? = some a:=by simpa[IsD]using d1
  have pre:∀{ι2:List Addr},ι1 <+: ι2→ι2[n]? = some a:=fun hp=>by
   obtain⟨t,rfl⟩:=hp
   rw[AX (AL.mp hn).1];exact hn
  cases em:μ1[n]? with
  | none=>simp only[dy,em]at h
  | some o =>
   simp only[dy,em]at h
   cases o with
   | l ds =>
    simp only at h
    obtain⟨a',q',ho⟩:=S1.at em
    rw[hn]at q';cases q'
    obtain⟨xs,f1,f2⟩:=ho
    refine lst a xs ds (some (n,.l ds)) rfl (.inl f1) (aq.mono (CJ) (.refl _) _ _ f2) (fun ι2 H2 μ2 q1 q2 q3 q4=>?_) h
    obtain⟨a2,e2,o2⟩:=q3.at (show μ2[n]? = some (.l ds)from q4)
    rw[pre q1]at e2;cases e2
    obtain⟨ys,g1,g2⟩:=o2
    exact⟨ys,.inl g1,aq.mono (CJ) (.refl _) _ _ g2⟩
   | r ds =>
    simp only at h
    obtain⟨a',q',ho⟩:=S1.at em
    rw[hn]at q';cases q'
    obtain⟨xs,f1,f2⟩:=ho
    refine lst a xs ds (some (n,.r ds)) rfl (.inl f1) f2 (fun ι2 H2 μ2 q1 q2 q3 q4=>?_) h
    obtain⟨a2,e2,o2⟩:=q3.at (show μ2[n]? = some (.r ds)from q4)
    rw[pre q1]at e2;cases e2
    obtain⟨ys,g1,g2⟩:=o2
    exact⟨ys,.inl g1,g2⟩
   | d kvs=>simp only at h
   | dt kvs=>simp only at h
   | dead=>simp only at h
 | _=>simp only[dy]at h
theorem Dx {K:PySem.W.Frag} {ι:List Addr} {H:Hp} (lo:Int) (n:Nat) (hn:n≤sizeLine):Walk K ι H (Itr lo n) ((List.range n).map fun(k:Nat)=>D.int (lo+k)) none:=by
 refine⟨by simpa using hn,fun i ι2 H2 μ2 q1 q2 q3 q4 hi=>by simpa[Itr]using hi,fun i ι2 H2 μ2 w H3 q1 q2 q3 q4 hi hy=>?_,fun ι2 H2 μ2 q1 q2 q3 q4=>by simp[Itr]⟩
 obtain⟨e,hy⟩:=hy
 subst e
 have hi':i<n:=by simpa using hi
 exact⟨.refl _,q3,.int (lo+i),by simp[hi'],by simp[IsD,hy]⟩
theorem Qx {a:Expr} {xa:Ex} {tg:Expr} {p pos:Pos} (hg:Gl X "range") (hm:X.mg "range"=none) (ha:PE X a (tE X.K φ xa)) (hs:starEach [a] X.env=[(false,eval a X.env)]):PI X tg (.Call (.Name "range" p) [a] [] pos) (tI X.K φ (.rng xa)) :=
 PI.imp (Ey hg hm (yt ha I0 hs) hs) fun σv H R ⟨ι,σ,μ,hS,hL,h⟩=>by
  simp only[evI]at h
  refine⟨ι,σ,μ,hS,hL,?_⟩
  simp only[i7]
  cases e1:evE φ xa σ μ with
  | exc _ _ _=>rw[e1]at h;exact h.elim
  | stuck=>rw[e1]at h;exact h.elim
  | ok d μ1 =>
   rw[e1]at h
   simp only[Res.bw]at h ⊢
   cases d with
   | int j =>
    simp only at h
    by_cases hj:-(lim:Int)≤j∧j≤lim
    ·rw[if_pos hj]at h
     rw[j6]at hj
     have h24:sizeLine=16777216:=DB
     rw[h24]at hj
     intro ι1 vs H1 p1 x1 s1 d1
     have e:vs=[.int j]:=by
      have q:aq X.K ι1 H1 [.int j] vs:=d1
      simp only[aq]at q
      obtain⟨v,r,rfl,q1,rfl⟩:=q
      cases fh q1
      rfl
     refine⟨j,e,by lia,by lia,h ι1 H1 _ p1 x1 s1 ?_⟩
     have w:=Dx (K:=X.K) (ι:=ι1) (H:=H1) 0 j.toNat (by lia)
     simpa using w
    ·rw[if_neg hj]at h
     exact h.elim
   | _=>exact h.elim
end
end Lp
namespace Lp
open PySem PySem.Spec PyProof.Rows L2
section
variable {X : Cx} {φ : Phi} {pins : List (Addr × Obj)} {σ : St} {H : Hp} {s : Shared}
noncomputable def uq (K:PySem.W.Frag) (f:List D→Sto→Res D):List V→Hp→VK→Prop:=fun xs H Q=>∃ι ds μ,Sim K ι H μ∧aq K ι H ds xs∧h9 K (RD K) ι H (f ds μ) Q
theorem Lb {K:PySem.W.Frag} {ι:List Addr} {d:D} {xs:List V} (h:aq K ι H [d] xs):∃v,xs=[v]∧IsD K ι H d v:=by
 simp only[aq]at h
 obtain⟨v,r,rfl,q,rfl⟩:=h
 exact⟨v,rfl,q⟩
theorem Lc {K:PySem.W.Frag} {ι:List Addr} {d e:D} {xs:List V} (h:aq K ι H [d,e] xs):∃v w,xs=[v,w]∧IsD K ι H d v∧IsD K ι H e w:=by
 simp only[aq]at h
 obtain⟨v,r,rfl,q,w,r2,rfl,q2,rfl⟩:=h
 exact⟨v,w,rfl,q,q2⟩
theorem lh {K:PySem.W.Frag} {ι:List Addr} {ds:List D} {xs:List V} {μ:Sto} {f:D→Sto→Res D} {Q:VK} (hds:aq K ι H ds xs) (h:h9 K (RD K) ι H (u6 f ds μ) Q) :
  ∃d v,xs=[v]∧IsD K ι H d v∧h9 K (RD K) ι H (f d μ) Q:=by
 unfold u6 at h
 split at h
 ·rename_i d
  obtain⟨v,rfl,hv⟩:=Lb hds
  exact⟨d,v,rfl,hv,h⟩
 ·exact h.elim
theorem Fw {K:PySem.W.Frag} {ι:List Addr} {d:D} {v:V} {μ:Sto} {f:List D→Sto→Res D} {Q:VK} (hS:Sim K ι H μ) (hd:IsD K ι H d v) (h:h9 K (RD K) ι H (seq1 f d μ) Q) :
  ∃a xs ds,v=.ref a∧(LsL K H a xs∨SqT K H a xs)∧aq K ι H ds xs∧h9 K (RD K) ι H (f ds μ) Q:=by
 unfold seq1 at h
 split at h
 ·rename_i ds e
  obtain⟨a,xs,rfl,hq,hxs⟩:=u7 hS hd e
  exact⟨a,xs,ds,rfl,hq,hxs,h⟩
 ·exact h.elim
theorem A2 {K:PySem.W.Frag} {ι:List Addr} {d:D} {v:V} {μ:Sto} {f:List Int→Sto→Res D} {Q:VK} (hS:Sim K ι H μ) (hd:IsD K ι H d v) (h:h9 K (RD K) ι H (K3 f d μ) Q) :
  ∃a ns,v=.ref a∧(LsL K H a (ns.map V.int)∨SqT K H a (ns.map V.int))∧h9 K (RD K) ι H (f ns μ) Q:=by
 unfold K3 at h
 cases e:fg μ d with
 | none=>rw[e]at h;exact h.elim
 | some ds =>
  rw[e]at h
  simp only[Go]at h
  split at h
  ·rename_i ns e2
   obtain⟨a,xs,rfl,hq,hxs⟩:=u7 hS hd e
   rw[ints_of hxs e2]at hq
   exact⟨a,ns,rfl,hq,h⟩
  ·exact h.elim
theorem Cb {K:PySem.W.Frag} {ι:List Addr} {d:D} {v:V} {μ:Sto} {f:List Bool→Sto→Res D} {Q:VK} (hS:Sim K ι H μ) (hd:IsD K ι H d v) (h:h9 K (RD K) ι H (Dr f d μ) Q) :
  ∃a ns,v=.ref a∧(LsL K H a (ns.map V.bl)∨SqT K H a (ns.map V.bl))∧h9 K (RD K) ι H (f ns μ) Q:=by
 unfold Dr at h
 cases e:fg μ d with
 | none=>rw[e]at h;exact h.elim
 | some ds =>
  rw[e]at h
  simp only[Go]at h
  split at h
  ·rename_i ns e2
   obtain⟨a,xs,rfl,hq,hxs⟩:=u7 hS hd e
   rw[B8 hxs e2]at hq
   exact⟨a,ns,rfl,hq,h⟩
  ·exact h.elim
theorem bt_len {m:Mk}:jq X (.builtin "len") (uq X.K (btD .len m)):=jq.imp yn fun xs H Q ⟨ι,ds,μ,hS,hds,h⟩=>by
 obtain⟨d,v,rfl,hv,h⟩:=lh hds h
 obtain⟨a,xs,es,rfl,hq,hxs,h⟩:=Fw hS hv h
 exact⟨a,xs,rfl,hq.imp (·.sq) id,by rw[hxs.length];exact h.ok hS (by simp[IsD])⟩
theorem bt_tuple {m:Mk}:jq X (.type "tuple") (uq X.K (btD .tuple m)):=jq.imp vx fun xs H Q ⟨ι,ds,μ,hS,hds,h⟩=>by
 obtain⟨d,v,rfl,hv,h⟩:=lh hds h
 obtain⟨a,xs,es,rfl,hq,hxs,h⟩:=Fw hS hv h
 refine⟨a,xs,rfl,?_⟩
 rcases hq with hq | hq
 ·exact .inl ⟨hq.sq,fun l hl=>v9 hS hxs h hl⟩
 ·exact .inr ⟨hq,h.ok hS (tup_is hq hxs)⟩
theorem bt_min {m:Mk} (hc:X.calm=true):jq X (.builtin "min") (uq X.K (btD .min m)):=jq.imp (E2 hc) fun xs H Q ⟨ι,ds,μ,hS,hds,h⟩=>by
 simp only[btD,minD]at h
 split at h
 ·rename_i i j
  obtain⟨v,w,rfl,hv,hw⟩:=Lc hds
  cases fh hv
  cases fh hw
  exact⟨i,j,rfl,h.ok hS (by simp[IsD])⟩
 ·exact h.elim
theorem bt_max {m:Mk} (hc:X.calm=true):jq X (.builtin "max") (uq X.K (btD .max m)):=jq.imp (E1 hc) fun xs H Q ⟨ι,ds,μ,hS,hds,h⟩=>by
 simp only[btD,maxD]at h
 split at h
 ·rename_i i j
  obtain⟨v,w,rfl,hv,hw⟩:=Lc hds
  cases fh hv
  cases fh hw
  exact⟨i,j,rfl,h.ok hS (by simp[IsD])⟩
 ·exact h.elim
theorem sa {A:Around} {E:Value→Shared→Prop} {a:Addr} {xs:List V} (I:Inv X pins σ H s) (hq:LsL X.K H a xs∨SqT X.K H a xs) (hh:A.handled=none) {Q:Value→Shared→Prop}
  (h:∀(it:Addr) (fp:List Addr) (its:List Value) St s2,cz xs its→Walks X.prog X.w A it fp [it] its.length (fun i v=>its[i]? = some v) St→St 0 s2.heap→(∀b∈fp,b<s2.heap.objs.size) →
   (∀h' tk,(∀b o,b∉[it]→s2.heap.get? b=some o→h'.get? b=some o)→Inv X pins σ H {s2 with heap:=h',toks:=tk})→Q (.ref it) s2) :
  wpAny (model X.prog X.w) A (pyIter (.ref a)) Q E s:=by
 have fin:∀(ob:Obj) (h':Heap) (tk:Nat),(∀b o,b∉[s.heap.objs.size]→(s.heap.push ob).get? b=some o→h'.get? b=some o)→Inv X pins σ H {s with heap:=h',toks:=tk}:=fun ob h' tk hk =>
  I.kept fun b u e=>hk b u (by simp;exact AN (AI e)) (AB _ e)
 rcases hq with hq | hq
 ·obtain⟨z,its,n,hv,hl,hg⟩:=I.ls hq
  have hil:s.heap.IsList a its.toArray:=⟨_,hg,rfl,n,rfl⟩
  refine HJ hil ?_
  have hne:a≠s.heap.objs.size:=AN (AI hg)
  have W:=Walks.list (prog:=X.prog) (w:=X.w) (A:=A) hh s.heap.objs.size a hne its.toArray
  simp only[AE,FX]at W
  refine h s.heap.objs.size _ its _ _ hv W ⟨⟨_,AF _ rfl,rfl,rfl⟩,hil.at fun o e=>AB _ e⟩ (fun b hb=>?_) (fun h' tk hk=>fin _ h' tk hk)
  simp only[AJ,BH,or_false]at hb
  rw[CS]
  rcases hb with rfl | rfl
  ·exact EV _
  ·exact DE (AI hg)
 ·obtain⟨its,hv,ht,hz⟩:=I.tuple hq
  have hit:s.heap.IsTuple a its.toArray:=ht
  refine DR hit ?_
  obtain⟨o,ho,_⟩:=id hit
  have hne:a≠s.heap.objs.size:=AN (AI ho)
  have W:=Walks.tuple (prog:=X.prog) (w:=X.w) (A:=A) hh s.heap.objs.size a hne its.toArray
  simp only[AE,FX]at W
  refine h s.heap.objs.size _ its _ _ hv W ⟨⟨_,AF _ rfl,rfl,rfl⟩,hit.at fun o e=>AB _ e⟩ (fun b hb=>?_) (fun h' tk hk=>fin _ h' tk hk)
  simp only[AJ,BH,or_false]at hb
  rw[CS]
  rcases hb with rfl | rfl
  ·exact EV _
  ·exact DE (AI ho)
theorem y9 (ns:List Int):∀k,k≤ns.length→preSum (fun i=>ns.getD i 0) k=(ns.take k).sum
 | 0,_=>by simp[preSum]
 | k+1,h=>by
  rw[preSum,y9 ns k (by lia),List.take_succ,GI,AW,AC (by lia)]
  simp
theorem bt_sum {m:Mk} (hc:X.calm=true):jq X (.builtin "sum") (uq X.K (btD .sum m)):=by
 intro pins s σ H xs us Q I r ⟨ι,ds,μ,hS,hds,h⟩
 obtain⟨d,v,rfl,hv,h⟩:=lh hds h
 obtain⟨a,ns,rfl,hq,h⟩:=A2 hS hv h
 obtain⟨u,rfl,ru⟩:=vals1 r
 cases(show u=Value.ref a from ru)
 refine call_sum_walkG (sa I hq (show X.A.in1.handled=none from I.ok.hd hc) fun it fp its St s2 hvs W st hfp hI=>?_)
 have hl:ns.length=its.length:=by have:=hvs.length;simpa using this
 refine⟨it,fp,[it],its.length,_,St,fun i=>ns.getD i 0,rfl,W,st,hfp,fun i w e=>?_,fun h' tk t' hk=>?_⟩
 ·have hi:i<ns.length:=by rw[hl];exact(AL.mp e).1
  obtain⟨u',e1,⟨t,e2⟩⟩:=hvs.get (i:=i) (x:=.int ns[i]) (by simp[AC hi])
  rw[e]at e1;cases e1
  exact⟨t,by rw[e2];simp[AW,AC hi]⟩
 ·refine⟨.int ns.sum,H,hI h' tk hk,⟨t',?_⟩,h.ok hS (by simp[IsD])⟩
  rw[←hl,y9 ns ns.length (AH _),List.take_length]
theorem all_range (bs:List Bool):(List.range bs.length).all (fun i=>bs.getD i false)=bs.all id:=by
 induction bs with
 | nil=>rfl
 | cons b r ih=>rw[BJ,FP,BC,EG,BC];exact congrArg _ ih
theorem any_range (bs:List Bool):(List.range bs.length).any (fun i=>bs.getD i false)=bs.any id:=by
 induction bs with
 | nil=>rfl
 | cons b r ih=>rw[BJ,FP,CM,IY,CM];exact congrArg _ ih
theorem Cc {A:Around} {bs:List Bool} {its:List Value} (hvs:cz (bs.map V.bl) its):TruthOf X.prog X.w A (fun i v=>its[i]? = some v) (fun i=>bs.getD i false):=by
 intro i v s Q E e q
 have hl:bs.length=its.length:=by have:=hvs.length;simpa using this
 have hi:i<bs.length:=by rw[hl];exact(AL.mp e).1
 obtain⟨u',e1,e2⟩:=hvs.get (i:=i) (x:=.bl bs[i]) (by simp[AC hi])
 rw[e]at e1;cases e1
 cases(show v=Value.bool bs[i]from e2)
 refine DC ?_
 simpa[AW,AC hi]using q
theorem bt_all {m:Mk} (hc:X.calm=true):jq X (.builtin "all") (uq X.K (btD .all m)):=by
 intro pins s σ H xs us Q I r ⟨ι,ds,μ,hS,hds,h⟩
 obtain⟨d,v,rfl,hv,h⟩:=lh hds h
 obtain⟨a,bs,rfl,hq,h⟩:=Cb hS hv h
 obtain⟨u,rfl,ru⟩:=vals1 r
 cases(show u=Value.ref a from ru)
 refine call_all_walk (sa I hq (show X.A.in1.handled=none from I.ok.hd hc) fun it fp its St s2 hvs W st hfp hI=>?_)
 have hl:bs.length=its.length:=by have:=hvs.length;simpa using this
 refine⟨it,fp,[it],its.length,_,St,fun i=>bs.getD i false,rfl,W,st,Cc hvs,fun h' tk hk=>?_⟩
 refine⟨.bl (bs.all id),H,hI h' tk hk,?_,h.ok hS (by simp[IsD])⟩
 rw[←hl,all_range]
 rfl
theorem bt_any {m:Mk} (hc:X.calm=true):jq X (.builtin "any") (uq X.K (btD .any m)):=by
 intro pins s σ H xs us Q I r ⟨ι,ds,μ,hS,hds,h⟩
 obtain⟨d,v,rfl,hv,h⟩:=lh hds h
 obtain⟨a,bs,rfl,hq,h⟩:=Cb hS hv h
 obtain⟨u,rfl,ru⟩:=vals1 r
 cases(show u=Value.ref a from ru)
 refine call_any_walk (sa I hq (show X.A.in1.handled=none from I.ok.hd hc) fun it fp its St s2 hvs W st hfp hI=>?_)
 have hl:bs.length=its.length:=by have:=hvs.length;simpa using this
 refine⟨it,fp,[it],its.length,_,St,fun i=>bs.getD i false,rfl,W,st,Cc hvs,fun h' tk hk=>?_⟩
 refine⟨.bl (bs.any id),H,hI h' tk hk,?_,h.ok hS (by simp[IsD])⟩
 rw[←hl,any_range]
 rfl
end
end Lp
namespace Lp
open PySem PySem.Spec PyProof.Rows L2
theorem A3 {prog:Program} {w:World} {A:Around} {E:Value→Shared→Prop} {s:Shared} {t sl:Addr} {items:Array Value} {vl vu:Value} {lo hi:Option Int} {Q:Value→Shared→Prop} (ht:IsTup s.heap t items) (hs:s.heap.IsSliceOf sl vl vu .none) (pl:IsPart vl lo) (pu:IsPart vu hi)
  (hw:HT.sIx items.size 0 lo=0∧HT.sIx items.size items.size hi=items.size) (h:Q (.ref t) s):wpAny (model prog w) A (getItem (.ref t) (.ref sl)) Q E s:=by
 obtain⟨os,hos,hcs,hds⟩:=id hs
 have hTs:s.TypeIs (.ref sl) "slice":=⟨os,hos,hcs⟩
 unfold getItem
 try with_reducible refine CL ?_
 first | refine AA (AD ?_) | skip
 refine AA (wpAny_sequenceKey ht.typeIs (by decide) ?_)
 refine AA (BF (name:=Str.ofString "__getitem__") ht.typeIs CA
  (BK CA ht.typeIs entry_tuple_getitem ?_ (args_tuple_getitem _ _)))
 show wpAny _ _ (Builtin.Tuple.tupleItemsOf (.ref t)>>=_) _ _ s
 refine AA (tupleItemsOf_ ht ?_)
 refine AA (FM hTs ?_)
 rw[if_pos (by decide)]
 refine AA (HT.l9 hs pl pu ?_)
 have hyes:(((HT.sIx items.size 0 lo:Nat):Int)==0&&(1:Int)==1&&(HT.sIx items.size items.size hi-HT.sIx items.size 0 lo)==items.size)=true:=by
  rw[hw.1,hw.2];simp
 show wpAny _ _ (if(((HT.sIx items.size 0 lo:Nat):Int)==0&&(1:Int)==1&&(HT.sIx items.size items.size hi-HT.sIx items.size 0 lo)==items.size)=true then _ else _) _ _ s
 rw[if_pos hyes]
 refine AA ?_
 unfold Builtin.Tuple.tupleIsExact
 refine AA (FM ht.typeIs (AD ?_))
 rw[if_pos (by decide)]
 exact AA (FF (AD ⟨_,rfl,AD h⟩))
section
variable {X : Cx} {φ : Phi} {pins : List (Addr × Obj)} {σ : St} {H : Hp} {s : Shared}
theorem T7 {m:Mk}:SlR X (fun x lo hi H Q=>∃ι d μ,Sim X.K ι H μ∧IsD X.K ι H d x∧h9 X.K (RD X.K) ι H (slD m d lo hi μ) Q):=by
 intro pins s σ H x v vl vu lo hi sl Q I rx hs pl pu ⟨ι,d,μ,hS,hd,h⟩
 unfold slD at h
 split at h
 ·rename_i ds
  obtain⟨a,xs,rfl,hq,hxs⟩:=iz hd
  by_cases hw:HT.sIx xs.length 0 lo=0∧HT.sIx xs.length xs.length hi=xs.length
  ·cases(show v=Value.ref a from rx)
   obtain⟨its,r,ht,hz⟩:=I.tuple hq
   have hlen:its.toArray.size=xs.length:=by rw[AE];exact r.length.symm
   refine⟨"tuple",_,CA.lookup,ht.typeIs,A3 ht hs pl pu (by rw[hlen];exact hw) ⟨.ref a,H,I,rfl,h.ok hS ?_⟩⟩
   have e1:∀n d o,Lp.sIx n d o=HT.sIx n d o:=fun n d o=>by cases o<;>rfl
   have ec:cut ds lo hi=ds:=by
    unfold cut
    rw[e1,e1,←hxs.length,hw.1,hw.2]
    simp[hxs.length]
   rw[ec]
   exact hd
  ·exact Pr pins s σ H _ v vl vu lo hi sl Q I rx hs pl pu ⟨a,xs,rfl,hq,hw,fun p hp=>v9 hS (K8 hxs lo hi) h hp⟩
 ·split at h
  ·rename_i es
   obtain⟨a,xs,rfl,ha,hxs⟩:=lb hS hd es
   exact SlR.fq Mi pins s σ H _ v vl vu lo hi sl Q I rx hs pl pu ⟨a,xs,rfl,ha.sq,fun p hp=>mm hS (K8 hxs lo hi) h hp⟩
  ·exact h.elim
theorem PO.imp {e:Option Expr} {t t':TO} (h:PO X e t) (i:∀σ H Q,t' σ H Q→t σ H Q):PO X e t':=by
 intro pins s σ H Q I q
 exact h pins s σ H Q I (i _ _ _ q)
theorem Yc:PO X none (tEo X.K φ .no):=PO.imp Me fun σv H Q ⟨ι,σ,μ,hS,hL,h⟩=>by
 simp only[evO]at h
 exact h.ok hS rfl
theorem Yd {e:Expr} {x:Ex} (he:PE X e (tE X.K φ x)):PO X (some e) (tEo X.K φ (.so x)):=PO.imp (Mf he) fun σv H Q ⟨ι,σ,μ,hS,hL,h⟩=>by
 simp only[evO]at h
 obtain⟨d,μ1,e1,h⟩:=h.bind
 refine⟨ι,σ,μ,hS,hL,?_⟩
 rw[e1]
 intro ι1 v H1 p1 x1 s1 d1
 cases d with
 | int i=>exact⟨i,fh d1,h ι1 (some i) H1 p1 x1 s1 rfl⟩
 | _=>exact h.elim
theorem Ye {e:Expr} {lo hi:Option Expr} {x:Ex} {xl xh:ExO} {m:Mk} {p2 pos:Pos} (he:PE X e (tE X.K φ x)) (hl:PO X lo (tEo X.K φ xl)) (hh:PO X hi (tEo X.K φ xh)):PE X (.Subscript e (.Slice lo hi none p2) pos) (tE X.K φ (.sl m x xl xh)) :=
 PE.imp (Im T7 he hl hh) fun σv H Q ⟨ι,σ,μ,hS,hL,h⟩=>by
  simp only[evE]at h
  obtain⟨d,μ1,e1,h⟩:=h.bind
  refine⟨ι,σ,μ,hS,hL,?_⟩
  rw[e1]
  intro ι1 v H1 p1 x1 s1 d1
  obtain⟨l,μ2,e2,h⟩:=h.bind
  refine⟨ι1,σ,μ1,s1,hL.mono p1 x1,?_⟩
  rw[e2]
  intro ι2 l' H2 p2 x2 s2 d2
  cases d2
  obtain⟨u,μ3,e3,h⟩:=h.bind
  refine⟨ι2,σ,μ2,s2,(hL.mono p1 x1).mono p2 x2,?_⟩
  rw[e3]
  intro ι3 u' H3 p3 x3 s3 d3
  cases d3
  exact⟨ι3,d,μ3,s3,IsD.mono p3 x3 _ _ (IsD.mono p2 x2 _ _ d1),h.mono ((p1.trans p2).trans p3) ((x1.trans x2).trans x3)⟩
noncomputable def qz:Cl→String
 | .int=>"int"
 | .bool=>"bool"
 | .tuple=>"tuple"
 | .list=>"list"
 | .str=>"str"
 | .own _=>""
noncomputable def wb:String→Cl→Bool
 | "bool",.int=>true
 | "bool",.bool=>true
 | "int",.int=>true
 | "str",.str=>true
 | "tuple",.tuple=>true
 | "list",.list=>true
 | _,_=>false
theorem tj (K:PySem.W.Frag) (t:String) (c:Cl) (hc:∀n,c≠.own n) (ht:t∈["NoneType","bool","int","str","tuple","list"]):PySem.W.kitOne K (.type t) (.type (qz c))=some (wb t c):=by
 simp only[AJ,BH,or_false]at ht
 rcases ht with rfl | rfl | rfl | rfl | rfl | rfl<;>cases c<;>first | rfl | exact absurd rfl (hc _)
theorem Qy {c:Cl} (hc:∀n,c≠.own n):jq X (.builtin "isinstance") (fun xs H Q=>∃ι d μ v,xs=[v,.ty (qz c)]∧Sim X.K ι H μ∧IsD X.K ι H d v∧h9 X.K (RD X.K) ι H (K6 c d μ) Q):=by
 intro pins s σ H xs us Q I r ⟨ι,d,μ,v,e,hS,hd,h⟩
 subst e
 obtain⟨u,w,rfl,ru,rw'⟩:=vals2 r
 cases(show w=Value.type (qz c)from rw')
 have key:∀(t:String),t∈["NoneType","bool","int","str","tuple","list"]→(∀tk,EP X pins σ Q (.bool (wb t c)) {s with toks:=tk})→PySem.W.kitOne X.K (.type t) (.type (qz c))=some (wb t c)∧∀tk,EP X pins σ Q (.bool (wb t c)) {s with toks:=tk}:=fun t ht hq=>⟨tj X.K t c hc ht,hq⟩
 have lst:∀a xs,v=.ref a→LsL X.K H a xs→Q (.bl (wb "list" c)) H→wpAny (model X.prog X.w) X.A (call (.builtin "isinstance") [u,.type (qz c)]) (EP X pins σ Q) X.xe s:=fun a xs e hq q=>by
  subst e
  cases(show u=Value.ref a from ru)
  obtain⟨z,its,n,hv,_,hg⟩:=I.ls hq
  exact EK PySem.W.kitx_list I.kIn ⟨_,hg,rfl⟩ (tj X.K "list" c hc (by decide)) (fun z=>nomatch z) fun tk=>⟨.bl (wb "list" c),H,I.tok tk,rfl,q⟩
 cases d with
 | non =>
  cases(show v=.non by simpa[IsD]using hd)
  cases(show u=Value.none from ru)
  refine EK PySem.W.kitx_none I.kIn True.intro (tj X.K "NoneType" c hc (by decide)) (fun z=>nomatch z) fun tk=>⟨.bl (wb "NoneType" c),H,I.tok tk,rfl,?_⟩
  cases c<;>first | exact absurd rfl (hc _) | exact h.ok hS (by simp[IsD,wb])
 | bl b =>
  cases yx hd
  cases(show u=Value.bool b from ru)
  refine EK PySem.W.kitx_bool I.kIn True.intro (tj X.K "bool" c hc (by decide)) (fun z=>nomatch z) fun tk=>⟨.bl (wb "bool" c),H,I.tok tk,rfl,?_⟩
  cases c<;>first | exact absurd rfl (hc _) | exact h.ok hS (by simp[IsD,wb])
 | int i =>
  cases fh hd
  obtain⟨t,rfl⟩:=(show ∃t,u=Value.int i t from ru)
  refine EK PySem.W.kitx_int I.kIn True.intro (tj X.K "int" c hc (by decide)) (fun z=>nomatch z) fun tk=>⟨.bl (wb "int" c),H,I.tok tk,rfl,?_⟩
  cases c<;>first | exact absurd rfl (hc _) | exact h.ok hS (by simp[IsD,wb])
 | str x =>
  cases(show v=.str x by simpa[IsD]using hd)
  obtain⟨t,rfl⟩:=(show ∃t,u=Value.str x t from ru)
  refine EK PySem.W.kitx_str I.kIn True.intro (tj X.K "str" c hc (by decide)) (fun z=>nomatch z) fun tk=>⟨.bl (wb "str" c),H,I.tok tk,rfl,?_⟩
  cases c<;>first | exact absurd rfl (hc _) | exact h.ok hS (by simp[IsD,wb])
 | tup ds =>
  obtain⟨a,xs,rfl,hq,hxs⟩:=iz hd
  cases(show u=Value.ref a from ru)
  obtain⟨its,hv,⟨o,h1,h2,_⟩,hz⟩:=I.tuple hq
  refine EK PySem.W.kitx_tuple I.kIn ⟨o,h1,h2⟩ (tj X.K "tuple" c hc (by decide)) (fun z=>nomatch z) fun tk=>⟨.bl (wb "tuple" c),H,I.tok tk,rfl,?_⟩
  cases c<;>first | exact absurd rfl (hc _) | exact h.ok hS (by simp[IsD,wb])
 | lst ds =>
  obtain⟨a,xs,rfl,hq,hxs⟩:∃a xs,v=.ref a∧FzL X.K H a xs∧aq X.K ι H ds xs:=by simpa[IsD]using hd
  refine lst a xs rfl (.inr hq) ?_
  cases c<;>first | exact absurd rfl (hc _) | exact h.ok hS (by simp[IsD,wb])
 | loc n =>
  cases c with
  | list =>
   simp only[K6]at h
   split at h
   ·rename_i ds em
    obtain⟨a,xs,rfl,hq,hxs⟩:=lb (ds:=ds) hS hd (by simp[listOf,em])
    exact lst a xs rfl hq (h.ok hS (by simp[IsD,wb]))
   ·rename_i ds em
    obtain⟨a,xs,rfl,hq,hxs⟩:=lb (ds:=ds) hS hd (by simp[listOf,em])
    exact lst a xs rfl hq (h.ok hS (by simp[IsD,wb]))
   ·exact h.elim
  | own k=>exact absurd rfl (hc k)
  | _=>exact h.elim
theorem T8 {a:Expr} {xa:Ex} {c:Cl} {cn:Str} {p cp pos:Pos} (hc:∀n,c≠.own n) (ha:PE X a (tE X.K φ xa)) (hgi:Gl X "isinstance") (hmi:X.mg "isinstance"=none) (hgc:Gl X cn) (hmc:X.mg cn=none) (hbc:bootBuiltins cn=some (.type (qz c)))
  (hn:cn≠"__name__") (hd:(cn==("__debug__":Str))=false) (hs:starEach [a,.Name cn cp] X.env=(false,eval a X.env)::starEach [.Name cn cp] X.env) :
  PE X (.Call (.Name "isinstance" p) [a,.Name cn cp] [] pos) (tE X.K φ (.isi xa c)):=by
 have hb:PE X (.Name cn cp) (tC (.ty (qz c))):=L4 hgc hmc hbc rfl hn hd
 refine PE.imp (i6 (Qy hc) hgi hmi boot_isinstance (Ao ha (Ao hb Ku) hs) (by decide) (by decide) hs) fun σv H Q ⟨ι,σ,μ,hS,hL,h⟩=>?_
 simp only[evE]at h
 obtain⟨d,μ1,e1,h⟩:=h.bind
 refine⟨ι,σ,μ,hS,hL,?_⟩
 rw[e1]
 exact fun ι1 v H1 p1 x1 s1 d1=>⟨ι1,d,μ1,v,rfl,s1,d1,h.mono p1 x1⟩
end
end Lp
namespace Lp
open PySem PySem.Spec PyProof.Rows L2
section
variable {X : Cx} {φ : Phi} {pins : List (Addr × Obj)} {σ : St} {H : Hp} {s : Shared}
theorem Ld {K:PySem.W.Frag} {ι:List Addr} {μ:Sto} {n:Nat} {v:V} {ob:O} {xs:List D} (hS:Sim K ι H μ) (hd:IsD K ι H (.loc n) v) (e:μ[n]? = some ob) (hi:ma ob=some xs) :
  ∃a vs,v=.ref a∧ι[n]? = some a∧H a=some (.lst vs)∧aq K ι H xs vs∧(∀ds,ob=.l ds→aq K [] H xs vs):=by
 obtain⟨a,rfl,ha⟩:∃a,v=.ref a∧ι[n]? = some a:=by simpa[IsD]using hd
 obtain⟨a',ea,ho⟩:=hS.at e
 rw[ha]at ea;cases ea
 cases ob with
 | l ds =>
  cases hi
  obtain⟨vs,e1,e2⟩:=ho
  exact⟨a,vs,rfl,ha,e1,aq.mono (CJ) (.refl _) _ _ e2,fun _ _=>e2⟩
 | r ds =>
  cases hi
  obtain⟨vs,e1,e2⟩:=ho
  exact⟨a,vs,rfl,ha,e1,e2,fun _ z=>by cases z⟩
 | d _=>cases hi
 | dt _=>cases hi
 | dead=>cases hi
theorem o5 {K:PySem.W.Frag} {ι:List Addr} {μ:Sto} {n:Nat} {ob:O} {ys:List D} {vs ws:List V} {d:D} {v:V} {a:Addr} {Q:VK} (hS:Sim K ι H μ) (ha:ι[n]? = some a) (hH:H a=some (.lst vs))
  (hw:aq K ι H ys ws) (hw0:∀ds,ob=.l ds→aq K [] H ys ws) (hd:IsD K ι H d v) (h:h9 K (RD K) ι H (putL n ob ys d μ) Q):Q v (upd H a (.lst ws)):=by
 cases ob with
 | l ds =>
  exact h ι v _ (AM _) (.lst hH) (hS.put ha (.lst hH) ⟨ws,bg,aq.mono (AM _) (.lst hH) _ _ (hw0 ds rfl)⟩) (IsD.mono (AM _) (.lst hH) _ _ hd)
 | r ds =>
  exact h ι v _ (AM _) (.lst hH) (hS.put ha (.lst hH) ⟨ws,bg,aq.mono (AM _) (.lst hH) _ _ hw⟩) (IsD.mono (AM _) (.lst hH) _ _ hd)
 | d _=>exact h.elim
 | dt _=>exact h.elim
 | dead=>exact h.elim
theorem za {K:PySem.W.Frag} {ι:List Addr} {ob:O} {d:D} {v:V} (hf:fits ob d=true) (hd:IsD K ι H d v):∀ds,ob=.l ds→IsD K [] H d v:=fun ds e=>by
 subst e
 exact IsD.pur hf hd
noncomputable def rMt (K:PySem.W.Frag) (mt:Mt):V→List V→Hp→VK→Prop:=fun x vs H Q=>∃ι d ds μ,Sim K ι H μ∧IsD K ι H d x∧aq K ι H ds vs∧h9 K (RD K) ι H (mtD mt d ds μ) Q
theorem M6 {mt:Mt} (hne:mt≠.count∧mt≠.countL∧mt≠.get) {x:V} {vs:List V} {Q:VK} (h:rMt X.K mt x vs H Q):∃ι n ob xs ds μ a ws,Sim X.K ι H μ∧aq X.K ι H ds vs∧x=.ref a∧ι[n]? = some a∧H a=some (.lst ws)∧aq X.K ι H xs ws ∧
  (∀es,ob=.l es→aq X.K [] H xs ws)∧h9 X.K (RD X.K) ι H (mtL mt n ob xs ds μ) Q:=by
 obtain⟨ι,d,ds,μ,hS,hd,hds,h⟩:=h
 have e0:mtD mt d ds μ=Aw mt d ds μ:=by
  cases mt<;>first | exact absurd rfl hne.1 | exact absurd rfl hne.2.1 | exact absurd rfl hne.2.2 | rfl
 rw[e0]at h
 cases d with
 | loc n =>
  simp only[Aw]at h
  cases em:μ[n]? with
  | none=>rw[em]at h;exact h.elim
  | some ob =>
   rw[em]at h
   simp only at h
   cases ei:ma ob with
   | none=>rw[ei]at h;exact h.elim
   | some xs =>
    rw[ei]at h
    obtain⟨a,ws,ex,ha,hH,h1,h2⟩:=Ld hS hd em ei
    exact⟨ι,n,ob,xs,ds,μ,a,ws,hS,hds,ex,ha,hH,h1,h2,h⟩
 | _=>exact h.elim
theorem Ji:MtR X "list.append" (rMt X.K .append):=MtR.imp E9 fun x vs H Q h0=>by
 obtain⟨ι,n,ob,xs,ds,μ,a,ws,hS,hds,rfl,ha,hH,h1,h2,h⟩:=M6 (by decide) h0
 clear h0
 simp only[mtL]at h
 obtain⟨d,v,rfl,hv,h⟩:=lh hds h
 split at h
 ·rename_i hf
  rw[j6]at hf
  refine⟨a,ws,v,rfl,rfl,hH,by rw[h1.length];exact hf.2,o5 hS ha hH (h1.append (.one hv)) (fun es e=>(h2 es e).append (.one (za hf.1 hv es e))) (by simp[IsD]) h⟩
 ·exact h.elim
theorem T9:MtR X "list.pop" (rMt X.K .pop):=by
 intro pins s σ H x vs v us Q I rx rv h0
 obtain⟨ι,n,ob,xs,ds,μ,a,ws,hS,hds,rfl,ha,hH,h1,h2,h⟩:=M6 (by decide) h0
 clear h0
 simp only[mtL]at h
 split at h
 ·have e:vs=[]:=by simpa[aq]using hds
  subst e
  split at h
  ·rename_i d ed
   have hl:xs[xs.length-1]? = some d:=by rw[←List.getLast?_eq_getElem?];exact ed
   obtain⟨w,ew,hw⟩:=h1.get hl
   refine P4 pins s σ H _ _ v us Q I rx rv ⟨a,ws,w,rfl,rfl,hH,by rw[h1.length];exact ew,o5 hS ha hH h1.dropLast (fun es e=>(h2 es e).dropLast) hw h⟩
  ·exact h.elim
 ·rename_i i
  obtain⟨w0,rfl,hw0⟩:=Lb hds
  cases fh hw0
  split at h
  ·rename_i hi
   rw[j6]at hi
   have h24:sizeLine=16777216:=DB
   rw[h24]at hi
   split at h
   ·rename_i d ed
    obtain⟨w,ew,hw⟩:=h1.get ed
    have hlt:i.toNat<xs.length:=(AL.mp ed).1
    refine Io pins s σ H _ _ v us Q I rx rv ⟨a,ws,i,i.toNat,w,rfl,rfl,hH,by lia,by lia,?_,ew,o5 hS ha hH (h1.eraseIdx _) (fun es e=>(h2 es e).eraseIdx _) hw h⟩
    rw[h1.length]
    exact PySem.StrLaws.seqIndex_nonneg hi.1 (by lia)
   ·exact h.elim
  ·exact h.elim
 ·exact h.elim
end
end Lp
namespace Lp
open PySem PySem.Spec PyProof.Rows L2
theorem IsD.belowN {K:PySem.W.Frag} {ι ι':List Addr} {H:Hp} (hp:ι <+: ι'):∀(k:Nat) (d:D) (v:V),D.belowN ι.length k d=true→IsD K ι' H d v→IsD K ι H d v:=by
 have list:∀(k:Nat),(∀(d:D) (v:V),D.belowN ι.length k d=true→IsD K ι' H d v→IsD K ι H d v) →
   ∀(ds:List D) (xs:List V),ds.all (D.belowN ι.length k)=true→aq K ι' H ds xs→aq K ι H ds xs:=by
  intro k ih ds
  induction ds with
  | nil=>intro xs _ h;simpa[aq]using h
  | cons d ds ihd =>
   intro xs hp h
   simp only[aq]at h ⊢
   simp only[BC,AZ]at hp
   obtain⟨v,r,e,q,t⟩:=h
   exact⟨v,r,e,ih d v hp.1 q,ihd r hp.2 t⟩
 have loc:∀(n:Nat) (v:V),n<ι.length→IsD K ι' H (.loc n) v→IsD K ι H (.loc n) v:=fun n v hn h=>by
  simp only[IsD]at h ⊢
  obtain⟨a,e,q⟩:=h
  obtain⟨t,rfl⟩:=hp
  rw[AX hn]at q
  exact⟨a,e,q⟩
 intro k
 induction k with
 | zero =>
  intro d v hb h
  cases d with
  | loc n=>exact loc n v (by simpa[D.belowN]using hb) h
  | tup ds=>simp[D.belowN]at hb
  | lst ds=>simp[D.belowN]at hb
  | _=>simpa[IsD]using h
 | succ k ih =>
  intro d v hb h
  cases d with
  | tup ds =>
   simp only[D.belowN]at hb
   simp only[IsD]at h ⊢
   obtain⟨a,xs,e,q,r⟩:=h
   exact⟨a,xs,e,q,list k ih ds xs hb r⟩
  | lst ds =>
   simp only[D.belowN]at hb
   simp only[IsD]at h ⊢
   obtain⟨a,xs,e,q,r⟩:=h
   exact⟨a,xs,e,q,list k ih ds xs hb r⟩
  | loc n=>exact loc n v (by simpa[D.belowN]using hb) h
  | _=>simpa[IsD]using h
theorem aq.belowN {K:PySem.W.Frag} {ι ι':List Addr} {H:Hp} (hp:ι <+: ι') {k:Nat}:∀(ds:List D) (xs:List V),ds.all (D.belowN ι.length k)=true→aq K ι' H ds xs→aq K ι H ds xs
 | [],xs,_,h=>by simpa[aq]using h
 | d::ds,xs,hb,h=>by
  simp only[aq]at h ⊢
  simp only[BC,AZ]at hb
  obtain⟨v,r,e,q,t⟩:=h
  exact⟨v,r,e,IsD.belowN hp k d v hb.1 q,aq.belowN hp ds r hb.2 t⟩
theorem Sim.cut {K:PySem.W.Frag} {ι ι':List Addr} {H:Hp} {μ:Sto} (h:Sim K ι' H μ) (hp:ι <+: ι') (hc:(μ.take ι.length).all (ik ι.length)=true):Sim K ι H (μ.take ι.length):=by
 have hl:ι.length≤μ.length:=by rw[←h.len];exact hp.length_le
 refine⟨by rw[EU];lia,hp.sublist.nodup h.nd,fun n a o e1 e2=>?_⟩
 have hn:n<ι.length:=(AL.mp e1).1
 have e1':ι'[n]? = some a:=by
  obtain⟨t,rfl⟩:=hp
  rw[AX hn];exact e1
 have e2':μ[n]? = some o:=by
  rw[HQ hn]at e2;exact e2
 have q:=h.obj n a o e1' e2'
 have c:ik ι.length o=true:=AO.mp hc o (BD e2)
 cases o with
 | l ds=>exact q
 | r ds =>
  obtain⟨xs,e,r⟩:=q
  exact⟨xs,e,aq.belowN hp ds xs c r⟩
 | d kvs=>exact q
 | dt kvs=>exact q
 | dead=>exact q
theorem Fx {K:PySem.W.Frag} {ι:List Addr} {H:Hp} {μ:Sto} {keep:Bool} {r:Res D} {Q:VK} (hS:Sim K ι H μ) (h:h9 K (RD K) ι H (rh keep μ.length r) Q):h9 K (RD K) ι H r Q:=by
 cases r with
 | exc c ds μ'=>exact h
 | stuck=>exact h
 | ok d μ' =>
  cases keep with
  | true=>simpa[rh]using h
  | false =>
   simp only[rh,AR,if_false]at h
   split at h
   ·rename_i hc
    rw[←hS.len]at hc h
    exact fun ι' v H' p e s q=>h ι v H' (AM _) e (s.cut p hc.2) (IsD.belowN p 8 d v hc.1 q)
   ·exact h.elim
noncomputable def spD (K:PySem.W.Frag) (φ:Phi) (f:Nat):Sp:=fun vs H Q _=>∃ι ds μ,Sim K ι H μ∧aq K ι H ds vs∧h9 K (RD K) ι H (φ f ds μ) Q
noncomputable def Callee (P:Program) (w:World) (K:PySem.W.Frag) (mg:Str→Option Value) (base:Heap) (A:Around) (φ:Phi) (f:Nat) (x:Str):Prop :=
 ∃(k:Nat) (fa:Addr) (fd:FuncData) (ps:List Str),FnOk P w K mg base CX0 k fa fd ps (spD K φ f)∧Room k A∧mg x=some (.ref fa)∧PySem.W.keepIn K (.ref fa)=true∧Binds K fd ps []
section
variable {X : Cx} {φ : Phi} {x : Str} {p pos : Pos} {e : Expr} {es : List Expr} {xs : Exs} {f : Nat} {keep : Bool}
theorem s_call (C:Callee X.prog X.w X.K X.mg X.base X.A φ f x) (hg:Gl X x) (ha:PA X (e::es) (tEs X.K φ xs)) (hdb:(x==("__debug__":Str))=false)
  (he:starEach (e::es) X.env=(false,eval e X.env)::starEach es X.env) (hpl:(backTo pos (starEach es X.env)).any (·.1)=false):PE X (.Call (.Name x p) (e::es) [] pos) (tE X.K φ (.call keep f xs)):=by
 obtain⟨k,fa,fd,ps,F,hr,hm,hk,hb⟩:=C
 refine PE.imp (Mc F hr hg hm hk hb .nil Tb ha hdb he hpl) fun σv H Q ⟨ι,σ,μ,hS,hL,h⟩=>?_
 simp only[evE]at h
 obtain⟨ds,μ1,e1,h⟩:=h.bind
 refine⟨ι,σ,μ,hS,hL,?_⟩
 rw[e1]
 intro ι1 vs H1 p1 x1 s1 d1
 exact⟨ι1,ds,μ1,s1,by rw[List.append_nil];exact d1,Fx s1 (h.mono p1 x1)⟩
end
theorem M7 {P:Program} {w:World} {K:PySem.W.Frag} {mg:Str→Option Value} {base:Heap} {x qual:Str} {st:Stmt} {fa:Addr} {fd:FuncData} {N ps:List Str} {n f:Nat} {T:List Df} {df:Df} (F:Fun K x qual st fa fd) (S:FnScope N ps (ao st))
  (hd:T[f]? = some df) (hnp:df.np=ps.length) (hnn:df.nn=N.length)
  (hb:∀(cdv:Value) (A:Around) (outer:List Env) (s:Shared) (H:Hp) (E:XK),Room n (A.deeper (envOfC qual (ao st) s.heap.objs.size fa cdv)) →
   PSs (Kv CX0 P w K mg base N qual (ao st) fa cdv A outer s H E).nox (a8 st) (tSs K (ak T n) df.body)):FnOk P w K mg base CX0 (n+1) fa fd ps (spD K (ak T (n+1)) f):=by
 have len:∀{vs:List V} {H:Hp} {ds:List D} {ι:List Addr} {μ:Sto} {Q:VK},aq K ι H ds vs→h9 K (RD K) ι H (ak T (n+1) f ds μ) Q→ds.length=df.np:=fun {vs H ds ι μ Q} hds h=>by
  simp only[ak,hd,O2]at h
  split at h
  ·assumption
  ·exact h.elim
 refine F.ok S (fun vs H Q E ⟨ι,ds,μ,hS,hds,h⟩=>?_) fun cdv A outer s H vs Q E hr ⟨ι,ds,μ,hS,hds,h⟩=>⟨_,hb cdv A outer s H E hr,?_⟩
 ·rw[hds.length,len hds h,hnp]
 ·have hl:=len hds h
  refine⟨ι,ds.map some++List.replicate (df.nn-df.np) none,μ,hS,fun i d e=>?_,?_,?_⟩
  ·by_cases hi:i<ds.length
   ·rw[AX (by simpa using hi),BS]at e
    cases ed:ds[i]? with
    | none=>rw[ed]at e;cases e
    | some d' =>
     rw[ed]at e
     simp only[GH,BP]at e
     subst e
     obtain⟨v,ev,hv⟩:=hds.get ed
     refine⟨v,?_,hv⟩
     unfold L2.start
     rw[AX (by rw[AG,hds.length];exact hi),BS,ev]
     rfl
   ·rw[CY (by simpa using hi),DD]at e
    split at e<;>cases e
  ·unfold L2.start
   simp only[CG,AG,IJ,hds.length]
   lia
  ·simp only[ak,hd,O2,if_pos hl]at h
   cases er:p8 (ak T n) df.body (ds.map some++List.replicate (df.nn-df.np) none) μ with
   | exc c es μ'=>rw[er]at h;exact h.elim
   | stuck=>rw[er]at h;exact h.elim
   | ok fl μ' =>
    rw[er]at h
    simp only[Res.bw]at h
    cases fl with
    | nx σ'=>exact fun ι' σv H' p e s' l z=>h ι' .non H' p e s' (by simp[IsD])
    | rt d=>exact fun ι' v H' p e s' q=>h ι' v H' p e s' q
    | bk σ'=>exact h.elim
    | ct σ'=>exact h.elim
theorem M8 {P:Program} {w:World} {K:PySem.W.Frag} {mg:Str→Option Value} {base:Heap} {fa:Addr} {fd:FuncData} {ps:List Str} {f:Nat} {T:List Df}:FnOk P w K mg base CX0 0 fa fd ps (spD K (ak T 0) f) :=
 ⟨fun vs H Q E ⟨ι,ds,μ,hS,hds,h⟩=>h.elim,fun A outer s H args us vs Q E hr he hb hv ⟨ι,ds,μ,hS,hds,h⟩=>h.elim⟩
structure Ent where
 id:Nat
 name:Str
 st:Stmt
 N:List Str
 ps:List Str
 df:Df
structure ModOf (K:PySem.W.Frag) (mg:Str→Option Value) (e:Ent):Prop where
 ex:∃(fa:Addr) (fd:FuncData),mg e.name=some (.ref fa)∧Fun K e.name e.name e.st fa fd∧∀us:List Value,us.length=e.ps.length→bindArgs fd ⟨us,[]⟩=pure (e.ps.zip us)
theorem c7 {K:PySem.W.Frag} {h:Heap} {mg:Str→Option Value} {e:Ent} {f:Addr} {oc:Value} {od an:Option Addr} {sl:Array (Option Value)} {kV dc pm cd ct:Value} (X:K.In h) (G:h.Ns mainGlobals mg) (a:PySem.W.nsIn K mainGlobals e.name=some (some (.ref f)))
  (l:K.lookup f=some ⟨oc,od,.func (PySem.W.fnOf e.name e.name (a9 e.st) (a8 e.st) (ao e.st) .none kV dc pm an cd ct),sl⟩) (c:PySem.W.codeIn K cd e.name=true) (k:PySem.W.keepIn K (.ref f)=true)
  (hb:∀(kV doc pm:Value) (an:Option Addr) (cdv ct:Value) (us:List Value),us.length=e.ps.length→bindArgs (PySem.W.fnOf e.name e.name (a9 e.st) (a8 e.st) (ao e.st) .none kV doc pm an cdv ct) ⟨us,[]⟩=pure (e.ps.zip us)):ModOf K mg e :=
 ⟨f,_,PySem.W.mg_of X G a,P8 l c k,hb kV dc pm an cd ct⟩
structure Derived (T:List Df) (P:Program) (w:World) (K:PySem.W.Frag) (mg:Str→Option Value) (base:Heap) (es:List Ent) (e:Ent):Prop where
 sc:FnScope e.N e.ps (ao e.st)
 tb:T[e.id]? = some e.df
 np:e.df.np=e.ps.length
 nn:e.df.nn=e.N.length
 dv:∀(n:Nat) (fa:Addr) (cdv:Value) (A:Around) (outer:List Env) (s:Shared) (H:Hp) (E:XK),(A.deeper (envOfC e.name (ao e.st) s.heap.objs.size fa cdv)).units+64<cLine →
  (∀(j:Nat) e',es[j]? = some e'→Callee P w K mg base (A.deeper (envOfC e.name (ao e.st) s.heap.objs.size fa cdv)) (ak T n) e'.id e'.name) →
  PSs (Kv CX0 P w K mg base e.N e.name (ao e.st) fa cdv A outer s H E).nox (a8 e.st) (tSs K (ak T n) e.df.body)
theorem Le {T:List Df} {P:Program} {w:World} {K:PySem.W.Frag} {mg:Str→Option Value} {base:Heap} {es:List Ent} (M:∀(j:Nat) e,es[j]? = some e→ModOf K mg e) (Dv:∀(j:Nat) e,es[j]? = some e→Derived T P w K mg base es e) :
  ∀(n:Nat) (j:Nat) e,es[j]? = some e→∀(fa:Addr) (fd:FuncData),mg e.name=some (.ref fa)→Fun K e.name e.name e.st fa fd→FnOk P w K mg base CX0 n fa fd e.ps (spD K (ak T n) e.id)
 | 0,j,e,_,fa,fd,_,_=>M8
 | n+1,j,e,he,fa,fd,hm,hF=>by
  have d:=Dv j e he
  refine M7 hF d.sc d.tb d.np d.nn fun cdv A outer s H E hr=>d.dv n fa cdv A outer s H E hr.units fun i e' he'=>?_
  obtain⟨fa',fd',hm',hF',hb'⟩:=(M i e' he').ex
  exact⟨n,fa',fd',e'.ps,Le M Dv n i e' he' fa' fd' hm' hF',hr,hm',hF'.kp,.all hb'⟩
noncomputable def Jj (K:PySem.W.Frag):Sp:=fun vs H Q _=>∃(a:Addr) (ns:List Int),vs=[.ref a]∧FzL K H a (ns.map V.int)∧ns.length≤63∧∀H',Q (.bl true) H'
theorem Qz {T:List Df} {P:Program} {w:World} {K:PySem.W.Frag} {mg:Str→Option Value} {base:Heap} {es:List Ent} {n j:Nat} {e:Ent} {fa:Addr} {fd:FuncData} (M:∀(j:Nat) e,es[j]? = some e→ModOf K mg e) (Dv:∀(j:Nat) e,es[j]? = some e→Derived T P w K mg base es e)
  (he:es[j]? = some e) (hm:mg e.name=some (.ref fa)) (hF:Fun K e.name e.name e.st fa fd) (hps:e.ps.length=1)
  (hlaw:∀ns:List Int,ns.length≤63→∃μ',ak T n e.id [.lst (ns.map D.int)] []=.ok (.bl true) μ'):FnOk P w K mg base CX0 n fa fd e.ps (Jj K):=by
 refine(Le M Dv n j e he fa fd hm hF).imp fun vs H Q E ⟨a,ns,ev,hS,hl,q⟩=>?_
 subst ev
 obtain⟨μ',el⟩:=hlaw ns hl
 refine⟨[],[.lst (ns.map D.int)],[],⟨rfl,List.nodup_nil,fun n a o e1 e2=>by simp at e1⟩,?_,?_⟩
 ·simp only[aq,IsD]
  exact⟨.ref a,[],rfl,⟨a,_,rfl,hS,aq.ints ns⟩,rfl⟩
 ·rw[el]
  intro ι' v H' p x s' d
  have ev:v=.bl true:=by simpa[IsD]using d
  subst ev
  exact q H'
theorem M9 {T:List Df} {P:Program} {w:World} {K:PySem.W.Frag} {mg:Str→Option Value} {es:List Ent} {n j:Nat} {e:Ent} {fa:Addr} (M:∀(j:Nat) e,es[j]? = some e→ModOf K mg e) (Dv:∀(base:Heap) (j:Nat) e,es[j]? = some e→Derived T P w K mg base es e)
  (he:es[j]? = some e) (hfa:mg e.name=some (.ref fa)) (hps:e.ps=[("script":Str)])
  (hlaw:∀ns:List Int,ns.length≤63→∃μ',ak T n e.id [.lst (ns.map D.int)] []=.ok (.bl true) μ') :
  ∃fd:FuncData,(∀(s:Shared) (v:Value),BindsTo s fd ⟨[v],[]⟩ [("script",v)])∧∀base:Heap,K.In base→base.Ns mainGlobals mg→FnOk P w K mg base CX0 n fa fd ["script"] (Jj K):=by
 obtain⟨fa',fd,hm,hF,hb⟩:=(M j e he).ex
 have z:=hfa.symm.trans hm
 cases z
 rw[hps]at hb
 refine⟨fd,fun s v=>.of_eq (hb [v] rfl),fun base _ _=>?_⟩
 have q:=Qz M (Dv base) he hm hF (by rw[hps];rfl) hlaw
 rw[hps]at q
 exact q
theorem Jk {l:PySem.W.OpenLaw} {n:Nat} {q:Program} {loose:List Str} {XP:(Str→Option Value)→Heap→Prop} {YP:World→Heap→Prop} {d:DefRec} {K:Params→PySem.W.Frag} (hr:Room n callerA) (hn:l.most=some 63) (hdf:d.params.defaults=[])
  (hY:∀(w:World) (h:Heap),YP w h→(K w.params).In h)
  (F:∀(w:World) (mg:Str→Option Value) (fa:Addr) (h:Heap),(K w.params).In h→h.Ns mainGlobals mg→mg d.name=some (.ref fa) →
   ∃fd:FuncData,(∀(s:Shared) (u:Value),BindsTo s fd ⟨[u],[]⟩ [("script",u)])∧∀base:Heap,(K w.params).In base→base.Ns mainGlobals mg→FnOk l.prog w (K w.params) mg base CX0 n fa fd ["script"] (Jj (K w.params))) :
  PySem.W.WalkO q loose XP YP l.row.toRowW d [] (fun f vs=>PySem.call f vs) :=
 L2.Mo (n:=63) (k:=n) (x:="script") (CX:=fun _=>CX0) (sp:=fun w=>Jj (K w.params)) hn (by decide) hdf hr hY F (fun _ _ a ns hl _ hS=>⟨a,ns,rfl,hS,hl,fun _=>rfl⟩) fun _ _ _ _ _ z=>z
end Lp
namespace Lp
open PySem PySem.Spec PyProof.Rows L2
noncomputable def Exs.len:Exs→Nat
 | .nil=>0
 | .cons _ r=>r.len+1
theorem wc {φ:Phi}:∀{xs:Exs} {σ:Sl} {μ:Sto} {ds:List D} {μ':Sto},i7 φ xs σ μ=.ok ds μ'→ds.length=xs.len
 | .nil,σ,μ,ds,μ',h=>by
  simp only[i7]at h
  cases h;rfl
 | .cons e r,σ,μ,ds,μ',h=>by
  simp only[i7]at h
  cases e1:evE φ e σ μ with
  | exc _ _ _=>rw[e1]at h;cases h
  | stuck=>rw[e1]at h;cases h
  | ok d μ1 =>
   rw[e1]at h
   simp only[Res.bw]at h
   cases e2:i7 φ r σ μ1 with
   | exc _ _ _=>rw[e2]at h;cases h
   | stuck=>rw[e2]at h;cases h
   | ok es μ2 =>
    rw[e2]at h
    cases h
    simp[Exs.len,wc e2]
noncomputable def Cd (sc scope:Scope) (N Nb:List Str) (cap:List Nat) (nl:Nat):Bool :=
 decide (scope.kind=.function)&&scope.names.all (fun y=>decide (y.2≠.cell)&&decide (scope.names.lookup y.1=some y.2)
  && (!decide (y.2=.free) || decide (sc.names.lookup y.1=some .cell) || decide (sc.names.lookup y.1=some .free)))
 && decide Nb.Nodup&&decide (Nb.length=cap.length+nl)
 && (List.range cap.length).all (fun j=>match cap[j]?,Nb[j]? with
  | some i,some x=>decide (N[i]? = some x)&&scope.names.any fun y=>decide (y.1=x)&&decide (y.2=.free)
  | _,_=>false)
theorem lookup_mem {l:List (Str×NameKind)} {n:Str} {k:NameKind} (h:l.lookup n=some k):(n,k)∈l:=by
 induction l with
 | nil=>cases h
 | cons a r ih =>
  obtain⟨m,j⟩:=a
  rw[EA]at h
  cases hb:n==m with
  | true =>
   rw[hb]at h
   cases h
   have:n=m:=by simpa using hb
   subst this
   exact AQ
  | false =>
   rw[hb]at h
   exact AK _ (ih h)
theorem tm {scope:Scope} {env:Env} {n:Str} {k:NameKind} (h:(n,k)∈(relabel scope env).names):(n,k)∈scope.names∨(k=.cell∧(n,NameKind.free)∈scope.names):=by
 have h2:(n,k)∈scope.names.map (fun(n,k)=>if(k==NameKind.free&&env.scope.kind==.function&&env.kindOf n==some .cell)then(n,NameKind.cell)else(n,k)):=h
 obtain⟨⟨m,j⟩,hm,e⟩:=BI.mp h2
 dsimp only at e
 split at e
 ·rename_i hc
  cases e
  simp only[AZ,beq_iff_eq]at hc
  obtain⟨⟨rfl,_⟩,_⟩:=hc
  exact .inr ⟨rfl,hm⟩
 ·cases e
  exact .inl hm
theorem vd {sc scope:Scope} {N Nb:List Str} {cap:List Nat} {nl:Nat} (h:Cd sc scope N Nb cap nl=true):CompScope sc scope N Nb cap nl:=by
 simp only[Cd,AZ,AO,decide_eq_true_eq,Bool.or_eq_true,Bool.not_eq_true',decide_eq_false_iff_not]at h
 obtain⟨⟨⟨⟨h1,h2⟩,h3⟩,h4⟩,h5⟩:=h
 refine⟨h1,fun y hy=>(h2 y hy).1.1,fun y hy=>(h2 y hy).1.2,fun n hn=>?_,fun n hn=>?_,h3,h4,fun j i e=>?_⟩
 ·rcases(h2 (n,.free) hn).2 with(z | z) | z
  ·exact absurd rfl z
  ·exact .inl z
  ·exact .inr z
 ·rcases hn with hn | hn
  ·rcases tm (lookup_mem hn)with z | z
   ·exact absurd rfl (h2 _ z).1.1
   ·exact z.2
  ·rcases tm (lookup_mem hn)with z | z
   ·exact z
   ·exact z.2
 ·have hj:j<cap.length:=(AL.mp e).1
  have q:=h5 j (CQ.mpr hj)
  rw[e]at q
  cases ex:Nb[j]? with
  | none=>rw[ex]at q;simp at q
  | some x =>
   rw[ex]at q
   simp only[AZ,decide_eq_true_eq,DP]at q
   obtain⟨q1,⟨y,k⟩,hy,e1,e2⟩:=q
   dsimp only at e1 e2
   subst e1;subst e2
   exact⟨y,rfl,q1,hy⟩
noncomputable def ndB (l:List Str):Bool:=decide l.Nodup
theorem Ce {l:List Str} (h:ndB l=true):l.Nodup:=of_decide_eq_true h
section
variable {X : Cx} {φ : Phi} {a b c e : Expr} {es : List Expr} {xa xb xc xe : Ex} {xs : Exs} {pos : Pos}
theorem aa (i:Nat) {x:Str} (hN:X.N[i]? = some x:=by rfl) (hv:Vis X.env.scope x:=by first | exact Or.inl rfl | exact Or.inr (Or.inl rfl) | exact Or.inr (Or.inr rfl)) (hd:(x==("__debug__":Str))=false:=by decide)
  (hcd:(x==("__classdict__":Str))=false:=by decide):PE X (.Name x pos) (tE X.K φ (.var i)):=Te hN hv hd hcd
theorem Na (i:Nat) {x:Str} (hN:X.N[i]? = some x:=by rfl) (hv:Vis X.env.scope x:=by first | exact Or.inl rfl | exact Or.inr (Or.inl rfl) | exact Or.inr (Or.inr rfl)) (hd:(x==("__debug__":Str))=false:=by decide)
  (hcd:(x==("__classdict__":Str))=false:=by decide):PE X (.Name x pos) (tE X.K φ (.frz i)):=T4 hN hv hd hcd
theorem ah {i:Int} {j:Nat}:PE X (.Constant (.int i) j pos) (tE X.K φ (.cst (.int i))):=Tf
theorem Hz {i:Bool} {j:Nat}:PE X (.Constant (.bool i) j pos) (tE X.K φ (.cst (.bl i))):=X7
theorem zc {j:Nat}:PE X (.Constant .none j pos) (tE X.K φ (.cst .non)):=Th
theorem mh {i:Str} {j:Nat}:PE X (.Constant (.str i) j pos) (tE X.K φ (.cst (.str i))):=Ti
theorem ai:PA X [] (tEs X.K φ .nil):=I0
theorem ae (ha:PE X a (tE X.K φ xa)) (hb:PA X es (tEs X.K φ xs)) (hs:starEach (a::es) X.env=(false,eval a X.env)::starEach es X.env:=by rfl):PA X (a::es) (tEs X.K φ (.cons xa xs)):=yt ha hb hs
theorem av {op:Operator} {m:Mk} (ha:PE X a (tE X.K φ xa)) (hb:PE X b (tE X.K φ xb)):PE X (.BinOp a op b pos) (tE X.K φ (.bin op m xa xb)):=Tj Qn ha hb
theorem Ua (ha:PE X a (tE X.K φ xa)):PE X (.UnaryOp .USub a pos) (tE X.K φ (.neg xa)):=Tq ha
theorem Nc (ha:PE X a (tE X.K φ xa)):PE X (.UnaryOp .Not a pos) (tE X.K φ (.not xa)):=Qc ha
theorem Fy {rest:List Expr} (ha:PE X a (tE X.K φ xa)) (hb:PE X (.BoolOp .And (b::rest) pos) (tE X.K φ xb)):PE X (.BoolOp .And (a::b::rest) pos) (tE X.K φ (.and xa xb)):=Qd ha hb
theorem Yf {rest:List Expr} (ha:PE X a (tE X.K φ xa)) (hb:PE X (.BoolOp .Or (b::rest) pos) (tE X.K φ xb)):PE X (.BoolOp .Or (a::b::rest) pos) (tE X.K φ (.or xa xb)):=Tr ha hb
theorem Cf {t:TE} (h:PE X a t):PE X (.BoolOp .And [a] pos) t:=Kq h
theorem Ub {t:TE} (h:PE X a t):PE X (.BoolOp .Or [a] pos) t:=Kq h
theorem qe {k:Nat} (h:PA X es (tEs X.K φ xs)) (hl:xs.len≤1000:=by decide):PE X (.Tuple es k pos) (tE X.K φ (.tup xs)):=To h fun σ μ ds μ' e=>by
 rw[wc e];exact EE (yr hl)
theorem zd {m:Mk} (h:PA X es (tEs X.K φ xs)) (hl:xs.len≤1000:=by decide):PE X (.List es pos) (tE X.K φ (.lst m xs)):=T3 h fun σ μ ds μ' e=>by
 rw[wc e];exact EE (yr hl)
theorem d7 (ha:PE X a (tE X.K φ xa)) (hb:PE X b (tE X.K φ xb)) (hs:Aq b:=by intro _ _;rfl):PE X (.Subscript a b pos) (tE X.K φ (.ix xa xb)):=X8 T5 ha hb hs
theorem Uc:PO X none (tEo X.K φ .no):=Yc
theorem Ud (he:PE X e (tE X.K φ xe)):PO X (some e) (tEo X.K φ (.so xe)):=Yd he
theorem Ue {lo hi:Option Expr} {xl xh:ExO} {m:Mk} {p2:Pos} (he:PE X e (tE X.K φ xe)) (hl:PO X lo (tEo X.K φ xl)) (hh:PO X hi (tEo X.K φ xh)):PE X (.Subscript e (.Slice lo hi none p2) pos) (tE X.K φ (.sl m xe xl xh)):=Ye he hl hh
theorem qf (hu:X.A.units+64<cLine) (op:Cp) (he:PE X e (tE X.K φ xe)):PCh X [opOf op] [e] (tCh X.K φ (.cons op xe .nil)):=M3 (Fu op (by lia)) he
theorem dj (hu:X.A.units+64<cLine) (op:Cp) (he:PE X e (tE X.K φ xe)):PTh X [opOf op] [e] (tTh X.K φ (.cons op xe .nil)):=M4 (Fu op (by lia)) he
theorem Lg (hu:X.A.units+64<cLine) (op:Cp) {op':Cp} {e':Expr} {ops:List CmpOp} {xe':Ex} {r:Cps} (he:PE X e (tE X.K φ xe)) (hr:PTh X (opOf op'::ops) (e'::es) (tTh X.K φ (.cons op' xe' r))) :
  PTh X (opOf op::opOf op'::ops) (e::e'::es) (tTh X.K φ (.cons op xe (.cons op' xe' r))):=M5 (Fu op (by lia)) he hr
theorem qg {ops:List CmpOp} {r:Cps} (ha:PE X a (tE X.K φ xa)) (hr:PCh X ops es (tCh X.K φ r)) (hm:lastMarks ops es=false:=by rfl):PE X (.Compare a ops es pos) (tE X.K φ (.cmp xa r)):=T6 ha hr hm
theorem bp {ops:List CmpOp} {r:Cps} (ha:PE X a (tE X.K φ xa)) (hr:PTh X ops es (tTh X.K φ r)) (hm:lastMarks ops es=false:=by rfl):PT X (.Compare a ops es pos) (tT X.K φ (.cmp xa r)):=Qv ha hr hm
theorem iq (ha:PE X a (tE X.K φ xa)) (he:∀whole,isTrue a X.env whole=(do let v ←whole;standAt a.pos;holding [v] (truthy v)):=by intro _;rfl):PT X a (tT X.K φ xa):=Mu ha he
theorem o6 (ha:PT X a (tT X.K φ xa)):PT X (.UnaryOp .Not a pos) (tT X.K φ (.not xa)):=Qb ha
theorem A4 (ha:PT X a (tT X.K φ xa)):PW X (.BoolOp .And [a] pos) (tT X.K φ xa):=L5 ha
theorem rf (ha:PT X a (tT X.K φ xa)):PW X (.BoolOp .Or [a] pos) (tT X.K φ xa):=O9 ha
theorem Cg {rest:List Expr} (ha:PT X a (tT X.K φ xa)) (hb:PW X (.BoolOp .And (b::rest) pos) (tT X.K φ xb)):PW X (.BoolOp .And (a::b::rest) pos) (tT X.K φ (.and xa xb)):=Qe ha hb
theorem we {rest:List Expr} (ha:PT X a (tT X.K φ xa)) (hb:PW X (.BoolOp .Or (b::rest) pos) (tT X.K φ xb)):PW X (.BoolOp .Or (a::b::rest) pos) (tT X.K φ (.or xa xb)):=Ts ha hb
theorem Fz {t:TT} (h:PW X a t):PT X a t:=h.pt
theorem au {x:Str} {p:Pos} {f:Nat} {keep:Bool} (C:Callee X.prog X.w X.K X.mg X.base X.A φ f x) (ha:PA X (e::es) (tEs X.K φ xs)) (hg:Gl X x:=by rfl) (hdb:(x==("__debug__":Str))=false:=by decide)
  (he:starEach (e::es) X.env=(false,eval e X.env)::starEach es X.env:=by rfl) (hpl:(backTo pos (starEach es X.env)).any (·.1)=false:=by rfl):PE X (.Call (.Name x p) (e::es) [] pos) (tE X.K φ (.call keep f xs)):=s_call C hg ha hdb he hpl
theorem lj {r:List V→Hp→VK→Prop} {b:Bt} {m:Mk} {es:List Expr} (h:PE X e (tCB (uq X.K (btD b m)) (tEs X.K φ xs))):PE X e (tE X.K φ (.blt b m xs)) :=
 PE.imp h fun σv H Q ⟨ι,σ,μ,hS,hL,h⟩=>by
  simp only[evE]at h
  obtain⟨ds,μ1,e1,h⟩:=h.bind
  refine⟨ι,σ,μ,hS,hL,?_⟩
  rw[e1]
  exact fun ι1 vs H1 p1 x1 s1 d1=>⟨ι1,ds,μ1,s1,d1,h.mono p1 x1⟩
theorem dm {m:Mk} {p:Pos} (hm:X.mg "len"=none) (ha:PA X (e::es) (tEs X.K φ xs)) (hg:Gl X "len":=by rfl) (he:starEach (e::es) X.env=(false,eval e X.env)::starEach es X.env:=by rfl) (hpl:(backTo pos (starEach es X.env)).any (·.1)=false:=by rfl) :
  PE X (.Call (.Name "len" p) (e::es) [] pos) (tE X.K φ (.blt .len m xs)):=lj (r:=fun _ _ _=>True) (es:=es) (i6 bt_len hg hm PySem.boot_len ha (by decide) (by decide) he hpl)
theorem ef {m:Mk} {p:Pos} (hm:X.mg "tuple"=none) (ha:PA X (e::es) (tEs X.K φ xs)) (hg:Gl X "tuple":=by rfl) (he:starEach (e::es) X.env=(false,eval e X.env)::starEach es X.env:=by rfl) (hpl:(backTo pos (starEach es X.env)).any (·.1)=false:=by rfl) :
  PE X (.Call (.Name "tuple" p) (e::es) [] pos) (tE X.K φ (.blt .tuple m xs)):=lj (r:=fun _ _ _=>True) (es:=es) (E5 bt_tuple hg hm (by first | exact PyProof.Rows.boot_tuple | decide +kernel) ha (by decide) (by decide) he hpl)
theorem tq {m:Mk} {p:Pos} (hm:X.mg "min"=none) (ha:PA X (e::es) (tEs X.K φ xs)) (hc:X.calm=true:=by rfl) (hg:Gl X "min":=by rfl) (he:starEach (e::es) X.env=(false,eval e X.env)::starEach es X.env:=by rfl) (hpl:(backTo pos (starEach es X.env)).any (·.1)=false:=by rfl) :
  PE X (.Call (.Name "min" p) (e::es) [] pos) (tE X.K φ (.blt .min m xs)):=lj (r:=fun _ _ _=>True) (es:=es) (i6 (bt_min hc) hg hm (by first | exact IM | decide +kernel) ha (by decide) (by decide) he hpl)
theorem Nd {m:Mk} {p:Pos} (hm:X.mg "max"=none) (ha:PA X (e::es) (tEs X.K φ xs)) (hc:X.calm=true:=by rfl) (hg:Gl X "max":=by rfl) (he:starEach (e::es) X.env=(false,eval e X.env)::starEach es X.env:=by rfl) (hpl:(backTo pos (starEach es X.env)).any (·.1)=false:=by rfl) :
  PE X (.Call (.Name "max" p) (e::es) [] pos) (tE X.K φ (.blt .max m xs)):=lj (r:=fun _ _ _=>True) (es:=es) (i6 (bt_max hc) hg hm (by first | exact PyProof.Rows.boot_max | decide +kernel) ha (by decide) (by decide) he hpl)
theorem oh {m:Mk} {p:Pos} (hm:X.mg "sum"=none) (ha:PA X (e::es) (tEs X.K φ xs)) (hc:X.calm=true:=by rfl) (hg:Gl X "sum":=by rfl) (he:starEach (e::es) X.env=(false,eval e X.env)::starEach es X.env:=by rfl) (hpl:(backTo pos (starEach es X.env)).any (·.1)=false:=by rfl) :
  PE X (.Call (.Name "sum" p) (e::es) [] pos) (tE X.K φ (.blt .sum m xs)):=lj (r:=fun _ _ _=>True) (es:=es) (i6 (bt_sum hc) hg hm (by first | exact PyProof.Rows.boot_sum | decide +kernel) ha (by decide) (by decide) he hpl)
theorem Nf {m:Mk} {p:Pos} (hm:X.mg "all"=none) (ha:PA X (e::es) (tEs X.K φ xs)) (hc:X.calm=true:=by rfl) (hg:Gl X "all":=by rfl) (he:starEach (e::es) X.env=(false,eval e X.env)::starEach es X.env:=by rfl) (hpl:(backTo pos (starEach es X.env)).any (·.1)=false:=by rfl) :
  PE X (.Call (.Name "all" p) (e::es) [] pos) (tE X.K φ (.blt .all m xs)):=lj (r:=fun _ _ _=>True) (es:=es) (i6 (bt_all hc) hg hm (by first | exact PyProof.Rows.boot_all | decide +kernel) ha (by decide) (by decide) he hpl)
theorem tu {m:Mk} {p:Pos} (hm:X.mg "any"=none) (ha:PA X (e::es) (tEs X.K φ xs)) (hc:X.calm=true:=by rfl) (hg:Gl X "any":=by rfl) (he:starEach (e::es) X.env=(false,eval e X.env)::starEach es X.env:=by rfl) (hpl:(backTo pos (starEach es X.env)).any (·.1)=false:=by rfl) :
  PE X (.Call (.Name "any" p) (e::es) [] pos) (tE X.K φ (.blt .any m xs)):=lj (r:=fun _ _ _=>True) (es:=es) (i6 (bt_any hc) hg hm (by first | exact PyProof.Rows.boot_any | decide +kernel) ha (by decide) (by decide) he hpl)
theorem F0 {c:Cl} {cn:Str} {p cp:Pos} (ha:PE X a (tE X.K φ xa)) (hmi:X.mg "isinstance"=none) (hmc:X.mg cn=none) (hc:∀n,c≠.own n:=by intro _ h;cases h) (hgi:Gl X "isinstance":=by rfl) (hgc:Gl X cn:=by rfl)
  (hbc:bootBuiltins cn=some (.type (qz c)):=by first | boot_by_name | rfl | kernel_rfl) (hn:cn≠"__name__":=by decide) (hd:(cn==("__debug__":Str))=false:=by decide) (hs:starEach [a,.Name cn cp] X.env=(false,eval a X.env)::starEach [.Name cn cp] X.env:=by rfl) :
  PE X (.Call (.Name "isinstance" p) [a,.Name cn cp] [] pos) (tE X.K φ (.isi xa c)):=T8 hc ha hgi hmi hgc hmc hbc hn hd hs
theorem gn {tg:Expr} (hl:PE X e (tE X.K φ xe)):PI X tg e (tI X.K φ (.seq xe)):=Qw hl
theorem j7 {tg:Expr} {p:Pos} (hm:X.mg "range"=none) (ha:PE X a (tE X.K φ xa)) (hg:Gl X "range":=by rfl) (hs:starEach [a] X.env=[(false,eval a X.env)]:=by rfl):PI X tg (.Call (.Name "range" p) [a] [] pos) (tI X.K φ (.rng xa)):=Qx hg hm ha hs
theorem cq (i:Nat) {y:Str} (hi:X.N[i]? = some y:=by rfl) (hN:ndB X.N=true:=by first | rfl | kernel_rfl) (hx:Loc X.env.scope y:=by first | exact Or.inl rfl | exact Or.inr rfl) (hf:X.fn y=true∨X.env.scope.names.lookup y=some .local:=by first | exact Or.inl rfl | exact Or.inr rfl) :
  PG X (.Name y pos) (tG X.K (.one i)):=Qh (Ce hN) hi hx hf
theorem dn:PGs X [] (tGs X.K []):=Qi
theorem ag (i:Nat) {is:List Nat} {y:Str} (h2:PGs X es (tGs X.K is)) (hi:X.N[i]? = some y:=by rfl) (hN:ndB X.N=true:=by first | rfl | kernel_rfl) (hx:Loc X.env.scope y:=by first | exact Or.inl rfl | exact Or.inr rfl) (hf:X.fn y=true∨X.env.scope.names.lookup y=some .local:=by first | exact Or.inl rfl | exact Or.inr rfl)
  (hs:(assignEach (.Name y pos::es) X.env).map (·.2)=assign (.Name y pos) X.env::(assignEach es X.env).map (·.2):=by rfl):PGs X (.Name y pos::es) (tGs X.K (i::is)):=Mv (Eu (Ce hN) hi hx hf) h2 hs
theorem dq {is:List Nat} {k:Nat} (h:PGs X es (tGs X.K is)) (hc:X.calm=true:=by rfl) (hn:(assignEach es X.env).length=is.length:=by rfl) (hst:(assignEach es X.env).findIdx? (·.1)=none:=by rfl):PG X (.Tuple es k pos) (tG X.K (.many is)):=Tv hc h hn hst
theorem cg:PTs X [] (tTs X.K φ .nil):=Ql
theorem mz {r:List Expr} {xr:Exs} (h1:PT X c (tT X.K φ xc)) (h2:PTs X r (tTs X.K φ xr)):PTs X (c::r) (tTs X.K φ (.cons xc xr)):=M0 h1 h2
theorem eg (Nb:List Str) {target iter:Expr} {ifs:List Expr} {scope:Scope} {cap:List Nat} {nl:Nat} {m:Mk} {tg:Tg} {it:It} {cs:Exs} {elt:Ex} (hi:PI X target iter (tI X.K φ it))
  (B:Ay X scope Nb target ifs e (tG X.K tg) (tTs X.K φ cs) (tE X.K φ elt)) (S:Cd X.env.scope scope X.N Nb cap nl=true:=by first | rfl | kernel_rfl) (hc:X.calm=true:=by rfl) (hf:∀x,foldedSetIterable iter X.env x=pure x:=by intro _;rfl) (hs:∀j∈slots tg,cap.length≤j:=by decide) :
  PE X (.ListComp e [⟨target,iter,ifs,0⟩] scope pos) (tE X.K φ (.comp m cap nl tg it cs elt)):=Qm (vd S) hc hi B hf hs
theorem ze (i:Nat) (Nb:List Str) {target iter:Expr} {ifs:List Expr} {scope:Scope} {cap:List Nat} {nl:Nat} {m:Mk} {tg:Tg} {it:It} {cs:Exs} {elt:Ex} {spos py:Pos} {y:Str} (hi:PI X target iter (tI X.K φ it))
  (B:Ay X scope Nb target ifs e (tG X.K tg) (tTs X.K φ cs) (tE X.K φ elt)) (S:Cd X.env.scope scope X.N Nb cap nl=true:=by first | rfl | kernel_rfl) (hc:X.calm=true:=by rfl) (hf:∀x,foldedSetIterable iter X.env x=pure x:=by intro _;rfl) (hs:∀j∈slots tg,cap.length≤j:=by decide)
  (hsw:swapsWith (.ListComp e [⟨target,iter,ifs,0⟩] scope pos) (some (.Name y py)) spos.line X.env=pure true:=by rfl) (hiN:X.N[i]? = some y:=by rfl) (hN:ndB X.N=true:=by first | rfl | kernel_rfl) (hy:X.env.scope.names.lookup y=some .local:=by rfl) :
  PS X (.Assign [.Name y py] (.ListComp e [⟨target,iter,ifs,0⟩] scope pos) spos) (tS X.K φ (.set i (.comp m cap nl tg it cs elt))):=Fn (vd S) hc hi B hf hs hsw (Ce hN) hiN hy
theorem bx:PSs X [] (tSs X.K φ .nil):=Tt
theorem ay {s:Stmt} {ss:List Stmt} {x:Sm} {xss:Sms} (h1:PS X s (tS X.K φ x)) (h2:PSs X ss (tSs X.K φ xss)):PSs X (s::ss) (tSs X.K φ (.cons x xss)):=Qf h1 h2
theorem R3 (he:PE X e (tE X.K φ xe)) (hs:swapsWith e none pos.line X.env=pure false:=by rfl):PS X (.Expr e pos) (tS X.K φ (.ex xe)):=Qg he hs
theorem bu (he:PE X e (tE X.K φ xe)):PS X (.Return (some e) pos) (tS X.K φ (.ret xe)):=Tu he
theorem mj {x y:List Stmt} {xx xy:Sms} (hc:PT X c (tT X.K φ xc)) (ha:PSs X x (tSs X.K φ xx)) (hb:PSs X y (tSs X.K φ xy)):PS X (.If c x y pos) (tS X.K φ (.ite xc xx xy)):=X9 hc ha hb
theorem cb (i:Nat) {y:Str} {pos':Pos} (he:PE X e (tE X.K φ xe)) (hi:X.N[i]? = some y:=by rfl) (hN:ndB X.N=true:=by first | rfl | kernel_rfl) (hx:Loc X.env.scope y:=by first | exact Or.inl rfl | exact Or.inr rfl) (hf:X.fn y=true∨X.env.scope.names.lookup y=some .local:=by first | exact Or.inl rfl | exact Or.inr rfl)
  (hs:swapsWith e (some (.Name y pos')) pos.line X.env=pure false:=by rfl):PS X (.Assign [.Name y pos'] e pos) (tS X.K φ (.set i xe)):=Tw (Ce hN) hi hx hf he hs
theorem tw {is:List Nat} {tg:Expr} (hg:PG X tg (tG X.K (.many is))) (he:PE X e (tE X.K φ xe)) (hs:swapsWithSole [tg] e pos.line X.env=pure false:=by rfl) (hw:swappedStores [tg] e X.env=pure none:=by rfl)
  (h1:(assignEach [tg] X.env).map (·.2)=[assign tg X.env]:=by rfl):PS X (.Assign [tg] e pos) (tS X.K φ (.unp is xe)):=Tx hg he hs hw h1
theorem oi {tg it:Expr} {body:List Stmt} {xt:Tg} {xi:It} {xb:Sms} (hi:PI X tg it (tI X.K φ xi)) (hg:PG X tg (tG X.K xt)) (hb:PSs X body (tSs X.K φ xb)) (hp:PassesOwn (model X.prog X.w) X.A X.env X.xe:=by exact PassesOwn.never) (hc:X.calm=true:=by rfl)
  (hs:∀x,foldedSetIterable it X.env x=pure x:=by intro _;rfl):PS X (.For tg it body [] pos) (tS X.K φ (.loop xt xi xb)):=Tz hp hc hi hg hb hs
end
end Lp
namespace Lp
open PySem PySem.Spec PyProof.Rows L2
theorem Jl:typeLookup (.type "list_reverseiterator") "__len__"=pure none:=by rw[GJ,EN];kernel_rfl
theorem Ng:typeLookup (.type "list_reverseiterator") "__length_hint__"=pure (some (.builtin "list_reverseiterator.__length_hint__")):=by rw[GJ,EN];kernel_rfl
section
variable {prog : Program} {w : World} {A : Around} {E : Value → Shared → Prop} {s : Shared} {r l : Addr}
theorem Nh {Q:Bool→Shared→Prop} (hT:s.TypeIs (.ref r) "list_reverseiterator") (h:Q false s):wpAny (model prog w) A (Builtin.List.listLengthHint (.ref r)) Q E s:=by
 unfold Builtin.List.listLengthHint
 refine AA (IH hT Jl ?_)
 show wpAny _ _ (specialOf (Value.ref r) (Str.ofString "__length_hint__")>>=_) _ _ _
 refine AA (IH hT Ng ?_)
 generalize hid:("list_reverseiterator.__length_hint__":String)=id0
 wp_delta
 rw[show splitId id0=some ("list_reverseiterator","__length_hint__")from by subst hid;decide +kernel]
 subst hid
 refine AA (EB (T:="list_reverseiterator") (b:=true) hT (by rw[ES];kernel_rfl) ?_)
 refine EL (fun hab=>absurd hab (by decide)) (fun _=>?_)
 refine EL (fun _=>?_) (fun hab=>absurd (by decide +kernel) hab)
 refine EL (fun hab=>absurd hab (by decide +kernel)) (fun _=>?_)
 exact AD h
theorem F3 {R:Result→Shared→Prop} {items:Array Value} (hh:A.handled=none) (S:Addr) (hSr:S≠r) (hSl:S≠l) (hlr:l≠r) (res:Value) (c₀:Nat) (hit:s.heap.IsRevIter r l ((items.size:Int)-1)) (hl:s.heap.IsList l items)
  (hS:s.heap.get? S=some {cls:=.type "list",data:=.seq #[] c₀})
  (hR:∀h' tk acc' c',(∀b o,b≠S→b≠r→s.heap.get? b=some o→h'.get? b=some o)→h'.get? S=some {cls:=.type "list",dict:=none,data:=.seq acc' c',slots:=#[]}→ItemsOf (fun i v=>items[items.size-1-i]? = some v) acc' items.size→R (.ok (.ret res)) {s with heap:=h',toks:=tk}) (hn:items.size≤sizeLine) :
  wpAny (model prog w) A.in1 (Builtin.List.listExtendWith (.ref S) (.ref r) res)
   (fun fin s'=>match fin with | .done f=>R (.ok f) s' | .again c'=>c'.quiet=true∧codeAny (model prog w) A c' R s') (fun e s'=>R (.error e) s') s:=by
 have W:=Walks.listRev (prog:=prog) (w:=w) (A:=A.in1) hh r l hlr items
 have hSf:S∉[r,l]:=by simp only[AJ,BH,or_false,not_or];exact⟨hSr,hSl⟩
 have st0:∀h:Heap,h.IsRevIter r l ((items.size:Int)-1)→h.IsList l items→(0≤items.size∧h.IsRevIter r l ((items.size:Int)-1-((0:Nat):Int))∧h.IsList l items):=fun h a b=>⟨CP _,by simpa using a,b⟩
 have key:∀(h:Heap) (c₁ tk:Nat),(0≤items.size∧h.IsRevIter r l ((items.size:Int)-1-((0:Nat):Int))∧h.IsList l items)→(∀b o,b≠S→s.heap.get? b=some o→h.get? b=some o) →
   h.get? S=some {cls:=.type "list",data:=.seq #[] c₁}→codeAny (model prog w) A (.builtin "list.extend.loop" ⟨[.ref S,.ref r,res],[]⟩) R {s with heap:=h,toks:=tk}:=by
  intro h c₁ tk hst hk hS₁
  refine codeAny_extend_loopS W.toS hn S hSf res items.size 0 _ #[] c₁ rfl (CP _) hst hS₁ (ItemsOf.nil _) fun s' acc' c' hm hS' hacc=>?_
  rw[IU hm]
  refine hR s'.heap s'.toks acc' c' (fun b o hb hbr e=>hm.heap b o (fun hmem=>?_) (hk b o hb e)) hS' hacc
  rcases AJ.mp hmem with e' | hmem
  ·exact hb e'
  ·exact hbr (EH.mp hmem)
 unfold Builtin.List.listExtendWith
 refine AA (FM (T:="list_reverseiterator") hit.typeIs ?_)
 have h1:Builtin.List.listSameRef (.ref S) (.ref r)=false:=by simp[Builtin.List.listSameRef,hSr]
 have h2:(Value.type "list_reverseiterator"==Value.type "list")=false:=by decide
 have h3:(Value.type "list_reverseiterator"==Value.type "tuple")=false:=by decide
 simp only[h1,h2,h3,IT,AR,if_false]
 refine AA (wpAny_pyIter_revIter hit ?_)
 refine AA (CL (Nh hit.typeIs ?_))
 refine EL (fun hab=>absurd hab (by decide)) (fun _=>AD ⟨GB HD _,key _ c₀ _ (st0 _ hit hl) (fun b o _ e=>e) hS⟩)
theorem Ni {R:Result→Shared→Prop} {items:Array Value} (hh:A.handled=none) (S:Addr) (hSr:S≠r) (hSl:S≠l) (hlr:l≠r) (hit:s.heap.IsRevIter r l ((items.size:Int)-1)) (hl:s.heap.IsList l items)
  (hS:s.heap.get? S=some {cls:=.type "list",data:=.seq #[]})
  (hR:∀h' tk acc' c',(∀b o,b≠S→b≠r→s.heap.get? b=some o→h'.get? b=some o)→h'.get? S=some {cls:=.type "list",dict:=none,data:=.seq acc' c',slots:=#[]}→ItemsOf (fun i v=>items[items.size-1-i]? = some v) acc' items.size→R (.ok (.ret .none)) {s with heap:=h',toks:=tk}) (hn:items.size≤sizeLine) :
  wpAny (model prog w) A.in1 (Builtin.«list.__init__» ⟨[.ref S,.ref r],[]⟩)
   (fun fin s'=>match fin with | .done f=>R (.ok f) s' | .again c'=>c'.quiet=true∧codeAny (model prog w) A c' R s') (fun e s'=>R (.error e) s') s:=by
 show wpAny _ _ (do let old ←Builtin.List.listItems (.ref S);Builtin.List.listUpdate (.ref S) (fun _=>#[]);letGo old.toList.reverse;Builtin.List.listExtendWith (.ref S) (.ref r) .none) _ _ s
 refine AA ?_
 unfold Builtin.List.listItems
 refine AA (CT hS rfl (AD ?_))
 show wpAny _ _ (updateSeq S (fun _=>#[])>>=fun _=>letGo (#[]:Array Value).toList.reverse>>=fun _=>Builtin.List.listExtendWith (.ref S) (.ref r) .none) _ _ s
 refine AA (GK hS rfl ?_)
 have hS₂:=CZ (Obj.mapSeq (fun _=>(#[]:Array Value))) hS rfl
 have oth:∀b o,b≠S→s.heap.get? b=some o→(s.heap.update S (Obj.mapSeq (fun _=>(#[]:Array Value)))).get? b=some o :=
  fun b o hb e=>(FN _ _ (Ne.symm hb)).trans e
 refine AA (HK ?_)
 refine F3 hh S hSr hSl hlr .none _ (hit.at fun o e=>oth r o (Ne.symm hSr) e) (hl.at fun o e=>oth l o (Ne.symm hSl) e) hS₂ (fun h' tk acc' c' hk hS' hacc=>?_) hn
 exact hR h' tk acc' c' (fun b o hb hbr e=>hk b o hb hbr (oth b o hb e)) hS' hacc
theorem Nj {Q:Value→Shared→Prop} {items:Array Value} (hh:A.handled=none) (hlr:l≠r) (hit:s.heap.IsRevIter r l ((items.size:Int)-1)) (hl:s.heap.IsList l items) (hn:items.size≤sizeLine)
  (hQ:∀h' tk acc' c',(∀b o,b≠r→s.heap.get? b=some o→h'.get? b=some o)→h'.get? s.heap.objs.size=some {cls:=.type "list",dict:=none,data:=.seq acc' c',slots:=#[]}→ItemsOf (fun i v=>items[items.size-1-i]? = some v) acc' items.size→Q (.ref s.heap.objs.size) {s with heap:=h',toks:=tk}) :
  wpAny (model prog w) A (call (.type "list") [.ref r]) Q E s:=by
 refine callType_codes (Q₁:=fun obj s₁=>obj=.ref s.heap.objs.size∧s₁={s with heap:=s.heap.push {cls:=.type "list",data:=.seq #[]}}) PySem.F.called_list (PySem.F.typeCall_list_1 _) PySem.F.entry_list_init
  (code_list_new _ ⟨rfl,rfl⟩) fun obj s₁ h₁=>?_
 obtain⟨rfl,rfl⟩:=h₁
 have hS:(s.heap.push {cls:=.type "list",data:=.seq #[]}).get? s.heap.objs.size=some {cls:=.type "list",data:=.seq #[]}:=AF _ rfl
 have hr:r<s.heap.objs.size:=by obtain⟨o,e,_⟩:=hit;exact AI e
 have hl':l<s.heap.objs.size:=by obtain⟨o,e,_⟩:=hl;exact AI e
 refine⟨⟨_,hS,rfl⟩,PySem.F.args_list_init_2 _ _,Ni (A:=A.in1) hh _ (CF hr) (CF hl') hlr (hit.at fun o e=>AB _ e) (hl.at fun o e=>AB _ e) hS (fun h' tk acc' c' hk hS' hacc=>?_) hn⟩
 exact⟨rfl,hQ h' tk acc' c' (fun b o hb e=>hk b o (AN (AI e)) hb (AB _ e)) hS' hacc⟩
end
theorem F4 {its:List Value} {acc:Array Value} (h:ItemsOf (fun i v=>its.toArray[its.toArray.size-1-i]? = some v) acc its.toArray.size):acc.toList=its.reverse:=by
 obtain⟨h1,h2⟩:=h
 simp only[AE]at h1 h2
 refine BU fun i=>?_
 by_cases hi:i<its.length
 ·have e:acc[i]? = some (acc[i]'(by lia)):=CO (by lia)
  have q:=h2 i _ e
  rw[Da,e,←q,FX,List.getElem?_reverse hi]
 ·rw[Da,AV (by simpa using hi),FS (by lia)]
section
variable {X : Cx} {φ : Phi} {a : Expr} {xa : Ex} {p p2 pos pos2 : Pos} {m : Mk}
theorem F5 (hml:X.mg "list"=none) (hmr:X.mg "reversed"=none) (ha:PE X a (tE X.K φ xa)) (hgl:Gl X "list":=by rfl) (hgr:Gl X "reversed":=by rfl) (hc:X.calm=true:=by rfl)
  (hs:starEach [a] X.env=[(false,eval a X.env)]:=by rfl) (hs2:starEach [.Call (.Name "reversed" p2) [a] [] pos2] X.env=[(false,eval (.Call (.Name "reversed" p2) [a] [] pos2) X.env)]:=by rfl) :
  PE X (.Call (.Name "list" p) [.Call (.Name "reversed" p2) [a] [] pos2] [] pos) (tE X.K φ (.blt .listRev m (.cons xa .nil))):=by
 refine PE.imp (t:=fun σ H Q=>tE X.K φ xa σ H fun v H1=>∃l ys,v=.ref l∧LsL X.K H1 l ys∧∀q,H1 q=none→FQ Q (.ref q) (upd H1 q (.lst ys.reverse))) ?_ fun σv H Q ⟨ι,σ,μ,hS,hL,h⟩=>?_
 ·intro pins s σ H Q I h
  refine Do (ny I hgl hml PyProof.Rows.boot_list ?_ (by decide) (by decide))
  refine BZ ?_ hs2 rfl
  rw[hs2]
  refine Db ?_
  refine Do (ny I hgr hmr PyProof.Rows.boot_reversed ?_ (by decide) (by decide))
  refine BZ ?_ hs rfl
  rw[hs]
  refine Db (thn (ha pins s σ H _ I h) fun u s1 ⟨v,H1,I1,r1,l,ys,ev,hls,q⟩=>DU ?_)
  subst ev
  cases(show u=Value.ref l from r1)
  obtain⟨hz,its,n,rv,hlen,hget⟩:=I1.ls hls
  have hlist:s1.heap.IsList l its.toArray:=⟨_,hget,rfl,n,rfl⟩
  refine call_reversed_list hlist ?_
  refine DU ?_
  have hl1:l<s1.heap.objs.size:=AI hget
  refine B6 (Nj (l:=l) (r:=s1.heap.objs.size) (items:=its.toArray) (I1.ok.hd hc) (AN hl1) ⟨_,AF _ rfl,rfl,rfl⟩ (hlist.at fun o e=>AB _ e) (by rw[AE];lia) fun h' tk acc c hk hD hacc=>?_)
  have hsz:(s1.heap.push (revObj l ((its.toArray.size:Int)-1))).objs.size=s1.heap.objs.size+1:=CS _ _
  have ea:=F4 hacc
  have hf:H1 (s1.heap.objs.size+1)=none:=I1.hok.fresh (ED _)
  refine⟨.ref (s1.heap.objs.size+1),upd H1 (s1.heap.objs.size+1) (.lst ys.reverse),I1.laid (t':=tk) (fun b o e=>hk b o (AN (AI e)) (AB _ e)) (ED _) ?_,?_,q _ hf⟩
  ·refine⟨by rw[List.length_reverse];exact hz,its.reverse,c,rv.reverse,?_⟩
   rw[hsz]at hD
   rw[hD,←ea,IS]
  ·show Value.ref _=Value.ref _
   rw[hsz]
 ·simp only[evE,i7]at h
  rw[Res.bind_assoc]at h
  obtain⟨d,μ1,e1,h⟩:=h.bind
  refine⟨ι,σ,μ,hS,hL,?_⟩
  rw[e1]
  intro ι1 v H1 p1 x1 s1 d1
  have h:=h.mono p1 x1
  simp only[Res.bw,btD,j5,vz]at h
  split at h
  ·rename_i xs ex
   obtain⟨l,ys,ev,hls,hys⟩:=lb s1 d1 ex
   exact⟨l,ys,ev,hls,fun q hq=>mm s1 hys.reverse h hq⟩
  ·exact h.elim
end
end Lp
namespace Lp
open PySem PySem.Spec PyProof.Rows L2
section
variable {X : Cx} {φ : Phi} {o e : Expr} {es : List Expr} {xo : Ex} {xs : Exs} {apos cpos : Pos} {T id : String} {name : Str} {mt : Mt}
theorem Nk (hT:∀(ι:List Addr) (H:Hp) (μ:Sto) (d:D) (x:V),Sim X.K ι H μ→IsD X.K ι H d x→jr mt d μ=true→tyV X.K T x H) (h:PE X e (Vv X.K T (rMt X.K mt) (tE X.K φ xo))):PE X e (tE X.K φ (.meth mt xo .nil)) :=
 PE.imp h fun σv H Q ⟨ι,σ,μ,hS,hL,h⟩=>by
  simp only[evE,i7]at h
  obtain⟨d,μ1,e1,h⟩:=h.bind
  refine⟨ι,σ,μ,hS,hL,?_⟩
  rw[e1]
  intro ι1 x H1 p1 x1 s1 d1
  split at h
  ·rename_i hm
   exact⟨hT ι1 H1 μ1 d x s1 d1 hm,ι1,d,[],μ1,s1,d1,by simp[aq],h.mono p1 x1⟩
  ·exact h.elim
theorem Lh (hT:∀(ι:List Addr) (H:Hp) (μ:Sto) (d:D) (x:V),Sim X.K ι H μ→IsD X.K ι H d x→jr mt d μ=true→tyV X.K T x H) (h:PE X e (tBM X.K T (rMt X.K mt) (tE X.K φ xo) (tEs X.K φ xs))):PE X e (tE X.K φ (.meth mt xo xs)) :=
 PE.imp h fun σv H Q ⟨ι,σ,μ,hS,hL,h⟩=>by
  simp only[evE]at h
  obtain⟨d,μ1,e1,h⟩:=h.bind
  refine⟨ι,σ,μ,hS,hL,?_⟩
  rw[e1]
  intro ι1 x H1 p1 x1 s1 d1
  split at h
  ·rename_i hm
   refine⟨hT ι1 H1 μ1 d x s1 d1 hm,ι1,σ,μ1,s1,hL.mono p1 x1,?_⟩
   obtain⟨ds,μ2,e2,h⟩:=h.bind
   rw[e2]
   exact fun ι2 vs H2 p2 x2 s2 d2=>⟨ι2,d,ds,μ2,s2,IsD.mono p2 x2 _ _ d1,d2,h.mono (p1.trans p2) (x1.trans x2)⟩
  ·exact h.elim
theorem qh (hmt:∀d μ,jr mt d μ=(listOf μ d).isSome) (ι:List Addr) (H:Hp) (μ:Sto) (d:D) (x:V) (hS:Sim X.K ι H μ) (hd:IsD X.K ι H d x) (hm:jr mt d μ=true):tyV X.K "list" x H:=by
 rw[hmt]at hm
 obtain⟨ds,e⟩:=DX.mp hm
 obtain⟨a,xs,rfl,hls,_⟩:=lb hS hd e
 exact .inl ⟨rfl,_,hls.sq⟩
theorem Jm (ho:PE X o (tE X.K φ xo)) (hbase:attributeBase o "pop" X.env (eval o X.env)=eval o X.env:=by rfl) (hline:(apos.endLine==cpos.line)=true:=by rfl):PE X (.Call (.Attribute o "pop" apos) [] [] cpos) (tE X.K φ (.meth .pop xo .nil)) :=
 Nk (qh fun _ _=>rfl) (Pz HL IG F.type_list_pop T9 ho hbase hline)
theorem oj (ho:PE X o (tE X.K φ xo)) (ha:PA X (e::es) (tEs X.K φ xs)) (hbase:attributeBase o "append" X.env (eval o X.env)=eval o X.env:=by rfl)
  (hfew:((backTo cpos (starEach (e::es) X.env)).all (fun x=>!x.1)&&(backToKw cpos (keywordEach [] X.env)).all (fun x=>x.1.isSome)&&decide ((e::es).length+([]:List Keyword).length+(if([]:List Keyword).isEmpty then 0 else 1)<30))=true:=by rfl)
  (hline:(apos.endLine==cpos.line)=true:=by rfl) (hs:starEach (e::es) X.env=(false,eval e X.env)::starEach es X.env:=by rfl) (hplain:(backTo cpos (starEach es X.env)).any (·.1)=false:=by rfl):PE X (.Call (.Attribute o "append" apos) (e::es) [] cpos) (tE X.K φ (.meth .append xo xs)) :=
 Lh (qh fun _ _=>rfl) (P0 HL F.slot_list_append F.type_list_append Ji ho ha hbase hfew hline hs hplain)
theorem F6 {a:Expr} {xa:Ex} {p p2 pos pos2:Pos} {m:Mk} (hml:X.mg "list"=none) (hmr:X.mg "reversed"=none) (ha:PE X a (tE X.K φ xa)) (hgl:Gl X "list":=by rfl) (hgr:Gl X "reversed":=by rfl) (hc:X.calm=true:=by rfl)
  (hs:starEach [a] X.env=[(false,eval a X.env)]:=by rfl) (hs2:starEach [.Call (.Name "reversed" p2) [a] [] pos2] X.env=[(false,eval (.Call (.Name "reversed" p2) [a] [] pos2) X.env)]:=by rfl) :
  PE X (.Call (.Name "list" p) [.Call (.Name "reversed" p2) [a] [] pos2] [] pos) (tE X.K φ (.blt .listRev m (.cons xa .nil))):=F5 hml hmr ha hgl hgr hc hs hs2
end
end Lp
namespace Lp
open PySem PySem.Spec PyProof.Rows L2
section
variable {X : Cx} {φ : Phi} {a : Expr} {xa : Ex} {p p2 pos pos2 : Pos} {m : Mk}
theorem Q0 (hu:X.A.units+64<cLine):Ry X (Vz X.K):=by
 intro pins s σ H o i v ov iv u Q I ro ri rv ⟨ι,a,b,d,μ,hS,ha,hb,hd,h⟩
 cases a with
 | loc n =>
  simp only[Ds]at h
  cases em:μ[n]? with
  | none=>rw[em]at h;exact h.elim
  | some ob =>
   rw[em]at h
   obtain⟨q,rfl,hq⟩:∃q,o=.ref q∧ι[n]? = some q:=by simpa[IsD]using ha
   obtain⟨q',eq',hob⟩:=hS.at em
   rw[hq]at eq';cases eq'
   have lst:∀(ob:O) (xs:List D),ma ob=some xs→μ[n]? = some ob→OIs X.K ι H q ob→h9 X.K (fun _ _ _ (_:Unit)=>True) ι H (match some xs,b with
     | some xs,.int i=>match ixN xs.length i with
      | some j=>if fits ob d=true then(putL n ob (xs.set j d) .non μ).bind fun _ μ=>.ok () μ else .stuck
      | none=>.stuck
     | _,_=>.stuck) (fun _ H'=>Q H')→wpAny (model X.prog X.w) X.A (setItem ov iv u) (fun _ s'=>∃H',Inv X pins σ H' s'∧Q H') X.xe s:=by
    intro ob xs ei em ho h
    cases b with
    | int k =>
     simp only at h
     split at h
     ·rename_i j ej
      split at h
      ·rename_i hf
       obtain⟨a',vs,ea,hι,hH,h1,h2⟩:=Ld hS ha em ei
       cases ea
       cases fh hb
       refine set_list pins s σ H _ _ v ov iv u Q I ro ri rv ⟨_,vs,k,j,rfl,rfl,hH,by rw[h1.length];exact ej,?_⟩
       have h':h9 X.K (RD X.K) ι H (putL n ob (xs.set j d) .non μ) fun _ H'=>Q H':=by
        cases ob with
        | l _=>exact fun ι' v' H' p e s' _=>h ι' () H' p e s' trivial
        | r _=>exact fun ι' v' H' p e s' _=>h ι' () H' p e s' trivial
        | d _=>exact h.elim
        | dt _=>exact h.elim
        | dead=>exact h.elim
       exact o5 (v:=.non) hS hι hH (h1.set hd j) (fun es e=>(h2 es e).set (za hf hd es e) j) (by simp[IsD]) h'
      ·exact h.elim
     ·exact h.elim
    | _=>exact h.elim
   cases ob with
   | l xs=>exact lst (.l xs) xs rfl em hob h
   | r xs=>exact lst (.r xs) xs rfl em hob h
   | d kvs =>
    simp only at h
    split at h
    ·rename_i hc
     obtain⟨hk,hv,hl⟩:=hc
     obtain⟨xs,hH,hkv⟩:=hob
     obtain⟨k,rfl,rfl⟩:=Fs hk hb
     cases(show ov=Value.ref q from ro)
     have hlen:xs.length=kvs.length:=(DO hkv).symm
     refine Fd (by lia) I (R0.k (k:=k) (v:=v) hH (by rw[hlen,←j6];exact hl)) ri rv fun s' I'=>⟨_,I',?_⟩
     exact h ι () _ (AM _) (.dK hH) (hS.put hq (.dK hH) ⟨_,bg,Paired.mapP (Ca (IsD.pur hv hd) hkv) fun p r z=>⟨IsD.mono (AM _) (.dK hH) _ _ z.1,IsD.mono (AM _) (.dK hH) _ _ z.2⟩⟩) trivial
    ·exact h.elim
   | dt kvs=>simp only[ma]at h;exact h.elim
   | dead=>simp only[ma]at h;exact h.elim
 | _=>exact h.elim
theorem zf (hu:X.A.units+64<cLine) {o i e:Expr} {xo xi x:Ex} {tp:Pos} (ho:PE X o (tE X.K φ xo)) (hi:PE X i (tE X.K φ xi)) (he:PE X e (tE X.K φ x))
  (ha:∀v,assign (.Subscript o i tp) X.env v=(do
   let ov ←holding [v] (eval o X.env)
   let iv ←holding [v,ov] (eval i X.env)
   standAt tp
   holding [v,ov,iv] (setItem ov iv v)
   release [v,ov,iv] []):=by intro _;rfl) (hs:swapsWithSole [.Subscript o i tp] e pos.line X.env=pure false:=by rfl) (hw:swappedStores [.Subscript o i tp] e X.env=pure none:=by rfl)
  (h1:(assignEach [.Subscript o i tp] X.env).map (·.2)=[assign (.Subscript o i tp) X.env]:=by rfl):PS X (.Assign [.Subscript o i tp] e pos) (tS X.K φ (.setx xo xi x)):=Qj (Q0 hu) ho hi he ha hs hw h1
end
end Lp
namespace Lp
open PySem PySem.Spec PyProof.Rows L2
noncomputable def SI (b:Bool) (h:Heap) (it l:Addr) (i:Nat):Prop:=match b with
 | true=>h.IsListIter it l i
 | false=>h.IsTupleIter it l i
noncomputable def SQ (b:Bool) (h:Heap) (l:Addr) (xs:Array Value):Prop:=match b with
 | true=>h.IsList l xs
 | false=>h.IsTuple l xs
noncomputable def Q1:Bool→String
 | true=>"list_iterator"
 | false=>"tuple_iterator"
theorem SI.keep {b:Bool} {h h':Heap} {it l:Addr} {i:Nat} (x:SI b h it l i) (e:∀o,h.get? it=some o→h'.get? it=some o):SI b h' it l i:=by
 cases b
 ·exact Heap.IsTupleIter.at x e
 ·exact Heap.IsListIter.at x e
theorem SI.but {b:Bool} {h h':Heap} {it l c:Addr} {i:Nat} (x:SI b h it l i) (e:Heap.ExtBut c h h') (n:it≠c):SI b h' it l i:=x.keep fun o q=>e it o n q
theorem SI.obj {b:Bool} {h:Heap} {it l:Addr} {i:Nat} (x:SI b h it l i):∃o,h.get? it=some o∧o.cls=.type (Q1 b)∧o.data=.fields #[.ref l,.int i 0]:=by
 cases b<;>exact x
theorem SQ.but {b:Bool} {h h':Heap} {l c:Addr} {xs:Array Value} (x:SQ b h l xs) (e:Heap.ExtBut c h h') (n:l≠c):SQ b h' l xs:=by
 cases b
 ·exact Heap.IsTuple.at x fun o q=>e l o n q
 ·exact Heap.IsList.at x fun o q=>e l o n q
theorem SQ.lt {b:Bool} {h:Heap} {l:Addr} {xs:Array Value} (x:SQ b h l xs):l<h.objs.size:=by
 cases b
 ·obtain⟨o,e,_⟩:=x;exact AI e
 ·obtain⟨o,e,_⟩:=x;exact AI e
theorem SQ.push {b:Bool} {h:Heap} {l:Addr} {xs:Array Value} (x:SQ b h l xs) (o:Obj):SQ b (h.push o) l xs:=by
 cases b
 ·exact Heap.IsTuple.push x o
 ·exact Heap.IsList.push x o
section
variable {prog : Program} {w : World} {A : Around} {E : Value → Shared → Prop} {s : Shared}
theorem A5 {b:Bool} {l:Addr} {xs:Array Value} {Q:Value→Shared→Prop} (x:SQ b s.heap l xs) (hQ:Q (.ref s.heap.objs.size) {s with heap:=s.heap.push {cls:=.type (Q1 b),data:=.fields #[.ref l,.int 0 0]}}) :
  wpAny (model prog w) A (pyIter (.ref l)) Q E s:=by
 cases b
 ·exact DR x hQ
 ·exact HJ x hQ
theorem wj {b:Bool} {it l:Addr} {i:Nat} {xs:Array Value} {x:Value} {Q:Value→Shared→Prop} (hit:SI b s.heap it l i) (hl:SQ b s.heap l xs) (hx:xs[i]? = some x)
  (hQ:∀h',SI b h' it l (i+1)→Heap.SameBut it s.heap h'→Q x {s with heap:=h'}):wpAny (model prog w) A (Builtin.SmallTypes.nextOf (.ref it)) Q E s:=by
 cases b
 ·obtain⟨o,ho,hc,hd⟩:=hit.obj
  obtain⟨ol,hol,_,nl,hdl⟩:=hl
  have ht:s.TypeIs (.ref it) "tuple_iterator":=⟨o,ho,hc⟩
  unfold Builtin.SmallTypes.nextOf
  refine AA (BF (name:=Str.ofString "__next__") ht DS (BK DS ht GR ?_ (GM _)))
  show wpAny _ _ (field (.ref it) 0>>=_) _ _ s
  refine AA (BW ho hd (x:=.ref l) rfl ?_)
  show wpAny _ _ (if(Value.ref l==Value.none)=true then _ else _) _ _ s
  rw[if_neg (show ¬((Value.ref l==Value.none)=true)from AU)]
  show wpAny _ _ (field (.ref it) 1>>=_) _ _ s
  refine AA (BW ho hd (x:=.int i 0) rfl ?_)
  show wpAny _ _ (seqItems? (.ref l)>>=_) _ _ s
  refine AA (CT hol hdl ?_)
  simp only[CB,hx]
  refine AA (wpAny_setField ho hd (by simp) (AD ⟨x,rfl,AD (hQ _ ?_ (EW ..))⟩))
  exact⟨_,CZ _ ho (Obj.isFreed_of_fields (Obj.data_mapFields hd _)),(Obj.cls_mapFields ..).trans hc,by rw[Obj.data_mapFields hd];simp[rawInt]⟩
 ·exact wpAny_nextOf_list_item hit hl hx hQ
theorem F7 {b:Bool} {it l:Addr} {i:Nat} {xs:Array Value} {Q:Value→Shared→Prop} (hh:A.handled=none) (hit:SI b s.heap it l i) (hl:SQ b s.heap l xs) (hx:xs[i]? = none)
  (hE:∀h' e,Heap.ExtBut it s.heap h'→(∃o,h'.get? e=some o∧o.cls=.type "StopIteration")→E (.ref e) {s with heap:=h'}):wpAny (model prog w) A (Builtin.SmallTypes.nextOf (.ref it)) Q E s:=by
 cases b
 ·obtain⟨o,ho,hc,hd⟩:=hit.obj
  obtain⟨ol,hol,_,nl,hdl⟩:=hl
  have ht:s.TypeIs (.ref it) "tuple_iterator":=⟨o,ho,hc⟩
  unfold Builtin.SmallTypes.nextOf
  refine AA (BF (name:=Str.ofString "__next__") ht DS (BK DS ht GR ?_ (GM _)))
  show wpAny _ _ (field (.ref it) 0>>=_) _ _ s
  refine AA (BW ho hd (x:=.ref l) rfl ?_)
  show wpAny _ _ (if(Value.ref l==Value.none)=true then _ else _) _ _ s
  rw[if_neg (show ¬((Value.ref l==Value.none)=true)from AU)]
  show wpAny _ _ (field (.ref it) 1>>=_) _ _ s
  refine AA (BW ho hd (x:=.int i 0) rfl ?_)
  show wpAny _ _ (seqItems? (.ref l)>>=_) _ _ s
  refine AA (CT hol hdl ?_)
  simp only[CB,hx]
  refine AA (FF (AA (wpAny_setField ho hd (by simp) ?_)))
  show wpAny _ _ (newExc (.type "StopIteration") []>>=_) _ _ _
  refine AA ?_
  simp only[newExc,newTuple]
  refine AA (BO ?_ (by size_fits))
  refine AA (m:=firstArgMember _ _) (HM (a:=Value.none) (by first | rfl | (simp only[firstArgMember];rfl)) ?_)
  refine BO ?_ (by size_fits)
  simp only[raiseNew]
  refine AA (wpAny_handled ?_)
  first | rw[show A.in1.handled=none from hh] | rw[hh]
  refine AA (AD (wpAny_throw ?_))
  exact hE _ _ (((EW ..).extBut.push _).push _) ⟨_,AF _ rfl,rfl⟩
 ·exact wpAny_nextOf_list_end hh hit hl hx hE
variable {b1 b2 : Bool} {z TI TO i1 i2 l1 l2 : Addr} {k1 k2 : Nat} {xs ys : Array Value} {x y a b : Value}
theorem Nl {Q:Option Value→Shared→Prop} (D:ZipApart z TI TO i1 i2 l1 l2)
  (hz:IsZip s.heap z TI TO .none) (hTI:IsPair s.heap TI (.ref i1) (.ref i2)) (hTO:IsPair s.heap TO a b)
  (h1:SI b1 s.heap i1 l1 k1) (h2:SI b2 s.heap i2 l2 k2) (hl1:SQ b1 s.heap l1 xs) (hl2:SQ b2 s.heap l2 ys) (hx:xs[k1]? = some x) (hy:ys[k2]? = some y)
  (hQ:∀h',IsZip h' z TI TO (rawInt s.heap.objs.size)→IsPair h' TO x y→SI b1 h' i1 l1 (k1+1)→SI b2 h' i2 l2 (k2+1)→IsPair h' s.heap.objs.size x y →
   (∀c o,c≠z→c≠TO→c≠i1→c≠i2→s.heap.get? c=some o→h'.get? c=some o)→Q (some (.ref s.heap.objs.size)) {s with heap:=h'}) :
  wpAny (model prog w) A (pyNext (.ref z)) Q E s:=by
 have hT:s.TypeIs (.ref z) "zip":=⟨_,hz,rfl⟩
 unfold pyNext
 refine AA (DY (BF (name:=Str.ofString "__next__") hT GN (BK GN hT F.entry_zip_next ?_ (F.args_zip_next_1 _))))
 show wpAny _ _ (field (.ref z) 2>>=_) _ _ _
 refine AA (BW hz rfl (x:=.bool false) rfl ?_)
 show wpAny _ _ (field (.ref z) 3>>=_) _ _ _
 refine AA (BW hz rfl (x:=.ref TI) rfl ?_)
 refine AA (CT hTI rfl ?_)
 show wpAny _ _ (Builtin.SmallTypes.ownedTupleIsFree (.ref z)>>=_) _ _ _
 refine AA ?_
 unfold Builtin.SmallTypes.ownedTupleIsFree
 refine AA (BW hz rfl (x:=.none) rfl (AD ?_))
 simp only[if_true]
 refine AA (FF ?_)
 refine AA (BW hz rfl (x:=.ref TO) rfl ?_)
 refine AA (BB hz (by simp) fun h₁ hz₁ hs₁=>?_)
 replace hz₁:IsZip h₁ z TI TO .ellipsis:=hz₁
 refine AA ?_
 simp only[List.zipIdx_cons,List.zipIdx_nil,FC,List.forIn_nil]
 refine AA (AA (HS ?_))
 show wpAny _ _ (Builtin.SmallTypes.nextOf (.ref i1)>>=_) _ _ _
 refine AA (wj (h1.but hs₁.extBut D.i1z) (hl1.but hs₁.extBut D.l1z) hx fun h₂ h1₂ hs₂=>AD ?_)
 have hTO₂:IsPair h₂ TO a b:=hs₂.extBut _ _ D.TOi1 (hs₁.extBut _ _ D.TOz hTO)
 refine AA (CT hTO₂ rfl ?_)
 refine AA (GF hTO₂ fun h₃ hTO₃ hs₃=>?_)
 replace hTO₃:IsPair h₃ TO x b:=hTO₃
 refine AA (HK (AD ?_))
 refine AA (AA (HS ?_))
 show wpAny _ _ (Builtin.SmallTypes.nextOf (.ref i2)>>=_) _ _ _
 refine AA (wj (((h2.but hs₁.extBut D.i2z).but hs₂.extBut D.i12.symm).but hs₃.extBut D.TOi2.symm) (((hl2.but hs₁.extBut D.l2z).but hs₂.extBut D.l2i1).but hs₃.extBut D.l2TO) hy fun h₄ h2₄ hs₄=>AD ?_)
 have hTO₄:IsPair h₄ TO x b:=hs₄.extBut _ _ D.TOi2 hTO₃
 refine AA (CT hTO₄ rfl ?_)
 refine AA (GF hTO₄ fun h₅ hTO₅ hs₅=>?_)
 replace hTO₅:IsPair h₅ TO x y:=hTO₅
 refine AA (HK (AD (AD ?_)))
 refine AA (CT hTO₅ rfl ?_)
 refine AA (GW ?_)
 have hsz:h₅.objs.size=s.heap.objs.size:=by rw[hs₅.1,hs₄.1,hs₃.1,hs₂.1,hs₁.1]
 have hz₅:IsZip h₅ z TI TO .ellipsis:=hs₅.extBut _ _ D.TOz.symm (hs₄.extBut _ _ D.i2z.symm (hs₃.extBut _ _ D.TOz.symm (hs₂.extBut _ _ D.i1z.symm hz₁)))
 have hk₅:∀c o,c≠z→c≠TO→c≠i1→c≠i2→s.heap.get? c=some o→h₅.get? c=some o:=fun c o c1 c2 c3 c4 e=>hs₅.extBut _ _ c2 (hs₄.extBut _ _ c4 (hs₃.extBut _ _ c2 (hs₂.extBut _ _ c3 (hs₁.extBut _ _ c1 e))))
 have h1₅:SI b1 h₅ i1 l1 (k1+1):=((h1₂.but hs₃.extBut D.TOi1.symm).but hs₄.extBut D.i12).but hs₅.extBut D.TOi1.symm
 have h2₅:SI b2 h₅ i2 l2 (k2+1):=h2₄.but hs₅.extBut D.TOi2.symm
 have hzlt:z<h₅.objs.size:=AI hz₅
 show wpAny _ _ (Builtin.SmallTypes.ownedTupleHandOut (.ref z) (.ref h₅.objs.size)>>=_) _ _ _
 refine AA ?_
 unfold Builtin.SmallTypes.ownedTupleHandOut
 have hz₆:IsZip (h₅.push {cls:=.type "tuple",data:=.seq #[x,y]}) z TI TO .ellipsis:=AB _ hz₅
 refine AA (BB hz₆ (by simp) fun h₇ hz₇ hs₇=>?_)
 replace hz₇:IsZip h₇ z TI TO (rawInt h₅.objs.size):=hz₇
 refine BB hz₇ (by simp) fun h₈ hz₈ hs₈=>?_
 replace hz₈:IsZip h₈ z TI TO (rawInt h₅.objs.size):=hz₈
 have up:∀c o,c≠z→h₅.get? c=some o→h₈.get? c=some o:=fun c o c1 e=>hs₈.extBut _ _ c1 (hs₇.extBut _ _ c1 (AB _ e))
 have hT₈:IsPair h₈ h₅.objs.size x y:=hs₈.extBut _ _ (CF hzlt) (hs₇.extBut _ _ (CF hzlt) (AF _ rfl))
 rw[hsz]at hz₈ hT₈
 refine AD ⟨_,rfl,?_⟩
 show wpAny _ _ (pure (some (Value.ref h₅.objs.size))) _ _ _
 rw[hsz]
 exact AD (hQ h₈ hz₈ (up _ _ D.TOz hTO₅) (h1₅.keep fun o e=>up _ o D.i1z e) (h2₅.keep fun o e=>up _ o D.i2z e) hT₈ fun c o c1 c2 c3 c4 e=>up c o c1 (hk₅ c o c1 c2 c3 c4 e))
theorem Nm {Q:Fin→Shared→Prop} (hh:A.handled=none) (D:ZipApart z TI TO i1 i2 l1 l2)
  (hz:IsZip s.heap z TI TO .none) (hTI:IsPair s.heap TI (.ref i1) (.ref i2)) (hTO:IsPair s.heap TO a b)
  (h1:SI b1 s.heap i1 l1 k1) (h2:SI b2 s.heap i2 l2 k2) (hl1:SQ b1 s.heap l1 xs) (hl2:SQ b2 s.heap l2 ys) (hend:xs[k1]? = none∨ys[k2]? = none)
  (hE:∀h' e,(∀c o,c≠z→c≠TO→c≠i1→c≠i2→s.heap.get? c=some o→h'.get? c=some o)→(∃o,h'.get? e=some o∧o.cls=.type "StopIteration")→E (.ref e) {s with heap:=h'}) :
  wpAny (model prog w) A (Builtin.«zip.__next__» ⟨[.ref z],[]⟩) Q E s:=by
 show wpAny _ _ (field (.ref z) 2>>=_) _ _ _
 refine AA (BW hz rfl (x:=.bool false) rfl ?_)
 show wpAny _ _ (field (.ref z) 3>>=_) _ _ _
 refine AA (BW hz rfl (x:=.ref TI) rfl ?_)
 refine AA (CT hTI rfl ?_)
 show wpAny _ _ (Builtin.SmallTypes.ownedTupleIsFree (.ref z)>>=_) _ _ _
 refine AA ?_
 unfold Builtin.SmallTypes.ownedTupleIsFree
 refine AA (BW hz rfl (x:=.none) rfl (AD ?_))
 simp only[if_true]
 refine AA (FF ?_)
 refine AA (BW hz rfl (x:=.ref TO) rfl ?_)
 refine AA (BB hz (by simp) fun h₁ hz₁ hs₁=>?_)
 replace hz₁:IsZip h₁ z TI TO .ellipsis:=hz₁
 refine AA ?_
 simp only[List.zipIdx_cons,List.zipIdx_nil,FC,List.forIn_nil]
 refine AA (AA (HS ?_))
 show wpAny _ _ (Builtin.SmallTypes.nextOf (.ref i1)>>=_) _ _ _
 cases hx:xs[k1]? with
 | none =>
  refine AA (F7 hh (h1.but hs₁.extBut D.i1z) (hl1.but hs₁.extBut D.l1z) hx fun h₂ e hs₂ ⟨oe,hoe,hce⟩=>?_)
  have hz₂:IsZip h₂ z TI TO .ellipsis:=hs₂ _ _ D.i1z.symm hz₁
  have hez:e≠z:=fun x=>by subst x;rw[hz₂]at hoe;cases hoe;simp at hce
  exact BB hz₂ (by simp) fun h₃ _ hs₃=>hE h₃ e (fun c o c1 _ c3 _ x=>hs₃.extBut _ _ c1 (hs₂ _ _ c3 (hs₁.extBut _ _ c1 x))) ⟨oe,hs₃.extBut _ _ hez hoe,hce⟩
 | some x =>
  have hy:ys[k2]? = none:=by rcases hend with h | h;rw[hx]at h;cases h;exact h
  refine AA (wj (h1.but hs₁.extBut D.i1z) (hl1.but hs₁.extBut D.l1z) hx fun h₂ h1₂ hs₂=>AD ?_)
  have hTO₂:IsPair h₂ TO a b:=hs₂.extBut _ _ D.TOi1 (hs₁.extBut _ _ D.TOz hTO)
  refine AA (CT hTO₂ rfl ?_)
  refine AA (GF hTO₂ fun h₃ hTO₃ hs₃=>?_)
  refine AA (HK (AD ?_))
  refine AA (AA (HS ?_))
  show wpAny _ _ (Builtin.SmallTypes.nextOf (.ref i2)>>=_) _ _ _
  refine AA (F7 hh (((h2.but hs₁.extBut D.i2z).but hs₂.extBut D.i12.symm).but hs₃.extBut D.TOi2.symm) (((hl2.but hs₁.extBut D.l2z).but hs₂.extBut D.l2i1).but hs₃.extBut D.l2TO) hy fun h₄ e hs₄ ⟨oe,hoe,hce⟩=>?_)
  have hz₄:IsZip h₄ z TI TO .ellipsis:=hs₄ _ _ D.i2z.symm (hs₃.extBut _ _ D.TOz.symm (hs₂.extBut _ _ D.i1z.symm hz₁))
  have hez:e≠z:=fun x=>by subst x;rw[hz₄]at hoe;cases hoe;simp at hce
  exact BB hz₄ (by simp) fun h₅ _ hs₅=>hE h₅ e (fun c o c1 c2 c3 c4 x=>hs₅.extBut _ _ c1 (hs₄ _ _ c4 (hs₃.extBut _ _ c2 (hs₂.extBut _ _ c3 (hs₁.extBut _ _ c1 x))))) ⟨oe,hs₅.extBut _ _ hez hoe,hce⟩
theorem Q2 {Q:Option Value→Shared→Prop} (hh:A.handled=none) (D:ZipApart z TI TO i1 i2 l1 l2)
  (hz:IsZip s.heap z TI TO .none) (hTI:IsPair s.heap TI (.ref i1) (.ref i2)) (hTO:IsPair s.heap TO a b)
  (h1:SI b1 s.heap i1 l1 k1) (h2:SI b2 s.heap i2 l2 k2) (hl1:SQ b1 s.heap l1 xs) (hl2:SQ b2 s.heap l2 ys) (hend:xs[k1]? = none∨ys[k2]? = none)
  (hQ:∀h',(∀c o,c≠z→c≠TO→c≠i1→c≠i2→s.heap.get? c=some o→h'.get? c=some o)→Q none {s with heap:=h'}):wpAny (model prog w) A (pyNext (.ref z)) Q E s:=by
 have hT:s.TypeIs (.ref z) "zip":=⟨_,hz,rfl⟩
 unfold pyNext
 refine AA (DY (BF (name:=Str.ofString "__next__") hT GN
  (BK GN hT F.entry_zip_next (Nm hh D hz hTI hTO h1 h2 hl1 hl2 hend fun h' e hk he=>?_) (F.args_zip_next_1 _))))
 obtain⟨o,ho,hc⟩:=he
 exact AA (EB (T:="StopIteration") (b:=true) ⟨o,ho,hc⟩ GX (AD (hQ _ hk)))
noncomputable abbrev zp1 (b1:Bool) (h:Heap) (l1:Addr):Heap:=h.push {cls:=.type (Q1 b1),data:=.fields #[.ref l1,.int 0 0]}
noncomputable abbrev zp2 (b1 b2:Bool) (h:Heap) (l1 l2:Addr):Heap:=(zp1 b1 h l1).push {cls:=.type (Q1 b2),data:=.fields #[.ref l2,.int 0 0]}
noncomputable abbrev zp3 (b1 b2:Bool) (h:Heap) (l1 l2:Addr):Heap:=(zp2 b1 b2 h l1 l2).push {cls:=.type "tuple",data:=.seq #[.ref h.objs.size,.ref (zp1 b1 h l1).objs.size]}
noncomputable abbrev zp4 (b1 b2:Bool) (h:Heap) (l1 l2:Addr):Heap:=(zp3 b1 b2 h l1 l2).push {cls:=.type "tuple",data:=.seq #[.none,.none]}
noncomputable abbrev zp5 (b1 b2:Bool) (h:Heap) (l1 l2:Addr):Heap:=(zp4 b1 b2 h l1 l2).push {cls:=.type "zip",data:=.fields #[.none,.bool false,.bool false,.ref (zp2 b1 b2 h l1 l2).objs.size,.ref (zp3 b1 b2 h l1 l2).objs.size]}
theorem Q3 (b1 b2:Bool) (l1 l2:Addr) (xs ys:Array Value) :
  Meets (Builtin.«zip.__new__» ⟨[.type "zip",.ref l1,.ref l2],[]⟩) (fun _ R s=>SQ b1 s.heap l1 xs∧SQ b2 s.heap l2 ys ∧
   R (.ok (.ret (.ref (zp4 b1 b2 s.heap l1 l2).objs.size))) {s with heap:=zp5 b1 b2 s.heap l1 l2}) :=
 .of_wp fun prog w A R s h=>by
  obtain⟨hp,g,d,tk,os⟩:=s;obtain⟨hl1,hl2,h⟩:=h
  have hsub:=sub_zip
  have hL1:SQ b1 (Shared.heap ⟨hp,g,d,tk,os⟩) l1 xs:=hl1
  have hL2:SQ b2 (Shared.heap ⟨hp.push {cls:=.type (Q1 b1),data:=.fields #[.ref l1,.int 0 0]},g,d,tk,os⟩) l2 ys:=SQ.push hl2 _
  wp_walk using A5 hL1,A5 hL2
  exact⟨_,rfl,h⟩
theorem Nn {Q:Value→Shared→Prop} (hl1:SQ b1 s.heap l1 xs) (hl2:SQ b2 s.heap l2 ys)
  (h:∀h',IsZip h' (s.heap.objs.size+4) (s.heap.objs.size+2) (s.heap.objs.size+3) .none→IsPair h' (s.heap.objs.size+2) (.ref s.heap.objs.size) (.ref (s.heap.objs.size+1)) →
   IsPair h' (s.heap.objs.size+3) .none .none→SI b1 h' s.heap.objs.size l1 0→SI b2 h' (s.heap.objs.size+1) l2 0 →
   (∀c o,s.heap.get? c=some o→h'.get? c=some o)→Q (.ref (s.heap.objs.size+4)) {s with heap:=h'}) :
  wpAny (model prog w) A (call (.type "zip") [.ref l1,.ref l2]) Q E s:=by
 refine callType_new F.called_zip (by decide) (F.typeCall_zip_2 _ _) (F.newCall_zip_2 _ _) (fun obj=>F.args_object_init_3 obj _ _) F.entry_zip_new (Q3 b1 b2 l1 l2 xs ys) ⟨hl1,hl2,?_⟩
 have z1:(zp1 b1 s.heap l1).objs.size=s.heap.objs.size+1:=CS ..
 have z2:(zp2 b1 b2 s.heap l1 l2).objs.size=s.heap.objs.size+2:=by rw[CS,z1]
 have z3:(zp3 b1 b2 s.heap l1 l2).objs.size=s.heap.objs.size+3:=by rw[CS,z2]
 have z4:(zp4 b1 b2 s.heap l1 l2).objs.size=s.heap.objs.size+4:=by rw[CS,z3]
 have g5:(zp5 b1 b2 s.heap l1 l2).get? (zp4 b1 b2 s.heap l1 l2).objs.size=some _:=AF _ rfl
 have g4:(zp5 b1 b2 s.heap l1 l2).get? (zp3 b1 b2 s.heap l1 l2).objs.size=some _:=AB _ (AF _ rfl)
 have g3:(zp5 b1 b2 s.heap l1 l2).get? (zp2 b1 b2 s.heap l1 l2).objs.size=some _:=AB _ (AB _ (AF _ rfl))
 have g2:(zp5 b1 b2 s.heap l1 l2).get? (zp1 b1 s.heap l1).objs.size=some _:=AB _ (AB _ (AB _ (AF _ rfl)))
 have g1:(zp5 b1 b2 s.heap l1 l2).get? s.heap.objs.size=some _:=AB _ (AB _ (AB _ (AB _ (AF _ rfl))))
 have s1:SI b1 (zp5 b1 b2 s.heap l1 l2) s.heap.objs.size l1 0:=by cases b1<;>exact⟨_,g1,rfl,rfl⟩
 have s2:SI b2 (zp5 b1 b2 s.heap l1 l2) (zp1 b1 s.heap l1).objs.size l2 0:=by cases b2<;>exact⟨_,g2,rfl,rfl⟩
 show _∧_
 rw[z2,z3,z4]at g5
 rw[z1,z2]at g3
 rw[z3]at g4
 rw[z1]at s2
 rw[z4]
 exact⟨⟨_,g5,rfl⟩,h _ g5 g3 g4 s1 s2 fun c o x=>AB _ (AB _ (AB _ (AB _ (AB _ x))))⟩
end
end Lp
namespace Lp
open PySem PySem.Spec PyProof.Rows L2
section
variable {X : Cx} {pins : List (Addr × Obj)} {σ : St} {H : Hp} {s : Shared} {φ : Phi}
theorem wm {h':Heap} {t':Nat} {ch:List Addr} (I:Inv X pins σ H s) (k:∀b o,b∉ch→s.heap.get? b=some o→h'.get? b=some o) (hf:∀b∈ch,Dd X pins H b):Inv X pins σ H {s with heap:=h',toks:=t'}:=by
 have nit:∀b u,H b=some u→b∉ch:=fun b u e z=>by rw[(hf b z).1]at e;cases e
 refine I.step (g':=s.gens) (d':=s.drawn) (ch:=ch) (fun b hb=>⟨(hf b hb).2.2.2.1,(hf b hb).2.1,(hf b hb).2.2.2.2.1,(hf b hb).2.2.2.2.2⟩) (fun b o _ _ hc e _=>k b o hc e) (fun b o _ _ hc e _=>⟨o.slots,k b o hc e⟩) (fun _ _ _ _ n=>n)
  (fun b o hc e=>⟨o,k b o hc e⟩) (fun _ _ e=>e) (fun _ _ _ e=>e) (fun b ps e=>⟨#[],by rw[e];simp⟩) (fun m hm=>?_) (fun b u e=>?_) I.bare
 ·obtain⟨o,es,ep,ho,r⟩:=hm
  exact⟨o,es,ep,k _ o (fun z=>(hf _ z).2.1 rfl) ho,r⟩
 ·refine(I.hok b u e).stay (fun c v hc q=>k c v ?_ q) (fun _ q=>q) fun _ _ q=>q
  rcases hc with z | z
  ·rw[z];exact nit b u e
  ·exact nit c _ z
noncomputable def Sq (b:Bool) (K:PySem.W.Frag) (H:Hp) (a:Addr) (xs:List V):Prop:=match b with
 | true=>SqL K H a xs
 | false=>SqT K H a xs
theorem Sq.vals {b:Bool} {a:Addr} {xs:List V} (h:Sq b X.K H a xs) (I:Inv X pins σ H s):∃its:List Value,cz xs its∧SQ b s.heap a its.toArray∧xs.length≤sizeLine:=by
 cases b
 ·obtain⟨its,rv,p,hz⟩:=I.tuple h
  exact⟨its,rv,p,hz⟩
 ·obtain⟨its,rv,p,hz⟩:=I.list h
  exact⟨its,rv,p.isList,hz⟩
theorem Sq.inj {b:Bool} {a:Addr} {xs ys:List V} (h:Sq b X.K H a xs) (I:Inv X pins σ H s) (h':Sq b X.K H a ys):ys=xs:=by
 cases b
 ·exact I.tuple_inj h' h
 ·exact I.list_inj h' h
noncomputable def Itz (K:PySem.W.Frag) (b1 b2:Bool) (a1 a2:Addr):L2.It :=
 ⟨fun i H=>∃xs ys x y,Sq b1 K H a1 xs∧Sq b2 K H a2 ys∧xs[i]? = some x∧ys[i]? = some y,
 fun i H v H'=>∃p x y,v=.ref p∧H p=none∧H'=upd H p (.tup [x,y])∧(∀xs,Sq b1 K H a1 xs→xs[i]? = some x)∧(∀ys,Sq b2 K H a2 ys→ys[i]? = some y),
 fun i H=>∃xs ys,Sq b1 K H a1 xs∧Sq b2 K H a2 ys∧(xs.length≤i∨ys.length≤i)⟩
theorem Jn {P:Program} {w:World} {K:PySem.W.Frag} {elts:List Expr} {k:Nat} {tp:Pos} {b1 b2:Bool} {z TI TO i1 i2 a1 a2:Addr} (D:ZipApart z TI TO i1 i2 a1 a2) :
  Turn P w K (.Tuple elts k tp) (Itz K b1 b2 a1 a2) [z,TI,TO,i1,i2] z (fun i h=>IsZip h z TI TO .none∧IsPair h TI (.ref i1) (.ref i2)∧(∃a b,IsPair h TO a b)∧SI b1 h i1 a1 i∧SI b2 h i2 a2 i) where
 mem:=by simp
 obj:=fun i h ⟨hz,hTI,⟨ta,tb,hTO⟩,s1,s2⟩ b hb=>by
  simp only[AJ,BH,or_false]at hb
  rcases hb with rfl | rfl | rfl | rfl | rfl
  ·exact⟨_,hz,fun v e=>by cases e⟩
  ·exact⟨_,hTI,fun v e=>by cases e⟩
  ·exact⟨_,hTO,fun v e=>by cases e⟩
  ·obtain⟨o,e,_,d⟩:=s1.obj
   exact⟨o,e,fun v q=>by rw[d]at q;cases q⟩
  ·obtain⟨o,e,_,d⟩:=s2.obj
   exact⟨o,e,fun v q=>by rw[d]at q;cases q⟩
 keep:=fun i h h' ⟨hz,hTI,⟨ta,tb,hTO⟩,s1,s2⟩ k=>⟨k z (by simp) _ hz,k TI (by simp) _ hTI,⟨ta,tb,k TO (by simp) _ hTO⟩,s1.keep fun o e=>k i1 (by simp) o e,s2.keep fun o e=>k i2 (by simp) o e⟩
 item:=by
  intro X hP hw hK hc i pins s σ H E I hf ⟨hz,hTI,⟨ta,tb,hTO⟩,s1,s2⟩ hg
  subst hP hw hK
  obtain⟨xs,ys,x,y,q1,q2,ex,ey⟩:=hg
  obtain⟨is1,rv1,p1,_⟩:=q1.vals I
  obtain⟨is2,rv2,p2,_⟩:=q2.vals I
  obtain⟨u1,hu1,ru1⟩:=rv1.get ex
  obtain⟨u2,hu2,ru2⟩:=rv2.get ey
  refine Nl D hz hTI hTO s1 s2 p1 p2 (x:=u1) (y:=u2) (by simpa using hu1) (by simpa using hu2) fun h' c1 c2 c3 c4 c5 kk=>⟨_,rfl,wpAny_letOwnedTupleGo_zip c1 fun h'' z'' sb=>?_⟩
  have fr:H s.heap.objs.size=none:=I.hok.fresh (AH _)
  have lt:∀b∈[z,TI,TO,i1,i2],b≠s.heap.objs.size:=by
   intro b hb
   simp only[AJ,BH,or_false]at hb
   rcases hb with rfl | rfl | rfl | rfl | rfl
   ·exact AN (AI hz)
   ·exact AN (AI hTI)
   ·exact AN (AI hTO)
   ·obtain⟨o,e,_⟩:=s1.obj;exact AN (AI e)
   ·obtain⟨o,e,_⟩:=s2.obj;exact AN (AI e)
  have I1:Inv X pins σ (upd H s.heap.objs.size (.tup [x,y])) {s with heap:=s.heap.push {cls:=.type "tuple",data:=.seq #[u1,u2]},toks:=s.toks} :=
   I.laid (fun b u e=>AB _ e) (AH _) ⟨by show 2≤sizeLine;rw[DB];decide,[u1,u2],.cons ru1 (.cons ru2 .nil),⟨_,AF _ rfl,rfl,rfl,_,rfl⟩⟩
  have hf':∀b∈[z,TI,TO,i1,i2],Dd X pins (upd H s.heap.objs.size (.tup [x,y])) b:=fun b hb=>by
   obtain⟨f0,f⟩:=hf b hb
   exact⟨by rw[a7 (lt b hb)];exact f0,f⟩
  have up:∀c o,c≠z→h'.get? c=some o→h''.get? c=some o:=fun c o n e=>sb.extBut _ _ n e
  have I2:=wm (s:={s with heap:=s.heap.push {cls:=.type "tuple",data:=.seq #[u1,u2]},toks:=s.toks}) (h':=h'') (t':=s.toks) (ch:=[z,TI,TO,i1,i2]) I1 (fun b o hb e=>by
   simp only[AJ,BH,or_false,not_or]at hb
   rcases Heap.get?_push_cases e with⟨rfl,rfl⟩ | e
   ·exact up _ _ hb.1 c5
   ·exact up _ _ hb.1 (kk b o hb.1 hb.2.2.1 hb.2.2.2.1 hb.2.2.2.2 e)) hf'
  refine⟨.ref s.heap.objs.size,_,I2,rfl,⟨_,x,y,rfl,fr,rfl,fun zs hz'=>by rw[q1.inj I hz'];exact ex,fun zs hz'=>by rw[q2.inj I hz'];exact ey⟩,?_,fun b hb=>(hf' b hb).1⟩
  ·exact⟨z'',up _ _ D.TIz (kk _ _ D.TIz D.TITO D.TIi1 D.TIi2 hTI),⟨u1,u2,up _ _ D.TOz c2⟩,c3.keep fun o e=>up _ o D.i1z e,c4.keep fun o e=>up _ o D.i2z e⟩
 done:=by
  intro X hP hw hK hc i pins s σ H E I hf ⟨hz,hTI,⟨ta,tb,hTO⟩,s1,s2⟩ hg
  subst hP hw hK
  obtain⟨xs,ys,q1,q2,en⟩:=hg
  obtain⟨is1,rv1,p1,_⟩:=q1.vals I
  obtain⟨is2,rv2,p2,_⟩:=q2.vals I
  have l1:=rv1.length
  have l2:=rv2.length
  refine Q2 (I.ok.hd hc) D hz hTI hTO s1 s2 p1 p2 (by rcases en with en | en;exact .inl (by simp;lia);exact .inr (by simp;lia)) fun h' kk=>⟨rfl,wm I (h':=h') (t':=s.toks) (ch:=[z,TI,TO,i1,i2]) (fun b o hb e=>?_) hf⟩
  simp only[AJ,BH,or_false,not_or]at hb
  exact kk b o hb.1 hb.2.2.1 hb.2.2.2.1 hb.2.2.2.2 e
 self:=fun _ _ _ _ _ st h=>wpAny_pyIter_zip st.1 h
theorem A6 {K:PySem.W.Frag} {ι:List Addr} {H:Hp} {μ:Sto} {d:D} {v:V} {ds:List D} {g:Gd} (S:Sim K ι H μ) (hd:IsD K ι H d v) (hw:dy μ d=some (ds,g)) :
  ∃b a xs,v=.ref a∧Sq b K H a xs∧aq K ι H ds xs∧∀ι2 H2 μ2,ι <+: ι2→Ext H H2→Sim K ι2 H2 μ2→gd g μ2→∃ys,Sq b K H2 a ys∧aq K ι2 H2 ds ys:=by
 cases d with
 | tup es =>
  simp only[dy,BP,GC]at hw
  obtain⟨rfl,rfl⟩:=hw
  obtain⟨a,xs,rfl,hq,hds⟩:=iz hd
  exact⟨false,a,xs,rfl,hq,hds,fun ι2 H2 μ2 q1 q2 q3 q4=>⟨xs,hq.ext q2,aq.mono q1 q2 _ _ hds⟩⟩
 | lst es =>
  simp only[dy,BP,GC]at hw
  obtain⟨rfl,rfl⟩:=hw
  obtain⟨a,xs,rfl,hq,hds⟩:∃a xs,v=.ref a∧FzL K H a xs∧aq K ι H es xs:=by simpa[IsD]using hd
  exact⟨true,a,xs,rfl,hq.sq,hds,fun ι2 H2 μ2 q1 q2 q3 q4=>⟨xs,(hq.ext q2).sq,aq.mono q1 q2 _ _ hds⟩⟩
 | loc n =>
  obtain⟨a,rfl,hn⟩:∃a,v=.ref a∧ι[n]? = some a:=by simpa[IsD]using hd
  have pre:∀{ι2:List Addr},ι <+: ι2→ι2[n]? = some a:=fun hp=>by
   obtain⟨t,rfl⟩:=hp
   rw[AX (AL.mp hn).1];exact hn
  cases em:μ[n]? with
  | none=>simp[dy,em]at hw
  | some o =>
   cases o with
   | l es =>
    simp only[dy,em,BP,GC]at hw
    obtain⟨rfl,rfl⟩:=hw
    obtain⟨a',q',ho⟩:=S.at em
    rw[hn]at q';cases q'
    obtain⟨xs,f1,f2⟩:=ho
    refine⟨true,a,xs,rfl,(show LsL K H a xs from .inl f1).sq,aq.mono (CJ) (.refl _) _ _ f2,fun ι2 H2 μ2 q1 q2 q3 q4=>?_⟩
    obtain⟨a2,e2,o2⟩:=q3.at (show μ2[n]? = some (.l es)from q4)
    rw[pre q1]at e2;cases e2
    obtain⟨ys,g1,g2⟩:=o2
    exact⟨ys,(show LsL K H2 a ys from .inl g1).sq,aq.mono (CJ) (.refl _) _ _ g2⟩
   | r es =>
    simp only[dy,em,BP,GC]at hw
    obtain⟨rfl,rfl⟩:=hw
    obtain⟨a',q',ho⟩:=S.at em
    rw[hn]at q';cases q'
    obtain⟨xs,f1,f2⟩:=ho
    refine⟨true,a,xs,rfl,(show LsL K H a xs from .inl f1).sq,f2,fun ι2 H2 μ2 q1 q2 q3 q4=>?_⟩
    obtain⟨a2,e2,o2⟩:=q3.at (show μ2[n]? = some (.r es)from q4)
    rw[pre q1]at e2;cases e2
    obtain⟨ys,g1,g2⟩:=o2
    exact⟨ys,(show LsL K H2 a ys from .inl g1).sq,g2⟩
   | d kvs=>simp[dy,em]at hw
   | dt kvs=>simp[dy,em]at hw
   | dead=>simp[dy,em]at hw
 | _=>simp[dy]at hw
theorem Jo {y:D} {ys:List D} (h:fg [] y=some ys) (μ:Sto):dy μ y=some (ys,none):=by
 cases y<;>simp_all[fg,dy]
theorem Q4 {a b:Expr} {xa xb:Ex} {elts:List Expr} {k:Nat} {tp:Pos} {p pos:Pos} (hg:Gl X "zip") (hm:X.mg "zip"=none) (ha:PE X a (tE X.K φ xa)) (hb:PE X b (tE X.K φ xb)) (hs:starEach [a,b] X.env=[(false,eval a X.env),(false,eval b X.env)])
  (hs2:starEach [b] X.env=[(false,eval b X.env)]):PI X (.Tuple elts k tp) (.Call (.Name "zip" p) [a,b] [] pos) (tI X.K φ (.zip xa xb)):=by
 intro pins s σv H R I ⟨ι,σ,μ,hS,hL,h⟩
 simp only[evI]at h
 cases e1:evE φ xa σ μ with
 | exc _ _ _=>rw[e1]at h;exact h.elim
 | stuck=>rw[e1]at h;exact h.elim
 | ok d μ1 =>
 rw[e1]at h
 simp only[Res.bw]at h
 cases e2:evE φ xb σ μ1 with
 | exc _ _ _=>rw[e2]at h;exact h.elim
 | stuck=>rw[e2]at h;exact h.elim
 | ok d2 μ2 =>
 rw[e2]at h
 simp only[Res.bw]at h
 have hq:tEs X.K φ (.cons xa (.cons xb .nil)) σv H (fun vs H1=>∃ι1,ι <+: ι1∧Ext H H1∧Sim X.K ι1 H1 μ2∧aq X.K ι1 H1 [d,d2] vs):=⟨ι,σ,μ,hS,hL,by
  simp only[i7,e1,e2,Res.bw]
  exact fun ι1 v H1 p1 x1 s1 d1=>⟨ι1,p1,x1,s1,d1⟩⟩
 refine Call_ (ny I hg hm PyProof.Rows.boot_zip (BZ (thn (yt ha (yt hb I0 hs2) (by rw[hs,hs2]) pos pins s σv H _ I hq) fun us s1 ⟨vs,H1,I1,r1,ι1,p1,x1,S1,d1⟩=>?_) (by rw[hs,hs2]) (by rw[hs2];rfl)))
 simp only[aq]at d1
 obtain⟨v1,_,rfl,q1,v2,_,rfl,q2,rfl⟩:=d1
 cases r1 with
 | cons ra rr =>
 cases rr with
 | cons rb rr =>
 cases rr
 cases ew:dy μ2 d with
 | none=>simp only[ew]at h
 | some wg =>
 obtain⟨ds,g⟩:=wg
 cases ey:fg [] d2 with
 | none=>simp only[ew,ey]at h
 | some es =>
 simp only[ew,ey]at h
 obtain⟨b1,a1,xs,rfl,sq1,ds1,st1⟩:=A6 S1 q1 ew
 obtain⟨b2,a2,ys,rfl,sq2,ds2,st2⟩:=A6 S1 q2 (Jo ey μ2)
 cases ra
 cases rb
 obtain⟨i1,rv1,p1',z1⟩:=sq1.vals I1
 obtain⟨i2,rv2,p2',z2⟩:=sq2.vals I1
 refine Nn p1' p2' fun h' c1 c2 c3 c4 c5 kk=>?_
 refine wpAny_pyIter_zip c1 ?_
 have I2:Inv X pins σv H1 {s1 with heap:=h'}:=I1.kept (t':=s1.toks) kk
 refine⟨_,[s1.heap.objs.size+4,s1.heap.objs.size+2,s1.heap.objs.size+3,s1.heap.objs.size,s1.heap.objs.size+1],_,_,H1,rfl,I2,Jn (b1:=b1) (b2:=b2) (zipApart_new p1'.lt p2'.lt),⟨c1,c2,⟨_,_,c3⟩,c4,c5⟩,fun b hb=>?_,h ι1 H1 _ p1 x1 S1 ?_⟩
 ·have hb':s1.heap.objs.size≤b:=by
   simp only[AJ,BH,or_false]at hb
   rcases hb with rfl | rfl | rfl | rfl | rfl<;>first | exact AH _ | exact IC _ _
  exact I1.fpOk hb' (I1.hok.fresh hb')
 ·have hlen:((ds.zip es).map fun p=>D.tup [p.1,p.2]).length=min ds.length es.length:=by simp
  have n1:=ds1.length
  have n2:=ds2.length
  refine⟨by rw[hlen];lia,fun i ι2 H2 μ3 q1 q2 q3 q4 hi=>?_,fun i ι2 H2 μ3 w H3 q1 q2 q3 q4 hi hy=>?_,fun ι2 H2 μ3 q1 q2 q3 q4=>?_⟩
  ·rw[hlen]at hi
   obtain⟨xs',y1,y2⟩:=st1 ι2 H2 μ3 q1 q2 q3 q4
   obtain⟨ys',y3,y4⟩:=st2 ι2 H2 μ3 q1 q2 q3 trivial
   obtain⟨v,ev,_⟩:=y2.get (AC (by lia:i<ds.length))
   obtain⟨v',ev',_⟩:=y4.get (AC (by lia:i<es.length))
   exact⟨xs',ys',v,v',y1,y3,ev,ev'⟩
  ·rw[hlen]at hi
   obtain⟨xs',y1,y2⟩:=st1 ι2 H2 μ3 q1 q2 q3 q4
   obtain⟨ys',y3,y4⟩:=st2 ι2 H2 μ3 q1 q2 q3 trivial
   have hi1:i<ds.length:=by lia
   have hi2:i<es.length:=by lia
   obtain⟨v,ev,hv⟩:=y2.get (AC hi1)
   obtain⟨v',ev',hv'⟩:=y4.get (AC hi2)
   obtain⟨p,x,y,rfl,hp,rfl,f1,f2⟩:=hy
   have e1':=f1 _ y1
   rw[ev]at e1';cases e1'
   have e2':=f2 _ y3
   rw[ev']at e2';cases e2'
   have X1:Ext H2 (upd H2 p (.tup [v,v'])):=Ext.new hp
   refine⟨X1,q3.new hp,.tup [ds[i],es[i]],by simp[CD,hi1,hi2],tup_is (xs:=[v,v']) (.inl ?_) ?_⟩
   ·exact .inl bg
   ·simp only[aq]
    exact⟨v,_,rfl,IsD.mono (AM _) X1 _ _ hv,v',_,rfl,IsD.mono (AM _) X1 _ _ hv',rfl⟩
  ·obtain⟨xs',y1,y2⟩:=st1 ι2 H2 μ3 q1 q2 q3 q4
   obtain⟨ys',y3,y4⟩:=st2 ι2 H2 μ3 q1 q2 q3 trivial
   have m1:=y2.length
   have m2:=y4.length
   rw[hlen]
   exact⟨xs',ys',y1,y3,by lia⟩
theorem t4 {a b:Expr} {xa xb:Ex} {elts:List Expr} {k:Nat} {tp:Pos} {p pos:Pos} (hm:X.mg "zip"=none) (ha:PE X a (tE X.K φ xa)) (hb:PE X b (tE X.K φ xb)) (hg:Gl X "zip":=by rfl) (hs:starEach [a,b] X.env=[(false,eval a X.env),(false,eval b X.env)]:=by rfl) (hs2:starEach [b] X.env=[(false,eval b X.env)]:=by rfl) :
  PI X (.Tuple elts k tp) (.Call (.Name "zip" p) [a,b] [] pos) (tI X.K φ (.zip xa xb)):=Q4 hg hm ha hb hs hs2
end
end Lp
namespace Lp
open PySem PySem.Spec PyProof.Rows L2
open AutoSeq1 (wpAny_loadPart')
theorem Np (l:Addr) (items:Array Value) (n:Nat) (dct:Option Addr) (sl:Array (Option Value)) :
  Meets (Builtin.«enumerate.__new__» ⟨[.type "enumerate",.ref l],[]⟩) (fun _ R s=>s.heap.get? l=some {cls:=.type "tuple",dict:=dct,data:=.seq items n,slots:=sl} ∧
   R (.ok (.ret (.ref (s.heap.push {cls:=.type "tuple_iterator",data:=.fields #[.ref l,.int 0 0]}).objs.size)))
    {s with heap:=(s.heap.push {cls:=.type "tuple_iterator",data:=.fields #[.ref l,.int 0 0]}).push {cls:=.type "enumerate",data:=.fields #[.none,.bool false,.ref s.heap.objs.size,rawInt 0,.none,.none]}}) :=
 .of_wp fun prog w A R s h=>by
  obtain⟨hp,g,d,tk,os⟩:=s;obtain⟨hl,h⟩:=h
  have hsub:=sub_enumerate
  have hL:Heap.IsTuple (Shared.heap ⟨hp,g,d,tk,os⟩) l items:=⟨_,hl,rfl,n,rfl⟩
  wp_walk using CH hl
  refine wpAny_stack_any fun st=>AD ?_
  split
  ·rename_i c _ _ _ _ _
   cases(c==Value.type "enumerate")
   ·wp_walk using CH hl,DR hL
    exact⟨_,rfl,h⟩
   ·wp_walk using CH hl,DR hL
    exact⟨_,rfl,h⟩
  ·wp_walk using CH hl,DR hL
   exact⟨_,rfl,h⟩
section
variable {prog : Program} {w : World} {A : Around} {E : Value → Shared → Prop} {s : Shared} {b : Bool}
theorem Nq {l:Addr} {items:Array Value} {Q:Value→Shared→Prop} (hL:SQ b s.heap l items)
  (h:∀h',IsEnum h' (s.heap.objs.size+1) s.heap.objs.size 0 .none→SI b h' s.heap.objs.size l 0→(∀b o,s.heap.get? b=some o→h'.get? b=some o)→Q (.ref (s.heap.objs.size+1)) {s with heap:=h'}) :
  wpAny (model prog w) A (call (.type "enumerate") [.ref l]) Q E s:=by
 cases b
 ·obtain⟨⟨c,dct,dt,sl⟩,hl,hc,n,hd⟩:=hL
  replace hc:c=.type "tuple":=hc
  replace hd:dt=.seq items n:=hd
  subst hc hd
  refine callType_new F.called_enumerate (by decide) (F.typeCall_enumerate_1 _) (F.newCall_enumerate_1 _) (fun obj=>F.args_object_init_2 obj _) F.entry_enumerate_new (Np l items n dct sl) ⟨hl,?_⟩
  have hz:(s.heap.push {cls:=.type "tuple_iterator",data:=.fields #[.ref l,.int 0 0]}).objs.size=s.heap.objs.size+1:=CS ..
  show _∧_
  rw[hz]
  have he:IsEnum ((s.heap.push {cls:=.type "tuple_iterator",data:=.fields #[.ref l,.int 0 0]}).push
    {cls:=.type "enumerate",data:=.fields #[.none,.bool false,.ref s.heap.objs.size,rawInt 0,.none,.none]}) (s.heap.objs.size+1) s.heap.objs.size 0 .none:=by
   have:=AF (s.heap.push {cls:=.type "tuple_iterator",data:=.fields #[.ref l,.int 0 0]})
    (o:={cls:=.type "enumerate",data:=.fields #[.none,.bool false,.ref s.heap.objs.size,rawInt 0,.none,.none]}) rfl
   rw[hz]at this;exact this
  exact⟨⟨_,he,rfl⟩,h _ he ⟨_,AB _ (AF _ rfl),rfl,rfl⟩ fun b o x=>AB _ (AB _ x)⟩
 ·exact call_enumerate_list hL fun h' a1 a2 _ a3=>h h' a1 a2 a3
theorem Nr {e it l:Addr} {i:Nat} {items:Array Value} {x old:Value} {Q:Option Value→Shared→Prop}
  (he:IsEnum s.heap e it i old) (hit:SI b s.heap it l i) (hl:SQ b s.heap l items) (hx:items[i]? = some x) (hne:e≠it)
  (hQ:∀h',IsEnumOut h' e it ((i:Int)+1) x s.heap.objs.size→SI b h' it l (i+1)→h'.get? s.heap.objs.size=some {cls:=.type "tuple",data:=.seq #[.int i s.toks,x]} →
   (∀b o,b≠e→b≠it→s.heap.get? b=some o→h'.get? b=some o)→Q (some (.ref s.heap.objs.size)) {s with heap:=h',toks:=s.toks+1}) :
  wpAny (model prog w) A (pyNext (.ref e)) Q E s:=by
 have hT:s.TypeIs (.ref e) "enumerate":=⟨_,he,rfl⟩
 unfold pyNext
 refine AA (DY (BF (name:=Str.ofString "__next__") hT EO (BK EO hT F.entry_enumerate_next ?_ (F.args_enumerate_next_1 _))))
 obtain⟨hp,g,d,tk,os⟩:=s
 show wpAny _ _ (field (.ref e) 2>>=_) _ _ _
 refine AA (BW he rfl (x:=.ref it) rfl ?_)
 refine AA (wj hit hl hx fun h₁ hit₁ hs₁=>?_)
 replace hs₁:Heap.SameBut it hp h₁:=hs₁
 have he₁:IsEnum h₁ e it i old:=(hs₁.2 e hne).trans he
 show wpAny _ _ (field (.ref e) 3>>=_) _ _ ⟨h₁,g,d,tk,os⟩
 refine AA (BW he₁ rfl (x:=rawInt i) rfl ?_)
 show wpAny _ _ (field (.ref e) 4>>=_) _ _ ⟨h₁,g,d,tk,os⟩
 refine AA (BW he₁ rfl (x:=.none) rfl ?_)
 show wpAny _ _ (mkInt i>>=_) _ _ ⟨h₁,g,d,tk,os⟩
 refine AA (wpAny_mkInt ?_)
 show wpAny _ _ (setField (.ref e) 3 (rawInt ((i:Int)+1))>>=_) _ _ ⟨h₁,g,d,tk+1,os⟩
 refine AA (BB he₁ (by simp) fun h₂ he₂ hs₂=>?_)
 replace hs₂:Heap.SameBut e h₁ h₂:=hs₂
 replace he₂:IsEnum h₂ e it ((i:Int)+1) old:=he₂
 show wpAny _ _ (setField (.ref e) 4 .none>>=_) _ _ ⟨h₂,g,d,tk+1,os⟩
 refine AA (BB he₂ (by simp) fun h₃ he₃ hs₃=>?_)
 replace hs₃:Heap.SameBut e h₂ h₃:=hs₃
 replace he₃:IsEnum h₃ e it ((i:Int)+1) old:=he₃
 show wpAny _ _ (newTuple [.int i tk,x]>>=_) _ _ ⟨h₃,g,d,tk+1,os⟩
 refine AA (GW ?_)
 have he₄:IsEnum (h₃.push {cls:=.type "tuple",data:=.seq #[.int i tk,x]}) e it ((i:Int)+1) old:=AB _ he₃
 generalize hh₄:h₃.push {cls:=.type "tuple",data:=.seq #[.int i tk,x]}=h₄ at he₄
 have hsz:h₃.objs.size=hp.objs.size:=by rw[hs₃.1,hs₂.1,hs₁.1]
 have hel:e<hp.objs.size:=AI he
 have ht₄:h₄.get? hp.objs.size=some {cls:=.type "tuple",data:=.seq #[.int i tk,x]}:=by rw[←hh₄,←hsz];exact AF _ rfl
 have hk₄:∀b o,b≠e→b≠it→hp.get? b=some o→h₄.get? b=some o:=fun b o hbe hbi hb=>by
  rw[←hh₄];exact AB _ (hs₃.extBut b o hbe (hs₂.extBut b o hbe (hs₁.extBut b o hbi hb)))
 have hit₄:SI b h₄ it l (i+1):=by
  rw[←hh₄];exact((hit₁.but hs₂.extBut (Ne.symm hne)).but hs₃.extBut (Ne.symm hne)).keep fun o ho=>AB _ ho
 show wpAny _ _ (Builtin.SmallTypes.ownedTupleIsFree (.ref e)>>=_) _ _ ⟨h₄,g,d,tk+1,os⟩
 rw[hsz]
 clear hh₄ he₃ hs₃ he₂ hs₂ he₁ hs₁ hit₁ hsz h₃ h₂ h₁
 refine AA ?_
 unfold Builtin.SmallTypes.ownedTupleIsFree
 refine AA (BW he₄ rfl (x:=.none) rfl (AD ?_))
 simp only[if_true]
 refine AA (FF ?_)
 refine AA (BW he₄ rfl (x:=old) rfl ?_)
 refine AA (BB he₄ (by simp) fun h₅ he₅ hs₅=>?_)
 replace hs₅:Heap.SameBut e h₄ h₅:=hs₅
 replace he₅:IsEnum h₅ e it ((i:Int)+1) x:=he₅
 show wpAny _ _ (Builtin.SmallTypes.ownedTupleHandOut (.ref e) (.ref hp.objs.size)>>=_) _ _ ⟨h₅,g,d,tk+1,os⟩
 refine AA ?_
 unfold Builtin.SmallTypes.ownedTupleHandOut
 refine AA (BB he₅ (by simp) fun h₆ he₆ hs₆=>?_)
 replace hs₆:Heap.SameBut e h₅ h₆:=hs₆
 replace he₆:IsEnumOut h₆ e it ((i:Int)+1) x hp.objs.size:=he₆
 refine BB he₆ (by simp) fun h₇ he₇ hs₇=>?_
 replace hs₇:Heap.SameBut e h₆ h₇:=hs₇
 replace he₇:IsEnumOut h₇ e it ((i:Int)+1) x hp.objs.size:=he₇
 refine AA (HK (AD ⟨_,rfl,AD (hQ h₇ he₇ ?_ ?_ ?_)⟩))
 ·exact((hit₄.but hs₅.extBut (Ne.symm hne)).but hs₆.extBut (Ne.symm hne)).but hs₇.extBut (Ne.symm hne)
 ·exact hs₇.extBut _ _ (CF hel) (hs₆.extBut _ _ (CF hel) (hs₅.extBut _ _ (CF hel) ht₄))
 ·exact fun b o hbe hbi hb=>hs₇.extBut b o hbe (hs₆.extBut b o hbe (hs₅.extBut b o hbe (hk₄ b o hbe hbi hb)))
theorem Q5 {e it l:Addr} {i:Nat} {items:Array Value} {old:Value} {Q:Option Value→Shared→Prop} (hh:A.handled=none)
  (he:IsEnum s.heap e it i old) (hit:SI b s.heap it l i) (hl:SQ b s.heap l items) (hx:items[i]? = none)
  (hQ:∀h',Heap.ExtBut it s.heap h'→Q none {s with heap:=h'}):wpAny (model prog w) A (pyNext (.ref e)) Q E s:=by
 have hT:s.TypeIs (.ref e) "enumerate":=⟨_,he,rfl⟩
 unfold pyNext
 refine AA (DY (BF (name:=Str.ofString "__next__") hT EO (BK EO hT F.entry_enumerate_next ?_ (F.args_enumerate_next_1 _))))
 show wpAny _ _ (field (.ref e) 2>>=_) _ _ _
 refine AA (BW he rfl (x:=.ref it) rfl ?_)
 refine AA (F7 hh hit hl hx fun h' x he' hx'=>?_)
 obtain⟨o,ho,hc⟩:=hx'
 refine AA (EB (T:="StopIteration") (b:=true) ⟨o,ho,hc⟩ GX ?_)
 exact AD (hQ _ he')
end
section
variable {X : Cx} {pins : List (Addr × Obj)} {σ : St} {H : Hp} {s : Shared} {φ : Phi}
noncomputable def Ite (K:PySem.W.Frag) (b:Bool) (a:Addr):L2.It :=
 ⟨fun i H=>∃xs x,Sq b K H a xs∧xs[i]? = some x,
 fun i H v H'=>∃p x,v=.ref p∧H p=none∧H'=upd H p (.tup [.int i,x])∧∀xs,Sq b K H a xs→xs[i]? = some x,
 fun i H=>∃xs,Sq b K H a xs∧xs.length≤i⟩
theorem F8 {P:Program} {w:World} {K:PySem.W.Frag} {elts:List Expr} {k:Nat} {tp:Pos} {b:Bool} {e it a:Addr} (hne:e≠it) :
  Turn P w K (.Tuple elts k tp) (Ite K b a) [e,it] e (fun i h=>(∃old,IsEnum h e it i old)∧SI b h it a i) where
 mem:=by simp
 obj:=fun i h ⟨⟨old,he⟩,s1⟩ c hc=>by
  simp only[AJ,BH,or_false]at hc
  rcases hc with rfl | rfl
  ·exact⟨_,he,fun v e=>by cases e⟩
  ·obtain⟨o,e,_,d⟩:=s1.obj
   exact⟨o,e,fun v q=>by rw[d]at q;cases q⟩
 keep:=fun i h h' ⟨⟨old,he⟩,s1⟩ k=>⟨⟨old,k e (by simp) _ he⟩,s1.keep fun o q=>k it (by simp) o q⟩
 item:=by
  intro X hP hw hK hc i pins s σ H E I hf ⟨⟨old,he⟩,s1⟩ hg
  subst hP hw hK
  obtain⟨xs,x,q1,ex⟩:=hg
  obtain⟨is1,rv1,p1,_⟩:=q1.vals I
  obtain⟨u1,hu1,ru1⟩:=rv1.get ex
  refine Nr he s1 p1 (x:=u1) (by simpa using hu1) hne fun h' c1 c2 c3 kk=>⟨_,rfl,wpAny_letOwnedTupleGo_enum c1 fun h'' z'' sb=>?_⟩
  have fr:H s.heap.objs.size=none:=I.hok.fresh (AH _)
  have lt:∀c∈[e,it],c≠s.heap.objs.size:=by
   intro c hc
   simp only[AJ,BH,or_false]at hc
   rcases hc with rfl | rfl
   ·exact AN (AI he)
   ·obtain⟨o,q,_⟩:=s1.obj;exact AN (AI q)
  have I1:Inv X pins σ (upd H s.heap.objs.size (.tup [.int i,x])) {s with heap:=s.heap.push {cls:=.type "tuple",data:=.seq #[.int i s.toks,u1]},toks:=s.toks+1} :=
   I.laid (fun b u e=>AB _ e) (AH _) ⟨by show 2≤sizeLine;rw[DB];decide,[.int i s.toks,u1],.cons ⟨s.toks,rfl⟩ (.cons ru1 .nil),⟨_,AF _ rfl,rfl,rfl,_,rfl⟩⟩
  have hf':∀c∈[e,it],Dd X pins (upd H s.heap.objs.size (.tup [.int i,x])) c:=fun c hc=>by
   obtain⟨f0,f⟩:=hf c hc
   exact⟨by rw[a7 (lt c hc)];exact f0,f⟩
  have up:∀c o,c≠e→h'.get? c=some o→h''.get? c=some o:=fun c o n q=>sb.extBut _ _ n q
  have I2:=wm (s:={s with heap:=s.heap.push {cls:=.type "tuple",data:=.seq #[.int i s.toks,u1]},toks:=s.toks+1}) (h':=h'') (t':=s.toks+1) (ch:=[e,it]) I1 (fun c o hc q=>by
   simp only[AJ,BH,or_false,not_or]at hc
   rcases Heap.get?_push_cases q with⟨rfl,rfl⟩ | q
   ·exact up _ _ hc.1 c3
   ·exact up _ _ hc.1 (kk c o hc.1 hc.2 q)) hf'
  refine⟨.ref s.heap.objs.size,_,I2,rfl,⟨_,x,rfl,fr,rfl,fun zs hz'=>by rw[q1.inj I hz'];exact ex⟩,⟨⟨u1,?_⟩,c2.keep fun o q=>up _ o (Ne.symm hne) q⟩,fun c hc=>(hf' c hc).1⟩
  exact z''
 done:=by
  intro X hP hw hK hc i pins s σ H E I hf ⟨⟨old,he⟩,s1⟩ hg
  subst hP hw hK
  obtain⟨xs,q1,en⟩:=hg
  obtain⟨is1,rv1,p1,_⟩:=q1.vals I
  have l1:=rv1.length
  refine Q5 (I.ok.hd hc) he s1 p1 (by simp;lia) fun h' kk=>⟨rfl,wm I (h':=h') (t':=s.toks) (ch:=[e,it]) (fun c o hc q=>?_) hf⟩
  simp only[AJ,BH,or_false,not_or]at hc
  exact kk c o hc.2 q
 self:=fun _ _ _ _ _ st h=>wpAny_pyIter_enum st.1.choose_spec h
theorem Nt {a:Expr} {xa:Ex} {elts:List Expr} {k:Nat} {tp:Pos} {p pos:Pos} (hg:Gl X "enumerate") (hm:X.mg "enumerate"=none) (ha:PE X a (tE X.K φ xa)) (hs:starEach [a] X.env=[(false,eval a X.env)]) :
  PI X (.Tuple elts k tp) (.Call (.Name "enumerate" p) [a] [] pos) (tI X.K φ (.enum xa)):=by
 intro pins s σv H R I ⟨ι,σ,μ,hS,hL,h⟩
 simp only[evI]at h
 cases e1:evE φ xa σ μ with
 | exc _ _ _=>rw[e1]at h;exact h.elim
 | stuck=>rw[e1]at h;exact h.elim
 | ok d μ2 =>
 rw[e1]at h
 simp only[Res.bw]at h
 have hq:tEs X.K φ (.cons xa .nil) σv H (fun vs H1=>∃ι1,ι <+: ι1∧Ext H H1∧Sim X.K ι1 H1 μ2∧aq X.K ι1 H1 [d] vs):=⟨ι,σ,μ,hS,hL,by
  simp only[i7,e1,Res.bw]
  exact fun ι1 v H1 p1 x1 s1 d1=>⟨ι1,p1,x1,s1,d1⟩⟩
 refine Call_ (ny I hg hm PyProof.Rows.boot_enumerate (BZ (thn (yt ha I0 hs pos pins s σv H _ I hq) fun us s1 ⟨vs,H1,I1,r1,ι1,p1,x1,S1,d1⟩=>?_) hs rfl))
 simp only[aq]at d1
 obtain⟨v1,_,rfl,q1,rfl⟩:=d1
 cases r1 with
 | cons ra rr =>
 cases rr
 cases ew:dy μ2 d with
 | none=>simp only[ew]at h
 | some wg =>
 obtain⟨ds,g⟩:=wg
 simp only[ew]at h
 obtain⟨b1,a1,xs,rfl,sq1,ds1,st1⟩:=A6 S1 q1 ew
 cases ra
 obtain⟨i1,rv1,p1',z1⟩:=sq1.vals I1
 refine Nq p1' fun h' c1 c2 kk=>?_
 refine wpAny_pyIter_enum c1 ?_
 have I2:Inv X pins σv H1 {s1 with heap:=h'}:=I1.kept (t':=s1.toks) kk
 refine⟨_,[s1.heap.objs.size+1,s1.heap.objs.size],_,_,H1,rfl,I2,F8 (b:=b1) (a:=a1) (Nat.succ_ne_self _),⟨⟨_,c1⟩,c2⟩,fun c hc=>?_,h ι1 H1 _ p1 x1 S1 ?_⟩
 ·have hc':s1.heap.objs.size≤c:=by
   simp only[AJ,BH,or_false]at hc
   rcases hc with rfl | rfl<;>first | exact AH _ | exact IC _ _
  exact I1.fpOk hc' (I1.hok.fresh hc')
 ·have hlen:(((List.range ds.length).zip ds).map fun(p:Nat×D)=>D.tup [.int p.1,p.2]).length=ds.length:=by simp
  have n1:=ds1.length
  refine⟨by rw[hlen];lia,fun i ι2 H2 μ3 q1 q2 q3 q4 hi=>?_,fun i ι2 H2 μ3 w H3 q1 q2 q3 q4 hi hy=>?_,fun ι2 H2 μ3 q1 q2 q3 q4=>?_⟩
  ·rw[hlen]at hi
   obtain⟨xs',y1,y2⟩:=st1 ι2 H2 μ3 q1 q2 q3 q4
   obtain⟨v,ev,_⟩:=y2.get (AC hi)
   exact⟨xs',v,y1,ev⟩
  ·rw[hlen]at hi
   obtain⟨xs',y1,y2⟩:=st1 ι2 H2 μ3 q1 q2 q3 q4
   obtain⟨v,ev,hv⟩:=y2.get (AC hi)
   obtain⟨p,x,rfl,hp,rfl,f1⟩:=hy
   have e1':=f1 _ y1
   rw[ev]at e1';cases e1'
   have X1:Ext H2 (upd H2 p (.tup [.int i,v])):=Ext.new hp
   refine⟨X1,q3.new hp,.tup [.int i,ds[i]],by simp[CD,hi],tup_is (xs:=[.int i,v]) (.inl ?_) ?_⟩
   ·exact .inl bg
   ·simp only[aq]
    exact⟨.int i,_,rfl,by simp[IsD],v,_,rfl,IsD.mono (AM _) X1 _ _ hv,rfl⟩
  ·obtain⟨xs',y1,y2⟩:=st1 ι2 H2 μ3 q1 q2 q3 q4
   have m1:=y2.length
   rw[hlen]
   exact⟨xs',y1,by lia⟩
theorem Nu {a:Expr} {xa:Ex} {elts:List Expr} {k:Nat} {tp:Pos} {p pos:Pos} (hm:X.mg "enumerate"=none) (ha:PE X a (tE X.K φ xa)) (hg:Gl X "enumerate":=by rfl) (hs:starEach [a] X.env=[(false,eval a X.env)]:=by rfl) :
  PI X (.Tuple elts k tp) (.Call (.Name "enumerate" p) [a] [] pos) (tI X.K φ (.enum xa)):=Nt hg hm ha hs
end
end Lp
namespace Lp
open PySem PySem.Spec PyProof.Rows L2
section
variable {X : Cx} {φ : Phi} {o e f : Expr} {xo xe xf : Ex} {pos apos cpos : Pos}
theorem Q6 (t:Bool):PE X (.Dict [] [] pos) (tE X.K φ (.dic t .nil)):=by
 cases t with
 | false =>
  refine PE.imp Ir fun σv H Q ⟨ι,σ,μ,hS,hL,h⟩=>?_
  simp only[evE,i7,Res.bw,K7,AR,if_false]at h
  intro p hp
  refine h (ι++[p]) _ _ (GY _ _) (Ext.new hp) (hS.push hp ⟨[],bg,Paired.nil⟩) ?_
  simp only[Lp.IsD]
  exact⟨p,rfl,by rw[←hS.len];simp⟩
 | true =>
  refine PE.imp Iu fun σv H Q ⟨ι,σ,μ,hS,hL,h⟩=>?_
  simp only[evE,i7,Res.bw,K7,if_true]at h
  intro p hp
  refine h (ι++[p]) _ _ (GY _ _) (Ext.new hp) (hS.push hp ⟨[],bg,Paired.nil⟩) ?_
  simp only[Lp.IsD]
  exact⟨p,rfl,by rw[←hS.len];simp⟩
theorem wo (hu:X.A.units+64<cLine) (ho:PE X o (tE X.K φ xo)) (he:PE X e (tE X.K φ xe)) (hf:PE X f (tE X.K φ xf)) (m:M2 X o "get" apos e f cpos:=by exact⟨rfl,rfl,rfl,rfl⟩) :
  PE X (.Call (.Attribute o "get" apos) [e,f] [] cpos) (tE X.K φ (.meth .get xo (.cons xe (.cons xf .nil)))):=by
 refine PE.imp (Iv (by lia) ho he hf m) fun σv H Q ⟨ι,σ,μ,hS,hL,h⟩=>?_
 simp only[evE,i7]at h
 obtain⟨d,μ1,e1,h⟩:=h.bind
 refine⟨ι,σ,μ,hS,hL,?_⟩
 rw[e1]
 intro ι1 x H1 p1 x1 s1 d1
 cases d with
 | loc n =>
  obtain⟨a,rfl,hn⟩:∃a,x=.ref a∧ι1[n]? = some a:=by simpa[Lp.IsD]using d1
  cases em:μ1[n]? with
  | none=>simp[jr,em,h9]at h
  | some ob =>
   cases ob with
   | d kvs =>
    simp only[jr,em,if_true,Res.bind_assoc,Res.bw]at h
    obtain⟨a',q',kx,hk1,hk2⟩:=s1.at em
    rw[hn]at q';cases q'
    obtain⟨y,μ2,e2,h⟩:=h.bind
    refine⟨a,rfl,.inl ⟨_,.inl hk1⟩,ι1,σ,μ1,s1,hL.mono p1 x1,?_⟩
    rw[e2]
    intro ι2 yv H2 p2 x2 s2 d2
    obtain⟨z,μ3,e3,h⟩:=h.bind
    refine⟨ι2,σ,μ2,s2,(hL.mono p1 x1).mono p2 x2,?_⟩
    rw[e3]
    intro ι3 zv H3 p3 x3 s3 d3
    simp only[mtD,Ms]at h
    cases ed:dictAt μ3 (.loc n) y with
    | none=>simp only[ed]at h;exact h.elim
    | some kvs3 =>
     simp only[ed]at h
     obtain⟨p,q,xs,e4,rfl,rfl,hp,hk⟩:=A1 s3 (IsD.mono p3 x3 _ _ (IsD.mono p2 x2 _ _ d1)) (IsD.mono p3 x3 _ _ d2) ed
     cases e4
     exact⟨_,Ip.k hp,h ι3 _ H3 ((p1.trans p2).trans p3) ((x1.trans x2).trans x3) s3 ((r9 hk).getD d3)⟩
   | _=>simp[jr,em,h9]at h
 | _=>simp[jr,h9]at h
end
end Lp
namespace Lp
open PySem PySem.Spec PyProof.Rows L2
section
variable {X : Cx} {pins : List (Addr × Obj)} {σ : St} {H : Hp} {s : Shared} {φ : Phi}
theorem Nv {p:Addr} {xs:List (Key×V)} (I:Inv X pins σ H s) (h:H p=some (.dK xs)):∃o,Inv X pins σ (upd H p (.frz o (.dK xs))) s:=by
 have hp:=I.hok p _ h
 obtain⟨hz,hsys,vs,rel,o,es,ep,hget,r⟩:=id hp
 refine⟨o,I.ok,I.os,I.bare,⟨I.base.keep,I.base.slot,fun b o e hn hx=>?_,I.base.there,fun b ys e=>?_,fun b o u e=>?_,fun b ps e=>?_⟩,I.loc,I.cell,?_,fun x c e=>?_,fun q hq=>?_,fun b u e=>?_,I.len⟩
 ·have q:=I.base.free b o e hn hx
  rw[a7 (fun z=>by subst z;rw[h]at q;cases q)]
  exact q
 ·have q:=I.base.tups b ys e
  rw[a7 (n9 q h (by intro z;cases z))];exact q
 ·have q:=I.base.frzs b o u e
  rw[a7 (n9 q h (by intro z;cases z))];exact q
 ·obtain⟨more,q⟩:=I.base.tbls b ps e
  exact⟨more,by rw[a7 (n9 q h (by intro z;cases z))];exact q⟩
 ·rw[a7 (fun z=>by rw[←z,I.free]at h;cases h)];exact I.free
 ·rw[a7 (fun z=>by rw[←z,I.freeC x c e]at h;cases h)];exact I.freeC x c e
 ·obtain⟨e1,e2,e3⟩:=I.pin q hq
  refine⟨e1,?_,e3⟩
  rw[a7 (fun z=>by rw[←z,e2]at h;cases h)];exact e2
 ·by_cases hb:b=p
  ·subst hb
   rw[bg]at e;cases e
   exact⟨hget,hz,hsys,vs,rel,o,es,ep,hget,r⟩
  ·rw[a7 hb]at e
   refine(I.hok b u e).stay (fun c v _ q=>q) (fun c q=>?_) (fun c ys q=>?_)
   ·rw[a7 (n9 q h (by intro z;cases z))];exact q
   ·rw[a7 (n9 q h (by intro z;cases z))];exact q
theorem ve {α β:Type} {F:α→β→Prop}:∀{xs:List α} {ys:List β} {i:Nat} {y:β},Paired F xs ys→ys[i]? = some y→∃x,xs[i]? = some x∧F x y
 | _,_,_,_,.nil,e=>by simp at e
 | x::_,_::_,0,_,.cons h _,e=>by simp at e;subst e;exact⟨x,rfl,h⟩
 | _::_,_::_,i+1,_,.cons _ t,e=>by
  obtain⟨x,h1,h2⟩:=ve (i:=i) t (by simpa using e)
  exact⟨x,by simpa using h1,h2⟩
theorem wq:entryFor table "dict_valueiterator.__iter__"=some Builtin.«dict_keyiterator.__iter__» :=
 entryFor_alias (id':="dict_keyiterator.__iter__") (by kernel_rfl) (by first | rfl | decide +kernel | (unfold String.splitOn;simp +decide [String.splitOnAux])) (by decide +kernel) (by kernel_rfl)
noncomputable def Itv (a:Addr) (o:Obj) (xs:List (Key×V)):L2.It :=
 ⟨fun i H=>H a=some (.frz o (.dK xs))∧i<xs.length,fun i H x H'=>H'=H∧∃k,xs[i]? = some (k,x),fun i H=>H a=some (.frz o (.dK xs))∧xs.length≤i⟩
theorem Li:∀{kvs:List (Key×V)} {vs:List (Key×Value)} {i:Nat} {p:Key×V},KV kvs vs→kvs[i]? = some p→∃u,vs[i]? = some (p.1,u)∧RelV p.2 u
 | _,_,_,_,.nil,e=>by simp at e
 | q::_,r::_,0,p,.cons h _,e=>by
  simp at e;subst e
  exact⟨r.2,by rw[h.1];rfl,h.2⟩
 | q::kvs,r::vs,i+1,p,.cons _ t,e=>by
  obtain⟨u,h1,h2⟩:=Li (i:=i) t (by simpa using e)
  exact⟨u,by simpa using h1,h2⟩
theorem Lj {a:Addr} {o:Obj} {xs:List (Key×V)} {ep:Nat} (I:Inv X pins σ H s) (hep:∃es,o.data=.dict es ep) (e:H a=some (.frz o (.dK xs))):∃vs,KV xs vs∧s.heap.DictAt (dg X.prog X.w) a vs ep:=by
 obtain⟨hget,hz,hsys,vs,rel,o',es',ep',hget',r1,r2,r3⟩:=(show i5 X.prog X.w H s.heap a (.frz o (.dK xs))from I.hok a _ e)
 rw[hget]at hget';cases hget'
 obtain⟨es,h⟩:=hep
 rw[h]at r2;cases r2
 exact⟨vs,rel,o,_,hget,r1,h,r3⟩
theorem F9 {P:Program} {w:World} {K:PySem.W.Frag} {tg:Expr} {a it:Addr} {o:Obj} {xs:List (Key×V)} {ep:Nat} (hep:∃es,o.data=.dict es ep) :
  Turn P w K tg (Itv a o xs) [it] it (fun i h=>h.IsValIter it a i xs.length ep) where
 mem:=by simp
 obj:=fun i h st b hb=>by
  have e:b=it:=by simpa using hb
  subst e
  obtain⟨o,e,c,d⟩:=st
  exact⟨o,e,fun v z=>by rw[d]at z;cases z⟩
 keep:=fun i h h' ⟨o,e,r⟩ k=>⟨o,k it (by simp) o e,r⟩
 item:=by
  intro X hP hw hK hc i pins s σ H E I hf st hg
  subst hP hw hK
  obtain⟨hq,hi⟩:=hg
  obtain⟨vs,rel,dd⟩:=Lj I hep hq
  have hl:vs.length=xs.length:=(DO rel).symm
  obtain⟨u,hu,ru⟩:=Li rel (AC hi)
  obtain⟨f0,f1,f2,f3,f4,f5⟩:=hf it (by simp)
  refine wpAny_pyNext_values_item (by rw[hl];exact st) dd hu fun h' st' sb=>?_
  rw[hl]at st'
  have I1:Inv X pins σ H {s with heap:=h'}:=I.turned (t':=s.toks) (fun b o hb e=>(sb.2 b hb).trans e) f0 f1 f3 f4 f5
  obtain⟨o',e',c',d'⟩:=id st'
  exact⟨u,rfl,Ih (s:={s with heap:=h'}) e' c' d' (by decide) ⟨_,H,I1,ru,⟨rfl,_,AC hi⟩,st',fun b hb=>(hf b hb).1⟩⟩
 done:=by
  intro X hP hw hK hc i pins s σ H E I hf st hg
  subst hP hw hK
  obtain⟨hq,hi⟩:=hg
  obtain⟨vs,rel,dd⟩:=Lj I hep hq
  have hl:vs.length=xs.length:=(DO rel).symm
  obtain⟨f0,f1,f2,f3,f4,f5⟩:=hf it (by simp)
  exact wpAny_pyNext_values_end (I.ok.hd hc) (by rw[hl];exact st) dd (AV (by lia)) fun h' eb=>⟨rfl,I.turned (t':=s.toks) (fun b o hb e=>eb b o hb e) f0 f1 f3 f4 f5⟩
 self:=fun A i s Q E st h=>by
  have hT:s.TypeIs (.ref it) "dict_valueiterator":=st.typeIs
  refine HN hT Gt (BK Gt hT wq ?_ (F.args_dict_valueiterator_iter_1 _))
  show wpAny _ _ (ret (.ref it)) _ _ s
  exact AD ⟨_,rfl,"dict_valueiterator",_,hT,F.slot_dict_valueiterator_next.lookup,h⟩
theorem Nw {o tg:Expr} {xo:Ex} {apos cpos:Pos} (ho:PE X o (tE X.K φ xo)) (hbase:attributeBase o "values" X.env (eval o X.env)=eval o X.env) (hline:(apos.endLine==cpos.line)=true) :
  PI X tg (.Call (.Attribute o "values" apos) [] [] cpos) (tI X.K φ (.vals xo)):=by
 intro pins s σv H R I ⟨ι,σ,μ,hS,hL,h⟩
 simp only[evI]at h
 cases e1:evE φ xo σ μ with
 | exc _ _ _=>rw[e1]at h;exact h.elim
 | stuck=>rw[e1]at h;exact h.elim
 | ok d μ1 =>
 rw[e1]at h
 simp only[Res.bw]at h
 cases d with
 | loc n =>
  simp only at h
  cases em:μ1[n]? with
  | none=>rw[em]at h;exact h.elim
  | some ob =>
   rw[em]at h
   cases ob with
   | d kvs =>
    simp only at h
    have hq:tE X.K φ xo σv H (fun v H1=>∃ι1,ι <+: ι1∧Ext H H1∧Sim X.K ι1 H1 μ1∧Lp.IsD X.K ι1 H1 (.loc n) v):=⟨ι,σ,μ,hS,hL,by rw[e1];exact fun ι1 v H1 p1 x1 s1 d1=>⟨ι1,p1,x1,s1,d1⟩⟩
    refine wpAny_Call_method0_late hbase hline (thn (ho pins s σv H _ I hq) fun u s1 ⟨v,H1,I1,r1,ι1,p1,x1,S1,d1⟩=>?_)
    obtain⟨a,rfl,hn⟩:∃a,v=.ref a∧ι1[n]? = some a:=by simpa[Lp.IsD]using d1
    obtain⟨a',q',xs,hH,hkv⟩:=S1.at em
    rw[hn]at q';cases q'
    obtain rfl:u=Value.ref a:=r1
    obtain⟨t1,t2,hsys⟩:=K1 I1 (.inl ⟨_,.inl hH⟩)
    obtain⟨_,_,vs0,_,dd0⟩:=Mj I1.hok hH
    refine⟨"dict","dict.values",IA,HU,PySem.F.type_dict_values,t1,t2,EF rfl (PySem.evalArgs_none ?_)⟩
    refine call_meetsIn HU t1 PySem.F.entry_dict_values (PySem.F.args_dict_values_1 _) (meets_dict_values (dg X.prog X.w) a hsys) ⟨⟨vs0,dd0⟩,?_⟩
    have I1':Inv X pins σv H1 {s1 with heap:=s1.heap.push {cls:=.type "dict_values",data:=.fields #[.ref a]}}:=I1.kept (t':=s1.toks) fun b o e=>AB _ e
    obtain⟨fo,I2⟩:=Nv I1' hH
    obtain⟨hget,hz,_,vs,rel,o',es,ep,hget',r⟩:=(show i5 X.prog X.w _ _ a (.frz fo (.dK xs))from I2.hok a _ bg)
    rw[hget]at hget';cases hget'
    have dat:Heap.DictAt (dg X.prog X.w) (s1.heap.push {cls:=.type "dict_values",data:=.fields #[.ref a]}) a vs ep:=⟨fo,es,hget,r⟩
    have hl:vs.length=xs.length:=(DO rel).symm
    show wpAny _ _ (pyIter (.ref s1.heap.objs.size)) _ _ _
    refine wpAny_pyIter_values (s:={s1 with heap:=s1.heap.push {cls:=.type "dict_values",data:=.fields #[.ref a]}}) (knd:=dg X.prog X.w) (v:=s1.heap.objs.size) ⟨_,AF _ rfl,rfl,rfl⟩ dat ?_
    have X2:Ext H1 (upd H1 a (.frz fo (.dK xs))):=.dK hH
    refine⟨_,[(s1.heap.push {cls:=.type "dict_values",data:=.fields #[.ref a]}).objs.size],_,_,_,rfl,I2.kept (t':=s1.toks) fun b o e=>AB _ e,F9 (a:=a) (o:=fo) (xs:=xs) (ep:=ep) ⟨es,r.2.1⟩,⟨_,AF _ rfl,rfl,by rw[hl];rfl⟩,fun b hb=>?_,h ι1 _ _ p1 (x1.trans X2) (S1.put hn X2 ⟨_,bg⟩) ?_⟩
    ·have e:b=(s1.heap.push {cls:=.type "dict_values",data:=.fields #[.ref a]}).objs.size:=by simpa using hb
     subst e
     exact I2.fpOk (AH _) (I2.hok.fresh (AH _))
    ·have hk:kvs.length=xs.length:=DO hkv
     have get:∀(i:Nat) (hi:i<xs.length) k x,xs[i]? = some (k,x)→∃d,(kvs.map (·.2))[i]? = some d∧Lp.IsD X.K [] H1 d x:=fun i hi k x e=>by
      obtain⟨p,e1,_,q⟩:=ve hkv e
      exact⟨p.2,by rw[BS,e1];rfl,q⟩
     refine⟨by rw[AG,hk];exact hz,fun i ι2 H2 μ3 q1 q2 q3 q4 hi=>?_,fun i ι2 H2 μ3 w H3 q1 q2 q3 q4 hi hy=>?_,fun ι2 H2 μ3 q1 q2 q3 q4=>?_⟩
     ·exact⟨q2.frzs _ _ _ bg,by rw[AG,hk]at hi;exact hi⟩
     ·obtain⟨rfl,k,e⟩:=hy
      rw[AG,hk]at hi
      obtain⟨d,e2,hd⟩:=get i hi k w e
      exact⟨.refl _,q3,d,e2,IsD.mono CJ (X2.trans q2) _ _ hd⟩
     ·exact⟨q2.frzs _ _ _ bg,by rw[AG,hk];exact AH _⟩
   | _=>exact h.elim
 | _=>exact h.elim
theorem Nx {o tg:Expr} {xo:Ex} {apos cpos:Pos} (ho:PE X o (tE X.K φ xo)) (hbase:attributeBase o "values" X.env (eval o X.env)=eval o X.env:=by rfl) (hline:(apos.endLine==cpos.line)=true:=by rfl) :
  PI X tg (.Call (.Attribute o "values" apos) [] [] cpos) (tI X.K φ (.vals xo)):=Nw ho hbase hline
theorem Q7 (iw il iw':Nat) {c:Int} {j:Nat} {xw xl xw':Str} {p0 p1 p2 p3 p4 pos:Pos}
  (hNw:X.N[iw]? = some xw:=by rfl) (hvw:Vis X.env.scope xw:=by first | exact Or.inl rfl | exact Or.inr (Or.inl rfl) | exact Or.inr (Or.inr rfl)) (hdw:(xw==("__debug__":Str))=false:=by decide) (hcw:(xw==("__classdict__":Str))=false:=by decide)
  (hNl:X.N[il]? = some xl:=by rfl) (hvl:Vis X.env.scope xl:=by first | exact Or.inl rfl | exact Or.inr (Or.inl rfl) | exact Or.inr (Or.inr rfl)) (hdl:(xl==("__debug__":Str))=false:=by decide) (hcl:(xl==("__classdict__":Str))=false:=by decide)
  (hNv:X.N[iw']? = some xw':=by rfl) (hvv:Vis X.env.scope xw':=by first | exact Or.inl rfl | exact Or.inr (Or.inl rfl) | exact Or.inr (Or.inr rfl)) (hdv:(xw'==("__debug__":Str))=false:=by decide) (hcv:(xw'==("__classdict__":Str))=false:=by decide) :
  PE X (.Dict [some (.Constant (.int c) j p0),some (.Name xl p1)] [.UnaryOp .USub (.Name xw p2) p3,.Name xw' p4] pos)
   (tE X.K φ (.dic false (.cons (.cst (.int c)) (.cons (.neg (.var iw)) (.cons (.var il) (.cons (.var iw') .nil)))))):=by
 refine PE.imp (Mn (B4 Kp (Pk Ks (uz hNw hvw hdw hcw)) (B4 (uz hNl hvl hdl hcl) (uz hNv hvv hdv hcv) Mm)) rfl rfl (by simp) (by simp)) fun σv H Q ⟨ι,σ,μ,hS,hL,h⟩=>?_
 simp only[evE,i7,Res.bw]at h
 intro p hp
 cases ew:σ[iw]? with
 | none=>rw[ew]at h;exact h.elim
 | some ow =>
 cases ow with
 | none=>rw[ew]at h;exact h.elim
 | some dw =>
 rw[ew]at h
 simp only[Res.bw]at h
 cases dw with
 | int w =>
  simp only[Res.bw]at h
  cases el:σ[il]? with
  | none=>rw[el]at h;exact h.elim
  | some ol =>
  cases ol with
  | none=>rw[el]at h;exact h.elim
  | some dl =>
  rw[el]at h
  simp only[Res.bw]at h
  cases ev:σ[iw']? with
  | none=>rw[ev]at h;exact h.elim
  | some ov =>
  cases ov with
  | none=>rw[ev]at h;exact h.elim
  | some dv =>
  rw[ev]at h
  simp only[Res.bw]at h
  cases dl with
  | int l =>
   simp only[K7]at h
   split at h
   ·rename_i hc
    obtain⟨_,_,hpv⟩:=hc
    obtain⟨vw,e1,q1⟩:=hL _ _ ew
    obtain⟨vl,e2,q2⟩:=hL _ _ el
    obtain⟨vv,e3,q3⟩:=hL _ _ ev
    cases fh q1
    cases fh q2
    refine⟨.int w,e1,w,rfl,.int l,e2,vv,e3,bg,[(.inl c,.int (-w)),(.inl l,vv)],rfl,by simp,?_⟩
    rw[Es]
    refine h (ι++[p]) _ _ (GY _ _) (Ext.new hp) (hS.push hp ⟨_,bg,?_⟩) ?_
    ·have X1:Ext H (upd H p (.dK (sh [] [(.inl c,.int (-w)),(.inl l,vv)]))):=Ext.new hp
     have k0:Iz X.K (upd H p (.dK (sh [] [(.inl c,.int (-w)),(.inl l,vv)]))) [(.int c,.int (-w))] [(.inl c,.int (-w))]:=.cons ⟨by simp[Lp.IsD,kV],by simp[Lp.IsD]⟩ .nil
     exact Ca (k:=.inl l) (IsD.mono CJ X1 _ _ (IsD.pur hpv q3)) k0
    ·simp only[Lp.IsD]
     exact⟨p,rfl,by rw[←hS.len];simp⟩
   ·exact h.elim
  | _=>exact h.elim
 | _=>exact h.elim
end
end Lp
namespace Lp
open PySem PySem.Spec PyProof.Rows L2
section
variable {X : Cx} {φ : Phi} {pos : Pos}
theorem t6:∀(r:List Int) (x:Int),Fi x r≤x∧(∀y∈r,Fi x r≤y)∧(Fi x r=x∨Fi x r∈r)
 | [],x=>⟨Int.le_refl _,by simp,.inl rfl⟩
 | y::r,x=>by
  have ih:=t6 r (if y<x then y else x)
  simp only[Fi]
  split at ih
  ·rename_i hlt
   rw[if_pos hlt]
   refine⟨by lia,fun z hz=>?_,?_⟩
   ·rcases AJ.mp hz with rfl | hz
    ·exact ih.1
    ·exact ih.2.1 z hz
   ·rcases ih.2.2 with e | e
    ·exact .inr (by rw[e];simp)
    ·exact .inr (AK _ e)
  ·rename_i hlt
   rw[if_neg hlt]
   refine⟨ih.1,fun z hz=>?_,?_⟩
   ·rcases AJ.mp hz with rfl | hz
    ·lia
    ·exact ih.2.1 z hz
   ·rcases ih.2.2 with e | e
    ·exact .inl e
    ·exact .inr (AK _ e)
theorem Ny {m:Mk} (hc:X.calm=true):jq X (.builtin "min") (uq X.K (btD .min1 m)):=by
 intro pins s σ H xs us Q I r ⟨ι,ds,μ,hS,hds,h⟩
 obtain⟨d,v,rfl,hv,h⟩:=lh hds h
 obtain⟨a,ns,rfl,hq,h⟩:=A2 hS hv h
 obtain⟨u,rfl,ru⟩:=vals1 r
 cases(show u=Value.ref a from ru)
 cases ns with
 | nil=>exact h.elim
 | cons n0 r0 =>
 refine call_min_walk (sa I hq (show X.A.in1.handled=none from I.ok.hd hc) fun it fp its St s2 hvs W st hfp hI=>?_)
 have hl:(n0::r0).length=its.length:=by have:=hvs.length;simpa using this
 have at_:∀(i:Nat) w,its[i]? = some w→∃t,w=.int ((n0::r0).getD i 0) t:=fun i w e=>by
  have hi:i<(n0::r0).length:=by rw[hl];exact(AL.mp e).1
  obtain⟨u',e1,⟨t,e2⟩⟩:=hvs.get (i:=i) (x:=.int (n0::r0)[i]) (by rw[BS,AC hi];rfl)
  rw[e]at e1;cases e1
  exact⟨t,by rw[e2];simp[AW,AC hi]⟩
 refine⟨it,fp,[it],its.length,_,St,fun i j=>decide ((n0::r0).getD i 0<(n0::r0).getD j 0),rfl,W,st,hfp,by rw[←hl];simp,CmpOf.ints_lt (fun i=>(n0::r0).getD i 0) at_,fun w h' tk hw hk=>?_⟩
 ·obtain⟨t,rfl⟩:=at_ _ w hw
  have ab:=argBest_lt (fun i=>(n0::r0).getD i 0) (its.length-1)
  have ml:=t6 r0 n0
  have hl':r0.length+1=its.length:=by simpa using hl
  have e:(n0::r0).getD (argBest (fun i j=>decide ((n0::r0).getD i 0<(n0::r0).getD j 0)) (its.length-1)) 0=Fi n0 r0:=by
   apply Int.le_antisymm
   ·have mem:Fi n0 r0∈n0::r0:=by rcases ml.2.2 with e | e;(rw[e];simp);exact AK _ e
    obtain⟨k,hk,ek⟩:=CV.mp mem
    have:=ab.2 k (by simp at hk;lia)
    rw[←ek]
    simpa[AW,AC hk]using this
   ·have hb:argBest (fun i j=>decide ((n0::r0).getD i 0<(n0::r0).getD j 0)) (its.length-1)<(n0::r0).length:=by
     have:=ab.1
     simp only[BJ];lia
    generalize argBest (fun i j=>decide ((n0::r0).getD i 0<(n0::r0).getD j 0)) (its.length-1)=b at hb
    have mem:(n0::r0).getD b 0∈n0::r0:=by
     rw[AW,AC hb]
     exact BQ hb
    rcases AJ.mp mem with e | e
    ·rw[e];exact ml.1
    ·exact ml.2.1 _ e
  exact⟨.int (Fi n0 r0),H,hI h' tk hk,⟨t,by rw[e]⟩,h.ok hS (by simp[IsD])⟩
theorem Jp {m:Mk} {p:Pos} {e:Expr} {xs:Exs} (hm:X.mg "min"=none) (ha:PA X [e] (tEs X.K φ xs)) (hc:X.calm=true:=by rfl) (hg:Gl X "min":=by rfl) (he:starEach [e] X.env=(false,eval e X.env)::starEach [] X.env:=by rfl) (hpl:(backTo pos (starEach [] X.env)).any (·.1)=false:=by rfl) :
  PE X (.Call (.Name "min" p) [e] [] pos) (tE X.K φ (.blt .min1 m xs)):=lj (r:=fun _ _ _=>True) (es:=[]) (i6 (Ny hc) hg hm (by first | exact IM | decide +kernel) ha (by decide) (by decide) he hpl)
end
end Lp
namespace Lp.Srt
open PySem PySem.W PyProof.Rows
noncomputable def KW {α:Type} (lt:Nat→Nat→Bool) (n:Nat):KasT α→(α→Prop)→Prop
 | .ret a,Q=>Q a
 | .ask i j k,Q=>i<n∧j<n∧KW lt n (k (lt i j)) Q
theorem KW.bd {α β:Type} {lt:Nat→Nat→Bool} {n:Nat} {f:α→KasT β} {Q:β→Prop}:∀{t:KasT α},KW lt n t (fun a=>KW lt n (f a) Q)→KW lt n (t.bind f) Q
 | .ret _,h=>h
 | .ask i j k,h=>⟨h.1,h.2.1,KW.bd h.2.2⟩
theorem KW.weak {α:Type} {lt:Nat→Nat→Bool} {n:Nat} {Q Q':α→Prop} (hq:∀a,Q a→Q' a):∀{t:KasT α},KW lt n t Q→KW lt n t Q'
 | .ret _,h=>hq _ h
 | .ask _ _ _,h=>⟨h.1,h.2.1,KW.weak hq h.2.2⟩
section
variable {r : Nat → Nat} {n : Nat}
noncomputable abbrev ltR (r:Nat→Nat) (i j:Nat):Bool:=decide (r i<r j)
noncomputable def PP (n:Nat) (p:Array Nat):Prop:=p.toList.Perm (List.range n)
noncomputable def Ky (r:Nat→Nat) (p:Array Nat) (x:Nat):Nat:=r (p.getD x 0)
noncomputable def Up (r:Nat→Nat) (p:Array Nat) (k:Nat):Prop:=∀i j,i≤j→j<k→Ky r p i≤Ky r p j
noncomputable def Dn (r:Nat→Nat) (p:Array Nat) (k:Nat):Prop:=∀i j,i≤j→j<k→Ky r p j≤Ky r p i
theorem PP.sz {p:Array Nat} (h:PP n p):p.size=n:=by
 have:=h.length_eq
 simpa using this
theorem PP.inb {p:Array Nat} (h:PP n p) (hn:0<n) (x:Nat):p.getD x 0<n:=by
 by_cases hx:x<p.size
 ·have e:p.getD x 0=p[x]:=by simp[hx]
  rw[e]
  have:p[x]∈List.range n:=h.mem_iff.mp (by simp)
  simpa using this
 ·have e:p.getD x 0=0:=by simp[hx]
  rw[e];exact hn
theorem zg (p:Array Nat) (x:Nat):Ky r p x=r ((p[x]?).getD 0):=by
 unfold Ky
 rw[Array.getD_eq_getD_getElem?]
theorem PP.rev {p:Array Nat} (h:PP n p) (i j:Nat):PP n (kas_rev p i j):=(GZ.mp (mirror_perm p i j ((j-i) / 2))).trans h
theorem PP.bub {p:Array Nat} (h:PP n p) (i d:Nat):PP n (bubble p i d):=(GZ.mp (bubble_perm p i d)).trans h
theorem Ci {p:Array Nat} {i j:Nat} (hj:j≤p.size) (hij:i≤j) (x:Nat):Ky r (kas_rev p i j) x=if i≤x∧x<j then Ky r p (i+j-1-x)else Ky r p x:=by
 rw[zg]
 unfold kas_rev
 rw[getElem?_mirror hj ((j-i) / 2) (by lia) x]
 by_cases h:i≤x∧x<j
 ·rw[if_pos h]
  split
  ·rw[zg]
  ·rename_i hm
   have:x=i+j-1-x:=by lia
   rw[zg,←this]
 ·rw[if_neg h,if_neg (by lia),zg]
theorem Lk {p:Array Nat} {k d:Nat} (hk:k<p.size) (hd:d≤k) (x:Nat):Ky r (bubble p k d) x=if x=k-d then Ky r p k else if k-d<x∧x≤k then Ky r p (x-1)else Ky r p x:=by
 rw[zg,getElem?_bubble hk d hd x]
 split
 ·rw[zg]
 ·split
  ·rw[zg]
  ·rw[zg]
theorem Ga {p:Array Nat} (hp:PP n p) (hn:0<n):∀(f m:Nat),1≤m→m+f≤n→Up r p m→KW (ltR r) n (kas_asc p f m) (fun q=>m≤q∧q≤m+f∧Up r p q∧(q<m+f→Ky r p q<Ky r p (q-1)))
 | 0,m,_,_,hu=>⟨AH _,AH _,hu,fun h=>absurd h (by lia)⟩
 | f+1,m,h1,h2,hu=>by
  refine⟨hp.inb hn _,hp.inb hn _,?_⟩
  by_cases hc:Ky r p m<Ky r p (m-1)
  ·have e:ltR r (p.getD m 0) (p.getD (m-1) 0)=true:=decide_eq_true hc
   (rw[e];dsimp only;rw[if_pos rfl])
   exact⟨AH _,by lia,hu,fun _=>hc⟩
  ·have e:ltR r (p.getD m 0) (p.getD (m-1) 0)=false:=decide_eq_false hc
   (rw[e];dsimp only;rw[if_neg AU])
   refine(Ga hp hn f (m+1) (by lia) (by lia) fun i j hij hj=>?_).weak fun q hq=>⟨by lia,by lia,hq.2.2.1,fun h=>hq.2.2.2 (by lia)⟩
   by_cases hj':j<m
   ·exact hu i j hij hj'
   ·have ej:j=m:=by lia
    subst ej
    by_cases hi:i=j
    ·rw[hi];exact AH _
    ·have:=hu i (j-1) (by lia) (by lia)
     lia
noncomputable def Bk (r:Nat→Nat) (p:Array Nat) (m q:Nat):Prop:=∀x,m-(q+1)≤x→x<m→Ky r p x=Ky r p (m-1)
theorem Gb {p:Array Nat} {m q:Nat} (hm:m≤p.size) (hq:q+1≤m) (hb:Bk r p m q) (x:Nat):Ky r (kas_rev p (m-(q+1)) m) x=Ky r p x:=by
 rw[Ci hm (by lia)]
 split
 ·rename_i h
  rw[hb x h.1 h.2,hb _ (by lia) (by lia)]
 ·rfl
theorem wt (hn:0<n):∀(f:Nat) (p:Array Nat) (m q:Nat),PP n p→1≤m→m+f≤n→q+1≤m→Dn r p m→Bk r p m q →
  KW (ltR r) n (kas_desc f p m q) (fun z=>PP n z.1∧m≤z.2.1∧z.2.1≤m+f∧z.2.2+1≤z.2.1∧Dn r z.1 z.2.1∧Bk r z.1 z.2.1 z.2.2)
 | 0,p,m,q,hp,h1,h2,hq,hd,hb=>⟨hp,AH _,AH _,hq,hd,hb⟩
 | f+1,p,m,q,hp,h1,h2,hq,hd,hb=>by
  have hsz:=hp.sz
  have dn1:∀p':Array Nat,(∀x,Ky r p' x=Ky r p x)→Ky r p m≤Ky r p (m-1)→Dn r p' (m+1):=fun p' he hle i j hij hj=>by
   rw[he,he]
   by_cases hj':j<m
   ·exact hd i j hij hj'
   ·have ej:j=m:=by lia
    subst ej
    by_cases hi:i=j
    ·rw[hi];exact AH _
    ·have:=hd i (j-1) (by lia) (by lia)
     lia
  have bk0:∀p':Array Nat,Bk r p' (m+1) 0:=fun p' x hx hx'=>by
   have:x=m:=by lia
   rw[this];rfl
  refine⟨hp.inb hn _,hp.inb hn _,?_⟩
  by_cases hc:Ky r p m<Ky r p (m-1)
  ·have e:ltR r (p.getD m 0) (p.getD (m-1) 0)=true:=decide_eq_true hc
   (rw[e];dsimp only;rw[if_pos rfl])
   by_cases h0:q > 0
   ·rw[if_pos h0]
    exact(wt hn f _ (m+1) 0 (hp.rev _ _) (by lia) (by lia) (by lia) (dn1 _ (Gb (by lia) hq hb) (by lia)) (bk0 _)).weak fun z hz=>⟨hz.1,by lia,by lia,hz.2.2.2⟩
   ·rw[if_neg h0]
    exact(wt hn f p (m+1) 0 hp (by lia) (by lia) (by lia) (dn1 p (fun _=>rfl) (by lia)) (bk0 _)).weak fun z hz=>⟨hz.1,by lia,by lia,hz.2.2.2⟩
  ·have e:ltR r (p.getD m 0) (p.getD (m-1) 0)=false:=decide_eq_false hc
   (rw[e];dsimp only;rw[if_neg AU])
   refine⟨hp.inb hn _,hp.inb hn _,?_⟩
   by_cases hc2:Ky r p (m-1)<Ky r p m
   ·have e2:ltR r (p.getD (m-1) 0) (p.getD m 0)=true:=decide_eq_true hc2
    (rw[e2];dsimp only;rw[if_pos rfl])
    exact⟨hp,AH _,IC _ _,hq,hd,hb⟩
   ·have e2:ltR r (p.getD (m-1) 0) (p.getD m 0)=false:=decide_eq_false hc2
    (rw[e2];dsimp only;rw[if_neg AU])
    refine(wt hn f p (m+1) (q+1) hp (by lia) (by lia) (by lia) (dn1 p (fun _=>rfl) (by lia)) fun x hx hx'=>?_).weak fun z hz=>⟨hz.1,by lia,by lia,hz.2.2.2⟩
    show Ky r p x=Ky r p m
    by_cases hx2:x=m
    ·rw[hx2]
    ·rw[hb x (by lia) (by lia)];lia
theorem Q8 {p:Array Nat} {m:Nat} (hm:m≤p.size) (hd:Dn r p m):Up r (kas_rev p 0 m) m:=fun i j hij hj=>by
 rw[Ci hm (CP _),Ci hm (CP _),if_pos (by lia),if_pos (by lia)]
 exact hd _ _ (by lia) (by lia)
theorem Gc {p:Array Nat} {m:Nat} (hp:PP n p) (hn:0<n) (h1:1≤m) (h2:m≤n) (hd:Dn r p m):KW (ltR r) n (kas_tail3 m n p) (fun z=>1≤z.1∧z.1≤n∧PP n z.2∧Up r z.2 z.1):=by
 unfold kas_tail3
 refine KW.bd ((Ga (hp.rev _ _) hn (n-m) m h1 (by lia) (Q8 (by rw[hp.sz];exact h2) hd)).weak fun q hq=>?_)
 exact⟨by lia,by lia,hp.rev _ _,hq.2.2.1⟩
theorem Ge {p:Array Nat} {m:Nat} (hp:PP n p) (hn:0<n) (h1:1≤m) (h2:m<n) (hd:Dn r p m) (hlt:Ky r p m<Ky r p (m-1)):KW (ltR r) n (kas_descPart m n p) (fun z=>1≤z.1∧z.1≤n∧PP n z.2∧Up r z.2 z.1):=by
 unfold kas_descPart
 have hd1:Dn r p (m+1):=fun i j hij hj=>by
  by_cases hj':j<m
  ·exact hd i j hij hj'
  ·have ej:j=m:=by lia
   subst ej
   by_cases hi:i=j
   ·rw[hi];exact AH _
   ·have:=hd i (j-1) (by lia) (by lia)
    lia
 refine KW.bd ((wt hn (n-(m+1)) p (m+1) 0 hp (by lia) (by lia) (by lia) hd1 fun x hx hx'=>by rw[show x=m by lia];rfl).weak fun z hz=>?_)
 obtain⟨hp',g1,g2,g3,g4,g5⟩:=hz
 by_cases h0:z.2.2 > 0
 ·rw[if_pos h0]
  refine Gc (hp'.rev _ _) hn (by lia) (by lia) fun i j hij hj=>?_
  rw[Gb (by rw[hp'.sz];lia) g3 g5,Gb (by rw[hp'.sz];lia) g3 g5]
  exact g4 i j hij hj
 ·rw[if_neg h0]
  exact Gc hp' hn (by lia) (by lia) g4
theorem Jq {p:Array Nat} (hp:PP n p) (hn:2≤n):KW (ltR r) n (kas_count n p) (fun z=>1≤z.1∧z.1≤n∧PP n z.2∧Up r z.2 z.1):=by
 unfold kas_count
 have hn0:0<n:=by lia
 refine KW.bd ((Ga hp hn0 (n-1) 1 (AH _) (by lia) fun i j hij hj=>by rw[show i=j by lia];exact AH _).weak fun q hq=>?_)
 obtain⟨g1,g2,g3,g4⟩:=hq
 by_cases h0:q=n
 ·rw[if_pos (by simp[h0])]
  exact⟨by lia,by lia,hp,g3⟩
 ·rw[if_neg (by simp[h0])]
  have hlt:=g4 (by lia)
  by_cases h1:q > 1
  ·rw[if_pos h1]
   refine⟨hp.inb hn0 _,hp.inb hn0 _,?_⟩
   by_cases hc:Ky r p 0<Ky r p (q-1)
   ·have e:ltR r (p.getD 0 0) (p.getD (q-1) 0)=true:=decide_eq_true hc
    (rw[e];dsimp only;rw[if_pos rfl])
    exact⟨by lia,by lia,hp,g3⟩
   ·have e:ltR r (p.getD 0 0) (p.getD (q-1) 0)=false:=decide_eq_false hc
    (rw[e];dsimp only;rw[if_neg AU])
    have all:∀x,x<q→Ky r p x=Ky r p 0:=fun x hx=>by
     have a:=g3 0 x (by lia) hx
     have b:=g3 x (q-1) (by lia) (by lia)
     lia
    have same:∀x,Ky r (kas_rev p 0 q) x=Ky r p x:=fun x=>by
     rw[Ci (by rw[hp.sz];lia) (by lia)]
     split
     ·rw[all x (by lia),all _ (by lia)]
     ·rfl
    refine Ge (hp.rev _ _) hn0 (by lia) (by lia) (fun i j hij hj=>?_) ?_
    ·rw[same,same,all i (by lia),all j hj]
     exact AH _
    ·rw[same,same];exact hlt
  ·rw[if_neg h1]
   have e1:q=1:=by lia
   subst e1
   exact Ge hp hn0 (by lia) (by lia) (fun i j hij hj=>by rw[show i=j by lia];exact AH _) hlt
theorem wu {p:Array Nat} {k:Nat} (hp:PP n p) (hn:0<n) (hu:Up r p k):∀(f l q:Nat),l≤q→q≤k→q-l≤f→(∀x,x<l→Ky r p x≤Ky r p k)→(∀x,q≤x→x<k→Ky r p k<Ky r p x) →
  KW (ltR r) n (kas_place p k f l q) (fun z=>z≤k∧(∀x,x<z→Ky r p x≤Ky r p k)∧∀x,z≤x→x<k→Ky r p k<Ky r p x)
 | 0,l,q,h1,h2,h3,ha,hb=>⟨by lia,ha,fun x hx=>hb x (by lia)⟩
 | f+1,l,q,h1,h2,h3,ha,hb=>by
  unfold kas_place
  by_cases h0:l≥q
  ·rw[if_pos h0]
   exact⟨by lia,ha,fun x hx=>hb x (by lia)⟩
  ·rw[if_neg h0]
   refine⟨hp.inb hn _,hp.inb hn _,?_⟩
   by_cases hc:Ky r p k<Ky r p ((l+q) / 2)
   ·have e:ltR r (p.getD k 0) (p.getD ((l+q) / 2) 0)=true:=decide_eq_true hc
    (rw[e];dsimp only;rw[if_pos rfl])
    refine wu hp hn hu f l ((l+q) / 2) (by lia) (by lia) (by lia) ha fun x hx hx'=>?_
    have:=hu ((l+q) / 2) x hx hx'
    lia
   ·have e:ltR r (p.getD k 0) (p.getD ((l+q) / 2) 0)=false:=decide_eq_false hc
    (rw[e];dsimp only;rw[if_neg AU])
    refine wu hp hn hu f ((l+q) / 2+1) q (by lia) h2 (by lia) (fun x hx=>?_) hb
    have:=hu x ((l+q) / 2) (by lia) (by lia)
    lia
theorem Ll (hn:0<n):∀(f:Nat) (p:Array Nat) (k:Nat),PP n p→k+f=n→1≤k→Up r p k→KW (ltR r) n (kas_bin f p k) (fun z=>PP n z∧Up r z n)
 | 0,p,k,hp,h1,_,hu=>⟨hp,by rw[←h1];exact hu⟩
 | f+1,p,k,hp,h1,h2,hu=>by
  unfold kas_bin
  refine KW.bd ((wu hp hn hu k 0 k (by lia) (AH _) (by lia) (fun x hx=>absurd hx (by lia)) (fun x hx hx'=>absurd hx' (by lia))).weak fun l hl=>?_)
  obtain⟨g1,g2,g3⟩:=hl
  refine Ll hn f _ (k+1) (hp.bub _ _) (by lia) (by lia) fun i j hij hj=>?_
  have hsz:=hp.sz
  have ek:k-(k-l)=l:=by lia
  rw[Lk (by lia) (by lia),Lk (by lia) (by lia),ek]
  by_cases i1:i=l
  ·rw[if_pos i1]
   by_cases j1:j=l
   ·rw[if_pos j1];exact AH _
   ·rw[if_neg j1,if_pos (by lia)]
    exact EE (g3 (j-1) (by lia) (by lia))
  ·rw[if_neg i1]
   by_cases i2:l<i∧i≤k
   ·rw[if_pos i2,if_neg (show ¬j=l by lia),if_pos (by lia)]
    exact hu (i-1) (j-1) (by lia) (by lia)
   ·rw[if_neg i2]
    by_cases j1:j=l
    ·rw[if_pos j1];exact g2 i (by lia)
    ·rw[if_neg j1]
     by_cases j2:l<j∧j≤k
     ·rw[if_pos j2]
      exact hu i (j-1) (by lia) (by lia)
     ·rw[if_neg j2]
      exact hu i j hij (by lia)
theorem Nz (hn:2≤n):KW (ltR r) n (kas_sort n) (fun z=>PP n z∧Up r z n):=by
 unfold kas_sort
 have hp:PP n (List.toArray (List.range n)):=by unfold PP;rw[GQ]
 refine KW.bd ((Jq hp hn).weak fun z hz=>?_)
 obtain⟨g1,g2,g3,g4⟩:=hz
 by_cases h:z.1<n
 ·rw[if_pos h]
  have em:max z.1 1=z.1:=by lia
  rw[em]
  exact Ll (by lia) (n-z.1) z.2 z.1 g3 (by lia) g1 g4
 ·rw[if_neg h]
  have:z.1=n:=by lia
  rw[this]at g4
  exact⟨g3,g4⟩
end
end Lp.Srt
namespace Lp.Srt
open PySem PySem.W PyProof.Rows PySem.Calls
section
variable {prog : Program} {w : World} {A : Around} {E : Value → Shared → Prop} {s : Shared}
theorem Q9 {α:Type} {lt:Nat→Nat→Bool} {n:Nat} {cmp:Nat→Nat→(Bool→Shared→Prop)→Shared→Prop} {s1:Shared} {Q:α→Prop} (hc:∀i j C,i<n→j<n→C (lt i j) s1→cmp i j C s1) :
  ∀{t:KasT α},KW lt n t Q→t.kasWp cmp (fun a s'=>s'=s1∧Q a) s1
 | .ret _,h=>⟨rfl,h⟩
 | .ask i j _,h=>hc i j _ h.1 h.2.1 (Q9 hc h.2.2)
theorem n4 (vs:List Value):(List.range vs.length).map (fun i=>vs.getD i Value.none)=vs:=by
 apply BU
 intro i
 by_cases h:i<vs.length
 ·simp[h]
 ·simp[h]
theorem zh {a:Addr} {vs:List Value} {c0:Nat} {P:PySem.Fin→Shared→Prop} (q0:s.heap.get? a=some (seqObj "list" vs.toArray c0)) (hsm:vs.length<64) (rk:Nat→Nat)
  (hk:2≤vs.length→∀g:Heap,(∀b o,b≠a→s.heap.get? b=some o→g.get? b=some o)→∃κ:SortKind,(∀(Q:SortKind→Shared→Prop) (E':Value→Shared→Prop),Q κ {s with heap:=g}→wpAny (model prog w) A (keyKind' vs.toArray) Q E' {s with heap:=g}) ∧
   ∀(i j:Nat) (C:Bool→Shared→Prop),i<vs.length→j<vs.length→C (decide (rk i<rk j)) {s with heap:=g}→wpAny (model prog w) A (keyLt' κ (vs.getD i Value.none) (vs.getD j Value.none)) C (fun _ _=>False) {s with heap:=g})
  (fin:∀p:Array Nat,PP vs.length p→Up rk p vs.length→P (.done (.ret .none)) {s with heap:=sortedHeap s.heap a vs (List.toArray (p.toList.map fun i=>vs.getD i Value.none))}) :
  wpAny (model prog w) A (Builtin.«list.sort» ⟨[.ref a],[]⟩) P E s:=by
 rw[list_sort_plain]
 have lta:a<s.heap.objs.size:=AI q0
 have small:vs.toArray.size≤sizeLine:=by rw[AE,DB];lia
 refine AA (listItems_at q0 rfl (AA (listUpdate_at q0 rfl ?_ small (CP _))))
 obtain⟨e1,q1⟩:∃e1,(s.heap.update a (Obj.mapSeq fun _=>(#[]:Array Value))).get? a=some (seqObj "list" #[] e1):=⟨_,II q0 (fun _=>#[])⟩
 refine AA (seqEpoch_at q1 rfl (AA (GW (AA (wpAny_newList (CL ?_) (CP _))) (by simpa using small))))
 have sz1:(s.heap.update a (Obj.mapSeq fun _=>(#[]:Array Value))).objs.size=s.heap.objs.size:=Heap.size_update _ _ _
 have q6:(((s.heap.update a (Obj.mapSeq fun _=>(#[]:Array Value))).push (seqObj "tuple" vs.toArray 0)).push (seqObj "list" #[] 0)).get? a=some (seqObj "list" #[] e1):=AB _ (AB _ q1)
 have old:∀b o,b≠a→s.heap.get? b=some o→(((s.heap.update a (Obj.mapSeq fun _=>(#[]:Array Value))).push (seqObj "tuple" vs.toArray 0)).push (seqObj "list" #[] 0)).get? b=some o:=fun b o hb e =>
  AB _ (AB _ (by rw[DK _ _ _ _ hb];exact e))
 show wpAny (model prog w) A _ P E {s with heap:=((s.heap.update a (Obj.mapSeq fun _=>(#[]:Array Value))).push (seqObj "tuple" vs.toArray 0)).push (seqObj "list" #[] 0)}
 dsimp only
 by_cases hs2:vs.toArray.size<2
 ·have hs2':vs.length<2:=by simpa using hs2
  rw[if_pos hs2,if_pos hs2]
  refine AA (AD ?_)
  rw[StateT.run_pure]
  refine AA (AD ?_)
  dsimp only
  have eo:(arrOf (SortSt.mk' general' (vs.toArray.zip vs.toArray) #[] 7 none)).map (·.2)=List.toArray ((List.toArray (List.range vs.length)).toList.map fun i=>vs.getD i Value.none):=by
   show(vs.toArray.zip vs.toArray).map (·.2)=_
   rw[GQ,n4]
   apply Array.toList_inj.mp
   simp[List.map_snd_zip]
  rw[eo]
  refine AA (seqEpoch_at q6 rfl (AA (listUpdate_at q6 rfl ?_ (CP _) (by rw[GQ,n4];lia))))
  simp only[bne_self_eq_false,AR,if_false]
  refine AD (fin (List.toArray (List.range vs.length)) (List.Perm.refl _) fun i j hij hj=>?_)
  rw[show i=j by lia]
  exact AH _
 ·have h2:2≤vs.length:=by simp at hs2;lia
  rw[if_neg hs2,if_neg hs2]
  obtain⟨κ,k1,k2⟩:=hk h2 _ old
  refine AA (k1 _ _ ?_)
  have run:=kat_run (prog:=prog) (w:=w) (A:=A) (E:=E) (κ:=κ) (ks:=vs) (vs:=vs) (s:={s with heap:=((s.heap.update a (Obj.mapSeq fun _=>(#[]:Array Value))).push (seqObj "tuple" vs.toArray 0)).push (seqObj "list" #[] 0)})
   (Q:=fun st' s'=>s'={s with heap:=((s.heap.update a (Obj.mapSeq fun _=>(#[]:Array Value))).push (seqObj "tuple" vs.toArray 0)).push (seqObj "list" #[] 0)}∧failedOf st'=none∧∃p:Array Nat,PP vs.length p∧Up rk p vs.length∧(arrOf st').map (·.2)=List.toArray (p.toList.map fun i=>vs.getD i Value.none))
   (G:=fun p s'=>s'={s with heap:=((s.heap.update a (Obj.mapSeq fun _=>(#[]:Array Value))).push (seqObj "tuple" vs.toArray 0)).push (seqObj "list" #[] 0)}∧PP vs.length p∧Up rk p vs.length)
   rfl h2 hsm (fun p st' s' _ har hf hg=>⟨hg.1,hf,p,hg.2.1,hg.2.2,kat_snds rfl har⟩) (Q9 (lt:=ltR rk) (fun i j C hi hj hC=>k2 i j C hi hj hC) (Nz h2))
  refine AA (DQ run ?_ fun _ _ x=>x)
  rintro⟨⟨⟩,st'⟩ s' ⟨rfl,hf,p,hp,hu,ho⟩
  dsimp only
  rw[ho]
  refine AA (seqEpoch_at q6 rfl (AA (listUpdate_at q6 rfl ?_ (CP _) (by rw[AE,AG,BN,hp.sz];simp at small;lia))))
  rw[hf]
  simp only[bne_self_eq_false,AR,if_false]
  exact AD (fin p hp hu)
theorem Gf {l:Addr} {vs:List Value} {Q:Value→Shared→Prop} (hl:s.heap.IsList l vs.toArray) (hsm:vs.length<64) (rk:Nat→Nat)
  (hk:2≤vs.length→∀(A':Around) (g:Heap),(∀b o,s.heap.get? b=some o→g.get? b=some o)→∃κ:SortKind,(∀(Q:SortKind→Shared→Prop) (E':Value→Shared→Prop),Q κ {s with heap:=g}→wpAny (model prog w) A' (keyKind' vs.toArray) Q E' {s with heap:=g}) ∧
   ∀(i j:Nat) (C:Bool→Shared→Prop),i<vs.length→j<vs.length→C (decide (rk i<rk j)) {s with heap:=g}→wpAny (model prog w) A' (keyLt' κ (vs.getD i Value.none) (vs.getD j Value.none)) C (fun _ _=>False) {s with heap:=g})
  (fin:∀p:Array Nat,PP vs.length p→Up rk p vs.length→Q (.ref (s.heap.objs.size+1)) {s with heap:=sortedAll s.heap vs (List.toArray (p.toList.map fun i=>vs.getD i Value.none))}) :
  wpAny (model prog w) A (call (.builtin "sorted") [.ref l]) Q E s:=by
 have small:vs.length≤sizeLine:=by rw[DB];lia
 refine HE kind_sorted plain_sorted entry_sorted (args_sorted1 _) ?_
 unfold Builtin.«sorted»
 refine AA (m:=checkCount "sorted" 1 1 _) (AD (AA (collect_list hl (AA (wpAny_newList ?_ small)) small)))
 have szL:((s.heap.push (seqObj "list" #[] 0)).update s.heap.objs.size (Obj.mapSeq (·++vs.toArray))).objs.size=s.heap.objs.size+1:=by rw[Heap.size_update,size_push']
 have qL:(((s.heap.push (seqObj "list" #[] 0)).update s.heap.objs.size (Obj.mapSeq (·++vs.toArray))).push (seqObj "list" vs.toArray 0)).get? (s.heap.objs.size+1)=some (seqObj "list" vs.toArray 0):=szL ▸ AF _ rfl
 have old:∀b o,s.heap.get? b=some o→(((s.heap.push (seqObj "list" #[] 0)).update s.heap.objs.size (Obj.mapSeq (·++vs.toArray))).push (seqObj "list" vs.toArray 0)).get? b=some o:=fun b o e =>
  AB _ (by rw[DK _ _ _ _ (AN (AI e))];exact AB _ e)
 show wpAny _ _ _ _ _ {s with heap:=(((s.heap.push (seqObj "list" #[] 0)).update s.heap.objs.size (Obj.mapSeq (·++vs.toArray))).push (seqObj "list" vs.toArray 0))}
 rw[szL]
 refine AA (CL (BK slot_list_sort ⟨_,qL,rfl⟩ entry_list_sort ?go (args_list_sort _)))
 case go =>
  refine zh (s:={s with heap:=(((s.heap.push (seqObj "list" #[] 0)).update s.heap.objs.size (Obj.mapSeq (·++vs.toArray))).push (seqObj "list" vs.toArray 0))}) qL hsm rk (fun h2 g hg=>hk h2 _ g fun b o e=>hg b o (AN (DE (AI e))) (old b o e)) fun p hp hu=>⟨_,rfl,?_⟩
  exact AD ⟨_,rfl,fin p hp hu⟩
end
end Lp.Srt
namespace Lp.Srt
open PySem PySem.W PyProof.Rows PySem.Calls
theorem A7:∀a:List Int,lexLt a a=false
 | []=>rfl
 | x::xs=>by simp[lexLt,A7 xs]
theorem Cj:∀{a b c:List Int},lexLt a b=true→lexLt b c=true→lexLt a c=true
 | a,b,[],_,h=>by cases b<;>simp[lexLt]at h
 | [],_,_::_,_,_=>rfl
 | x::xs,[],c::cs,h,_=>by simp[lexLt]at h
 | x::xs,y::ys,z::zs,h1,h2=>by
  simp only[lexLt]at h1 h2 ⊢
  by_cases e1:x=y
  ·subst e1
   by_cases e2:x=z
   ·subst e2
    simp only[if_true]at h1 h2 ⊢
    exact Cj h1 h2
   ·simp only[if_true]at h1
    rw[if_neg e2]at h2 ⊢
    exact h2
  ·rw[if_neg e1]at h1
   have h1':=of_decide_eq_true h1
   by_cases e2:y=z
   ·subst e2
    rw[if_neg e1]
    exact h1
   ·rw[if_neg e2]at h2
    have h2':=of_decide_eq_true h2
    rw[if_neg (show ¬x=z by lia)]
    exact decide_eq_true (by lia)
theorem A8:∀{a b:List Int},lexLt a b=false→lexLt b a=false→a=b
 | [],[],_,_=>rfl
 | [],_::_,h,_=>by simp[lexLt]at h
 | _::_,[],_,h=>by simp[lexLt]at h
 | x::xs,y::ys,h1,h2=>by
  simp only[lexLt]at h1 h2
  by_cases e:x=y
  ·subst e
   simp only[if_true]at h1 h2
   rw[A8 h1 h2]
  ·rw[if_neg e]at h1
   rw[if_neg (Ne.symm e)]at h2
   have a1:=of_decide_eq_false h1
   have a2:=of_decide_eq_false h2
   lia
theorem Lm {r a b:List Int} (h1:lexLt r b=true) (h2:lexLt a b=false):lexLt r a=true:=by
 cases e:lexLt r a with
 | true=>rfl
 | false =>
  cases e2:lexLt a r with
  | true=>rw[Cj e2 h1]at h2;cases h2
  | false=>rw[A8 e e2,h2]at h1;cases h1
theorem Ra {a b:List Int} (h:lexLt a b=true):lexLt b a=false:=by
 cases e:lexLt b a with
 | false=>rfl
 | true=>have:=Cj h e;rw[A7]at this;cases this
theorem zi {α:Type} {p q:α→Bool}:∀{l:List α},(∀x∈l,p x=true→q x=true)→(∃x∈l,q x=true∧p x=false)→l.countP p<l.countP q
 | [],_,h=>by obtain⟨x,hx,_⟩:=h;simp at hx
 | y::r,h1,h2=>by
  have le:r.countP p≤r.countP q:=IN fun x hx=>h1 x (AK _ hx)
  obtain⟨x,hx,hq,hp⟩:=h2
  rcases AJ.mp hx with rfl | hx
  ·simp[GA,hq,hp];lia
  ·have:=zi (l:=r) (fun z hz=>h1 z (AK _ hz)) ⟨x,hx,hq,hp⟩
   have h0:=h1 y AQ
   simp only[GA]
   cases e1:p y with
   | true=>simp[h0 e1];lia
   | false=>simp;lia
noncomputable def rkL (rs:List (List Int)) (i:Nat):Nat:=rs.countP fun r=>lexLt r (rs.getD i [])
theorem Rb {rs:List (List Int)} {i j:Nat} (hi:i<rs.length) (hj:j<rs.length):decide (rkL rs i<rkL rs j)=lexLt (rs.getD i []) (rs.getD j []):=by
 have mi:rs.getD i []∈rs:=by rw[show rs.getD i []=rs[i]by simp[hi]];exact BQ hi
 cases e:lexLt (rs.getD i []) (rs.getD j [])with
 | true=>exact decide_eq_true (zi (fun x _ h=>Cj h e) ⟨_,mi,e,A7 _⟩)
 | false =>
  refine decide_eq_false (Nat.not_lt.mpr ?_)
  exact IN fun x _ h=>Lm h e
theorem wx (x:List Int):∀l:List (List Int),(Mr x l).Perm (x::l)
 | []=>.refl _
 | y::r=>by
  unfold Mr
  split
  ·exact((wx x r).cons y).trans (.swap x y r)
  ·exact .refl _
theorem nc:∀l:List (List Int),(uo l).Perm l
 | []=>.refl _
 | x::r=>(wx x (uo r)).trans ((nc r).cons x)
theorem Ln (x:List Int):∀l:List (List Int),l.Pairwise (fun a b=>lexLt b a=false)→(Mr x l).Pairwise (fun a b=>lexLt b a=false)
 | [],_=>by simp[Mr]
 | y::r,h=>by
  unfold Mr
  have h':=BR.mp h
  split
  ·rename_i hc
   refine BR.mpr ⟨fun z hz=>?_,Ln x r h'.2⟩
   rcases AJ.mp ((wx x r).mem_iff.mp hz)with rfl | hz
   ·exact Ra hc
   ·exact h'.1 z hz
  ·rename_i hc
   have hc':lexLt y x=false:=by simpa using hc
   refine BR.mpr ⟨fun z hz=>?_,h⟩
   rcases AJ.mp hz with rfl | hz
   ·exact hc'
   ·cases e:lexLt z x with
    | false=>rfl
    | true=>have:=Lm e hc';rw[h'.1 z hz]at this;cases this
theorem Ck:∀l:List (List Int),(uo l).Pairwise (fun a b=>lexLt b a=false)
 | []=>.nil
 | x::r=>Ln x _ (Ck r)
theorem range_getD {α:Type} (d:α) (l:List α):(List.range l.length).map (fun i=>l.getD i d)=l:=by
 apply BU
 intro i
 by_cases h:i<l.length<;>simp[h]
theorem Gg {rs:List (List Int)} {p:Array Nat} (hp:PP rs.length p) (hu:Up (rkL rs) p rs.length):p.toList.map (fun i=>rs.getD i [])=uo rs:=by
 have p1:(p.toList.map fun i=>rs.getD i []).Perm rs:=by
  have:=hp.map fun i=>rs.getD i []
  rwa [range_getD]at this
 refine List.Perm.eq_of_pairwise (le:=fun a b=>lexLt b a=false) (fun a b _ _ h1 h2=>A8 h2 h1) ?_ (Ck rs) (p1.trans (nc rs).symm)
 rw[DT]
 intro i j hi hj hij
 have hsz:=hp.sz
 simp only[AG,BN]at hi hj
 simp only[List.getElem_map,Array.getElem_toList]
 have bi:p[i]<rs.length:=by simpa using hp.mem_iff.mp (show p[i]∈p.toList by simp)
 have bj:p[j]<rs.length:=by simpa using hp.mem_iff.mp (show p[j]∈p.toList by simp)
 rw[←Rb bj bi]
 refine decide_eq_false (Nat.not_lt.mpr ?_)
 have:=hu i j (by lia) (by lia)
 unfold Ky at this
 simpa[hi,hj]using this
end Lp.Srt
namespace Lp
open PySem PySem.Spec PyProof.Rows L2 Lp.Srt
section
variable {X : Cx} {φ : Phi} {pos : Pos}
theorem Gh {prog:Program} {w:World} {A:Around} {s:Shared} {fin:Bool} {Q:Bool→Shared→Prop}:∀(r1 r2:List Int) (u1 u2:List Value) (i:Nat),cz (r1.map V.int) u1→cz (r2.map V.int) u2→fin=decide (r1.length<r2.length)→Q (lexLt r1 r2) s →
  PySem.W.KatLex prog w A true fin Q (u1.zip u2) i s
 | [],[],u1,u2,i,h1,h2,hf,q=>by
  cases h1;cases h2
  rw[hf];exact q
 | [],_::_,u1,u2,i,h1,h2,hf,q=>by
  cases h1
  rw[hf];simpa[PySem.W.KatLex,lexLt]using q
 | _::_,[],u1,u2,i,h1,h2,hf,q=>by
  cases h2
  rw[hf,FD];simpa[PySem.W.KatLex,lexLt]using q
 | x::r1,y::r2,u1,u2,i,h1,h2,hf,q=>by
  rw[AT]at h1 h2
  cases h1 with
  | cons a1 b1 =>
   cases h2 with
   | cons a2 b2 =>
    obtain⟨t1,rfl⟩:=a1
    obtain⟨t2,rfl⟩:=a2
    rw[DA]
    refine PySem.W.kat_cons (wpAny_eqBool_int (PySem.W.kat_go (fun e=>PySem.W.kat_yes ?_) fun e=>PySem.W.kat_no ?_))
    ·have e':x=y:=by simpa using e
     refine Gh r1 r2 _ _ (i+1) b1 b2 (by rw[hf];simp) ?_
     simpa[lexLt,e']using q
    ·have e':¬x=y:=by simpa using e
     have q':Q (decide (x<y)) s:=by simpa[lexLt,e']using q
     cases hi:(true&&i==0)with
     | true=>exact oneLt_int q'
     | false=>exact PySem.W.kat_one _ _ (lt_int (show PySem.W.BoolBack Q (.bool (decide (x<y))) s from q'))
theorem Jr (ns:List Int):gc (ns.map D.int)=some ns:=by
 induction ns with
 | nil=>rfl
 | cons n r ih=>simp[gc,ih]
theorem Cm:∀{ds:List D} {ns:List Int},gc ds=some ns→ns.map D.int=ds
 | [],ns,h=>by simp[gc]at h;subst h;rfl
 | .int i::r,ns,h=>by
  simp only[gc]at h
  cases e:gc r with
  | none=>rw[e]at h;simp at h
  | some q =>
   rw[e]at h
   simp at h
   subst h
   rw[AT,Cm e]
 | .non::_,_,h=>by simp[gc]at h
 | .bl _::_,_,h=>by simp[gc]at h
 | .str _::_,_,h=>by simp[gc]at h
 | .tup _::_,_,h=>by simp[gc]at h
 | .lst _::_,_,h=>by simp[gc]at h
 | .loc _::_,_,h=>by simp[gc]at h
theorem Rc {ι:List Addr} {H:Hp} {pins:List (Addr×Obj)} {σ:St} {s:Shared} (I:Inv X pins σ H s) {r:List Int} {v:V} {u:Value} (hd:IsD X.K ι H (.tup (r.map D.int)) v) (hu:RelV v u):∃a its,u=.ref a∧IsTup s.heap a (List.toArray its)∧cz (r.map V.int) its:=by
 simp only[IsD]at hd
 obtain⟨a,xs,rfl,hq,hx⟩:=hd
 cases(show u=Value.ref a from hu)
 obtain⟨its,rv,tp,_⟩:=I.tuple hq
 refine⟨a,its,rfl,tp,?_⟩
 have e:xs=r.map V.int:=ints_of hx (Jr r)
 rw[←e];exact rv
theorem zj:∀{xs:List D} {rs:List (List Int)},rowsOf xs=some rs→xs=rs.map fun r=>D.tup (r.map D.int)
 | [],rs,h=>by simp[rowsOf]at h;subst h;rfl
 | .tup ds::r,rs,h=>by
  simp only[rowsOf]at h
  cases e1:gc ds with
  | none=>rw[e1]at h;simp at h
  | some ns =>
   rw[e1]at h
   cases e2:rowsOf r with
   | none=>rw[e2]at h;simp at h
   | some q =>
    rw[e2]at h
    simp at h
    subst h
    rw[AT,Cm e1,←zj e2]
 | .non::_,_,h=>by simp[rowsOf]at h
 | .bl _::_,_,h=>by simp[rowsOf]at h
 | .int _::_,_,h=>by simp[rowsOf]at h
 | .str _::_,_,h=>by simp[rowsOf]at h
 | .lst _::_,_,h=>by simp[rowsOf]at h
 | .loc _::_,_,h=>by simp[rowsOf]at h
noncomputable def wy (g:Heap) (r:List Int) (u:Value):Prop:=r≠[]∧∃a its,u=Value.ref a∧IsTup g a (List.toArray its)∧cz (r.map V.int) its
theorem Gi {ι:List Addr} {H:Hp} {pins:List (Addr×Obj)} {σ:St} {s:Shared} (I:Inv X pins σ H s):∀{rs:List (List Int)} {xs:List V} {us:List Value},(rs.all fun r=>!r.isEmpty)=true→aq X.K ι H (rs.map fun r=>D.tup (r.map D.int)) xs→cz xs us→Paired (wy s.heap) rs us
 | [],xs,us,_,h1,h2=>by
  have:xs=[]:=by simpa[aq]using h1
  subst this
  cases h2
  exact .nil
 | r::rs,xs,us,hn,h1,h2=>by
  rw[AT]at h1
  simp only[aq]at h1
  obtain⟨v,q,rfl,hd,ht⟩:=h1
  rw[BC,AZ]at hn
  cases h2 with
  | cons a b=>exact .cons ⟨fun z=>by rw[z]at hn;simp at hn,Rc I hd a⟩ (Gi I hn.2 ht b)
theorem wy.keep {g g':Heap} {r:List Int} {u:Value} (h:wy g r u) (k:∀b o,g.get? b=some o→g'.get? b=some o):wy g' r u:=by
 obtain⟨h0,a,its,e,⟨o,q1,q2,q3⟩,v⟩:=h
 exact⟨h0,a,its,e,⟨o,k _ _ q1,q2,q3⟩,v⟩
theorem zk {g:Heap}:∀{rs:List (List Int)} {us:List Value},Paired (wy g) rs us→∃fs,PySem.W.KatTups g us fs∧fs.length=us.length∧∀v∈fs,∃i t,v=Value.int i t
 | _,_,.nil=>⟨[],.nil,rfl,by simp⟩
 | r::rs,_,.cons h t=>by
  obtain⟨fs,f1,f2,f3⟩:=zk t
  obtain⟨h0,a,its,rfl,⟨o,q1,q2,n,q3⟩,v⟩:=h
  cases r with
  | nil=>exact absurd rfl h0
  | cons x r =>
   rw[AT]at v
   cases v with
   | cons a1 b1 =>
    obtain⟨t1,rfl⟩:=a1
    refine⟨.int x t1::fs,.cons q1 q2 q3 (by simp) f1,by simp[f2],fun z hz=>?_⟩
    rcases AJ.mp hz with rfl | hz
    ·exact⟨_,_,rfl⟩
    ·exact f3 z hz
theorem o7 {α β:Type} {R:α→β→Prop} {d:α} {e:β}:∀{xs:List α} {ys:List β},Paired R xs ys→∀i,i<xs.length→R (xs.getD i d) (ys.getD i e)
 | _,_,.nil,i,h=>by simp at h
 | _,_,.cons a _,0,_=>by simpa using a
 | _,_,.cons _ t,i+1,h=>by simpa using o7 t i (by simpa using h)
theorem Co {K:PySem.W.Frag} {ι:List Addr} {H:Hp} {f:Nat→D} {g:Nat→V}:∀{l:List Nat},(∀i∈l,IsD K ι H (f i) (g i))→aq K ι H (l.map f) (l.map g)
 | [],_=>by simp[aq]
 | i::l,h=>by
  rw[AT,AT]
  simp only[aq]
  exact⟨_,_,rfl,h i AQ,Co fun j hj=>h j (AK _ hj)⟩
theorem Cq {f:Nat→V} {g:Nat→Value}:∀{l:List Nat},(∀i∈l,RelV (f i) (g i))→cz (l.map f) (l.map g)
 | [],_=>.nil
 | i::l,h=>.cons (h i AQ) (Cq fun j hj=>h j (AK _ hj))
theorem N0 {K:PySem.W.Frag} {ι:List Addr} {H:Hp} {ds:List D} {xs:List V} (h:aq K ι H ds xs) {i:Nat} (hi:i<ds.length):IsD K ι H (ds.getD i .non) (xs.getD i .non):=by
 obtain⟨v,e,q⟩:=h.get (show ds[i]? = some (ds.getD i .non)by simp[hi])
 have:xs.getD i .non=v:=by rw[AW,e];rfl
 rw[this];exact q
theorem Gj {m:Mk}:jq X (.builtin "sorted") (uq X.K (btD .sorted m)):=by
 intro pins s σ H xs us Q I r ⟨ι,ds,μ,hS,hds,h⟩
 obtain⟨d,v,rfl,hv,h⟩:=lh hds h
 unfold Fj at h
 cases el:Lp.listOf μ d with
 | none=>rw[el]at h;exact h.elim
 | some zs =>
 rw[el]at h
 simp only at h
 split at h
 ·rename_i h64
  unfold Av at h
  cases er:rowsOf zs with
  | none=>rw[er]at h;exact h.elim
  | some rs =>
  rw[er]at h
  simp only at h
  split at h
  ·rename_i hne
   obtain⟨a,vV,rfl,hq,hz⟩:=lb hS hv el
   obtain⟨u,rfl,ru⟩:=vals1 r
   cases(show u=Value.ref a from ru)
   obtain⟨its,rv,pl,hlen⟩:=I.list hq.sq
   have ez:=zj er
   subst ez
   have l1:vV.length=rs.length:=by rw[hz.length,AG]
   have l2:its.length=rs.length:=by rw[←rv.length];exact l1
   have hrs:rs.length<64:=by simpa using h64
   have pr:=Gi I hne hz rv
   refine Gf pl.isList (by lia) (rkL rs) (fun _ A' g hg=>⟨tuples' true,fun Q' E' q=>?_,fun i j C hi hj hC=>?_⟩) fun p hp hu=>Ja ?_
   ·have pg:Paired (wy g) rs its:=Paired.mapP pr fun r u h=>wy.keep h hg
    obtain⟨fs,f1,f2,f3⟩:=zk pg
    exact PySem.W.kat_kind (s:={s with heap:=g}) (T:=.type "int") f1 (by lia) (fun v hv=>by obtain⟨i,t,rfl⟩:=f3 v hv;exact PySem.W.Looks.of_pure rfl) (by decide) q
   ·have pg:Paired (wy g) rs its:=Paired.mapP pr fun r u h=>wy.keep h hg
    rw[Rb (by lia) (by lia)]at hC
    obtain⟨_,a1,i1,e1,⟨o1,g1,_,n1,d1⟩,v1⟩:=o7 (d:=[]) (e:=Value.none) pg i (by lia)
    obtain⟨_,a2,i2,e2,⟨o2,g2,_,n2,d2⟩,v2⟩:=o7 (d:=[]) (e:=Value.none) pg j (by lia)
    rw[e1,e2]
    refine PySem.W.kat_lt (s:={s with heap:=g}) g1 d1 g2 d2 ?_
    have z1:=v1.length
    have z2:=v2.length
    rw[AG]at z1 z2
    exact Gh _ _ i1 i2 0 v1 v2 (by simp only[AE,z1,z2]) hC
   ·rw[l2]at hp hu
    obtain⟨e',he⟩:=sortedAll_at s.heap its (List.toArray (p.toList.map fun i=>its.getD i Value.none))
    have mem:∀i∈p.toList,i<rs.length:=fun i hi=>by simpa using hp.mem_iff.mp hi
    have hd:aq X.K ι H ((uo rs).map fun r=>D.tup (r.map D.int)) (p.toList.map fun i=>vV.getD i .non):=by
     rw[←Gg hp hu,BA]
     refine Co fun i hi=>?_
     have:=N0 hz (i:=i) (by rw[AG];exact mem i hi)
     have e3:(rs.map fun r=>D.tup (r.map D.int)).getD i .non=D.tup ((rs.getD i []).map D.int):=by simp[mem i hi]
     rw[e3]at this
     exact this
    have hv2:cz (p.toList.map fun i=>vV.getD i .non) (p.toList.map fun i=>its.getD i Value.none):=Cq fun i hi=>o7 rv i (by have:=mem i hi;lia)
    exact⟨.ref (s.heap.objs.size+1),upd H (s.heap.objs.size+1) (.lst (p.toList.map fun i=>vV.getD i .non)),I.laid (t':=s.toks) (fun b u e=>sortedAll_old e) (ED _) ⟨by rw[AG,BN,hp.sz,DB];lia,_,e',hv2,he⟩,rfl,mm hS hd h (I.hok.fresh (ED _))⟩
  ·exact h.elim
 ·exact h.elim
theorem Dy {m:Mk} {p:Pos} {e:Expr} {es:List Expr} {xs:Exs} (hm:X.mg "sorted"=none) (ha:PA X (e::es) (tEs X.K φ xs)) (hg:Gl X "sorted":=by rfl) (he:starEach (e::es) X.env=(false,eval e X.env)::starEach es X.env:=by rfl) (hpl:(backTo pos (starEach es X.env)).any (·.1)=false:=by rfl) :
  PE X (.Call (.Name "sorted" p) (e::es) [] pos) (tE X.K φ (.blt .sorted m xs)):=lj (r:=fun _ _ _=>True) (es:=es) (i6 Gj hg hm (by first | exact HV | decide +kernel) ha (by decide) (by decide) he hpl)
end
end Lp
namespace Lp
open PySem PySem.Spec PyProof.Rows L2
theorem N1 (l:Addr) (xs:Array Value) (n:Nat) (b:Addr) (o:Obj) (ys:Array Value) (k:Nat) (hc:o.cls=.type "tuple") (hd:o.data=.seq ys k) (hl:¬(!xs.isEmpty&&Builtin.List.listTooLong (xs.size+ys.size))=true) (h1:xs.size≤sizeLine) (h2:xs.size+ys.size≤sizeLine+1) :
  Meets (Builtin.«list.extend» ⟨[.ref l,.ref b],[]⟩) (fun _ R s=>s.heap.get? l=some {cls:=.type "list",dict:=none,data:=.seq xs n,slots:=#[]}∧s.heap.get? b=some o∧R (.ok (.ret Value.none)) {s with heap:=s.heap.update l (Obj.mapSeq fun x=>x++ys),toks:=s.toks}) :=
 .of_wp fun prog w A R s h=>by
  obtain⟨hp,g,d,tk,os⟩:=s
  obtain⟨ql,qb,h⟩:=h
  obtain⟨oc,od,ot,osl⟩:=o
  simp only at hc hd
  subst hc hd
  have z:(xs++ys).size≤sizeLine+1:=by rw[Array.size_append];exact h2
  wp_walk using(GK ql rfl (hz:=h1) (_hz':=z)),CH ql,CH qb
  exact⟨_,rfl,h⟩
section
variable {X : Cx} {φ : Phi} {pos : Pos} {pins : List (Addr × Obj)} {σ : St} {H : Hp} {s : Shared}
theorem Gk:MtR X "list.extend" (rMt X.K .extendT):=by
 intro pins s σ H x vs v us Q I rx rv h0
 obtain⟨ι,n,ob,xs,ds,μ,a,ws,hS,hds,rfl,ha,hH,h1,h2,h⟩:=M6 (by decide) h0
 clear h0
 simp only[mtL]at h
 obtain⟨d,w0,rfl,hv,h⟩:=lh hds h
 cases d with
 | tup ys =>
  simp only at h
  split at h
  ·rename_i hf
   rw[j6]at hf
   simp only[IsD]at hv
   obtain⟨b,zs,rfl,hb,hzs⟩:=hv
   cases(show v=Value.ref a from rx)
   obtain⟨u,rfl,ru⟩:=rv.one
   cases(show u=Value.ref b from ru)
   obtain⟨z,its,n1,r,hl,e⟩:=I.lstM hH
   obtain⟨its2,r2,⟨o,e2,c2,n2,d2⟩,z2⟩:=I.tuple hb
   have l1:=h1.length
   have l2:=hzs.length
   have l3:=r.length
   have l4:=r2.length
   have hsz:its.toArray.size+its2.toArray.size≤sizeLine:=by rw[AE,AE];lia
   refine GV F.slot_list_extend ⟨_,e,rfl⟩ F.entry_list_extend (F.args_list_extend_2 _ _)
    (N1 a its.toArray n1 b o its2.toArray n2 c2 d2 (by rw[By hsz,Bool.and_false];exact AU) (by lia) (by lia)) ⟨e,e2,?_⟩
   refine⟨.non,_,I.lset (its':=its++its2) hH e (by simp) (r.append r2) (by rw[CG];lia),rfl,o5 hS ha hH (h1.append hzs) (fun es ee=>(h2 es ee).append ?_) (by simp[IsD]) h⟩
   subst ee
   exact aq.pur (by simpa[fits]using hf.1) hzs
  ·exact h.elim
 | _=>exact h.elim
end
section
variable {X : Cx} {φ : Phi} {o e : Expr} {es : List Expr} {xo : Ex} {xs : Exs} {apos cpos : Pos}
theorem zl (ho:PE X o (tE X.K φ xo)) (ha:PA X (e::es) (tEs X.K φ xs)) (hbase:attributeBase o "extend" X.env (eval o X.env)=eval o X.env:=by rfl)
  (hfew:((backTo cpos (starEach (e::es) X.env)).all (fun x=>!x.1)&&(backToKw cpos (keywordEach [] X.env)).all (fun x=>x.1.isSome)&&decide ((e::es).length+([]:List Keyword).length+(if([]:List Keyword).isEmpty then 0 else 1)<30))=true:=by rfl)
  (hline:(apos.endLine==cpos.line)=true:=by rfl) (hs:starEach (e::es) X.env=(false,eval e X.env)::starEach es X.env:=by rfl) (hplain:(backTo cpos (starEach es X.env)).any (·.1)=false:=by rfl):PE X (.Call (.Attribute o "extend" apos) (e::es) [] cpos) (tE X.K φ (.meth .extendT xo xs)) :=
 Lh (qh fun _ _=>rfl) (P0 HL F.slot_list_extend F.type_list_extend Gk ho ha hbase hfew hline hs hplain)
end
end Lp
namespace Lp.Sets
open PySem PySem.W PyProof.Rows
noncomputable def N2 (xs:Array Nat):Prop:=∀i j,i<j→j<xs.size→xs.getD i 0<xs.getD j 0
theorem getD_in {xs:Array Nat} {i:Nat} (d:Nat) (h:i<xs.size):xs.getD i d=xs.getD i 0:=by simp[h]
noncomputable def Rf (xs:Array Nat) (j p:Nat):Prop:=p≤xs.size∧(∀i,i<p→xs.getD i 0<j)∧∀i,p≤i→i<xs.size→j≤xs.getD i 0
theorem wz {xs:Array Nat} {j:Nat} (hr:N2 xs):∀(f lo hi:Nat),hi-lo≤f→lo≤hi→hi≤xs.size→(∀i,i<lo→xs.getD i 0<j)→(∀i,hi≤i→i<xs.size→j≤xs.getD i 0)→Rf xs j (SetTable.below.go xs j f lo hi)
 | 0,lo,hi,h1,h2,h3,ha,hb=>by
  have e:lo=hi:=by lia
  subst e
  exact⟨h3,ha,hb⟩
 | f+1,lo,hi,h1,h2,h3,ha,hb=>by
  unfold SetTable.below.go
  by_cases hlt:lo<hi
  ·rw[if_pos hlt]
   dsimp only
   have hm:(lo+hi) / 2<xs.size:=by lia
   rw[getD_in j hm]
   by_cases hc:xs.getD ((lo+hi) / 2) 0<j
   ·rw[if_pos hc]
    refine wz hr f _ hi (by lia) (by lia) h3 (fun i hi'=>?_) hb
    by_cases e:i=(lo+hi) / 2
    ·rw[e];exact hc
    ·have:=hr i ((lo+hi) / 2) (by lia) hm
     lia
   ·rw[if_neg hc]
    refine wz hr f lo _ (by lia) (by lia) (by lia) ha fun i hi' hs=>?_
    by_cases e:i=(lo+hi) / 2
    ·rw[e];lia
    ·have:=hr ((lo+hi) / 2) i (by lia) hs
     lia
  ·rw[if_neg hlt]
   have e:lo=hi:=by lia
   subst e
   exact⟨h3,ha,hb⟩
theorem t8 {xs:Array Nat} (hr:N2 xs) (j:Nat):Rf xs j (SetTable.below xs j):=wz hr xs.size 0 xs.size (by lia) (by lia) (by lia) (fun i h=>absurd h (by lia)) fun i h h'=>absurd h' (by lia)
theorem w4 {α:Type} (xs:Array α) (p:Nat) (x:α):(SetTable.insertAt xs p x).toList=xs.toList.take p++x::xs.toList.drop p:=by
 unfold SetTable.insertAt
 simp[Array.toList_extract,BY]
theorem o8 {xs:Array Nat}:N2 xs↔xs.toList.Pairwise (· < ·):=by
 rw[DT]
 constructor
 ·intro h i j hi hj hij
  have h':=h i j hij (by simpa using hj)
  have e1:i<xs.size:=by simpa using hi
  have e2:j<xs.size:=by simpa using hj
  simpa[e1,e2]using h'
 ·intro h i j hij hj
  have:=h i j (by simp;lia) (by simpa using hj) hij
  have e1:i<xs.size:=by lia
  simpa[e1,hj]using this
theorem A9 {xs:Array Nat} {j:Nat} (hr:N2 xs) (hn:xs[SetTable.below xs j]?≠some j):N2 (SetTable.insertAt xs (SetTable.below xs j) j):=by
 obtain⟨h1,h2,h3⟩:=t8 hr j
 have hr':=o8.mp hr
 generalize SetTable.below xs j=p at *
 rw[o8,w4,List.pairwise_append]
 have hd:∀b∈xs.toList.drop p,j<b:=by
  intro b hb
  obtain⟨i,hi,e⟩:=CV.mp hb
  rw[List.getElem_drop]at e
  have hs:p+i<xs.size:=by simp at hi;lia
  have g:=h3 (p+i) (by lia) hs
  have e':xs.getD (p+i) 0=b:=by simp[hs];simpa using e
  rw[e']at g
  by_cases h0:j=b
  ·exfalso
   subst h0
   have hp:xs[p]? = some (xs.getD p 0):=by
    have:p<xs.size:=by lia
    simp[this]
   have hjp:j≤xs.getD p 0:=h3 p (AH _) (by lia)
   have hpj:xs.getD p 0≤j:=by
    by_cases hi0:i=0
    ·subst hi0;rw[←e'];exact AH _
    ·have:=hr p (p+i) (by lia) hs
     lia
   exact hn (by rw[hp];congr 1;lia)
  ·lia
 refine⟨hr'.sublist (List.take_sublist _ _),BR.mpr ⟨hd,hr'.sublist (List.drop_sublist _ _)⟩,?_⟩
 intro a ha b hb
 have haj:a<j:=by
  obtain⟨i,hi,e⟩:=CV.mp ha
  rw[HP]at e
  have hs:i<xs.size:=by simp at hi;lia
  have g:=h2 i (by simp at hi;lia)
  have e':xs.getD i 0=a:=by simp[hs];simpa using e
  lia
 rcases AJ.mp hb with rfl | hb
 ·exact haj
 ·have:=hd b hb
  lia
theorem Dz (n:Nat):N2 (Array.range n):=by
 rw[o8]
 simpa using FT
structure Tidy (t:SetTable) (l:Bool):Prop where
 rose:N2 t.place
 none:t.dummies=#[]
 led:t.led=l
theorem has_none (j:Nat):SetTable.has #[] j=false:=rfl
theorem vf {t:SetTable} {l:Bool} (h:Tidy t l) {k:Int}:∀(f:Nat) (p:SetTable.Probe),p.dummy=none→∀{j d},SetTable.probe.go t (fun _=>k+1) k f p=some (.empty j d)→d=none∧t.place[SetTable.below t.place j]?≠some j
 | 0,p,_,j,d,e=>by simp[SetTable.probe.go]at e
 | f+1,p,hp,j,d,e=>by
  unfold SetTable.probe.go at e
  have hs:t.slot p.j=if t.place[SetTable.below t.place p.j]?==some p.j then .live (SetTable.below t.place p.j)else .empty:=by
   unfold SetTable.slot
   rw[h.none]
   simp only[has_none,AR,if_false]
  rw[hs]at e
  by_cases hc:(t.place[SetTable.below t.place p.j]?==some p.j)=true
  ·rw[if_pos hc]at e
   dsimp only at e
   have hne:(k+1==k)=false:=by simp;lia
   rw[hne]at e
   refine vf h f (t.advance p) ?_ e
   unfold SetTable.advance
   split
   ·exact hp
   ·exact hp
  ·rw[if_neg hc]at e
   injection e with e
   injection e with e1 e2
   subst e1
   refine⟨by rw[←e2,hp],fun hx=>hc (by rw[hx];simp)⟩
theorem j8 {t:SetTable} {l:Bool} (h:Tidy t l) (n:Nat):Tidy (t.standIn n) l:=⟨Dz n,rfl,h.led⟩
theorem N3 {t:SetTable} {l:Bool} (h:Tidy t l) (n:Nat):Tidy (t.orStandIn n) l:=by
 unfold SetTable.orStandIn
 split
 ·exact h
 ·exact j8 h n
theorem Ba {t:SetTable} {l:Bool} (h:Tidy t l) (es:Array (Int×Value)) (k:Int) (x:Value):Tidy (layNew t es k x).2.1 l:=by
 unfold layNew
 cases e:t.freeSlot k with
 | none=>exact j8 h _
 | some z =>
  obtain⟨sl,wd⟩:=z
  dsimp only
  refine N3 ?_ _
  unfold SetTable.freeSlot at e
  have hr:t.place[SetTable.below t.place sl]?≠some sl:=by
   split at e
   ·rename_i j d em
    obtain⟨rfl,q⟩:=vf h _ _ rfl em
    simp at e
    rw[←e.1];exact q
   ·simp at e
  refine⟨A9 h.rose hr,?_,h.led⟩
  show(if SetTable.has t.dummies sl=true then _ else t.dummies)=#[]
  rw[h.none,has_none];rfl
theorem w6 {t:SetTable} {l:Bool} (h:Tidy t l) (es:Array (Int×Value)) (n:Nat):Tidy (relayAll t es n).2.1 l:=by
 unfold relayAll
 split
 ·rename_i t' order e
  dsimp only
  split
  ·dsimp only
   unfold SetTable.relaid SetTable.laid at e
   simp only[Option.bind_eq_bind,Option.bind_eq_some_iff]at e
   obtain⟨owner,_,e⟩:=e
   simp only[Option.pure_def,BP,GC]at e
   obtain⟨rfl,_⟩:=e
   refine⟨?_,rfl,h.led⟩
   rw[o8]
   dsimp only
   rw[List.pairwise_map]
   refine List.Pairwise.filterMap _ (R:=(· < ·)) ?_ FT
   intro a a' hlt b hb b' hb'
   simp only[Option.mem_def,FR]at hb hb'
   obtain⟨_,_,rfl⟩:=hb
   obtain⟨_,_,rfl⟩:=hb'
   exact hlt
  ·exact j8 h _
 ·exact j8 h _
theorem D0 (l:Bool):Tidy (.fresh 0 0 l) l:=⟨fun i j _ h=>absurd h (by simp[SetTable.fresh]),rfl,rfl⟩
end Lp.Sets
namespace Lp.Sets
open PySem PySem.W PyProof.Rows PySem.Calls
structure Holds (prog:Program) (w:World) (o:Obj) (es:Array (Int×Value)) (ep:Nat) (t:SetTable) (σ:List Int) (l:Bool):Prop where
 set:o.ExactSet
 data:o.data=.set es ep t
 tidy:Tidy t l
 fits:t.fits es.size=true
 few:es.size<scanBound
 elems:ElemsOf (intKind prog w) es.toList
 vals:∃vs,(es.toList.map (·.2)).Perm vs∧IntsAre vs σ
noncomputable def Bb (prog:Program) (w:World) (h:Heap) (a:Addr) (σ:List Int) (l:Bool):Prop:=∃o es ep t,h.get? a=some o∧Holds prog w o es ep t σ l
theorem xg:∀{vs:List Value} {ns:List Int},IntsAre vs ns→vs.length=ns.length
 | _,_,.nil=>rfl
 | _,_,.cons n t r=>by simp[xg r]
theorem ints_snoc {n:Int} {t:Tok}:∀{vs:List Value} {ns:List Int},IntsAre vs ns→IntsAre (vs++[.int n t]) (ns++[n])
 | _,_,.nil=>.cons n t .nil
 | _,_,.cons m u r=>.cons m u (ints_snoc r)
theorem xj:∀{vs:List Value} {ns:List Int},IntsAre vs ns→∀k:Int,k∈ns↔∃v∈vs,Value.isInt k v=true
 | _,_,.nil,k=>by simp
 | _,_,.cons m u r,k=>by
  rw[AJ,xj r k]
  constructor
  ·rintro(rfl | ⟨v,hv,e⟩)
   ·exact⟨_,AQ,by simp[Value.isInt]⟩
   ·exact⟨v,AK _ hv,e⟩
  ·rintro⟨v,hv,e⟩
   rcases AJ.mp hv with rfl | hv
   ·left;simp[Value.isInt]at e;exact e.symm
   ·exact .inr ⟨v,hv,e⟩
section
variable {prog : Program} {w : World} {A : Around} {E : Value → Shared → Prop} {s : Shared}
theorem Holds.len {o:Obj} {es:Array (Int×Value)} {ep:Nat} {t:SetTable} {σ:List Int} {l:Bool} (H:Holds prog w o es ep t σ l):es.size=σ.length:=by
 obtain⟨vs,p,i⟩:=H.vals
 rw[←xg i,←p.length_eq];simp
theorem Holds.found {o:Obj} {es:Array (Int×Value)} {ep:Nat} {t:SetTable} {σ:List Int} {l:Bool} (H:Holds prog w o es ep t σ l) (k:Int) :
  (es.toList.findIdx? fun e=>(intKind prog w).is k e.2).isSome=σ.any (·==k):=by
 obtain⟨vs,p,i⟩:=H.vals
 rw[Bool.eq_iff_iff,List.findIdx?_isSome,DP,DP]
 constructor
 ·rintro⟨e,he,q⟩
  exact⟨k,(xj i k).mpr ⟨e.2,p.mem_iff.mp (List.mem_map_of_mem he),q⟩,by simp⟩
 ·rintro⟨k',hk,q⟩
  have:k'=k:=by simpa using q
  subst this
  obtain⟨v,hv,q⟩:=(xj i k').mp hk
  obtain⟨e,he,rfl⟩:=BI.mp (p.mem_iff.mpr hv)
  exact⟨e,he,q⟩
theorem Holds.stored {h:Heap} {a:Addr} {o:Obj} {es es':Array (Int×Value)} {ep:Nat} {t t':SetTable} {σ σ':List Int} {l:Bool} (q:h.get? a=some o) (H:Holds prog w o es ep t σ l)
  (T:Tidy t' l) (F:t'.fits es'.size=true) (B:es'.size<scanBound) (L:ElemsOf (intKind prog w) es'.toList) (V:∃vs,(es'.toList.map (·.2)).Perm vs∧IntsAre vs σ') :
  ∃o',(h.update a (Obj.putSet es' t')).get? a=some o'∧Holds prog w o' es' (ep+1) t' σ' l:=by
 refine⟨{o with data:=.set es' (ep+1) t'},?_,⟨H.set,rfl,T,F,B,L,V⟩⟩
 have q':=CZ (Obj.putSet es' t') q (by rw[putSet_of es' t' H.data];rfl)
 rwa [putSet_of es' t' H.data]at q'
theorem Cr {g:Bool→Sem Unit} (hg:∀(b:Bool) (s₁:Shared) (Q':Unit→Shared→Prop),Q' () s₁→wpAny (model prog w) A (g b) Q' E s₁) {a:Addr} {o:Obj} {es es':Array (Int×Value)} {ep:Nat} {t t':SetTable} {σ σ':List Int} {l wd:Bool} {R:Option Bool→Shared→Prop}
  (q:s.heap.get? a=some o) (H:Holds prog w o es ep t σ l) (T:Tidy t' l) (F:t'.fits es'.size=true) (B:es'.size<scanBound) (L:ElemsOf (intKind prog w) es'.toList) (V:∃vs,(es'.toList.map (·.2)).Perm vs∧IntsAre vs σ')
  (h:∀h',Heap.SameBut a s.heap h'→Bb prog w h' a σ' l→R (some true) {s with heap:=h'}) :
  wpAny (model prog w) A (do
   storeSet a es' t'
   if(!wd&&t'.tooFull)=true then do
    g (relayAll t' es' (SetTable.grown es'.size)).2.2
    storeSet a (relayAll t' es' (SetTable.grown es'.size)).1 (relayAll t' es' (SetTable.grown es'.size)).2.1
    pure (some true)
   else pure (some true)) R E s:=by
 refine AA (wpAny_storeSet_of q H.data ?_ (fits_of_scanBound B))
 obtain⟨o1,q1,H1⟩:=H.stored q T F B L V
 have b1:=EW s.heap a (Obj.putSet es' t')
 by_cases hc:(!wd&&t'.tooFull)=true
 ·rw[if_pos hc]
  have P2:=relayAll_perm t' es' (SetTable.grown es'.size)
  have F2:=relayAll_fits t' es' (SetTable.grown es'.size)
  have T2:=w6 T es' (SetTable.grown es'.size)
  generalize relayAll t' es' (SetTable.grown es'.size)=z at P2 F2 T2 ⊢
  obtain⟨es2,t2,g2⟩:=z
  dsimp only at P2 F2 T2 ⊢
  have B2:es2.size<scanBound:=by
   have e:=P2.length_eq
   simp only[BN]at e
   lia
  obtain⟨vs,p,i⟩:=V
  obtain⟨o2,q2,H2⟩:=H1.stored q1 T2 F2 B2 (L.perm P2) ⟨vs,(P2.map _).trans p,i⟩
  exact AA (hg _ _ _ (AA (wpAny_storeSet_of q1 H1.data (AD (h _ (b1.trans (EW _ a _)) ⟨o2,_,_,_,q2,H2⟩)) (fits_of_scanBound B2))))
 ·rw[if_neg hc]
  exact AD (h _ b1 ⟨o1,_,_,_,q1,H1⟩)
theorem Js {a:Addr} {σ:List Int} {l:Bool} {k:Int} {t:Tok} {Q:Bool→Shared→Prop} (hS:Bb prog w s.heap a σ l) (room:σ.length+1<scanBound)
  (h:∀b h',Heap.SameBut a s.heap h'→Bb prog w h' a (step_dedup σ k) l→Q b {s with heap:=h'}):wpAny (model prog w) A (setAddHashed a (.int k t) ((intKind prog w).hash k)) Q E s:=by
 obtain⟨o,es,ep,tb,q,H⟩:=hS
 have hlen:=H.len
 unfold setAddHashed setAddHashedIn
 refine CL (AA (DV q H.data H.fits ?_))
 dsimp only
 rw[byScan_of rfl H.few H.elems,if_pos rfl]
 refine AA ?_
 unfold setAddByScan
 refine AA (FF (AA (wpAny_setScan_of (intKind_is _ _ _ _) q H.data H.fits H.elems ?_)))
 have hf:=H.found k
 cases hr:List.findIdx? (fun e=>(intKind prog w).is k e.2) es.toList with
 | some j =>
  rw[hr]at hf
  dsimp only
  refine AD (AD (h _ s.heap (Heap.SameBut.refl a s.heap) ?_))
  have e:step_dedup σ k=σ:=by unfold step_dedup;rw[if_pos];exact hf.symm
  rw[e]
  exact⟨o,es,ep,tb,q,H⟩
 | none =>
  rw[hr]at hf
  dsimp only
  have e:step_dedup σ k=σ++[k]:=by
   unfold step_dedup;rw[if_neg]
   rw[←hf];simp
  have P1:=layNew_perm tb es ((intKind prog w).hash k) (.int k t)
  have F1:=layNew_fits tb es ((intKind prog w).hash k) (.int k t)
  have T1:=Ba H.tidy es ((intKind prog w).hash k) (.int k t)
  generalize layNew tb es ((intKind prog w).hash k) (.int k t)=z at P1 F1 T1 ⊢
  obtain⟨es1,t1,wd,gave⟩:=z
  dsimp only at P1 F1 T1 ⊢
  rw[Array.toList_push]at P1
  have B1:es1.size<scanBound:=by
   have e:=P1.length_eq
   simp only[BN,CG,IK]at e
   lia
  have V1:∃vs,(es1.toList.map (·.2)).Perm vs∧IntsAre vs (step_dedup σ k):=by
   obtain⟨vs,p,i⟩:=H.vals
   refine⟨vs++[.int k t],(P1.map _).trans ?_,by rw[e];exact ints_snoc i⟩
   rw[DI]
   exact p.append_right _
  have L1:=(H.elems.push (intKind_is prog w k t) rfl).perm P1
  refine AA ?_
  have gw:∀(b:Bool) (s₁:Shared) (Q':Unit→Shared→Prop),Q' () s₁→wpAny (model prog w) A (match b with | true=>rule "set.scan.the-table-gave-way" | false=>pure ()) Q' E s₁:=by
   intro b s₁ Q' hq
   cases b
   ·exact AD hq
   ·exact FF hq
  refine gw gave _ _ ?_
  split
  ·refine AA (HM (hashByValue_scannable 8 rfl) ?_)
   refine AA (m:=pure _) (AD ?_)
   exact Cr gw q H T1 F1 B1 L1 V1 fun h' hb hh=>AD (h _ h' hb hh)
  ·refine AA (AD ?_)
   exact Cr gw q H T1 F1 B1 L1 V1 fun h' hb hh=>AD (h _ h' hb hh)
end
end Lp.Sets
namespace Lp.Sets
open PySem PySem.W PyProof.Rows PySem.Calls
theorem Bb.at {prog:Program} {w:World} {h h':Heap} {a:Addr} {σ:List Int} {l:Bool} (H:Bb prog w h a σ l) (k:∀o,h.get? a=some o→h'.get? a=some o):Bb prog w h' a σ l:=by
 obtain⟨o,es,ep,t,q,z⟩:=H
 exact⟨o,es,ep,t,k o q,z⟩
section
variable {prog : Program} {w : World} {A : Around} {R : Result → Shared → Prop} {I : Addr} {fp wr : List Addr} {G : Array GenState → Array GenState → Prop} {n : Nat} {P : Nat → Value → Prop} {St : Nat → Shared → Prop} {l : Bool}
theorem Gm (W:WalksS prog w A.in1 I fp wr G n P St) (a:Addr) (af:a∉fp) (val:Nat→Int) (hv:∀i v,P i v→∃t,v=.int (val i) t) (few:n+1<scanBound) :
  ∀(d i:Nat) (s:Shared),n-i=d→i≤n→St i s→Bb prog w s.heap a (firstMet val i) l→(∀s',Moved (a::wr) G s s'→Bb prog w s'.heap a (firstMet val n) l→R (.ok (.ret .none)) s') →
   codeAny (model prog w) A (.builtin "set.update.loop" ⟨[.ref a,.ref I],[]⟩) R s:=by
 have aw:a∉wr:=fun z=>af (W.sub _ z)
 intro d
 induction d with
 | zero =>
  intro i s hd hi st H fin
  have e:i=n:=by lia
  subst e
  refine EM F.entry_set_update_loop ?_
  rw[DW FI]
  show wpAny (model prog w) A.in1 (pyNext (.ref I)>>=_) _ _ s
  refine AA (W.done s _ _ st fun s' m=>?_)
  show wpAny (model prog w) A.in1 (ret Value.none) _ _ s'
  exact AD (fin s' (m.mono fun b z=>AK _ z) (H.at fun o z=>m.heap a o aw z))
 | succ d ih =>
  intro i s hd hi st H fin
  refine EM F.entry_set_update_loop ?_
  rw[DW FI]
  show wpAny (model prog w) A.in1 (pyNext (.ref I)>>=_) _ _ s
  refine AA (W.item i s _ _ (by lia) st fun v s' p st' m=>?_)
  obtain⟨t,rfl⟩:=hv i v p
  have H':Bb prog w s'.heap a (firstMet val i) l:=H.at fun o z=>m.heap a o aw z
  show wpAny (model prog w) A.in1 (holding [Value.int (val i) t] (setAdd a (.int (val i) t))>>=_) _ _ s'
  unfold setAdd
  refine AA (CL (CL (AA ((intKind prog w).pyHash (k:=val i) (intKind_is ..) ?_))))
  have:=firstMet_length_le val i
  refine Js (s:={s' with toks:=s'.toks+1}) H' (by lia) fun b h' sb H2=>?_
  rw[←firstMet_succ]at H2
  refine AD ⟨GB FI _,ih (i+1) _ (by lia) (by lia) (W.frame _ s' _ _ st' (ED _) fun b hb o z=>?_) H2 fun s2 m2 H3=>?_⟩
  ·rw[sb.2 b fun e=>af (e ▸ hb)];exact z
  ·refine fin s2 (Moved.trans W.gtrans ((m.mono fun b z=>AK _ z).then_heap (ED _) fun b o hb z=>?_) m2) H3
   rw[sb.2 b fun e=>hb (e ▸ AQ)];exact z
end
section
variable {prog : Program} {w : World} {A : Around} {E : Value → Shared → Prop} {s : Shared}
noncomputable abbrev o9 (w:World):Bool:=!w.params.followText "set-order"
noncomputable abbrev j9 (w:World):Obj:={cls:=.type "set",dict:=none,data:=.set #[] 0 (.fresh 0 0 (o9 w))}
theorem D1 {h:Heap} {a:Addr} (q:h.get? a=some (j9 w)):Bb prog w h a [] (o9 w) :=
 ⟨_,#[],0,_,q,⟨⟨rfl,rfl,rfl⟩,rfl,D0 _,rfl,by decide,fun e z=>by simp at z,[],.refl _,.nil⟩⟩
theorem N4 (x:Value) {Q₁:Value→Shared→Prop} (h:Q₁ (.ref s.heap.objs.size) {s with heap:=s.heap.push (j9 w)}) :
  codeAny (model prog w) A (.call (.builtin "set.__new__") ⟨[.type "set",x],[]⟩) (wants Q₁ E) s:=by
 refine codeAny_of_tree ?_
 show wpAny (model prog w) A.in1 (do checkBuiltinCall "set.__new__" ⟨[.type "set",x],[]⟩;again (.builtin "set.__new__" ⟨[.type "set",x],[]⟩)) _ _ s
 refine AA (HM (PySem.F.newCall_set_1 x) (AD ⟨GB IP _,EM PySem.F.entry_set_new ?_⟩))
 rw[DW IP]
 unfold Builtin.«set.__new__» Builtin.Frozenset.newClass
 have e1:=sub_set_self
 obtain⟨hp,g,d,tk,os⟩:=s
 dsimp only
 wp_walk
 refine EC (AD ?_)
 dsimp only
 simp only[newObj]
 exact AA (wpAny_alloc (AD (AD h)))
end
end Lp.Sets
namespace Lp.Sets
open PySem PySem.W PyProof.Rows PySem.Calls
theorem N5 {T:String} (e:T="list"∨T="tuple"):isSubtype (.type T) (.type "set")=pure false∧isSubtype (.type T) (.type "frozenset")=pure false:=by
 rcases e with rfl | rfl
 ·exact⟨PySem.F.sub_list_set,PySem.F.sub_list_frozenset⟩
 ·constructor
  ·rw[ES];kernel_rfl
  ·rw[ES];kernel_rfl
noncomputable def Rg:Bool→String
 | true=>"list"
 | false=>"tuple"
theorem Rh {b:Bool} {h:Heap} {x:Addr} {items:Array Value} (q:SQ b h x items):∃o,h.get? x=some o∧o.cls=.type (Rg b):=by
 cases b
 ·obtain⟨o,e,c,_⟩:=q;exact⟨o,e,c⟩
 ·obtain⟨o,e,c,_⟩:=q;exact⟨o,e,c⟩
section
variable {prog : Program} {w : World} {A : Around} {E : Value → Shared → Prop} {s : Shared}
theorem Jt {b:Bool} (hh:A.handled=none) (I x:Addr) (ne:x≠I) (items:Array Value):Walks prog w A I [I,x] [I] items.size (fun i v=>items[i]? = some v) (fun i h=>SI b h I x i∧SQ b h x items):=by
 cases b
 ·exact Walks.tuple hh I x ne items
 ·exact Walks.list hh I x ne items
theorem Ju {b:Bool} {a x:Addr} {items:Array Value} {ns:List Int} {Q:Shared→Prop} {P:PySem.Fin→Shared→Prop} (hh:A.handled=none) (hL:SQ b s.heap x items) (hi:IntsAre items.toList ns) (few:items.size+1<scanBound)
  (q:s.heap.get? a=some (j9 w)) (ne:a≠x)
  (fin:∀h' tk,Bb prog w h' a (firstMet (fun i=>ns.getD i 0) items.size) (o9 w)→(∀c o,c≠a→s.heap.get? c=some o→h'.get? c=some o)→P (.done (.ret .none)) {s with heap:=h',toks:=tk}) :
  wpAny (model prog w) A (Builtin.«set.__init__» ⟨[.ref a,.ref x],[]⟩) P E s:=by
 obtain⟨ox,qx,cx⟩:=Rh hL
 obtain⟨n1,n2⟩:=N5 (T:=Rg b) (by cases b<;>simp[Rg])
 have hT:s.TypeIs (.ref x) (Rg b):=⟨ox,qx,cx⟩
 have nd:(Value.type (Rg b)==Value.type "dict")=false:=by cases b<;>decide
 have hS:s.TypeIs (.ref a) "set":=⟨_,q,rfl⟩
 unfold Builtin.«set.__init__» noKeywords Builtin.Frozenset.updateFrom
 generalize hPI:pyIter=PI
 obtain⟨hp,g,d,tk,os⟩:=s
 wp_walk
 subst hPI
 refine A5 hL (AA (wpAny_runValue ?_))
 have lx:x<hp.objs.size:=SQ.lt hL
 have la:a<hp.objs.size:=AI q
 refine Gm ((Jt (b:=b) (A:=A.in1) (show A.in1.handled=none from hh) hp.objs.size x (AN lx) items).toS) a (l:=o9 w) ?_ (fun i=>ns.getD i 0) (fun i v z=>IntsAre.int_at hi i v (by rw[Da];exact z)) few items.size 0 _ (by lia) (CP _)
  ⟨?_,SQ.push hL _⟩ (D1 (AB _ q)) fun s' m H=>?_
 ·simp only[AJ,BH,or_false,not_or]
  exact⟨AN la,ne⟩
 ·cases b
  ·exact⟨_,AF _ rfl,rfl,rfl⟩
  ·exact⟨_,AF _ rfl,rfl,rfl⟩
 ·rw[IU m]
  refine AD (AD (fin s'.heap s'.toks H fun c o hc z=>m.heap c o ?_ (AB _ z)))
  simp only[AJ,BH,or_false,not_or]
  exact⟨hc,AN (AI z)⟩
theorem Jv {b:Bool} {x:Addr} {items:Array Value} {ns:List Int} {Q:Value→Shared→Prop} (hh:A.handled=none) (hL:SQ b s.heap x items) (hi:IntsAre items.toList ns) (few:items.size+1<scanBound)
  (h:∀h' tk,Bb prog w h' s.heap.objs.size (firstMet (fun i=>ns.getD i 0) items.size) (o9 w)→(∀c o,s.heap.get? c=some o→h'.get? c=some o)→Q (.ref s.heap.objs.size) {s with heap:=h',toks:=tk}) :
  wpAny (model prog w) A (call (.type "set") [.ref x]) Q E s:=by
 obtain⟨c,tl,hmro⟩:=CU.mro
 have hm:=CU.made
 have hs:=CU.sub
 have hn:=CU.notType
 have hcc:=CU.canCreate
 have hct:=PySem.F.typeCall_set_1 (.ref x)
 refine wpAny_call (codeAny_of_tree ?_)
 show wpAny (model prog w) _ (callAny (.type "set") _) _ _ _
 refine AD ⟨Code.quiet_builtin _ (by decide +kernel),EM PySem.F.entry_type_call ?_⟩
 rw[Around.under_plain (weight_type_call_type "set" [.ref x] []) rfl]
 repeat (any_goals (first | assumption | wp_step))
 refine FJ (N4 (w:=w) (.ref x) (E:=E) (Q₁:=fun obj s₁=>obj=.ref s.heap.objs.size∧s₁={s with heap:=s.heap.push (j9 w)}) ⟨rfl,rfl⟩) fun r s₁ hr=>?_
 cases r with
 | error e=>exact hr
 | ok fl =>
  cases fl with
  | ret obj =>
   obtain⟨rfl,rfl⟩:=hr
   have q:(s.heap.push (j9 w)).get? s.heap.objs.size=some (j9 w):=AF _ rfl
   have hT:Shared.TypeIs {s with heap:=s.heap.push (j9 w)} (.ref s.heap.objs.size) "set":=⟨_,q,rfl⟩
   have hli:=CU.init.lookup
   have hbi:=CU.init.bind (.ref s.heap.objs.size)
   repeat (any_goals (first | assumption | wp_step))
   refine FJ (codeAny_call_builtin (R:=wants (fun r s₂=>r=.none∧Q (.ref s.heap.objs.size) s₂) E) CU.init.plain PySem.F.entry_set_init (check_set_init_1 hT ?_)) fun r₂ s₂ z=>?_
   ·refine Ju (Q:=fun _=>True) (b:=b) (s:={s with heap:=s.heap.push (j9 w)}) (by simpa using hh) (SQ.push hL _) hi few q (CF (SQ.lt hL)) fun h' tk H k=>?_
    exact⟨rfl,h h' tk H fun c o e=>k c o (AN (AI e)) (AB _ e)⟩
   ·cases r₂ with
    | error e=>exact z
    | ok fl₂ =>
     cases fl₂ with
     | ret r =>
      obtain⟨rfl,z⟩:=z
      repeat (any_goals (first | assumption | wp_step))
     | _=>exact z
  | _=>exact hr
end
end Lp.Sets
namespace Lp.Sets
open PySem PySem.W PyProof.Rows PySem.Calls
section
theorem qi {α:Type}:∀(l:List α) (i:Nat) (h:i<l.length),(l[i]::l.eraseIdx i).Perm l
 | x::xs,0,_=>.refl _
 | x::xs,i+1,h=>by
  have hi:i<xs.length:=by simpa using h
  have ih:=qi xs i hi
  show(xs[i]::x::xs.eraseIdx i).Perm (x::xs)
  exact(List.Perm.swap ..).trans (ih.cons x)
theorem Gn {α:Type} (next:Nat→Nat):∀(f k:Nat) (left:List α) (out:Array α),left.length=f→(pickOrder.go next f k left out).toList.Perm (out.toList++left)
 | 0,k,left,out,h=>by
  have e:left=[]:=FH.mp h
  subst e
  simp[pickOrder.go]
 | f+1,k,left,out,h=>by
  unfold pickOrder.go
  have hl:next k % left.length<left.length:=Nat.mod_lt _ (by lia)
  rw[AC hl]
  dsimp only
  refine(Gn next f (k+1) _ _ (by rw[List.length_eraseIdx,if_pos hl];lia)).trans ?_
  rw[Array.toList_push,FO]
  refine List.Perm.append_left _ ?_
  show(left[next k % left.length]::left.eraseIdx (next k % left.length)).Perm left
  exact qi _ _ hl
theorem t9 {α:Type} (next:Nat→Nat) (xs:Array α):(pickOrder next xs).toList.Perm xs.toList:=by
 have:=Gn next xs.size 0 xs.toList #[] (by simp)
 simpa[pickOrder]using this
end
section
variable {prog : Program} {w : World} {A : Around} {E : Value → Shared → Prop} {s : Shared}
theorem zm {α:Type}:∀(n:Nat) (xs:List α) (s:Shared) {Q:List α→Shared→Prop},xs.length=n→(∀ys d,ys.Perm xs→Q ys {s with drawn:=d})→wpAny (model prog w) A (drawOrder n xs) Q E s
 | 0,xs,s,Q,hn,h=>by
  have e:xs=[]:=FH.mp hn
  subst e
  unfold drawOrder
  exact AD (h [] s.drawn (.refl _))
 | n+1,[],s,Q,hn,h=>by simp at hn
 | n+1,x::xs,s,Q,hn,h=>by
  unfold drawOrder
  refine AA ?_
  have hc:∀(Q':Nat→Shared→Prop),(∀i,i<(x::xs).length→∀d,Q' i {s with drawn:=d})→wpAny (model prog w) A (choose .order (x::xs).length) Q' E s:=fun Q' hq Γ p _=>⟨by simp,hq _ (Nat.mod_lt _ (by simp)) _⟩
  refine hc _ fun i hi d=>?_
  rw[AC hi]
  dsimp only
  refine AA (zm n _ _ (by rw[List.length_eraseIdx,if_pos hi];simp at hn ⊢;lia) fun ys d' p=>?_)
  exact AD (h _ d' ((p.cons _).trans (qi _ _ hi)))
theorem slot_next:Slot "set_iterator" "__next__" "set_iterator.__next__":=Slot.of (owner:="set_iterator") (n:="__next__")
 (by rw[GJ,EN];kernel_rfl)
 (by decide +kernel)
 (by decide +kernel) (by decide +kernel)
 (by first | exact .inl (by decide +kernel) | exact .inr (by decide +kernel))
 (by rw[ES];kernel_rfl)
theorem entry_next:entryFor table "set_iterator.__next__"=some Builtin.«set_iterator.__next__»:=entryFor_of_tree (by kernel_rfl)
theorem D2:entryFor table "set.__iter__"=some Builtin.«frozenset.__iter__»:=entryFor_alias (id':="frozenset.__iter__") (by kernel_rfl) rfl (by decide +kernel) (by kernel_rfl)
theorem args_next (a:Value):argsOk "set_iterator.__next__" ⟨[a],[]⟩:=by
 unfold argsOk
 kernel_rfl
end
end Lp.Sets
namespace Lp.Sets
open PySem PySem.W PyProof.Rows PySem.Calls
noncomputable abbrev rj (first:Value) (i:Nat) (a:Addr) (n ep:Nat):Obj:={cls:=.type "set_iterator",dict:=none,data:=.fields #[first,rawInt i,.ref a,rawInt n,rawInt ep],slots:=#[]}
section
variable {prog : Program} {w : World} {A : Around} {E : Value → Shared → Prop} {s : Shared} {I a : Addr} {first : Value} {i n slot : Nat} {o : Obj} {es : Array (Int × Value)} {ep : Nat} {t : SetTable} {σ : List Int} {l : Bool}
theorem Gp {x:Value} {nx:Nat} {Q:Option Value→Shared→Prop} (hI:s.heap.get? I=some (rj (rawInt slot) i a n ep)) (q:s.heap.get? a=some o) (H:Holds prog w o es ep t σ l) (hn:es.size=n)
  (hN:∀(A':Around) (E':Value→Shared→Prop) (Q':Option (Value×Nat)→Shared→Prop),Q' (some (x,nx)) s→wpAny (model prog w) A' (setNext a slot i ep) Q' E' s)
  (hQ:∀h',h'.get? I=some (rj (rawInt nx) (i+1) a n ep)→Heap.SameBut I s.heap h'→Q (some x) {s with heap:=h'}):wpAny (model prog w) A (pyNext (.ref I)) Q E s:=by
 have hT:s.TypeIs (.ref I) "set_iterator":=⟨_,hI,rfl⟩
 unfold pyNext
 refine AA (DY (BF (name:=Str.ofString "__next__") hT slot_next (BK slot_next hT entry_next ?_ (args_next _))))
 unfold Builtin.«set_iterator.__next__»
 refine AA (m:=slotArgs _ _ _) (AD ?_)
 dsimp only
 refine AA (HA hI rfl ?_)
 dsimp only[rawInt]
 refine AA (Ev q H.data H.fits ?_)
 rw[hn]
 simp only[bne_self_eq_false,AR,if_false,CB]
 refine AA (hN _ _ _ ?_)
 dsimp only
 refine AA (BB hI (by simp) fun h1 q1 b1=>?_)
 refine AA (BB q1 (by simp) fun h2 q2 b2=>?_)
 exact AD ⟨_,rfl,AD (hQ h2 q2 (b1.trans b2))⟩
theorem Gq {Q:Option Value→Shared→Prop} (hh:A.handled=none) (hI:s.heap.get? I=some (rj (rawInt slot) i a n ep)) (q:s.heap.get? a=some o) (H:Holds prog w o es ep t σ l) (hn:es.size=n)
  (hN:∀(A':Around) (E':Value→Shared→Prop) (Q':Option (Value×Nat)→Shared→Prop),Q' none s→wpAny (model prog w) A' (setNext a slot i ep) Q' E' s)
  (hQ:∀h',Heap.ExtBut I s.heap h'→Q none {s with heap:=h'}):wpAny (model prog w) A (pyNext (.ref I)) Q E s:=by
 have hT:s.TypeIs (.ref I) "set_iterator":=⟨_,hI,rfl⟩
 unfold pyNext
 refine AA (DY (BF (name:=Str.ofString "__next__") hT slot_next (BK slot_next hT entry_next ?_ (args_next _))))
 unfold Builtin.«set_iterator.__next__»
 refine AA (m:=slotArgs _ _ _) (AD ?_)
 dsimp only
 refine AA (HA hI rfl ?_)
 dsimp only[rawInt]
 refine AA (Ev q H.data H.fits ?_)
 rw[hn]
 simp only[bne_self_eq_false,AR,if_false,CB]
 refine AA (hN _ _ _ ?_)
 dsimp only
 refine AA (BB hI (by simp) fun h1 q1 b1=>AA ?_)
 simp only[newExc,newTuple]
 refine AA (BO (AA (m:=firstArgMember _ _) (HM (a:=Value.none) (by first | rfl | (simp only[firstArgMember];rfl)) (BO ?_ (by size_fits)))) (by size_fits))
 simp only[raiseNew]
 refine AA (wpAny_handled ?_)
 rw[show A.in1.handled=none from hh]
 refine AA (AD (wpAny_throw ?_))
 refine AA ?_
 refine EB (T:="StopIteration") (b:=true) ?_ GX ?_
 ·exact⟨_,AF _ rfl,rfl⟩
 exact AD (hQ _ ((b1.extBut.push _).push _))
theorem zo (q:s.heap.get? a=some o) (H:Holds prog w o es ep t σ l) (ht:w.params.followText "set-order"=true) {Q:Option (Value×Nat)→Shared→Prop}
  (h:Q (((pickOrder (w.params.setOrder a ep) es)[i]?).map fun e=>(e.2,slot)) s):wpAny (model prog w) A (setNext a slot i ep) Q E s:=by
 unfold setNext setsByText setWalk setsByText
 refine AA (DV q H.data H.fits ?_)
 dsimp only
 refine AA (AA (EC (AD ?_)))
 show wpAny _ _ (if w.params.followText "set-order"=true then _ else _) _ _ _
 rw[if_pos ht]
 simp only[bne_self_eq_false,AR,if_false]
 refine AA (AA (DV q H.data H.fits ?_))
 dsimp only
 refine AA (AA (EC (AD ?_)))
 show wpAny _ _ (if w.params.followText "set-order"=true then _ else _) _ _ _
 rw[if_pos ht]
 refine AA (EC (AD ?_))
 exact AD h
theorem vg (q:s.heap.get? a=some o) (H:Holds prog w o es ep t σ (o9 w)) (ht:w.params.followText "set-order"=false) (hp:(!t.plain&&decide (es.size > 1))=false) {Q:Option (Value×Nat)→Shared→Prop}
  (h:Q (match es[SetTable.below t.place slot]?,t.place[SetTable.below t.place slot]? with | some (_,x),some j=>some (x,j+1) | _,_=>none) s):wpAny (model prog w) A (setNext a slot i ep) Q E s:=by
 unfold setNext setsByText
 refine AA (DV q H.data H.fits ?_)
 dsimp only
 refine AA (AA (EC (AD ?_)))
 show wpAny _ _ (if w.params.followText "set-order"=true then _ else _) _ _ _
 rw[ht,if_neg AU]
 show wpAny _ _ (if(!t.plain&&decide (es.size > 1))=true then _ else _) _ _ _
 rw[hp,if_neg AU]
 refine AA ?_
 show wpAny _ _ (if(!t.led&&!es.isEmpty)=true then _ else _) _ _ _
 have hl:t.led=true:=by rw[H.tidy.led];simp[o9,ht]
 rw[hl]
 exact AD (AD h)
end
end Lp.Sets
namespace Lp.Sets
open PySem PySem.W PyProof.Rows PySem.Calls
theorem slot_self:Slot "set_iterator" "__iter__" "set_iterator.__iter__":=Slot.of (owner:="set_iterator") (n:="__iter__")
 (by rw[GJ,EN];kernel_rfl)
 (by decide +kernel)
 (by decide +kernel) (by decide +kernel)
 (by first | exact .inl (by decide +kernel) | exact .inr (by decide +kernel))
 (by rw[ES];kernel_rfl)
theorem entry_self:entryFor table "set_iterator.__iter__"=some Builtin.«dict_keyiterator.__iter__»:=entryFor_alias (id':="dict_keyiterator.__iter__") (by kernel_rfl) rfl (by decide +kernel) (by kernel_rfl)
theorem args_self (a:Value):argsOk "set_iterator.__iter__" ⟨[a],[]⟩:=by
 unfold argsOk
 kernel_rfl
section
variable {prog : Program} {w : World} {A : Around} {E : Value → Shared → Prop} {s : Shared} {I a : Addr} {first : Value} {i n slot : Nat} {o : Obj} {es : Array (Int × Value)} {ep : Nat} {t : SetTable} {σ : List Int} {l : Bool}
theorem Bc {Q:Value→Shared→Prop} (hI:s.heap.get? I=some (rj first i a n ep)) (h:Q (.ref I) s):wpAny (model prog w) A (pyIter (.ref I)) Q E s:=by
 have hT:s.TypeIs (.ref I) "set_iterator":=⟨_,hI,rfl⟩
 refine HN hT slot_self (BK slot_self hT entry_self ?_ (args_self _))
 exact AD ⟨_,rfl,"set_iterator",_,hT,slot_next.lookup,h⟩
theorem Jw {T:Addr} {ps:Array Value} {j:Nat} {e:Int×Value} {Q:Option Value→Shared→Prop} (hI:s.heap.get? I=some (rj (.ref T) i a n ep)) (q:s.heap.get? a=some o) (H:Holds prog w o es ep t σ l) (hn:es.size=n)
  (hT:s.heap.IsTuple T ps) (hp:ps[i]? = some (rawInt j)) (he:es[j]? = some e)
  (hQ:∀h',h'.get? I=some (rj (.ref T) (i+1) a n ep)→Heap.SameBut I s.heap h'→Q (some e.2) {s with heap:=h'}):wpAny (model prog w) A (pyNext (.ref I)) Q E s:=by
 have hTy:s.TypeIs (.ref I) "set_iterator":=⟨_,hI,rfl⟩
 obtain⟨ot,qt,_,nt,dt⟩:=hT
 unfold pyNext
 refine AA (DY (BF (name:=Str.ofString "__next__") hTy slot_next (BK slot_next hTy entry_next ?_ (args_next _))))
 unfold Builtin.«set_iterator.__next__»
 refine AA (m:=slotArgs _ _ _) (AD ?_)
 dsimp only
 refine AA (HA hI rfl ?_)
 dsimp only[rawInt]
 refine AA (Ev q H.data H.fits ?_)
 rw[hn]
 simp only[bne_self_eq_false,AR,if_false,CB]
 refine AA (CT qt dt ?_)
 dsimp only
 rw[hp]
 dsimp only[rawInt]
 unfold setNextDrawn
 refine AA (AA (DV q H.data H.fits ?_))
 simp only[CB,bne_self_eq_false,AR,if_false]
 rw[he]
 refine AD (AA (BB hI (by simp) fun h1 q1 b1=>?_))
 exact AD ⟨_,rfl,AD (hQ h1 q1 b1)⟩
theorem zp {T:Addr} {ps:Array Value} {Q:Option Value→Shared→Prop} (hh:A.handled=none) (hI:s.heap.get? I=some (rj (.ref T) i a n ep)) (q:s.heap.get? a=some o) (H:Holds prog w o es ep t σ l) (hn:es.size=n)
  (hT:s.heap.IsTuple T ps) (hp:ps[i]? = none) (hQ:∀h',Heap.ExtBut I s.heap h'→Q none {s with heap:=h'}):wpAny (model prog w) A (pyNext (.ref I)) Q E s:=by
 have hTy:s.TypeIs (.ref I) "set_iterator":=⟨_,hI,rfl⟩
 obtain⟨ot,qt,_,nt,dt⟩:=hT
 unfold pyNext
 refine AA (DY (BF (name:=Str.ofString "__next__") hTy slot_next (BK slot_next hTy entry_next ?_ (args_next _))))
 unfold Builtin.«set_iterator.__next__»
 refine AA (m:=slotArgs _ _ _) (AD ?_)
 dsimp only
 refine AA (HA hI rfl ?_)
 dsimp only[rawInt]
 refine AA (Ev q H.data H.fits ?_)
 rw[hn]
 simp only[bne_self_eq_false,AR,if_false,CB]
 refine AA (CT qt dt ?_)
 dsimp only
 rw[hp]
 dsimp only
 refine AA (BB hI (by simp) fun h1 q1 b1=>AA (BB q1 (by simp) fun h2 q2 b2=>AA ?_))
 simp only[newExc,newTuple]
 refine AA (BO (AA (m:=firstArgMember _ _) (HM (a:=Value.none) (by first | rfl | (simp only[firstArgMember];rfl)) (BO ?_ (by size_fits)))) (by size_fits))
 simp only[raiseNew]
 refine AA (wpAny_handled ?_)
 rw[show A.in1.handled=none from hh]
 refine AA (AD (wpAny_throw ?_))
 refine AA ?_
 refine EB (T:="StopIteration") (b:=true) ?_ GX ?_
 ·exact⟨_,AF _ rfl,rfl⟩
 exact AD (hQ _ (((b1.trans b2).extBut.push _).push _))
theorem N6 {Q:Value→Shared→Prop} (q:s.heap.get? a=some o) (H:Holds prog w o es ep t σ (o9 w)) (few:es.size≤sizeLine)
  (hm:(w.params.followText "set-order"=true∨(!t.plain&&decide (es.size > 1))=false)→Q (.ref s.heap.objs.size) {s with heap:=s.heap.push (rj (rawInt (0:Nat)) 0 a es.size ep)})
  (hd:w.params.followText "set-order"=false→∀(ys:List Nat) d,ys.Perm (List.range es.size) →
   Q (.ref (s.heap.objs.size+1)) {s with heap:=(s.heap.push {cls:=.type "tuple",data:=.seq (ys.map fun(i:Nat)=>rawInt i).toArray}).push (rj (.ref s.heap.objs.size) 0 a es.size ep),drawn:=d}) :
  wpAny (model prog w) A (pyIter (.ref a)) Q E s:=by
 have hT:s.TypeIs (.ref a) "set":=⟨o,q,H.set.1⟩
 refine HN hT IQ (BK IQ hT D2 ?_ (PySem.F.args_set_iter_1 _))
 unfold Builtin.«frozenset.__iter__» Builtin.Frozenset.slot0 Builtin.Frozenset.sizeOf
 refine AA (AA (m:=slotArgs _ _ _) (AD (AD ?_)))
 refine AA (AA (Ev q H.data H.fits (AD ?_)))
 unfold setDrawn setsByText
 refine AA (AA (DV q H.data H.fits ?_))
 dsimp only
 refine AA (AA (EC (AD (AD ?_))))
 show wpAny _ _ (if(!w.params.followText "set-order"&&(!t.plain&&decide (es.size > 1)))=true then _ else _) _ _ _
 by_cases hc:(!w.params.followText "set-order"&&(!t.plain&&decide (es.size > 1)))=true
 ·rw[if_pos hc]
  have ht:w.params.followText "set-order"=false:=by
   rw[AZ]at hc
   simpa using hc.1
  refine AA (zm _ _ _ (by simp) fun ys d p=>?_)
  refine AA (GW ?_ (by rw[AG,p.length_eq,DF];exact few))
  refine AA (wpAny_setEpoch_of (AB _ q) H.data H.fits ?_)
  refine AA (BO ?_ (by size_fits))
  have hz:(s.heap.push {cls:=.type "tuple",data:=.seq (ys.map fun(i:Nat)=>rawInt i).toArray}).objs.size=s.heap.objs.size+1:=CS ..
  rw[hz]
  refine AD ⟨_,rfl,"set_iterator",_,?_,slot_next.lookup,hd ht ys d p⟩
  exact⟨_,hz ▸ AF _ rfl,rfl⟩
 ·rw[if_neg hc]
  refine AA (AD ?_)
  refine AA (wpAny_setEpoch_of q H.data H.fits ?_)
  refine AA (BO ?_ (by size_fits))
  refine AD ⟨_,rfl,"set_iterator",_,⟨_,AF _ rfl,rfl⟩,slot_next.lookup,hm ?_⟩
  cases ht:w.params.followText "set-order" with
  | true=>exact .inl rfl
  | false=>rw[ht]at hc;exact .inr (by simpa using hc)
end
end Lp.Sets
namespace Lp.Sets
open PySem PySem.W PyProof.Rows PySem.Calls
noncomputable def atOf (t:SetTable) (i:Nat):Nat:=if i=0 then 0 else t.place.getD (i-1) 0+1
theorem below_at {t:SetTable} {l:Bool} (T:Tidy t l) {i:Nat} (hi:i≤t.place.size):SetTable.below t.place (atOf t i)=i:=by
 obtain⟨p1,p2,p3⟩:=t8 T.rose (atOf t i)
 generalize SetTable.below t.place (atOf t i)=p at *
 unfold atOf at p2 p3
 by_cases h0:i=0
 ·subst h0
  simp only[if_true]at p2
  by_cases hp:p=0
  ·exact hp
  ·have:=p2 0 (by lia)
   lia
 ·rw[if_neg h0]at p2 p3
  have a1:i≤p:=by
   by_cases h:i≤p
   ·exact h
   ·have:=p3 (i-1) (by lia) (by lia)
    lia
  have a2:p≤i:=by
   by_cases h:p≤i
   ·exact h
   ·have b1:=p2 i (by lia)
    have b2:=T.rose (i-1) i (by lia) (by lia)
    lia
  lia
section
variable {prog : Program} {w : World} {A : Around} {E : Value → Shared → Prop} {s : Shared} {I a T : Addr} {o : Obj} {es : Array (Int × Value)} {ep : Nat} {t : SetTable} {σ : List Int}
theorem D3 (hh:A.handled=none) (ne:a≠I) (H:Holds prog w o es ep t σ (o9 w)) (ht:w.params.followText "set-order"=true) :
  Walks prog w A I [I,a] [I] es.size (fun i v=>((pickOrder (w.params.setOrder a ep) es)[i]?).map (·.2)=some v) (fun i h=>h.get? a=some o∧h.get? I=some (rj (rawInt (0:Nat)) i a es.size ep)) where
 sub:=fun b hb=>by simp at hb;simp[hb]
 frame:=fun i h h' st k=>⟨k a (by simp) _ st.1,k I (by simp) _ st.2⟩
 item:=fun i s Q E hi st hQ=>by
  have sz:(pickOrder (w.params.setOrder a ep) es).size=es.size:=by simpa using(t9 (w.params.setOrder a ep) es).length_eq
  have e:(pickOrder (w.params.setOrder a ep) es)[i]? = some ((pickOrder (w.params.setOrder a ep) es)[i]'(by lia)):=CO _
  refine Gp (slot:=0) (nx:=0) (x:=((pickOrder (w.params.setOrder a ep) es)[i]'(by lia)).2) st.2 st.1 H rfl (fun A' E' Q' hq=>zo st.1 H ht (by rw[e];exact hq)) fun h' q' b'=>?_
  exact hQ _ h' s.toks (by rw[e];rfl) ⟨(b'.2 a ne).trans st.1,q'⟩ fun b o hb z=>b'.extBut b o (fun x=>hb (by simp[x])) z
 done:=fun s Q E st hQ=>by
  have sz:(pickOrder (w.params.setOrder a ep) es).size=es.size:=by simpa using(t9 (w.params.setOrder a ep) es).length_eq
  have e:(pickOrder (w.params.setOrder a ep) es)[es.size]? = none:=FS (by lia)
  exact Gq (slot:=0) hh st.2 st.1 H rfl (fun A' E' Q' hq=>zo st.1 H ht (by rw[e];exact hq)) fun h' b'=>hQ h' s.toks fun b o hb z=>b' b o (fun x=>hb (by simp[x])) z
 self:=fun i s Q E st hQ=>Bc st.2 hQ
theorem Bd (hh:A.handled=none) (ne:a≠I) (H:Holds prog w o es ep t σ (o9 w)) (ht:w.params.followText "set-order"=false) (hp:(!t.plain&&decide (es.size > 1))=false) :
  Walks prog w A I [I,a] [I] es.size (fun i v=>(es[i]?).map (·.2)=some v) (fun i h=>h.get? a=some o∧h.get? I=some (rj (rawInt (atOf t i:Nat)) i a es.size ep)):=by
 have sz:t.place.size=es.size:=by
  have:=H.fits
  simp only[SetTable.fits,AZ,beq_iff_eq]at this
  exact this.1
 refine⟨fun b hb=>by simp at hb;simp[hb],fun i h h' st k=>⟨k a (by simp) _ st.1,k I (by simp) _ st.2⟩,fun i s Q E hi st hQ=>?_,fun s Q E st hQ=>?_,fun i s Q E st hQ=>Bc st.2 hQ⟩
 ·have e1:es[i]? = some es[i]:=CO hi
  have e2:t.place[i]? = some (t.place.getD i 0):=by
   have:i<t.place.size:=by lia
   simp[this]
  refine Gp (x:=es[i].2) (nx:=t.place.getD i 0+1) st.2 st.1 H rfl (fun A' E' Q' hq=>vg st.1 H ht hp (by rw[below_at H.tidy (by lia),e1,e2];exact hq)) fun h' q' b'=>?_
  refine hQ _ h' s.toks (by rw[e1];rfl) ⟨(b'.2 a ne).trans st.1,?_⟩ fun b o hb z=>b'.extBut b o (fun x=>hb (by simp[x])) z
  have e3:atOf t (i+1)=t.place.getD i 0+1:=by simp[atOf]
  rw[e3];exact q'
 ·have e1:es[es.size]? = none:=FS (AH _)
  exact Gq hh st.2 st.1 H rfl (fun A' E' Q' hq=>vg st.1 H ht hp (by rw[below_at H.tidy (by lia),e1];exact hq)) fun h' b'=>hQ h' s.toks fun b o hb z=>b' b o (fun x=>hb (by simp[x])) z
theorem Be (hh:A.handled=none) (ne:a≠I) (nt:T≠I) (H:Holds prog w o es ep t σ (o9 w)) {ys:List Nat} (hy:ys.Perm (List.range es.size)) :
  Walks prog w A I [I,a,T] [I] es.size (fun i v=>((ys[i]?).bind fun j=>es[j]?).map (·.2)=some v) (fun i h=>h.get? a=some o∧h.get? I=some (rj (.ref T) i a es.size ep)∧h.IsTuple T (ys.map fun(i:Nat)=>rawInt i).toArray):=by
 have sz:ys.length=es.size:=by simpa using hy.length_eq
 refine⟨fun b hb=>by simp at hb;simp[hb],fun i h h' st k=>⟨k a (by simp) _ st.1,k I (by simp) _ st.2.1,st.2.2.at fun o e=>k T (by simp) o e⟩,fun i s Q E hi st hQ=>?_,fun s Q E st hQ=>?_,fun i s Q E st hQ=>Bc st.2.1 hQ⟩
 ·have hi':i<ys.length:=by lia
  have e1:ys[i]? = some ys[i]:=AC hi'
  have hj:ys[i]<es.size:=by
   have:ys[i]∈List.range es.size:=hy.mem_iff.mp (BQ hi')
   simpa using this
  have e2:es[ys[i]]? = some es[ys[i]]:=CO hj
  refine Jw (j:=ys[i]) (e:=es[ys[i]]) st.2.1 st.1 H rfl st.2.2 (by simp[e1]) e2 fun h' q' b'=>?_
  exact hQ _ h' s.toks (by rw[e1];show(es[ys[i]]?).map (·.2)=_;rw[e2];rfl) ⟨(b'.2 a ne).trans st.1,q',st.2.2.at fun o e=>b'.extBut T o nt e⟩ fun b o hb z=>b'.extBut b o (fun x=>hb (by simp[x])) z
 ·exact zp hh st.2.1 st.1 H rfl st.2.2 (by simp[sz]) fun h' b'=>hQ h' s.toks fun b o hb z=>b' b o (fun x=>hb (by simp[x])) z
theorem Jx {Q:Bool→Shared→Prop} (q:s.heap.get? a=some o) (H:o.cls=.type "set") (h:Q false s):wpAny (model prog w) A (Builtin.List.listLengthHint (.ref a)) Q E s:=by
 have hT:s.TypeIs (.ref a) "set":=⟨o,q,H⟩
 unfold Builtin.List.listLengthHint
 refine AA (IH hT PySem.F.slot_set_len.lookup ?_)
 generalize hid:("set.__len__":String)=z
 wp_delta
 rw[show splitId z=some ("set","__len__")from by subst hid;decide +kernel]
 subst hid
 refine AA (EB (T:="set") (b:=true) hT (by rw[ES];kernel_rfl) ?_)
 refine EL (fun x=>absurd x (by decide)) fun _=>?_
 refine EL (fun _=>?_) fun x=>absurd (by decide +kernel) x
 refine AA (FM hT ?_)
 exact AD h
end
end Lp.Sets
namespace Lp.Sets
open PySem PySem.W PyProof.Rows PySem.Calls
noncomputable def intOf:Value→Int
 | .int n _=>n
 | _=>0
theorem ints_of:∀{vs:List Value} {ns:List Int},IntsAre vs ns→ns=vs.map intOf∧∀v∈vs,∃n t,v=.int n t
 | _,_,.nil=>⟨rfl,fun v h=>by simp at h⟩
 | _,_,.cons n t r=>by
  obtain⟨e,h⟩:=ints_of r
  refine⟨by rw[AT,←e];rfl,fun v hv=>?_⟩
  rcases AJ.mp hv with rfl | hv
  ·exact⟨n,t,rfl⟩
  ·exact h v hv
theorem Gr:∀{vs:List Value},(∀v∈vs,∃n t,v=Value.int n t)→IntsAre vs (vs.map intOf)
 | [],_=>.nil
 | v::vs,h=>by
  obtain⟨n,t,rfl⟩:=h v AQ
  exact .cons n t (Gr fun u hu=>h u (AK _ hu))
theorem Gs {us vs:List Value} {ns:List Int} (h:IntsAre vs ns) (p:us.Perm vs):∃ms,IntsAre us ms∧ms.Perm ns:=by
 obtain⟨e,hv⟩:=ints_of h
 refine⟨us.map intOf,Gr fun u hu=>hv u (p.mem_iff.mp hu),?_⟩
 rw[e];exact p.map _
theorem xk {f:Nat→Option Value} {acc:Array Value} {n:Nat} {ord:List Value} (h:ItemsOf (fun i v=>f i=some v) acc n) (ho:ord.length=n) (hf:∀i,i<n→f i=ord[i]?):acc.toList=ord:=by
 obtain⟨h1,h2⟩:=h
 apply BU
 intro i
 by_cases hi:i<n
 ·have e:acc.toList[i]? = some acc[i]:=by
   rw[Da];exact CO (by lia)
  rw[e,←hf i hi]
  exact(h2 i _ (CO (by lia))).symm
 ·rw[AV (by simp;lia),AV (by lia)]
section
variable {prog : Program} {w : World} {A : Around} {E : Value → Shared → Prop} {s : Shared} {a : Addr} {σ : List Int}
theorem D4 {R:Result→Shared→Prop} (hh:A.handled=none) (hS:Bb prog w s.heap a σ (o9 w)) (D:Addr) (res:Value) (qD:s.heap.get? D=some {cls:=.type "list",dict:=none,data:=.seq #[] 0,slots:=#[]}) (ne:D≠a) (few:σ.length≤sizeLine)
  (hR:∀(h':Heap) tk d acc c',(∀b o,b≠D→s.heap.get? b=some o→h'.get? b=some o)→h'.get? D=some {cls:=.type "list",dict:=none,data:=.seq acc c',slots:=#[]}→(∃ms,IntsAre acc.toList ms∧ms.Perm σ) →
   R (.ok (.ret res)) {s with heap:=h',toks:=tk,drawn:=d}) :
  wpAny (model prog w) A.in1 (Builtin.List.listExtendWith (.ref D) (.ref a) res) (fun fin s'=>match fin with | .done f=>R (.ok f) s' | .again c'=>c'.quiet=true∧codeAny (model prog w) A c' R s') (fun e s'=>R (.error e) s') s:=by
 obtain⟨o,es,ep,t,q,H⟩:=hS
 obtain⟨vs,pv,iv⟩:=H.vals
 have hn:es.size=σ.length:=H.len
 have lD:D<s.heap.objs.size:=AI qD
 have la:a<s.heap.objs.size:=AI q
 have perm:∀{acc:Array Value} {ord:List Value},acc.toList=ord→ord.Perm (es.toList.map (·.2))→∃ms,IntsAre acc.toList ms∧ms.Perm σ:=fun e p=>by
  rw[e];exact Gs iv (p.trans pv)
 -- behind the iterator: the list is touched,and the loop runs
 have go:∀(h1:Heap) (d:Drawn) (I:Addr) (fp:List Addr) (P:Nat→Value→Prop) (St:Nat→Heap→Prop),Walks prog w A.in1 I fp [I] es.size P St→D∉fp→(∀b o,s.heap.get? b=some o→h1.get? b=some o)→s.heap.objs.size≤I →
   (∀h2:Heap,(∀b o,b≠D→h1.get? b=some o→h2.get? b=some o)→St 0 h2)→(∀acc,ItemsOf P acc es.size→∃ms,IntsAre acc.toList ms∧ms.Perm σ) →
   wpAny (model prog w) A.in1 (holding [.ref I] (Builtin.List.listLengthHint (.ref a))>>=fun room=>if(room || ["set","frozenset","dict","dict_keys","dict_values","dict_items"].any (Value.type "set"==.type ·))=true then do
     rule "list.extend.makes-room"
     Builtin.List.listTouch (.ref D)
     again (.builtin "list.extend.loop" ⟨[.ref D,.ref I,res],[]⟩)
    else again (.builtin "list.extend.loop" ⟨[.ref D,.ref I,res],[]⟩)) (fun fin s'=>match fin with | .done f=>R (.ok f) s' | .again c'=>c'.quiet=true∧codeAny (model prog w) A c' R s') (fun e s'=>R (.error e) s') {s with heap:=h1,drawn:=d}:=by
  intro h1 d I fp P St W df k1 lI st0 hacc
  refine AA (CL (Jx (s:={s with heap:=h1,drawn:=d}) (k1 a o q) H.set.1 ?_))
  rw[if_pos (by decide)]
  refine AA (FF ?_)
  have q1:=k1 D _ qD
  refine AA ?_
  show wpAny _ _ (updateSeq D (·.push .none)>>=fun _=>updateSeq D (·.pop)) _ _ _
  refine AA (GK q1 rfl ?_)
  have q2:=CZ (Obj.mapSeq (·.push Value.none)) q1 rfl
  refine GK (hz:=by seq_fits) q2 rfl ?_
  have q3:=CZ (Obj.mapSeq (·.pop)) q2 rfl
  have k3:∀b o,b≠D→h1.get? b=some o→((h1.update D (Obj.mapSeq (·.push Value.none))).update D (Obj.mapSeq (·.pop))).get? b=some o:=fun b o hb z=>by
   rw[DK _ _ _ _ hb,DK _ _ _ _ hb];exact z
  refine AD ⟨GB HD _,codeAny_extend_loopS W.toS (by lia) D df res es.size 0 _ #[] _ (by lia) (CP _) (st0 _ k3) q3 (ItemsOf.nil _) fun s' acc c' m qD' ha=>?_⟩
  rw[IU m]
  refine hR s'.heap s'.toks d acc c' (fun b o hb z=>m.heap b o ?_ (k3 b o hb (k1 b o z))) qD' (hacc acc ha)
  simp only[AJ,BH,or_false,not_or]
  exact⟨hb,AN (AS (AI z) lI)⟩
 unfold Builtin.List.listExtendWith
 refine AA (FM (T:="set") ⟨o,q,H.set.1⟩ ?_)
 have e1:Builtin.List.listSameRef (.ref D) (.ref a)=false:=by simp[Builtin.List.listSameRef,ne]
 have e2:(Value.type "set"==Value.type "list")=false:=by decide
 have e3:(Value.type "set"==Value.type "tuple")=false:=by decide
 simp only[e1,e2,e3,IT,AR,if_false]
 refine AA (N6 q H (by lia) (fun hm=>?_) fun ht ys d py=>?_)
 ·cases ht:w.params.followText "set-order" with
  | true =>
   refine go _ s.drawn _ _ _ _ (D3 hh (AN la) H ht) (by simp;exact⟨AN lD,ne⟩) (fun b o z=>AB _ z) (AH _) (fun h2 k=>⟨k a o (Ne.symm ne) (AB _ q),k _ _ (CF lD) (AF _ rfl)⟩) fun acc ha=>?_
   have pp:=t9 (w.params.setOrder a ep) es
   refine perm (xk (ord:=(pickOrder (w.params.setOrder a ep) es).toList.map (·.2)) ha (by rw[AG,pp.length_eq,BN]) fun i _=>by simp) (pp.map _)
  | false =>
   rcases hm with z | hp
   ·rw[ht]at z;exact absurd z (by decide)
   refine go _ s.drawn _ _ _ _ (Bd hh (AN la) H ht hp) (by simp;exact⟨AN lD,ne⟩) (fun b o z=>AB _ z) (AH _) (fun h2 k=>⟨k a o (Ne.symm ne) (AB _ q),k _ _ (CF lD) (AF _ rfl)⟩) fun acc ha=>?_
   exact perm (xk (ord:=es.toList.map (·.2)) ha (by simp) fun i _=>by simp) (.refl _)
 ·have hz:(s.heap.push {cls:=.type "tuple",data:=.seq (ys.map fun(i:Nat)=>rawInt i).toArray}).objs.size=s.heap.objs.size+1:=CS ..
  have sy:ys.length=es.size:=by simpa using py.length_eq
  refine go _ d _ _ _ _ (Be (A:=A.in1) (I:=s.heap.objs.size+1) (T:=s.heap.objs.size) (show A.in1.handled=none from hh) (AN (DE la)) (AN (EV _)) H py) (by simp;exact⟨AN (DE lD),ne,AN lD⟩) (fun b o z=>AB _ (AB _ z)) (ED _)
   (fun h2 k=>⟨k a o (Ne.symm ne) (AB _ (AB _ q)),k _ _ (CF (DE lD)) (hz ▸ AF _ rfl),⟨_,k _ _ (CF lD) (AB _ (AF _ rfl)),rfl,_,rfl⟩⟩) fun acc ha=>?_
  refine perm (xk (ord:=ys.map fun j=>(es.getD j (0,.none)).2) ha (by rw[AG];exact sy) fun i hi=>?_) ?_
  ·have hi':i<ys.length:=by lia
   have hj:ys[i]<es.size:=by
    have:ys[i]∈List.range es.size:=py.mem_iff.mp (BQ hi')
    simpa using this
   simp[hi',hj]
  ·have e:es.toList.map (·.2)=(List.range es.size).map fun j=>(es.getD j (0,.none)).2:=by
    apply BU
    intro i
    by_cases hi:i<es.size
    ·simp[hi]
    ·simp[hi]
   rw[e]
   exact py.map _
end
end Lp.Sets
namespace Lp.Sets
open PySem PySem.W PyProof.Rows PySem.Calls
section
variable {prog : Program} {w : World} {A : Around} {E : Value → Shared → Prop} {s : Shared} {a : Addr} {σ : List Int}
theorem Bf {Q:List Value→Shared→Prop} (hh:A.handled=none) (hS:Bb prog w s.heap a σ (o9 w)) (few:σ.length≤sizeLine)
  (hQ:∀(h':Heap) tk d us ms,(∀b o,s.heap.get? b=some o→h'.get? b=some o)→s.heap.objs.size<h'.objs.size→IntsAre us ms→ms.Perm σ→Q us {s with heap:=h',toks:=tk,drawn:=d}):wpAny (model prog w) A (collect (.ref a)) Q E s:=by
 have la:a<s.heap.objs.size:=by obtain⟨o,_,_,_,q,_⟩:=hS;exact AI q
 unfold collect
 refine AA (wpAny_runValue (EM PySem.F.entry_proto_collect ?_))
 rw[DW PySem.F.plain_proto_collect]
 show wpAny (model prog w) A.in1 (newList []>>=fun z=>again (.builtin "list.__iadd__" ⟨[z,.ref a],[]⟩)) _ _ s
 refine AA (BO (AD ⟨GB ID _,EM PySem.F.entry_list_iadd ?_⟩))
 rw[DW ID]
 have qD:(s.heap.push {cls:=.type "list",data:=.seq ([]:List Value).toArray}).get? s.heap.objs.size=some {cls:=.type "list",dict:=none,data:=.seq #[] 0,slots:=#[]}:=AF _ rfl
 refine DQ (D4 (A:=A) (s:={s with heap:=s.heap.push {cls:=.type "list",data:=.seq ([]:List Value).toArray}}) (R:=fun r' s'=>r'=.ok (.ret (.ref s.heap.objs.size))∧∃(h':Heap) (tk:Nat) (d:Drawn) (acc:Array Value) (c':Nat),s'={s with heap:=h',toks:=tk,drawn:=d}∧(∀b o',s.heap.get? b=some o'→h'.get? b=some o') ∧
   h'.get? s.heap.objs.size=some {cls:=.type "list",dict:=none,data:=.seq acc c',slots:=#[]}∧∃ms,IntsAre acc.toList ms∧ms.Perm σ) hh (hS.at fun o z=>AB _ z) s.heap.objs.size (.ref s.heap.objs.size) qD (CF la) few
   fun h' tk d acc c' k q m=>⟨rfl,h',tk,d,acc,c',rfl,fun b o z=>k b o (AN (AI z)) (AB _ z),q,m⟩) (fun fin s' h=>?_) fun e s' h=>absurd h.1 (by simp)
 have fin':∀(r':Result) (s'':Shared),(r'=.ok (.ret (.ref s.heap.objs.size))∧∃(h':Heap) (tk:Nat) (d:Drawn) (acc:Array Value) (c':Nat),s''={s with heap:=h',toks:=tk,drawn:=d}∧(∀b o',s.heap.get? b=some o'→h'.get? b=some o') ∧
   h'.get? s.heap.objs.size=some {cls:=.type "list",dict:=none,data:=.seq acc c',slots:=#[]}∧∃ms,IntsAre acc.toList ms∧ms.Perm σ)→wpAny (model prog w) A (match Value.ref s.heap.objs.size with
   | Value.ref a=>do
    match(←load a).data with
     | Data.seq xs _=>pure xs.toList
     | _=>unsupported "internal:collect"
   | _=>unsupported "internal:collect") Q E s'':=by
  rintro r' s'' ⟨rfl,h',tk,d,acc,c',rfl,k,q,ms,i,p⟩
  show wpAny (model prog w) A (load s.heap.objs.size>>=_) _ _ _
  exact AA (wpAny_load q (AD (hQ h' tk d _ ms k (AI q) i p)))
 cases fin with
 | done f =>
  have e:f=.ret (.ref s.heap.objs.size):=by have:=h.1;cases this;rfl
  subst e
  exact fin' _ _ h
 | again c'=>exact⟨h.1,FJ h.2 fun r' s'' hr=>by obtain⟨rfl,z⟩:=hr;exact fin' _ _ ⟨rfl,z⟩⟩
theorem D5 {Q:Value→Shared→Prop} (hh:A.handled=none) (hS:Bb prog w s.heap a σ (o9 w)) (few:σ.length<64)
  (h:∀(h':Heap) tk d p out ns c,(∀b o,s.heap.get? b=some o→h'.get? b=some o)→s.heap.objs.size≤p→h'.get? p=some (seqObj "list" out c)→IntsAre out.toList ns→ns.Perm σ→ns.Pairwise (·≤·)→Q (.ref p) {s with heap:=h',toks:=tk,drawn:=d}) :
  wpAny (model prog w) A (call (.builtin "sorted") [.ref a]) Q E s:=by
 have small:σ.length≤sizeLine:=by rw[DB];lia
 refine HE kind_sorted plain_sorted entry_sorted (args_sorted1 _) ?_
 unfold Builtin.«sorted»
 refine AA (m:=checkCount "sorted" 1 1 _) (AD (AA (Bf (show A.in1.handled=none from hh) hS small fun h1 tk d us ms k lz i p=>?_)))
 have lu:us.length=σ.length:=by rw[xg i,p.length_eq]
 refine AA (wpAny_newList ?_ (by lia))
 have qL:(h1.push (seqObj "list" us.toArray 0)).get? h1.objs.size=some (seqObj "list" us.toArray 0):=AF _ rfl
 refine AA (CL (BK slot_list_sort ⟨_,qL,rfl⟩ entry_list_sort (list_sort_tree (s:={s with heap:=h1.push (seqObj "list" us.toArray 0),toks:=tk,drawn:=d}) qL i (by lia) fun out ns j1 j2 j3=>⟨_,rfl,?_⟩) (args_list_sort _)))
 obtain⟨c,qc⟩:∃c,(sortedHeap (h1.push (seqObj "list" us.toArray 0)) h1.objs.size us out).get? h1.objs.size=some (seqObj "list" out c) :=
  ⟨_,II (AB _ (AB _ (II qL fun _=>#[]))) fun _=>out⟩
 refine AD ⟨_,rfl,h _ tk d _ out ns c (fun b o z=>?_) (EE lz) qc j1 (j2.trans p) j3⟩
 have zb:b≠h1.objs.size:=AN (AI (k b o z))
 unfold sortedHeap
 rw[DK _ _ _ _ zb]
 refine AB _ (AB _ ?_)
 rw[DK _ _ _ _ zb]
 exact AB _ (k b o z)
end
end Lp.Sets
namespace Lp
open PySem PySem.Spec PyProof.Rows L2
namespace Sets
theorem insI_perm (x:Int):∀l:List Int,(insI x l).Perm (x::l)
 | []=>.refl _
 | y::r=>by
  unfold insI
  split
  ·exact .refl _
  ·exact((insI_perm x r).cons y).trans (List.Perm.swap ..)
theorem sortI_perm:∀l:List Int,(sortI l).Perm l
 | []=>.refl _
 | x::r=>(insI_perm x (sortI r)).trans ((sortI_perm r).cons x)
theorem Gu (x:Int):∀l:List Int,l.Pairwise (·≤·)→(insI x l).Pairwise (·≤·)
 | [],_=>by simp[insI]
 | y::r,h=>by
  obtain⟨h1,h2⟩:=BR.mp h
  unfold insI
  split
  ·rename_i hc
   refine BR.mpr ⟨fun z hz=>?_,h⟩
   rcases AJ.mp hz with rfl | hz
   ·exact hc
   ·exact Int.le_trans hc (h1 z hz)
  ·rename_i hc
   refine BR.mpr ⟨fun z hz=>?_,Gu x r h2⟩
   rcases AJ.mp ((insI_perm x r).mem_iff.mp hz)with rfl | hz
   ·lia
   ·exact h1 z hz
theorem Cs:∀l:List Int,(sortI l).Pairwise (·≤·)
 | []=>.nil
 | x::r=>Gu x _ (Cs r)
theorem Gv:∀{l m:List Int},l.Perm m→l.Pairwise (·≤·)→m.Pairwise (·≤·)→l=m
 | [],m,p,_,_=>(List.nil_perm.mp p).symm
 | x::l,[],p,_,_=>by have:=p.length_eq;simp at this
 | x::l,y::m,p,h1,h2=>by
  obtain⟨a1,a2⟩:=BR.mp h1
  obtain⟨b1,b2⟩:=BR.mp h2
  have e:x=y:=by
   have hx:x∈y::m:=p.mem_iff.mp AQ
   have hy:y∈x::l:=p.mem_iff.mpr AQ
   rcases AJ.mp hx with e | hx
   ·exact e
   ·rcases AJ.mp hy with e | hy
    ·exact e.symm
    ·exact Int.le_antisymm (a1 y hy) (b1 x hx)
  subst e
  rw[Gv (List.Perm.cons_inv p) a2 b2]
theorem rg (ns:List Int):firstMet (fun i=>ns.getD i 0) ns.length=B5 ns:=by
 unfold firstMet B5
 have e:(List.range ns.length).map (fun i=>ns.getD i 0)=ns:=by
  apply BU
  intro i
  by_cases h:i<ns.length
  ·simp[h]
  ·simp[h]
 rw[e]
 rfl
theorem N7 (ns:List Int):(B5 ns).length≤ns.length:=by
 rw[←rg];exact firstMet_length_le _ _
theorem vals_ints:∀{ns:List Int} {us:List Value},cz (ns.map V.int) us→IntsAre us ns
 | [],[],_=>.nil
 | n::r,u::us,h=>by
  cases h with
  | cons h1 h2 =>
   obtain⟨t,rfl⟩:=h1
   exact .cons n t (vals_ints h2)
 | [],u::us,h=>by cases h
 | n::r,[],h=>by cases h
theorem zq:∀{us:List Value} {ns:List Int},IntsAre us ns→cz (ns.map V.int) us
 | _,_,.nil=>.nil
 | _,_,.cons n t r=>.cons ⟨t,rfl⟩ (zq r)
theorem drew {X:Cx} {pins:List (Addr×Obj)} {σ:List (Option V)} {H:Hp} {s:Shared} {d:Drawn} (I:Inv X pins σ H s):Inv X pins σ H {s with drawn:=d} :=
 ⟨I.ok,I.os,I.bare,I.base,I.loc,I.cell,I.free,I.freeC,I.pin,I.hok,I.len⟩
end Sets
section
variable {X : Cx} {φ : Phi} {a : Expr} {xa : Ex} {p p2 pos pos2 : Pos} {m : Mk}
noncomputable def V0 (K:PySem.W.Frag) (ta:TE) (k:List Int→Hp→VK→Prop):TE:=fun σ H Q=>ta σ H fun v H1=>∃(b:Addr) (ns:List Int),v=.ref b∧(LsL K H1 b (ns.map V.int)∨SqT K H1 b (ns.map V.int))∧ns.length<64∧k ns H1 Q
theorem Jy {σv:St} {H:Hp} {Q:VK} (h:tE X.K φ (.blt .sortedSet m (.cons xa .nil)) σv H Q) :
  V0 X.K (tE X.K φ xa) (fun ns H Q=>∀q,H q=none→FQ Q (.ref q) (upd H q (.lst ((sortI (B5 ns)).map V.int)))) σv H Q:=by
 obtain⟨ι,σ,μ,hS,hL,h⟩:=h
 simp only[evE,i7]at h
 rw[Res.bind_assoc]at h
 obtain⟨d,μ1,e1,h⟩:=h.bind
 refine⟨ι,σ,μ,hS,hL,?_⟩
 rw[e1]
 intro ι1 v H1 p1 x1 s1 d1
 have h:=h.mono p1 x1
 simp only[Res.bw]at h
 simp only[btD,j5]at h
 obtain⟨b,ns,rfl,hq,h⟩:=A2 s1 d1 h
 split at h
 ·rename_i h64
  exact⟨b,ns,rfl,hq,h64,fun q z=>mm s1 (aq.ints _) h z⟩
 ·exact h.elim
theorem Bg (hms:X.mg "sorted"=none) (hmt:X.mg "set"=none) (ha:PE X a (tE X.K φ xa)) (hgs:Gl X "sorted":=by rfl) (hgt:Gl X "set":=by rfl) (hc:X.calm=true:=by rfl)
  (hs:starEach [a] X.env=[(false,eval a X.env)]:=by rfl) (hs2:starEach [.Call (.Name "set" p2) [a] [] pos2] X.env=[(false,eval (.Call (.Name "set" p2) [a] [] pos2) X.env)]:=by rfl) :
  PE X (.Call (.Name "sorted" p) [.Call (.Name "set" p2) [a] [] pos2] [] pos) (tE X.K φ (.blt .sortedSet m (.cons xa .nil))):=by
 refine PE.imp (t:=V0 X.K (tE X.K φ xa) fun ns H Q=>∀q,H q=none→FQ Q (.ref q) (upd H q (.lst ((sortI (B5 ns)).map V.int)))) ?_ fun σv H Q h=>Jy h
 intro pins s σ H Q I h
 refine Do (ny I hgs hms (by first | exact HV | decide +kernel) ?_ (by decide) (by decide))
 refine FY ?_ hs2 rfl
 rw[hs2]
 refine Db ?_
 refine Do (ny I hgt hmt (by first | exact PyProof.Rows.boot_set | decide +kernel) ?_ (by decide) (by decide))
 refine BZ ?_ hs rfl
 rw[hs]
 refine Db (thn (ha pins s σ H _ I h) fun u s1 ⟨v,H1,I1,r1,b,ns,ev,hq,h64,q⟩=>DU ?_)
 subst ev
 cases(show u=Value.ref b from r1)
 obtain⟨bb,its,hv,hsq⟩:∃(bb:Bool) (its:List Value),cz (ns.map V.int) its∧SQ bb s1.heap b its.toArray:=by
  rcases hq with hq | hq
  ·obtain⟨z,its,n,hv,hl,hg⟩:=I1.ls hq
   exact⟨true,its,hv,⟨_,hg,rfl,n,rfl⟩⟩
  ·obtain⟨its,hv,ht,hz⟩:=I1.tuple hq
   exact⟨false,its,hv,ht⟩
 have ln:its.length=ns.length:=by have:=hv.length;simpa using this.symm
 refine Sets.Jv (ns:=ns) (I1.ok.hd hc) hsq (by simpa using Sets.vals_ints hv) (by rw[AE];unfold scanBound;lia) fun h1 tk1 hH k1=>DU ?_
 have hsz:its.toArray.size=ns.length:=by rw[AE];exact ln
 rw[hsz,Sets.rg]at hH
 have hd:=Sets.N7 ns
 refine B6 (Sets.D5 (s:={s1 with heap:=h1,toks:=tk1}) (I1.ok.hd hc) hH (by lia) fun h2 tk2 d pq out ms c k2 lp qp i1 i2 i3=>?_)
 have e:ms=sortI (B5 ns):=Sets.Gv (i2.trans (Sets.sortI_perm _).symm) i3 (Sets.Cs _)
 subst e
 have l1:s1.heap.objs.size<h1.objs.size:=by obtain⟨o,_,_,_,z,_⟩:=hH;exact AI z
 have lp':s1.heap.objs.size≤pq:=by
  have:h1.objs.size≤pq:=lp
  lia
 have lz:(sortI (B5 ns)).length≤ns.length:=by rw[(Sets.sortI_perm _).length_eq];exact hd
 have I2:=I1.laid (a:=pq) (o:=.lst ((sortI (B5 ns)).map V.int)) (h':=h2) (t':=tk2) (fun b o z=>k2 b o (k1 b o z)) lp' ⟨by rw[AG,DB];lia,out.toList,c,Sets.zq i1,by rw[IS];exact qp⟩
 exact⟨.ref pq,_,Sets.drew I2,rfl,q pq (I1.hok.fresh lp')⟩
end
end Lp
namespace Lp
open PySem
noncomputable abbrev ng:Nat:=2
noncomputable abbrev br:Nat:=3
noncomputable abbrev dz:Nat:=4
noncomputable abbrev di:Nat:=5
noncomputable abbrev ju:Nat:=6
noncomputable abbrev nh:Nat:=7
noncomputable abbrev pd:Nat:=8
noncomputable abbrev ni:Nat:=9
noncomputable abbrev ua:Nat:=13
noncomputable abbrev cu:Nat:=34
noncomputable abbrev Ct:Nat:=35
noncomputable abbrev cm:Nat:=53
noncomputable abbrev eh:Nat:=54
noncomputable abbrev cv:Nat:=55
noncomputable abbrev gp:Nat:=56
noncomputable abbrev pe:Nat:=57
noncomputable abbrev i8:Nat:=58
noncomputable abbrev i9:Nat:=59
noncomputable abbrev lq:Nat:=60
noncomputable abbrev qj:Nat:=61
noncomputable abbrev uc:Nat:=62
noncomputable abbrev fb:Nat:=64
noncomputable abbrev k4:Nat:=65
noncomputable abbrev nj:Nat:=66
noncomputable abbrev eu:Nat:=73
noncomputable abbrev ic:Nat:=74
noncomputable abbrev gq:Nat:=75
noncomputable abbrev ia:Nat:=76
noncomputable abbrev pf:Nat:=149
noncomputable abbrev fk:Nat:=152
noncomputable abbrev ie:Nat:=162
noncomputable abbrev om:Nat:=165
noncomputable def D_can_burn:Df:=⟨3,6,(.cons (.unp [3,4,5] (.ix (.ix (.var 0) (.cst (.int 2))) (.var 1))) (.cons (.ret (.cmp (.var 2) (.cons .notin (.var 5) .nil))) .nil))⟩
noncomputable def D_law_next:Df:=⟨1,1,(.cons (.ite (.cmp (.blt .len .z (.cons (.var 0) .nil)) (.cons .gt (.cst (.int 0)) .nil)) (.cons (.ret (.meth .pop (.var 0) .nil)) .nil) .nil) (.cons (.ret (.cst (.int 0))) .nil))⟩
noncomputable def D_law_turn:Df:=⟨1,2,(.cons (.set 1 (.bin .Mod .z (.bin .Mult .z (.bin .Add .z (.bin .Mod .z (.var 0) (.bin .Pow .z (.cst (.int 10)) (.cst (.int 60)))) (.cst (.int 1))) (.cst (.int 69621))) (.cst (.int 2147483647)))) (.cons (.ret (.bin .FloorDiv .z (.bin .Mod .z (.bin .Mult .z (.var 1) (.var 1)) (.cst (.int 1000000007))) (.cst (.int 7)))) .nil))⟩
noncomputable def D_law_size:Df:=⟨2,3,(.cons (.set 2 (.call false dz (.cons (.var 0) .nil))) (.cons (.ite (.cmp (.bin .Mod .z (.var 2) (.cst (.int 8))) (.cons .lt (.cst (.int 6)) .nil)) (.cons (.ret (.blt .min .z (.cons (.var 1) (.cons (.bin .Mod .z (.bin .FloorDiv .z (.var 2) (.cst (.int 8))) (.cst (.int 13))) .nil)))) .nil) .nil) (.cons (.ite (.cmp (.bin .Mod .z (.var 2) (.cst (.int 8))) (.cons .eq (.cst (.int 6)) .nil)) (.cons (.ret (.bin .Sub .z (.var 1) (.bin .Mod .z (.bin .FloorDiv .z (.var 2) (.cst (.int 8))) (.cst (.int 2))))) .nil) .nil) (.cons (.ret (.bin .Mod .z (.var 0) (.bin .Add .z (.var 1) (.cst (.int 1))))) .nil))))⟩
noncomputable def D_law_whole:Df:=⟨1,1,(.cons (.ret (.and (.isi (.var 0) .int) (.not (.isi (.var 0) .bool)))) .nil)⟩
noncomputable def ly:Exs:=(.cons (.cmp (.bin .Mod .z (.bin .RShift .z (.var 0) (.bin .Add .z (.var 1) (.cst (.int 1)))) (.cst (.int 2))) (.cons .eq (.cst (.int 1)) .nil)) .nil)
noncomputable def gr:Ex:=(.var 1)
noncomputable def D_law_lamp:Df:=⟨2,6,(.cons (.set 2 (.call false di (.cons (.call false br (.cons (.var 0) .nil)) (.cons (.bin .Pow .z (.cst (.int 10)) (.cst (.int 30))) .nil)))) (.cons (.set 3 (.blt .min .z (.cons (.var 2) (.cons (.call false di (.cons (.call false br (.cons (.var 0) .nil)) (.cons (.bin .Pow .z (.cst (.int 10)) (.cst (.int 30))) .nil))) .nil)))) (.cons (.set 4 (.call false dz (.cons (.call false br (.cons (.var 0) .nil)) .nil))) (.cons (.set 5 (.tup .nil)) (.cons (.ite (.cmp (.bin .Mod .z (.var 4) (.cst (.int 2))) (.cons .eq (.cst (.int 1)) .nil)) (.cons (.set 5 (.blt .tuple .z (.cons (.comp .z [4] 1 (.one 1) (.rng (.var 1)) ly gr) .nil))) .nil) .nil) (.cons (.ret (.tup (.cons (.var 2) (.cons (.var 3) (.cons (.var 5) .nil))))) .nil))))))⟩
noncomputable def D_law_day:Df:=⟨2,6,(.cons (.set 2 (.call false di (.cons (.call false br (.cons (.var 0) .nil)) (.cons (.bin .Pow .z (.cst (.int 10)) (.cst (.int 30))) .nil)))) (.cons (.set 3 (.call false di (.cons (.call false br (.cons (.var 0) .nil)) (.cons (.bin .Pow .z (.cst (.int 10)) (.cst (.int 30))) .nil)))) (.cons (.set 4 (.call false di (.cons (.call false br (.cons (.var 0) .nil)) (.cons (.bin .Pow .z (.cst (.int 10)) (.cst (.int 15))) .nil)))) (.cons (.set 5 (.blt .max .z (.cons (.cst (.int 1)) (.cons (.call false di (.cons (.call false br (.cons (.var 0) .nil)) (.cons (.bin .Pow .z (.cst (.int 10)) (.cst (.int 15))) .nil))) .nil)))) (.cons (.ret (.tup (.cons (.var 2) (.cons (.var 3) (.cons (.var 4) (.cons (.var 5) (.cons (.bin .Mod .z (.call false dz (.cons (.call false br (.cons (.var 0) .nil)) .nil)) (.bin .Add .z (.var 1) (.cst (.int 1)))) .nil))))))) .nil)))))⟩
noncomputable def ja:Ex:=(.call false nh (.cons (.var 0) (.cons (.var 1) .nil)))
noncomputable def jb:Ex:=(.call false pd (.cons (.var 0) (.cons (.var 1) .nil)))
noncomputable def D_law_book:Df:=⟨1,7,(.cons (.set 1 (.call false dz (.cons (.call false br (.cons (.var 0) .nil)) .nil))) (.cons (.set 2 (.bin .Add .z (.cst (.int 1)) (.bin .Mod .z (.var 1) (.cst (.int 3))))) (.cons (.set 3 (.bin .Add .z (.cst (.int 1)) (.bin .Mod .z (.bin .FloorDiv .z (.var 1) (.cst (.int 3))) (.cst (.int 4))))) (.cons (.ite (.cmp (.bin .Mod .z (.bin .FloorDiv .z (.var 1) (.cst (.int 12))) (.cst (.int 5))) (.cons .eq (.cst (.int 1)) .nil)) (.cons (.set 2 (.bin .Add .z (.cst (.int 1)) (.bin .Mod .z (.bin .FloorDiv .z (.var 1) (.cst (.int 60))) (.cst (.int 8))))) (.cons (.set 3 (.bin .Add .z (.cst (.int 1)) (.bin .Mod .z (.bin .FloorDiv .z (.var 1) (.cst (.int 480))) (.cst (.int 16))))) .nil)) .nil) (.cons (.set 4 (.call false di (.cons (.call false br (.cons (.var 0) .nil)) (.cons (.bin .Pow .z (.cst (.int 10)) (.cst (.int 30))) .nil)))) (.cons (.set 5 (.call false di (.cons (.call false br (.cons (.var 0) .nil)) (.cons (.bin .Pow .z (.cst (.int 10)) (.cst (.int 30))) .nil)))) (.cons (.set 6 (.comp .z [0,3] 1 (.one 2) (.rng (.var 2)) .nil ja)) (.cons (.ret (.tup (.cons (.var 4) (.cons (.var 5) (.cons (.blt .tuple .z (.cons (.var 6) .nil)) (.cons (.blt .tuple .z (.cons (.comp .z [0,2] 1 (.one 2) (.rng (.var 3)) .nil jb) .nil)) .nil)))))) .nil))))))))⟩
noncomputable def k5:Ex:=(.cmp (.var 0) (.cons .lt (.var 1) .nil))
noncomputable def D_rises:Df:=⟨1,1,(.cons (.ret (.blt .all .z (.cons (.comp .z [] 2 (.many [0,1]) (.zip (.var 0) (.sl .z (.var 0) (.so (.cst (.int 1))) .no)) .nil k5) .nil))) .nil)⟩
noncomputable def gf:Sms:=(.cons (.setx (.var 2) (.var 3) (.bin .Sub .z (.bin .Add .z (.meth .get (.var 2) (.cons (.var 3) (.cons (.cst (.int 0)) .nil))) (.var 5)) (.var 4))) .nil)
noncomputable def gg:Ex:=(.meth .get (.var 0) (.cons (.var 1) (.cons (.cst (.int 0)) .nil)))
noncomputable def D_ticks_of_spans:Df:=⟨2,6,(.cons (.set 2 (.dic false .nil)) (.cons (.loop (.many [3,4,5]) (.seq (.var 1)) gf) (.cons (.ret (.blt .tuple .z (.cons (.comp .z [2] 1 (.one 1) (.rng (.var 0)) .nil gg) .nil))) .nil)))⟩
noncomputable def ud:Ex:=(.bin .Mult .z (.ix (.var 0) (.cst (.int 1))) (.ix (.var 1) (.cst (.int 2))))
noncomputable def D_cost:Df:=⟨2,2,(.cons (.ret (.blt .sum .z (.cons (.comp .z [] 2 (.many [0,1]) (.zip (.var 1) (.ix (.var 0) (.cst (.int 3)))) .nil ud) .nil))) .nil)⟩
noncomputable def D_have_tick_in_common:Df:=⟨2,2,(.cons (.ret (.and (.cmp (.ix (.var 0) (.cst (.int 0))) (.cons .eq (.ix (.var 1) (.cst (.int 0))) .nil)) (.cmp (.ix (.var 1) (.cst (.int 1))) (.cons .lt (.ix (.var 0) (.cst (.int 2))) .nil)))) .nil)⟩
noncomputable def az:Sms:=(.cons (.ite (.not (.and (.cmp (.cst (.int 0)) (.cons .le (.var 3) (.cons .lt (.var 1) .nil))) (.cmp (.cst (.int 0)) (.cons .le (.var 4) (.cons .lt (.var 5) (.cons .le (.var 0) .nil)))))) (.cons (.ret (.cst (.bl true))) .nil) .nil) .nil)
noncomputable def de:Ex:=(.call false cm (.cons (.var 0) (.cons (.var 1) .nil)))
noncomputable def D_has_span_fault:Df:=⟨3,6,(.cons (.loop (.many [3,4,5]) (.seq (.var 2)) az) (.cons (.ret (.or (.not (.call false ua (.cons (.var 2) .nil))) (.blt .any .z (.cons (.comp .z [] 2 (.many [0,1]) (.zip (.var 2) (.sl .z (.var 2) (.so (.cst (.int 1))) .no)) .nil de) .nil)))) .nil))⟩
noncomputable def gh:Sms:=(.cons (.setx (.var 3) (.var 5) (.bin .Add .z (.meth .get (.var 3) (.cons (.var 5) (.cons (.cst (.int 0)) .nil))) (.cst (.int 1)))) (.cons (.setx (.var 3) (.var 6) (.bin .Sub .z (.meth .get (.var 3) (.cons (.var 6) (.cons (.cst (.int 0)) .nil))) (.cst (.int 1)))) .nil))
noncomputable def gi:Ex:=(.cmp (.var 0) (.cons .ne (.cst (.int 0)) .nil))
noncomputable def D_has_dark_fault:Df:=⟨3,7,(.cons (.set 3 (.dic false (.cons (.cst (.int 0)) (.cons (.neg (.var 1)) (.cons (.var 0) (.cons (.var 1) .nil)))))) (.cons (.loop (.many [4,5,6]) (.seq (.var 2)) gh) (.cons (.ret (.blt .any .z (.cons (.comp .z [] 1 (.one 0) (.vals (.var 3)) .nil gi) .nil))) .nil)))⟩
noncomputable def gs:Ex:=(.var 1)
noncomputable def D_held_at_first:Df:=⟨1,1,(.cons (.ret (.tup (.cons (.ix (.var 0) (.cst (.int 1))) (.cons (.blt .tuple .z (.cons (.comp .z [] 3 (.many [0,1,2]) (.seq (.ix (.var 0) (.cst (.int 2)))) .nil gs) .nil)) .nil)))) .nil)⟩
noncomputable def oo:Ex:=(.bin .Add .z (.var 0) (.var 1))
noncomputable def D_filled:Df:=⟨2,2,(.cons (.ret (.blt .tuple .z (.cons (.comp .z [] 2 (.many [0,1]) (.zip (.var 0) (.var 1)) .nil oo) .nil))) .nil)⟩
noncomputable def ir:Ex:=(.bin .Sub .z (.var 0) (.var 1))
noncomputable def D_held_behind:Df:=⟨3,11,(.cons (.unp [3,4] (.var 1)) (.cons (.unp [5,6,7,8] (.var 2)) (.cons (.set 9 (.bin .Sub .z (.bin .Add .z (.bin .Add .z (.var 3) (.var 5)) (.var 6)) (.blt .sum .z (.cons (.var 7) .nil)))) (.cons (.set 10 (.call false cu (.cons (.blt .len .z (.cons (.var 4) .nil)) (.cons (.var 8) .nil)))) (.cons (.ret (.tup (.cons (.blt .min .z (.cons (.var 9) (.cons (.ix (.var 0) (.cst (.int 0))) .nil))) (.cons (.blt .tuple .z (.cons (.comp .z [] 2 (.many [0,1]) (.zip (.call false pe (.cons (.var 4) (.cons (.var 7) .nil))) (.var 10)) .nil ir) .nil)) .nil)))) .nil)))))⟩
noncomputable def iu:Ex:=(.not (.call false ng (.cons (.var 0) (.cons (.var 2) (.cons (.var 1) .nil)))))
noncomputable def iy:Ex:=(.cmp (.var 0) (.cons .gt (.var 1) .nil))
noncomputable def D_night_fault:Df:=⟨4,10,(.cons (.unp [4,5,6,7,8] (.ix (.ix (.var 0) (.cst (.int 3))) (.var 1))) (.cons (.ite (.call false eh (.cons (.var 7) (.cons (.blt .len .z (.cons (.var 2) .nil)) (.cons (.var 3) .nil)))) (.cons (.ret (.cst (.str (PySem.Str.ofString "span")))) .nil) .nil) (.cons (.ite (.blt .any .z (.cons (.comp .z [0,1] 3 (.many [2,3,4]) (.seq (.var 3)) .nil iu) .nil)) (.cons (.ret (.cst (.str (PySem.Str.ofString "away")))) .nil) .nil) (.cons (.set 9 (.call false cu (.cons (.blt .len .z (.cons (.var 2) .nil)) (.cons (.var 3) .nil)))) (.cons (.ite (.blt .any .z (.cons (.comp .z [] 2 (.many [0,1]) (.zip (.var 9) (.var 2)) .nil iy) .nil)) (.cons (.ret (.cst (.str (PySem.Str.ofString "oil")))) .nil) .nil) (.cons (.ite (.call false cv (.cons (.var 7) (.cons (.var 8) (.cons (.var 3) .nil)))) (.cons (.ret (.cst (.str (PySem.Str.ofString "dark")))) .nil) .nil) (.cons (.ret (.cst .non)) .nil)))))))⟩
noncomputable def kj:Ex:=(.cmp (.var 0) (.cons .gt (.ix (.var 1) (.cst (.int 0))) .nil))
noncomputable def D_day_fault:Df:=⟨4,16,(.cons (.unp [4,5,6,7,8] (.ix (.ix (.var 0) (.cst (.int 3))) (.var 1))) (.cons (.unp [9,10] (.var 2)) (.cons (.unp [11,12,13,14] (.var 3)) (.cons (.ite (.not (.cmp (.cst (.int 0)) (.cons .le (.var 11) (.cons .le (.var 4) .nil)))) (.cons (.ret (.cst (.str (PySem.Str.ofString "boat")))) .nil) .nil) (.cons (.ite (.not (.cmp (.cst (.int 0)) (.cons .le (.var 12) (.cons .le (.var 5) .nil)))) (.cons (.ret (.cst (.str (PySem.Str.ofString "market")))) .nil) .nil) (.cons (.ite (.or (.cmp (.blt .min1 .z (.cons (.var 13) .nil)) (.cons .lt (.cst (.int 0)) .nil)) (.cmp (.blt .sum .z (.cons (.var 13) .nil)) (.cons .gt (.bin .Add .z (.bin .Add .z (.var 9) (.var 11)) (.var 12)) .nil))) (.cons (.ret (.cst (.str (PySem.Str.ofString "pour")))) .nil) .nil) (.cons (.set 15 (.call false pe (.cons (.var 10) (.cons (.var 13) .nil)))) (.cons (.ite (.blt .any .z (.cons (.comp .z [] 2 (.many [0,1]) (.zip (.var 15) (.ix (.var 0) (.cst (.int 2)))) .nil kj) .nil)) (.cons (.ret (.cst (.str (PySem.Str.ofString "tank")))) .nil) .nil) (.cons (.ret (.call false i9 (.cons (.var 0) (.cons (.var 1) (.cons (.var 15) (.cons (.var 14) .nil)))))) .nil)))))))))⟩
noncomputable def nk:Sms:=(.cons (.set 5 (.call false lq (.cons (.var 0) (.cons (.var 3) (.cons (.var 2) (.cons (.var 4) .nil)))))) (.cons (.ite (.cmp (.var 5) (.cons .isnot (.cst .non) .nil)) (.cons (.ret (.tup (.cons (.var 3) (.cons (.var 5) .nil)))) .nil) .nil) (.cons (.set 2 (.call false i8 (.cons (.var 0) (.cons (.var 2) (.cons (.var 4) .nil))))) .nil)))
noncomputable def D_fault:Df:=⟨2,6,(.cons (.set 2 (.call false gp (.cons (.var 0) .nil))) (.cons (.loop (.many [3,4]) (.enum (.var 1)) nk) (.cons (.ret (.cst .non)) .nil)))⟩
noncomputable def D_keeps:Df:=⟨2,2,(.cons (.ret (.cmp (.call false qj (.cons (.var 0) (.cons (.var 1) .nil))) (.cons .is (.cst .non) .nil))) .nil)⟩
noncomputable def cj:Sms:=(.cons (.ite (.or (.cmp (.var 7) (.cons .ge (.ix (.var 2) (.var 3)) .nil)) (.and (.cmp (.ix (.var 7) (.cst (.int 0))) (.cons .eq (.var 4) .nil)) (.and (.cmp (.ix (.var 7) (.cst (.int 1))) (.cons .lt (.var 6) .nil)) (.cmp (.var 5) (.cons .lt (.ix (.var 7) (.cst (.int 2))) .nil))))) (.cons (.ret (.cst (.bl true))) .nil) .nil) .nil)
noncomputable def bh:Sms:=(.cons (.unp [4,5,6] (.ix (.var 2) (.var 3))) (.cons (.ite (.or (.not (.cmp (.cst (.int 0)) (.cons .le (.var 4) (.cons .lt (.var 1) .nil)))) (.not (.cmp (.cst (.int 0)) (.cons .le (.var 5) (.cons .lt (.var 6) (.cons .le (.var 0) .nil)))))) (.cons (.ret (.cst (.bl true))) .nil) .nil) (.cons (.loop (.one 7) (.seq (.sl .z (.var 2) .no (.so (.var 3)))) cj) .nil)))
noncomputable def D_law_span_bad:Df:=⟨3,8,(.cons (.loop (.one 3) (.rng (.blt .len .z (.cons (.var 2) .nil))) bh) (.cons (.ret (.cst (.bl false))) .nil))⟩
noncomputable def l5:Ex:=(.ix (.var 0) (.cst (.int 1)))
noncomputable def l6:Ex:=(.ix (.var 0) (.cst (.int 2)))
noncomputable def gu:Exs:=(.cons (.and (.cmp (.ix (.var 1) (.cst (.int 1))) (.cons .le (.var 0) .nil)) (.cmp (.var 0) (.cons .lt (.ix (.var 1) (.cst (.int 2))) .nil))) .nil)
noncomputable def gv:Ex:=(.var 1)
noncomputable def gx:Sms:=(.cons (.ite (.cmp (.var 4) (.cons .lt (.var 0) .nil)) (.cons (.ite (.cmp (.blt .len .z (.cons (.comp .z [4] 1 (.one 1) (.seq (.var 2)) gu gv) .nil)) (.cons .ne (.var 1) .nil)) (.cons (.ret (.cst (.bl true))) .nil) .nil) .nil) .nil) .nil)
noncomputable def D_law_dark:Df:=⟨3,5,(.cons (.set 3 (.blt .sortedSet .z (.cons (.bin .Add .z (.bin .Add .z (.lst .z (.cons (.cst (.int 0)) .nil)) (.comp .z [] 1 (.one 0) (.seq (.var 2)) .nil l5)) (.comp .z [] 1 (.one 0) (.seq (.var 2)) .nil l6)) .nil))) (.cons (.loop (.one 4) (.seq (.var 3)) gx) (.cons (.ret (.cst (.bl false))) .nil)))⟩
noncomputable def jc:Exs:=(.cons (.cmp (.var 0) (.cons .lt (.cst (.int 0)) .nil)) .nil)
noncomputable def jd:Ex:=(.var 0)
noncomputable def l7:Ex:=(.bin .Add .z (.ix (.var 0) (.var 2)) (.ix (.var 1) (.var 2)))
noncomputable def je:Exs:=(.cons (.cmp (.ix (.var 0) (.var 2)) (.cons .gt (.ix (.ix (.ix (.var 1) (.cst (.int 2))) (.var 2)) (.cst (.int 0))) .nil)) .nil)
noncomputable def jf:Ex:=(.var 2)
noncomputable def jg:Exs:=(.cons (.cmp (.var 0) (.cons .in_ (.ix (.ix (.ix (.var 1) (.cst (.int 2))) (.ix (.var 2) (.cst (.int 0)))) (.cst (.int 2))) .nil)) .nil)
noncomputable def jh:Ex:=(.var 2)
noncomputable def ji:Exs:=(.cons (.cmp (.ix (.var 1) (.cst (.int 0))) (.cons .eq (.var 0) .nil)) .nil)
noncomputable def jk:Ex:=(.bin .Sub .z (.ix (.var 1) (.cst (.int 2))) (.ix (.var 1) (.cst (.int 1))))
noncomputable def jl:Sms:=(.cons (.ite (.cmp (.blt .sum .z (.cons (.comp .z [15] 1 (.one 1) (.seq (.var 13)) ji jk) .nil)) (.cons .gt (.ix (.var 14) (.var 15)) .nil)) (.cons (.ret (.cst (.str (PySem.Str.ofString "oil")))) .nil) .nil) .nil)
noncomputable def D_law_word:Df:=⟨5,16,(.cons (.unp [5,6,7,8,9] (.ix (.ix (.var 0) (.cst (.int 3))) (.var 1))) (.cons (.unp [10,11,12,13] (.var 4)) (.cons (.ite (.or (.cmp (.var 10) (.cons .lt (.cst (.int 0)) .nil)) (.cmp (.var 10) (.cons .gt (.var 5) .nil))) (.cons (.ret (.cst (.str (PySem.Str.ofString "boat")))) .nil) .nil) (.cons (.ite (.or (.cmp (.var 11) (.cons .lt (.cst (.int 0)) .nil)) (.cmp (.var 11) (.cons .gt (.var 6) .nil))) (.cons (.ret (.cst (.str (PySem.Str.ofString "market")))) .nil) .nil) (.cons (.ite (.or (.cmp (.blt .len .z (.cons (.comp .z [] 1 (.one 0) (.seq (.var 12)) jc jd) .nil)) (.cons .gt (.cst (.int 0)) .nil)) (.cmp (.blt .sum .z (.cons (.var 12) .nil)) (.cons .gt (.bin .Add .z (.bin .Add .z (.var 2) (.var 10)) (.var 11)) .nil))) (.cons (.ret (.cst (.str (PySem.Str.ofString "pour")))) .nil) .nil) (.cons (.set 14 (.comp .z [3,12] 1 (.one 2) (.rng (.blt .len .z (.cons (.var 3) .nil))) .nil l7)) (.cons (.ite (.cmp (.blt .len .z (.cons (.comp .z [14,0] 1 (.one 2) (.rng (.blt .len .z (.cons (.var 14) .nil))) je jf) .nil)) (.cons .gt (.cst (.int 0)) .nil)) (.cons (.ret (.cst (.str (PySem.Str.ofString "tank")))) .nil) .nil) (.cons (.ite (.call false fb (.cons (.var 8) (.cons (.blt .len .z (.cons (.var 3) .nil)) (.cons (.var 13) .nil)))) (.cons (.ret (.cst (.str (PySem.Str.ofString "span")))) .nil) .nil) (.cons (.ite (.cmp (.blt .len .z (.cons (.comp .z [1,0] 1 (.one 2) (.seq (.var 13)) jg jh) .nil)) (.cons .gt (.cst (.int 0)) .nil)) (.cons (.ret (.cst (.str (PySem.Str.ofString "away")))) .nil) .nil) (.cons (.loop (.one 15) (.rng (.blt .len .z (.cons (.var 14) .nil))) jl) (.cons (.ite (.call false k4 (.cons (.var 8) (.cons (.var 9) (.cons (.var 13) .nil)))) (.cons (.ret (.cst (.str (PySem.Str.ofString "dark")))) .nil) .nil) (.cons (.ret (.cst (.str (PySem.Str.ofString "")))) .nil))))))))))))⟩
noncomputable def D_law_same_fault:Df:=⟨2,2,(.cons (.ite (.cmp (.var 1) (.cons .is (.cst .non) .nil)) (.cons (.ret (.cmp (.var 0) (.cons .is (.cst .non) .nil))) .nil) .nil) (.cons (.ite (.or (.not (.isi (.var 0) .tuple)) (.or (.cmp (.blt .len .z (.cons (.var 0) .nil)) (.cons .ne (.cst (.int 2)) .nil)) (.not (.call false ju (.cons (.ix (.var 0) (.cst (.int 0))) .nil))))) (.cons (.ret (.cst (.bl false))) .nil) .nil) (.cons (.ret (.and (.isi (.ix (.var 0) (.cst (.int 1))) .str) (.cmp (.var 0) (.cons .eq (.var 1) .nil)))) .nil)))⟩
noncomputable def D_law_any:Df:=⟨2,4,(.cons (.set 2 (.call false br (.cons (.var 0) .nil))) (.cons (.set 3 (.call false dz (.cons (.var 2) .nil))) (.cons (.ite (.cmp (.bin .Mod .z (.var 3) (.cst (.int 9))) (.cons .eq (.cst (.int 8)) .nil)) (.cons (.ret (.bin .Sub .z (.bin .Mod .z (.var 2) (.bin .Mult .z (.cst (.int 2)) (.bin .Pow .z (.cst (.int 10)) (.cst (.int 59))))) (.bin .Pow .z (.cst (.int 10)) (.cst (.int 59))))) .nil) .nil) (.cons (.ite (.cmp (.bin .Mod .z (.var 3) (.cst (.int 9))) (.cons .lt (.cst (.int 6)) .nil)) (.cons (.ret (.blt .min .z (.cons (.var 1) (.cons (.bin .Mod .z (.bin .FloorDiv .z (.var 3) (.cst (.int 9))) (.cst (.int 13))) .nil)))) .nil) .nil) (.cons (.ret (.ix (.lst .z (.cons (.var 1) (.cons (.bin .Sub .z (.bin .Add .z (.var 1) (.cst (.int 1))) (.bin .Mod .z (.bin .FloorDiv .z (.var 3) (.cst (.int 9))) (.cst (.int 3)))) .nil))) (.bin .Mod .z (.var 3) (.cst (.int 2))))) .nil)))))⟩
noncomputable def fc:Sms:=(.cons (.set 6 (.call false dz (.cons (.call false br (.cons (.var 0) .nil)) .nil))) (.cons (.set 7 (.bin .Mod .z (.var 6) (.var 2))) (.cons (.ite (.cmp (.bin .Mod .z (.bin .FloorDiv .z (.var 6) (.cst (.int 8))) (.cst (.int 9))) (.cons .eq (.cst (.int 1)) .nil)) (.cons (.set 7 (.ix (.lst .z (.cons (.neg (.cst (.int 1))) (.cons (.var 2) .nil))) (.bin .Mod .z (.bin .FloorDiv .z (.var 6) (.cst (.int 72))) (.cst (.int 2))))) .nil) .nil) (.cons (.set 8 (.call false ic (.cons (.var 0) (.cons (.bin .Sub .z (.var 1) (.cst (.int 1))) .nil)))) (.cons (.ex (.meth .append (.var 3) (.cons (.tup (.cons (.var 7) (.cons (.var 8) (.cons (.ix (.lst .z (.cons (.bin .Add .z (.bin .Add .z (.var 8) (.cst (.int 1))) (.bin .Mod .z (.bin .FloorDiv .z (.var 6) (.cst (.int 144))) (.cst (.int 12)))) (.cons (.var 1) (.cons (.call false ic (.cons (.var 0) (.cons (.var 1) .nil))) .nil)))) (.bin .Mod .z (.bin .FloorDiv .z (.var 6) (.cst (.int 16))) (.cst (.int 3)))) .nil)))) .nil))) .nil)))))
noncomputable def D_law_any_spans:Df:=⟨3,9,(.cons (.set 3 (.lst .l .nil)) (.cons (.set 4 (.call false dz (.cons (.call false br (.cons (.var 0) .nil)) .nil))) (.cons (.loop (.one 5) (.rng (.bin .Mod .z (.var 4) (.cst (.int 5)))) fc) (.cons (.ite (.cmp (.bin .Mod .z (.bin .FloorDiv .z (.var 4) (.cst (.int 5))) (.cst (.int 4))) (.cons .gt (.cst (.int 0)) .nil)) (.cons (.set 3 (.blt .sorted .l (.cons (.var 3) .nil))) .nil) .nil) (.cons (.ret (.blt .tuple .z (.cons (.var 3) .nil))) .nil)))))⟩
noncomputable def g8:Ex:=(.call false ic (.cons (.var 0) (.cons (.ix (.var 1) (.cst (.int 0))) .nil)))
noncomputable def g9:Sms:=(.cons (.set 8 (.call false ic (.cons (.var 0) (.cons (.var 3) .nil)))) (.cons (.set 9 (.call false ic (.cons (.var 0) (.cons (.var 4) .nil)))) (.cons (.set 10 (.blt .tuple .z (.cons (.comp .z [0] 1 (.one 1) (.seq (.ix (.var 1) (.cst (.int 2)))) .nil g8) .nil))) (.cons (.ex (.meth .append (.var 2) (.cons (.tup (.cons (.var 8) (.cons (.var 9) (.cons (.var 10) (.cons (.call false gq (.cons (.var 0) (.cons (.var 6) (.cons (.blt .len .z (.cons (.ix (.var 1) (.cst (.int 2))) .nil)) .nil)))) .nil))))) .nil))) .nil))))
noncomputable def D_law_any_rota:Df:=⟨2,11,(.cons (.set 2 (.lst .l .nil)) (.cons (.loop (.many [3,4,5,6,7]) (.seq (.ix (.var 1) (.cst (.int 3)))) g9) (.cons (.ret (.blt .tuple .z (.cons (.var 2) .nil))) .nil)))⟩
noncomputable def mq:Sms:=(.cons (.ex (.meth .extendT (.var 2) (.cons (.var 6) .nil))) .nil)
noncomputable def D_burnt_3:Df:=⟨2,7,(.cons (.set 2 (.lst .l .nil)) (.cons (.loop (.many [3,4,5,6]) (.seq (.var 1)) mq) (.cons (.ret (.call false cu (.cons (.blt .len .z (.cons (.ix (.var 0) (.cst (.int 2))) .nil)) (.cons (.frz 2) .nil)))) .nil)))⟩
noncomputable def f9:Ex:=(.bin .Mult .z (.ix (.ix (.var 0) (.var 2)) (.cst (.int 1))) (.ix (.ix (.ix (.var 1) (.cst (.int 3))) (.var 2)) (.cst (.int 2))))
noncomputable def gb:Ex:=(.cst (.int 0))
noncomputable def dr:Sms:=(.cons (.setx (.var 5) (.var 7) (.bin .Sub .z (.bin .Add .z (.ix (.var 5) (.var 7)) (.var 9)) (.var 8))) .nil)
noncomputable def du:Sms:=(.cons (.ite (.call false fb (.cons (.ix (.ix (.ix (.var 0) (.cst (.int 3))) (.var 6)) (.cst (.int 3))) (.cons (.var 4) (.cons (.ix (.ix (.var 1) (.var 6)) (.cst (.int 3))) .nil)))) (.cons (.ret (.cst (.bl true))) .nil) .nil) (.cons (.loop (.many [7,8,9]) (.seq (.ix (.ix (.var 1) (.var 6)) (.cst (.int 3)))) dr) .nil))
noncomputable def D_law_sums_good_3:Df:=⟨2,10,(.cons (.set 2 (.call false Ct (.cons (.var 0) (.cons (.var 1) .nil)))) (.cons (.set 3 (.blt .sum .z (.cons (.comp .z [1,0] 1 (.one 2) (.rng (.blt .len .z (.cons (.var 1) .nil))) .nil f9) .nil))) (.cons (.ite (.or (.not (.call false ju (.cons (.var 2) .nil))) (.cmp (.var 2) (.cons .ne (.var 3) .nil))) (.cons (.ret (.cst (.bl false))) .nil) .nil) (.cons (.set 4 (.blt .len .z (.cons (.ix (.var 0) (.cst (.int 2))) .nil))) (.cons (.set 5 (.comp .l [] 1 (.one 0) (.rng (.var 4)) .nil gb)) (.cons (.loop (.one 6) (.rng (.blt .len .z (.cons (.var 1) .nil))) du) (.cons (.ret (.cmp (.call false pf (.cons (.var 0) (.cons (.var 1) .nil))) (.cons .eq (.blt .tuple .z (.cons (.var 5) .nil)) .nil))) .nil)))))))⟩
noncomputable def jv:Ex:=(.ix (.var 0) (.cst (.int 1)))
noncomputable def jw:Ex:=(.bin .Add .z (.ix (.var 0) (.var 2)) (.ix (.var 1) (.var 2)))
noncomputable def jx:Sms:=(.cons (.setx (.var 3) (.var 11) (.bin .Sub .z (.ix (.var 3) (.var 11)) (.bin .Sub .z (.var 13) (.var 12)))) .nil)
noncomputable def gy:Sms:=(.cons (.set 6 (.call false nj (.cons (.var 0) (.cons (.var 5) (.cons (.var 2) (.cons (.var 3) (.cons (.ix (.var 1) (.var 5)) .nil))))))) (.cons (.ite (.cmp (.var 6) (.cons .ne (.cst (.str (PySem.Str.ofString ""))) .nil)) (.cons (.ret (.tup (.cons (.tup (.cons (.var 5) (.cons (.var 6) .nil))) (.cons (.frz 4) .nil)))) .nil) .nil) (.cons (.unp [7,8,9,10] (.ix (.var 1) (.var 5))) (.cons (.set 2 (.blt .min .z (.cons (.ix (.var 0) (.cst (.int 0))) (.cons (.bin .Sub .z (.bin .Add .z (.bin .Add .z (.var 2) (.var 7)) (.var 8)) (.blt .sum .z (.cons (.var 9) .nil))) .nil)))) (.cons (.set 3 (.comp .l [3,9] 1 (.one 2) (.rng (.blt .len .z (.cons (.var 3) .nil))) .nil jw)) (.cons (.loop (.many [11,12,13]) (.seq (.var 10)) jx) (.cons (.ex (.meth .append (.var 4) (.cons (.tup (.cons (.var 2) (.cons (.blt .tuple .z (.cons (.var 3) .nil)) .nil))) .nil))) .nil)))))))
noncomputable def D_law_walk_2:Df:=⟨2,14,(.cons (.set 2 (.ix (.var 0) (.cst (.int 1)))) (.cons (.set 3 (.comp .l [] 1 (.one 0) (.seq (.ix (.var 0) (.cst (.int 2)))) .nil jv)) (.cons (.set 4 (.lst .l .nil)) (.cons (.loop (.one 5) (.rng (.blt .len .z (.cons (.var 1) .nil))) gy) (.cons (.ret (.tup (.cons (.cst .non) (.cons (.frz 4) .nil)))) .nil)))))⟩
noncomputable def D_law_k09_4:Df:=⟨1,6,(.cons (.set 1 (.blt .listRev .l (.cons (.var 0) .nil))) (.cons (.set 2 (.call false ni (.cons (.var 1) .nil))) (.cons (.set 3 (.call false ia (.cons (.var 1) (.cons (.var 2) .nil)))) (.cons (.set 4 (.ix (.call false ie (.cons (.var 2) (.cons (.var 3) .nil))) (.cst (.int 0)))) (.cons (.set 5 (.call false uc (.cons (.var 2) (.cons (.var 3) .nil)))) (.cons (.ite (.not (.call false fk (.cons (.var 2) (.cons (.var 3) .nil)))) (.cons (.ret (.cst (.bl false))) .nil) .nil) (.cons (.ret (.and (.call false eu (.cons (.call false qj (.cons (.var 2) (.cons (.var 3) .nil))) (.cons (.var 4) .nil))) (.and (.isi (.var 5) .bool) (.cmp (.var 5) (.cons .eq (.cmp (.var 4) (.cons .is (.cst .non) .nil)) .nil))))) .nil)))))))⟩
noncomputable def GL:List Df:=[⟨0,0,.nil⟩,⟨0,0,.nil⟩,D_can_burn,D_law_next,D_law_turn,D_law_size,D_law_whole,D_law_lamp,D_law_day,D_law_book,⟨0,0,.nil⟩,⟨0,0,.nil⟩,⟨0,0,.nil⟩,D_rises,⟨0,0,.nil⟩,⟨0,0,.nil⟩,⟨0,0,.nil⟩,⟨0,0,.nil⟩,⟨0,0,.nil⟩,⟨0,0,.nil⟩,⟨0,0,.nil⟩,⟨0,0,.nil⟩,⟨0,0,.nil⟩,⟨0,0,.nil⟩,⟨0,0,.nil⟩,⟨0,0,.nil⟩,⟨0,0,.nil⟩,⟨0,0,.nil⟩,⟨0,0,.nil⟩,⟨0,0,.nil⟩,⟨0,0,.nil⟩,⟨0,0,.nil⟩,⟨0,0,.nil⟩,⟨0,0,.nil⟩,D_ticks_of_spans,D_cost,⟨0,0,.nil⟩,⟨0,0,.nil⟩,⟨0,0,.nil⟩,⟨0,0,.nil⟩,⟨0,0,.nil⟩,⟨0,0,.nil⟩,⟨0,0,.nil⟩,⟨0,0,.nil⟩,⟨0,0,.nil⟩,⟨0,0,.nil⟩,⟨0,0,.nil⟩,⟨0,0,.nil⟩,⟨0,0,.nil⟩,⟨0,0,.nil⟩,⟨0,0,.nil⟩,⟨0,0,.nil⟩,⟨0,0,.nil⟩,D_have_tick_in_common,D_has_span_fault,D_has_dark_fault,D_held_at_first,D_filled,D_held_behind,D_night_fault,D_day_fault,D_fault,D_keeps,⟨0,0,.nil⟩,D_law_span_bad,D_law_dark,D_law_word,⟨0,0,.nil⟩,⟨0,0,.nil⟩,⟨0,0,.nil⟩,⟨0,0,.nil⟩,⟨0,0,.nil⟩,⟨0,0,.nil⟩,D_law_same_fault,D_law_any,D_law_any_spans,D_law_any_rota,⟨0,0,.nil⟩,⟨0,0,.nil⟩,⟨0,0,.nil⟩,⟨0,0,.nil⟩,⟨0,0,.nil⟩,⟨0,0,.nil⟩,⟨0,0,.nil⟩,⟨0,0,.nil⟩,⟨0,0,.nil⟩,⟨0,0,.nil⟩,⟨0,0,.nil⟩,⟨0,0,.nil⟩,⟨0,0,.nil⟩,⟨0,0,.nil⟩,⟨0,0,.nil⟩,⟨0,0,.nil⟩,⟨0,0,.nil⟩,⟨0,0,.nil⟩,⟨0,0,.nil⟩,⟨0,0,.nil⟩,⟨0,0,.nil⟩,⟨0,0,.nil⟩,⟨0,0,.nil⟩,⟨0,0,.nil⟩,⟨0,0,.nil⟩,⟨0,0,.nil⟩,⟨0,0,.nil⟩,⟨0,0,.nil⟩,⟨0,0,.nil⟩,⟨0,0,.nil⟩,⟨0,0,.nil⟩,⟨0,0,.nil⟩,⟨0,0,.nil⟩,⟨0,0,.nil⟩,⟨0,0,.nil⟩,⟨0,0,.nil⟩,⟨0,0,.nil⟩,⟨0,0,.nil⟩,⟨0,0,.nil⟩,⟨0,0,.nil⟩,⟨0,0,.nil⟩,⟨0,0,.nil⟩,⟨0,0,.nil⟩,⟨0,0,.nil⟩,⟨0,0,.nil⟩,⟨0,0,.nil⟩,⟨0,0,.nil⟩,⟨0,0,.nil⟩,⟨0,0,.nil⟩,⟨0,0,.nil⟩,⟨0,0,.nil⟩,⟨0,0,.nil⟩,⟨0,0,.nil⟩,⟨0,0,.nil⟩,⟨0,0,.nil⟩,⟨0,0,.nil⟩,⟨0,0,.nil⟩,⟨0,0,.nil⟩,⟨0,0,.nil⟩,⟨0,0,.nil⟩,⟨0,0,.nil⟩,⟨0,0,.nil⟩,⟨0,0,.nil⟩,⟨0,0,.nil⟩,⟨0,0,.nil⟩,⟨0,0,.nil⟩,⟨0,0,.nil⟩,⟨0,0,.nil⟩,⟨0,0,.nil⟩,⟨0,0,.nil⟩,⟨0,0,.nil⟩,⟨0,0,.nil⟩,D_burnt_3,⟨0,0,.nil⟩,⟨0,0,.nil⟩,D_law_sums_good_3,⟨0,0,.nil⟩,⟨0,0,.nil⟩,⟨0,0,.nil⟩,⟨0,0,.nil⟩,⟨0,0,.nil⟩,⟨0,0,.nil⟩,⟨0,0,.nil⟩,⟨0,0,.nil⟩,⟨0,0,.nil⟩,D_law_walk_2,⟨0,0,.nil⟩,⟨0,0,.nil⟩,D_law_k09_4,⟨0,0,.nil⟩]
theorem D6:GL[ng]? = some D_can_burn:=rfl
theorem D7:GL[br]? = some D_law_next:=rfl
theorem D8:GL[dz]? = some D_law_turn:=rfl
theorem D9:GL[di]? = some D_law_size:=rfl
theorem Bh:GL[ju]? = some D_law_whole:=rfl
theorem Ea:GL[nh]? = some D_law_lamp:=rfl
theorem Gw:GL[pd]? = some D_law_day:=rfl
theorem Eb:GL[ni]? = some D_law_book:=rfl
theorem Gx:GL[ua]? = some D_rises:=rfl
theorem rl:GL[cu]? = some D_ticks_of_spans:=rfl
theorem Ri:GL[Ct]? = some D_cost:=rfl
theorem ig:GL[cm]? = some D_have_tick_in_common:=rfl
theorem md:GL[eh]? = some D_has_span_fault:=rfl
theorem rm:GL[cv]? = some D_has_dark_fault:=rfl
theorem ue:GL[gp]? = some D_held_at_first:=rfl
theorem Jz:GL[pe]? = some D_filled:=rfl
theorem xm:GL[i8]? = some D_held_behind:=rfl
theorem xn:GL[i9]? = some D_night_fault:=rfl
theorem Bi:GL[lq]? = some D_day_fault:=rfl
theorem N8:GL[qj]? = some D_fault:=rfl
theorem N9:GL[uc]? = some D_keeps:=rfl
theorem ur:GL[fb]? = some D_law_span_bad:=rfl
theorem Ec:GL[k4]? = some D_law_dark:=rfl
theorem Ed:GL[nj]? = some D_law_word:=rfl
theorem me:GL[eu]? = some D_law_same_fault:=rfl
theorem Gy:GL[ic]? = some D_law_any:=rfl
theorem uf:GL[gq]? = some D_law_any_spans:=rfl
theorem uu:GL[ia]? = some D_law_any_rota:=rfl
theorem Gz:GL[pf]? = some D_burnt_3:=rfl
theorem qk:GL[fk]? = some D_law_sums_good_3:=rfl
theorem zr:GL[ie]? = some D_law_walk_2:=rfl
theorem Bj:GL[om]? = some D_law_k09_4:=rfl
end Lp
namespace Lr
open Lp
open PySem
theorem xp {f:D→Sl→Sto→Res Fl} (I:Nat→Sl→Sto→Prop):∀{ds:List D} {σ:Sl} {μ:Sto} (k:Nat),I k σ μ →
  (∀(j:Nat) d σ μ,ds[j]? = some d→I (k+j) σ μ→∃σ' μ',f d σ μ=.ok (.nx σ') μ'∧I (k+j+1) σ' μ') →
  ∃σ' μ',jt none f ds σ μ=.ok (.nx σ') μ'∧I (k+ds.length) σ' μ'
 | [],σ,μ,k,h,_=>⟨σ,μ,by simp[jt],h⟩
 | d::ds,σ,μ,k,h,st=>by
  obtain⟨σ1,μ1,e1,h1⟩:=st 0 d σ μ rfl h
  obtain⟨σ2,μ2,e2,h2⟩:=xp I (ds:=ds) (σ:=σ1) (μ:=μ1) (k+1) h1 fun j d σ μ e i=>by
   obtain⟨σ',μ',a,b⟩:=st (j+1) d σ μ (by simpa using e) (by rw[show k+(j+1)=k+1+j by omega];exact i)
   exact⟨σ',μ',a,by rw[show k+1+j+1=k+(j+1)+1 by omega];exact b⟩
  refine⟨σ2,μ2,?_,by rw[show k+(d::ds).length=k+1+ds.length by simp;omega];exact h2⟩
  simp only[jt,sj,if_true,e1,Res.bw,e2]
theorem zt {g:Gd} {f:D→Sl→Sto→Res Fl} (I:Nat→Sl→Sto→Prop) (R:Fl→Sto→Prop):∀{ds:List D} {σ:Sl} {μ:Sto} (k:Nat),(∀j σ μ,I j σ μ→gd g μ)→I k σ μ →
  (∀(j:Nat) d σ μ,ds[j]? = some d→I (k+j) σ μ→∃fl μ',f d σ μ=.ok fl μ'∧match fl with
   | .nx σ'=>I (k+j+1) σ' μ'
   | .ct σ'=>I (k+j+1) σ' μ'
   | .bk σ'=>R (.nx σ') μ'
   | .rt v=>R (.rt v) μ')→(∀σ μ,I (k+ds.length) σ μ→R (.nx σ) μ) →
  ∃fl μ',jt g f ds σ μ=.ok fl μ'∧R fl μ'
 | [],σ,μ,k,hg,h,_,fin=>⟨.nx σ,μ,by simp[jt,hg k σ μ h],fin σ μ h⟩
 | d::ds,σ,μ,k,hg,h,st,fin=>by
  obtain⟨fl,μ1,e1,h1⟩:=st 0 d σ μ rfl h
  have rest:∀σ1,I (k+1) σ1 μ1→∃fl μ',jt g f ds σ1 μ1=.ok fl μ'∧R fl μ':=fun σ1 i=>zt I R (ds:=ds) (k+1) hg i (fun j d σ μ e i=>by
   obtain⟨fl,μ',a,b⟩:=st (j+1) d σ μ (by simpa using e) (by rw[show k+(j+1)=k+1+j by omega];exact i)
   refine⟨fl,μ',a,?_⟩
   rw[show k+(j+1)+1=k+1+j+1 by omega]at b
   exact b) fun σ μ i=>fin σ μ (by rw[show k+(d::ds).length=k+1+ds.length by simp;omega];exact i)
  cases fl with
  | nx σ1 =>
   obtain⟨fl,μ',a,b⟩:=rest σ1 h1
   exact⟨fl,μ',by simp only[jt,hg k σ μ h,if_true,e1,Res.bw,a],b⟩
  | ct σ1 =>
   obtain⟨fl,μ',a,b⟩:=rest σ1 h1
   exact⟨fl,μ',by simp only[jt,hg k σ μ h,if_true,e1,Res.bw,a],b⟩
  | bk σ1=>exact⟨.nx σ1,μ1,by simp only[jt,hg k σ μ h,if_true,e1,Res.bw],h1⟩
  | rt v=>exact⟨.rt v,μ1,by simp only[jt,hg k σ μ h,if_true,e1,Res.bw],h1⟩
theorem aj {T:List Df} {n i:Nat} {d:Df} {ds:List D} {μ:Sto} (h:T[i]? = some d):ak T (n+1) i ds μ=O2 (ak T n) d ds μ:=by
 simp only[ak,h]
noncomputable def finD (fl:Fl) (μ:Sto):Res D:=match fl with
 | .nx _=>.ok .non μ
 | .rt d=>.ok d μ
 | _=>.stuck
@[simp] theorem Ug (d:D) (μ:Sto):finD (.rt d) μ=.ok d μ:=rfl
@[simp] theorem Uh (σ:Sl) (μ:Sto):finD (.nx σ) μ=.ok .non μ:=rfl
theorem run_eq {φ:Phi} {f:Df} {ds:List D} {μ:Sto} (h:ds.length=f.np):O2 φ f ds μ=(p8 φ f.body (ds.map some++List.replicate (f.nn-f.np) none) μ).bind finD:=by
 rw[O2,if_pos h];rfl
theorem k6 (b:Nat):∀(k:Nat) (d:D),D.pureN k d=true→D.belowN b k d=true
 | 0,d,h=>by cases d<;>simp_all[D.pureN,D.belowN]
 | k+1,d,h=>by
  cases d with
  | tup ds =>
   simp only[D.pureN,D.belowN,AO]at h ⊢
   exact fun x hx=>k6 b k x (h x hx)
  | lst ds =>
   simp only[D.pureN,D.belowN,AO]at h ⊢
   exact fun x hx=>k6 b k x (h x hx)
  | loc n=>simp[D.pureN]at h
  | _=>rfl
theorem ft {k:Nat} {ds:List D}:D.pureN (k+1) (.tup ds)=ds.all (D.pureN k):=rfl
theorem Cu {k:Nat} {ds:List D}:D.pureN (k+1) (.lst ds)=ds.all (D.pureN k):=rfl
theorem gz {k:Nat} {i:Int}:D.pureN k (.int i)=true:=by cases k<;>rfl
theorem G0 {k:Nat} {i:Str}:D.pureN k (.str i)=true:=by cases k<;>rfl
theorem G1 {k:Nat}:D.pureN k .non=true:=by cases k<;>rfl
theorem vh (b:Nat) (o:O) (h:noR o=true):ik b o=true:=by cases o<;>simp_all[noR,ik]
noncomputable abbrev kq (μ:Sto):Prop:=μ.all (ik μ.length)=true
theorem Ee {d:D} {μ:Sto} {b:Nat} (hd:d.pure=true) (hb:μ.length=b) (hr:kq μ):rh false b (.ok d μ)=.ok d μ:=by
 have e:μ.take b=μ:=BY (by omega)
 have hr':μ.all (ik b)=true:=by rw[←hb];exact hr
 simp only[rh,AR,if_false,e,k6 b 8 d hd,hr',and_self,if_true]
@[simp] theorem Ef {d:D} {μ:Sto} {b:Nat}:rh true b (.ok d μ)=.ok d μ:=by simp[rh]
theorem op_mul {i j:Int} {μ:Sto} (h:CMul i j):opI .Mult i j μ=.ok (.int (i*j)) μ:=by simp[opI,h]
theorem n8 {i j:Int} {μ:Sto} (h:0<j) (h2:j<1073741824):opI .FloorDiv i j μ=.ok (.int (i / j)) μ:=by simp[opI,h,h2]
theorem op_mod {i j:Int} {μ:Sto} (h:0<j):opI .Mod i j μ=.ok (.int (i % j)) μ:=by simp[opI,h]
theorem op_add {i j:Int} {μ:Sto}:opI .Add i j μ=.ok (.int (i+j)) μ:=rfl
theorem op_sub {i j:Int} {μ:Sto}:opI .Sub i j μ=.ok (.int (i-j)) μ:=rfl
theorem op_pow {i:Int} {j:Int} {μ:Sto} (h:0≤j∧j≤1000000∧i.natAbs<2 ^ 64):opI .Pow i j μ=.ok (.int (i ^ j.toNat)) μ:=by simp[opI,h]
theorem op_shr {i j:Int} {μ:Sto} (h:0≤j):opI .RShift i j μ=.ok (.int (i / 2 ^ j.toNat)) μ:=by simp[opI,h]
theorem Oa {op:Operator} {m:Mk} {i j:Int} {μ:Sto}:opD op m (.int i) (.int j) μ=opI op i j μ:=rfl
theorem _root_.Lp.CMul.left {i j:Int} (h:-(2 ^ 64)<i) (h2:i<2 ^ 64):CMul i j:=.inl ⟨h,h2⟩
theorem _root_.Lp.CMul.right {i j:Int} (h:-(2 ^ 64)<j) (h2:j<2 ^ 64):CMul i j:=.inr ⟨h,h2⟩
theorem ij (ns:List Int):gc (ns.map D.int)=some ns:=by
 induction ns with
 | nil=>rfl
 | cons n r ih=>simp[gc,ih]
theorem gj (ns:List Bool):n3 (ns.map D.bl)=some ns:=by
 induction ns with
 | nil=>rfl
 | cons n r ih=>simp[n3,ih]
theorem xq (i:Int):(D.int i).pure=true:=rfl
end Lr
namespace Lr
open Lp
open PySem
section
variable (φ : Phi)
noncomputable def V2 (o:Option (Option D)) (μ:Sto):Res D:=match o with
 | some (some d)=>.ok d μ
 | _=>.stuck
noncomputable def kB (op:Operator) (m:Mk) (b:Ex) (σ:Sl) (x:D) (μ:Sto):Res D:=(evE φ b σ μ).bind (opD op m x)
noncomputable def kNeg (x:D) (μ:Sto):Res D:=match x with
 | .int i=>.ok (.int (-i)) μ
 | _=>.stuck
noncomputable def kNot (x:D) (μ:Sto):Res D:=match x with
 | .bl b=>.ok (.bl (!b)) μ
 | _=>.stuck
noncomputable def Ui (b:Ex) (σ:Sl) (x:D) (μ:Sto):Res D:=match x with
 | .bl c=>if c=true then evE φ b σ μ else .ok (.bl false) μ
 | _=>.stuck
noncomputable def kOr (b:Ex) (σ:Sl) (x:D) (μ:Sto):Res D:=match x with
 | .bl c=>if c=true then .ok (.bl true) μ else evE φ b σ μ
 | _=>.stuck
noncomputable def Uj (a b:Ex) (σ:Sl) (x:D) (μ:Sto):Res D:=match x with
 | .bl c=>if c=true then evE φ a σ μ else evE φ b σ μ
 | _=>.stuck
noncomputable def V3 (r:Cps) (σ:Sl) (x:D) (μ:Sto):Res D:=evC φ r x σ μ
noncomputable def R4 (r:Cps) (y:D) (σ:Sl) (z:D) (μ:Sto):Res D:=match z with
 | .bl b=>if b=true then evC φ r y σ μ else .ok (.bl false) μ
 | _=>.stuck
noncomputable def kCh (op:Cp) (x:D) (r:Cps) (σ:Sl) (y:D) (μ:Sto):Res D:=(cpD op x y μ).bind (R4 φ r y σ)
noncomputable def uv (keep:Bool) (f:Nat) (ds:List D) (μ:Sto):Res D:=rh keep μ.length (φ f ds μ)
noncomputable def kM (mt:Mt) (es:Exs) (σ:Sl) (x:D) (μ:Sto):Res D:=if jr mt x μ=true then(i7 φ es σ μ).bind (mtD mt x)else .stuck
noncomputable def kIx (b:Ex) (σ:Sl) (x:D) (μ:Sto):Res D:=(evE φ b σ μ).bind (ixD x)
noncomputable def Uk (m:Mk) (hi:ExO) (σ:Sl) (x:D) (l:Option Int) (μ:Sto):Res D:=(evO φ hi σ μ).bind (slD m x l)
noncomputable def kSl (m:Mk) (lo hi:ExO) (σ:Sl) (x:D) (μ:Sto):Res D:=(evO φ lo σ μ).bind (Uk φ m hi σ x)
noncomputable def kTup (ds:List D) (μ:Sto):Res D:=.ok (.tup ds) μ
noncomputable def Ul (d:D) (ds:List D) (μ:Sto):Res (List D):=.ok (d::ds) μ
noncomputable def kEs (es:Exs) (σ:Sl) (d:D) (μ:Sto):Res (List D):=(i7 φ es σ μ).bind (Ul d)
noncomputable def kInt (x:D) (μ:Sto):Res (Option Int):=match x with
 | .int i=>.ok (some i) μ
 | _=>.stuck
noncomputable def kOne (x:D) (μ:Sto):Res (List D):=.ok [x] μ
noncomputable def R5 (elt:Ex) (σ:Sl) (b:Bool) (μ:Sto):Res (List D):=if b=true then(evE φ elt σ μ).bind kOne else .ok [] μ
noncomputable def V4 (cs:Exs) (elt:Ex) (μ:Sto) (σ:Sl):Res (List D):=(Dt φ cs σ μ).bind (R5 φ elt σ)
noncomputable def ka (tg:Tg) (cs:Exs) (elt:Ex) (σ0:Sl) (d:D) (μ:Sto):Res (List D):=nz (gk tg d σ0) (V4 φ cs elt μ)
noncomputable def h7 (m:Mk) (tg:Tg) (cs:Exs) (elt:Ex) (σ0:Sl) (w:List D×Gd) (μ:Sto):Res D:=(mapR w.2 (ka φ tg cs elt σ0) w.1 μ).bind (mkL m)
noncomputable def kCs (es:Exs) (σ:Sl) (x:D) (μ:Sto):Res Bool:=match x with
 | .bl b=>if b=true then Dt φ es σ μ else .ok false μ
 | _=>.stuck
noncomputable def kSeq (x:D) (μ:Sto):Res (List D×Gd):=match dy μ x with
 | some w=>.ok w μ
 | none=>.stuck
noncomputable def kRng (x:D) (μ:Sto):Res (List D×Gd):=match x with
 | .int j=>if -(lim:Int)≤j∧j≤lim then .ok ((List.range j.toNat).map fun(i:Nat)=>D.int i,none) μ else .stuck
 | _=>.stuck
noncomputable def Lo (x y:D) (μ:Sto):Res (List D×Gd):=match x,y with
 | .int i,.int j=>if -(lim:Int)≤i∧i≤lim∧j≤lim ∧ -(lim:Int)≤j∧(j-i)≤lim then .ok ((List.range (j-i).toNat).map fun(k:Nat)=>D.int (i+k),none) μ else .stuck
 | _,_=>.stuck
noncomputable def Rj (b:Ex) (σ:Sl) (x:D) (μ:Sto):Res (List D×Gd):=(evE φ b σ μ).bind (Lo x)
noncomputable def rn (x y:D) (μ:Sto):Res (List D×Gd):=match dy μ x,fg [] y with
 | some w,some ys=>.ok ((w.1.zip ys).map fun p=>.tup [p.1,p.2],w.2) μ
 | _,_=>.stuck
noncomputable def V5 (b:Ex) (σ:Sl) (x:D) (μ:Sto):Res (List D×Gd):=(evE φ b σ μ).bind (rn x)
noncomputable def kEnum (x:D) (μ:Sto):Res (List D×Gd):=match dy μ x with
 | some w=>.ok ((List.range w.1.length |>.zip w.1).map fun(p:Nat×D)=>.tup [.int p.1,p.2],w.2) μ
 | none=>.stuck
noncomputable def kVals (x:D) (μ:Sto):Res (List D×Gd):=match x with
 | .loc n=>match μ[n]? with
  | some (.d kvs)=>.ok (kvs.map (·.2),none) (μ.set n .dead)
  | _=>.stuck
 | _=>.stuck
noncomputable def V6 (i:Nat) (σ:Sl) (d:D) (μ:Sto):Res Fl:=.ok (.nx (σ.set i (some d))) μ
noncomputable def Um (o:Option Sl) (μ:Sto):Res Fl:=match o with
 | some σ'=>.ok (.nx σ') μ
 | none=>.stuck
noncomputable def V7 (is:List Nat) (σ:Sl) (d:D) (μ:Sto):Res Fl:=Um (gk (.many is) d σ) μ
noncomputable def kNx {α:Type} (σ:Sl) (_:α) (μ:Sto):Res Fl:=.ok (.nx σ) μ
noncomputable def Uo (σ:Sl) (d x:D) (y:D) (μ:Sto):Res Fl:=(Ds x y d μ).bind (kNx σ)
noncomputable def Uq (i:Ex) (σ:Sl) (d:D) (x:D) (μ:Sto):Res Fl:=(evE φ i σ μ).bind (Uo σ d x)
noncomputable def kSx (o i:Ex) (σ:Sl) (d:D) (μ:Sto):Res Fl:=(evE φ o σ μ).bind (Uq φ i σ d)
noncomputable def kIf (a b:Sms) (σ:Sl) (x:D) (μ:Sto):Res Fl:=match x with
 | .bl k=>if k=true then p8 φ a σ μ else p8 φ b σ μ
 | _=>.stuck
noncomputable def kLp (b:Sms) (μ:Sto) (σ:Sl):Res Fl:=p8 φ b σ μ
noncomputable def fLp (tg:Tg) (b:Sms) (d:D) (σ:Sl) (μ:Sto):Res Fl:=nz (gk tg d σ) (kLp φ b μ)
noncomputable def qm (tg:Tg) (b:Sms) (σ:Sl) (w:List D×Gd) (μ:Sto):Res Fl:=jt w.2 (fLp φ tg b) w.1 σ μ
noncomputable def kRet (d:D) (μ:Sto):Res Fl:=.ok (.rt d) μ
noncomputable def kSs (r:Sms) (fl:Fl) (μ:Sto):Res Fl:=match fl with
 | .nx σ'=>p8 φ r σ' μ
 | fl=>.ok fl μ
end
section
variable {φ : Phi} {σ : Sl} {μ : Sto} {a b c e o i : Ex} {es : Exs} {m : Mk} {op : Operator} {r : Cps} {s : Sm} {rs : Sms}
theorem Yg {i:Nat}:evE φ (.var i) σ μ=V2 σ[i]? μ:=rfl
theorem Yh {d:D}:evE φ (.cst d) σ μ=.ok d μ:=rfl
theorem Yi:evE φ (.bin op m a b) σ μ=(evE φ a σ μ).bind (kB φ op m b σ):=rfl
theorem Yj:evE φ (.neg a) σ μ=(evE φ a σ μ).bind kNeg:=rfl
theorem Yk:evE φ (.not a) σ μ=(evE φ a σ μ).bind kNot:=rfl
theorem Yl:evE φ (.and a b) σ μ=(evE φ a σ μ).bind (Ui φ b σ):=rfl
theorem aao:evE φ (.or a b) σ μ=(evE φ a σ μ).bind (kOr φ b σ):=rfl
theorem Ym:evE φ (.ite c a b) σ μ=(evE φ c σ μ).bind (Uj φ a b σ):=rfl
theorem Yn:evE φ (.cmp a r) σ μ=(evE φ a σ μ).bind (V3 φ r σ):=rfl
theorem J0 {α:Type} (x:Res α):(x.bind fun a μ=>.ok a μ)=x:=by cases x<;>rfl
theorem Yo {op:Cp} {x:D}:evC φ (.cons op e .nil) x σ μ=(evE φ e σ μ).bind (cpD op x):=by
 simp only[evC,J0]
theorem V8 {op op':Cp} {x:D} {e':Ex}:evC φ (.cons op e (.cons op' e' r)) x σ μ=(evE φ e σ μ).bind (kCh φ op x (.cons op' e' r) σ):=by
 rw[evC]
 all_goals rfl
theorem V9 {keep:Bool} {f:Nat}:evE φ (.call keep f es) σ μ=(i7 φ es σ μ).bind (uv φ keep f):=rfl
theorem Yp {b:Bt}:evE φ (.blt b m es) σ μ=(i7 φ es σ μ).bind (btD b m):=rfl
theorem Yq {c:Cl}:evE φ (.isi a c) σ μ=(evE φ a σ μ).bind (K6 c):=rfl
theorem Wa {mt:Mt}:evE φ (.meth mt o es) σ μ=(evE φ o σ μ).bind (kM φ mt es σ):=rfl
theorem aap:evE φ (.ix a b) σ μ=(evE φ a σ μ).bind (kIx φ b σ):=rfl
theorem aaq {lo hi:ExO}:evE φ (.sl m a lo hi) σ μ=(evE φ a σ μ).bind (kSl φ m lo hi σ):=rfl
theorem Yr:evE φ (.tup es) σ μ=(i7 φ es σ μ).bind kTup:=rfl
theorem Ys:evE φ (.lst m es) σ μ=(i7 φ es σ μ).bind (mkL m):=rfl
theorem Yt {t:Bool}:evE φ (.dic t es) σ μ=(i7 φ es σ μ).bind (K7 t):=rfl
theorem Wb {cap:List Nat} {nl:Nat} {tg:Tg} {it:It} {cs:Exs} {elt:Ex}:evE φ (.comp m cap nl tg it cs elt) σ μ=(evI φ it σ μ).bind (h7 φ m tg cs elt (cap.map (fun i=>(σ[i]?).getD none)++List.replicate nl none)):=rfl
theorem Wc:i7 φ .nil σ μ=.ok [] μ:=rfl
theorem Ur:i7 φ (.cons e es) σ μ=(evE φ e σ μ).bind (kEs φ es σ):=rfl
theorem aar:evO φ .no σ μ=.ok none μ:=rfl
theorem aas:evO φ (.so e) σ μ=(evE φ e σ μ).bind kInt:=rfl
theorem Wd:Dt φ .nil σ μ=.ok true μ:=rfl
theorem Us:Dt φ (.cons e es) σ μ=(evE φ e σ μ).bind (kCs φ es σ):=rfl
theorem Yu:evI φ (.seq e) σ μ=(evE φ e σ μ).bind kSeq:=rfl
theorem Yv:evI φ (.rng e) σ μ=(evE φ e σ μ).bind kRng:=rfl
theorem We:evI φ (.rng2 a b) σ μ=(evE φ a σ μ).bind (Rj φ b σ):=rfl
theorem Yw:evI φ (.zip a b) σ μ=(evE φ a σ μ).bind (V5 φ b σ):=rfl
theorem Wg:evI φ (.enum a) σ μ=(evE φ a σ μ).bind kEnum:=rfl
theorem Wh:evI φ (.vals a) σ μ=(evE φ a σ μ).bind kVals:=rfl
theorem Yx {i:Nat}:evS φ (.set i e) σ μ=(evE φ e σ μ).bind (V6 i σ):=rfl
theorem Yy {is:List Nat}:evS φ (.unp is e) σ μ=(evE φ e σ μ).bind (V7 is σ):=rfl
theorem Wi:evS φ (.setx o i e) σ μ=(evE φ e σ μ).bind (kSx φ o i σ):=rfl
theorem aat:evS φ (.ex e) σ μ=(evE φ e σ μ).bind (kNx σ):=rfl
theorem Yz {x y:Sms}:evS φ (.ite c x y) σ μ=(evE φ c σ μ).bind (kIf φ x y σ):=rfl
theorem Wj {tg:Tg} {it:It} {b:Sms}:evS φ (.loop tg it b) σ μ=(evI φ it σ μ).bind (qm φ tg b σ):=rfl
theorem Y0:evS φ (.ret e) σ μ=(evE φ e σ μ).bind kRet:=rfl
theorem Wk:evS φ .pass σ μ=.ok (.nx σ) μ:=rfl
theorem Y1:evS φ .brk σ μ=.ok (.bk σ) μ:=rfl
theorem Wl:evS φ .cont σ μ=.ok (.ct σ) μ:=rfl
theorem Wm:p8 φ .nil σ μ=.ok (.nx σ) μ:=rfl
theorem Ut:p8 φ (.cons s rs) σ μ=(evS φ s σ μ).bind (kSs φ rs):=rfl
theorem ar {f:Nat} {ds:List D} {d:D} {μ':Sto} (h:φ f ds μ=.ok d μ') (hd:d.pure=true) (hl:μ'.length=μ.length) (hr:kq μ'):uv φ false f ds μ=.ok d μ':=by
 rw[uv,h,Ee hd hl hr]
theorem Ob {mt:Mt} {x:D} (h:jr mt x μ=true):kM φ mt es σ x μ=(i7 φ es σ μ).bind (mtD mt x):=by rw[kM,if_pos h]
theorem Rk {d:D}:V2 (some (some d)) μ=.ok d μ:=rfl
theorem R6 {i:Int}:kNeg (.int i) μ=.ok (.int (-i)) μ:=rfl
theorem Uu {b:Bool}:kNot (.bl b) μ=.ok (.bl (!b)) μ:=rfl
theorem Wn {b:Ex}:Ui φ b σ (.bl true) μ=evE φ b σ μ:=rfl
theorem Wo {b:Ex}:Ui φ b σ (.bl false) μ=.ok (.bl false) μ:=rfl
theorem Y2 {b:Ex}:kOr φ b σ (.bl true) μ=.ok (.bl true) μ:=rfl
theorem Y3 {b:Ex}:kOr φ b σ (.bl false) μ=evE φ b σ μ:=rfl
theorem Wp:Uj φ a b σ (.bl true) μ=evE φ a σ μ:=rfl
theorem Wq:Uj φ a b σ (.bl false) μ=evE φ b σ μ:=rfl
theorem Wr {y:D}:R4 φ r y σ (.bl true) μ=evC φ r y σ μ:=rfl
theorem Ws {y:D}:R4 φ r y σ (.bl false) μ=.ok (.bl false) μ:=rfl
theorem Y4:kCs φ es σ (.bl true) μ=Dt φ es σ μ:=rfl
theorem Y5:kCs φ es σ (.bl false) μ=.ok false μ:=rfl
theorem Wt {elt:Ex}:R5 φ elt σ true μ=(evE φ elt σ μ).bind kOne:=rfl
theorem Wu {elt:Ex}:R5 φ elt σ false μ=.ok [] μ:=rfl
theorem R7 {i:Int}:kInt (.int i) μ=.ok (some i) μ:=rfl
theorem Y6 {x y:Sms}:kIf φ x y σ (.bl true) μ=p8 φ x σ μ:=rfl
theorem Y7 {x y:Sms}:kIf φ x y σ (.bl false) μ=p8 φ y σ μ:=rfl
theorem Wv {σ':Sl}:kSs φ rs (.nx σ') μ=p8 φ rs σ' μ:=rfl
theorem Ww {d:D}:kSs φ rs (.rt d) μ=.ok (.rt d) μ:=rfl
theorem Wx {σ':Sl}:kSs φ rs (.bk σ') μ=.ok (.bk σ') μ:=rfl
theorem Wy {σ':Sl}:kSs φ rs (.ct σ') μ=.ok (.ct σ') μ:=rfl
theorem Rl {σ':Sl}:Um (some σ') μ=.ok (.nx σ') μ:=rfl
theorem R8 {ds:List D}:kSeq (.tup ds) μ=.ok (ds,none) μ:=rfl
theorem R9 {ds:List D}:kSeq (.lst ds) μ=.ok (ds,none) μ:=rfl
theorem G2 {j:Int} (h:-1000000≤j∧j≤1000000):kRng (.int j) μ=.ok ((List.range j.toNat).map fun(i:Nat)=>D.int i,none) μ:=by
 have:=vy
 simp only[kRng]
 rw[if_pos ⟨by lia,by lia⟩]
theorem ff {n:Nat} (h:n≤1000000):kRng (.int n) μ=.ok ((List.range n).map fun(i:Nat)=>D.int i,none) μ:=by
 rw[G2 ⟨by lia,by lia⟩,CB]
theorem Rm {i:Nat} {d:D}:gk (.one i) d σ=some (σ.set i (some d)):=rfl
theorem Y8 {i j:Int}:cpD .lt (.int i) (.int j) μ=.ok (.bl (decide (i<j))) μ:=rfl
theorem Y9 {i j:Int}:cpD .le (.int i) (.int j) μ=.ok (.bl (decide (i≤j))) μ:=rfl
theorem Za {i j:Int}:cpD .gt (.int i) (.int j) μ=.ok (.bl (decide (j<i))) μ:=rfl
theorem Zb {i j:Int}:cpD .ge (.int i) (.int j) μ=.ok (.bl (decide (j≤i))) μ:=rfl
theorem Wz {i j:Int}:cpD .eq (.int i) (.int j) μ=.ok (.bl (decide (i=j))) μ:=rfl
theorem J1 {x y:D} (hx:x.pure=true) (hy:y.pure=true):cpD .ne x y μ=.ok (.bl (!deq x y)) μ:=by simp[cpD,hx,hy]
theorem W0 {i j:Int}:cpD .ne (.int i) (.int j) μ=.ok (.bl (!decide (i=j))) μ:=J1 rfl rfl
theorem W1 {i j:Bool}:cpD .ne (.bl i) (.bl j) μ=.ok (.bl (!(i==j))) μ:=J1 rfl rfl
theorem Rn {x y:D} (hx:x.pure=true) (hy:y.pure=true):cpD .eq x y μ=.ok (.bl (deq x y)) μ:=by simp[cpD,hx,hy]
theorem bt_len {x:D} {xs:List D} (h:fg μ x=some xs):btD .len m [x] μ=.ok (.int xs.length) μ:=by simp[btD,seq1,h]
theorem bt_tuple {x:D} {xs:List D} (h:fg μ x=some xs):btD .tuple m [x] μ=.ok (.tup xs) μ:=by simp[btD,seq1,h]
theorem vi {x:D} {xs:List D} (h:listOf μ x=some xs):btD .listRev m [x] μ=mkL m xs.reverse μ:=by simp[btD,vz,h]
theorem bt_sum {x:D} {xs:List D} {ns:List Int} (h:fg μ x=some xs) (h2:gc xs=some ns):btD .sum m [x] μ=.ok (.int ns.sum) μ:=by simp[btD,K3,h,h2]
theorem bt_all {x:D} {xs:List D} {ns:List Bool} (h:fg μ x=some xs) (h2:n3 xs=some ns):btD .all m [x] μ=.ok (.bl (ns.all id)) μ:=by simp[btD,Dr,h,h2]
theorem bt_any {x:D} {xs:List D} {ns:List Bool} (h:fg μ x=some xs) (h2:n3 xs=some ns):btD .any m [x] μ=.ok (.bl (ns.any id)) μ:=by simp[btD,Dr,h,h2]
theorem bt_min {i j:Int}:btD .min m [.int i,.int j] μ=.ok (.int (min i j)) μ:=by
 simp only[btD,minD]
 congr 2
 split<;>lia
theorem bt_max {i j:Int}:btD .max m [.int i,.int j] μ=.ok (.int (max i j)) μ:=by
 simp only[btD,maxD]
 congr 2
 split<;>lia
theorem dk {ds:List D}:fg μ (.tup ds)=some ds:=rfl
theorem bc {ds:List D}:fg μ (.lst ds)=some ds:=rfl
theorem ko {ds:List D}:mkL .z ds μ=.ok (.lst ds) μ:=rfl
theorem Lq {x:D} {xs:List D} {k:Nat} {d:D} (h:fg μ x=some xs) (hd:xs[k]? = some d):ixD x (.int k) μ=.ok d μ:=by
 have hk:k<xs.length:=(AL.mp hd).1
 have e:ixN xs.length (k:Int)=some k:=by simp[ixN,hk]
 simp only[ixD,h,e,hd]
theorem oq {i j:Nat} {a b:D}:gk (.many [i,j]) (.tup [a,b]) σ=some ((σ.set i (some a)).set j (some b)):=rfl
theorem Uv {i j k:Nat} {a b c:D}:gk (.many [i,j,k]) (.tup [a,b,c]) σ=some (((σ.set i (some a)).set j (some b)).set k (some c)):=rfl
theorem Uw {i j k l:Nat} {a b c d:D}:gk (.many [i,j,k,l]) (.tup [a,b,c,d]) σ=some ((((σ.set i (some a)).set j (some b)).set k (some c)).set l (some d)):=rfl
theorem Ux {i j k l m:Nat} {a b c d e:D}:gk (.many [i,j,k,l,m]) (.tup [a,b,c,d,e]) σ=some (((((σ.set i (some a)).set j (some b)).set k (some c)).set l (some d)).set m (some e)):=rfl
theorem bz {α:Type} {xs:List α} {en:α→D} {k:Nat} {a:α} (h:xs[k]? = some a):ixD (.tup (xs.map en)) (.int k) μ=.ok (en a) μ:=Lq dk (by rw[BS,h];rfl)
theorem Oc {α:Type} {tg:Tg} {b:Sms} {xs:List α} {en:α→D} (I:Nat→Sl→Prop) (h0:I 0 σ) (st:∀(k:Nat) a σ,xs[k]? = some a→I k σ→∃σ',fLp φ tg b (en a) σ μ=.ok (.nx σ') μ∧I (k+1) σ') :
  ∃σ',qm φ tg b σ (xs.map en,none) μ=.ok (.nx σ') μ∧I xs.length σ':=by
 obtain⟨σ',μ',e,rfl,i⟩:=xp (f:=fLp φ tg b) (fun k σ μ'=>μ'=μ∧I k σ) (ds:=xs.map en) (σ:=σ) (μ:=μ) 0 ⟨rfl,h0⟩ fun j d σ μ' e ⟨q,i⟩=>by
  subst q
  rw[BS]at e
  cases ex:xs[j]? with
  | none=>rw[ex]at e;cases e
  | some a =>
   rw[ex]at e
   cases e
   obtain⟨σ',e',i'⟩:=st j a σ ex (by simpa using i)
   exact⟨σ',_,e',rfl,by simpa using i'⟩
 exact⟨σ',e,by simpa using i⟩
theorem comp_map {α:Type} {tg:Tg} {cs:Exs} {elt:Ex} {σ0:Sl} {xs:List α} {en:α→D} {g:α→D} (h:∀a∈xs,ka φ tg cs elt σ0 (en a) μ=.ok [g a] μ):h7 φ m tg cs elt σ0 (xs.map en,none) μ=mkL m (xs.map g) μ:=by
 have e:mapR none (ka φ tg cs elt σ0) (xs.map en) μ=.ok (xs.map g) μ:=by
  induction xs with
  | nil=>simp[mapR]
  | cons a r ih =>
   simp only[AT,mapR,sj,if_true,h a AQ,Res.bw,ih fun x hx=>h x (AK _ hx)]
   rfl
 rw[h7]
 show(mapR none _ (xs.map en) μ).bind _=_
 rw[e];rfl
theorem h8 {α:Type} {tg:Tg} {cs:Exs} {elt:Ex} {σ0:Sl} {xs:List α} {en:α→D} {g:α→D} {p:α→Bool} (h:∀a∈xs,ka φ tg cs elt σ0 (en a) μ=.ok (if p a=true then [g a]else []) μ):h7 φ m tg cs elt σ0 (xs.map en,none) μ=mkL m ((xs.filter p).map g) μ:=by
 have e:mapR none (ka φ tg cs elt σ0) (xs.map en) μ=.ok ((xs.filter p).map g) μ:=by
  induction xs with
  | nil=>simp[mapR]
  | cons a r ih =>
   simp only[AT,mapR,sj,if_true,h a AQ,Res.bw,ih fun x hx=>h x (AK _ hx)]
   by_cases hp:p a=true
   ·simp[hp]
   ·simp[hp]
 rw[h7]
 show(mapR none _ (xs.map en) μ).bind _=_
 rw[e];rfl
noncomputable def many {S α:Type} (G:S→α×S):Nat→S→List α×S
 | 0,s=>([],s)
 | n+1,s=>((G s).1::(many G n (G s).2).1,(many G n (G s).2).2)
theorem xu {S α:Type} (G:S→α×S):∀(n:Nat) (s:S),(many G n s).1.length=n
 | 0,_=>rfl
 | n+1,s=>by simp[many,xu G n]
theorem x5 {S α:Type} {G:S→α×S} {P:α→Prop} (h:∀s,P (G s).1):∀(n:Nat) (s:S),∀a∈(many G n s).1,P a
 | 0,_,a,ha=>by simp[many]at ha
 | n+1,s,a,ha=>by
  rcases AJ.mp ha with rfl | q
  ·exact h s
  ·exact x5 h n _ a q
theorem zu {S α:Type} {f:D→Sto→Res (List D)} {enS:S→Sto} {en:α→D} {G:S→α×S}:∀{ds:List D} {s:S},(∀d∈ds,∀s,f d (enS s)=.ok [en (G s).1] (enS (G s).2)) →
  mapR none f ds (enS s)=.ok ((many G ds.length s).1.map en) (enS (many G ds.length s).2)
 | [],s,_=>by simp[mapR,many]
 | d::ds,s,h=>by
  simp only[mapR,sj,if_true,h d AQ s,Res.bw,zu (ds:=ds) fun x hx=>h x (AK _ hx),many,BJ,AT]
  rfl
theorem zw {S α:Type} {tg:Tg} {cs:Exs} {elt:Ex} {σ0:Sl} {ds:List D} {enS:S→Sto} {en:α→D} {G:S→α×S} {s:S} (h:∀d∈ds,∀s,ka φ tg cs elt σ0 d (enS s)=.ok [en (G s).1] (enS (G s).2)) :
  h7 φ m tg cs elt σ0 (ds,none) (enS s)=mkL m ((many G ds.length s).1.map en) (enS (many G ds.length s).2):=by
 rw[h7]
 show(mapR none _ ds (enS s)).bind _=_
 rw[zu h];rfl
theorem Zc {x:D}:kB φ op m b σ x μ=(evE φ b σ μ).bind (opD op m x):=rfl
theorem Uy {x:D}:V3 φ r σ x μ=evC φ r x σ μ:=rfl
theorem W2 {o:Cp} {x y:D}:kCh φ o x r σ y μ=(cpD o x y μ).bind (R4 φ r y σ):=rfl
theorem W3 {x:D}:kIx φ b σ x μ=(evE φ b σ μ).bind (ixD x):=rfl
theorem Uz {hi:ExO} {x:D} {l:Option Int}:Uk φ m hi σ x l μ=(evO φ hi σ μ).bind (slD m x l):=rfl
theorem W4 {lo hi:ExO} {x:D}:kSl φ m lo hi σ x μ=(evO φ lo σ μ).bind (Uk φ m hi σ x):=rfl
theorem U0 {ds:List D}:kTup ds μ=.ok (.tup ds) μ:=rfl
theorem U1 {d:D} {ds:List D}:Ul d ds μ=.ok (d::ds) μ:=rfl
theorem W5 {d:D}:kEs φ es σ d μ=(i7 φ es σ μ).bind (Ul d):=rfl
theorem U2 {x:D}:kOne x μ=.ok [x] μ:=rfl
theorem U3 {cs:Exs} {elt:Ex}:V4 φ cs elt μ σ=(Dt φ cs σ μ).bind (R5 φ elt σ):=rfl
theorem Sa {x:D}:Rj φ b σ x μ=(evE φ b σ μ).bind (Lo x):=rfl
theorem U4 {x:D}:V5 φ b σ x μ=(evE φ b σ μ).bind (rn x):=rfl
theorem U5 {i:Nat} {d:D}:V6 i σ d μ=.ok (.nx (σ.set i (some d))) μ:=rfl
theorem U6 {is:List Nat} {d:D}:V7 is σ d μ=Um (gk (.many is) d σ) μ:=rfl
theorem U7 {d:D}:kNx σ d μ=.ok (.nx σ) μ:=rfl
theorem U8 {d:Unit}:kNx σ d μ=.ok (.nx σ) μ:=rfl
theorem U9 {d x y:D}:Uo σ d x y μ=(Ds x y d μ).bind (kNx σ):=rfl
theorem Va {i:Ex} {d x:D}:Uq φ i σ d x μ=(evE φ i σ μ).bind (Uo σ d x):=rfl
theorem W6 {o i:Ex} {d:D}:kSx φ o i σ d μ=(evE φ o σ μ).bind (Uq φ i σ d):=rfl
theorem W7 {b:Sms}:kLp φ b μ σ=p8 φ b σ μ:=rfl
theorem Vb {d:D}:kRet d μ=.ok (.rt d) μ:=rfl
theorem Sb {n:Nat}:List.replicate (n+1) (none:Option D)=none::List.replicate n none:=rfl
theorem Sd:List.replicate 0 (none:Option D)=[]:=rfl
end
section
variable {φ : Phi} {σ : Sl} {μ : Sto}
noncomputable def W8 (φ:Phi) (b:Ex) (σ:Sl) (x:D) (μ:Sto):Res D:=(evE φ b σ μ).bind (Td x)
noncomputable def Se (σ:Sl) (x y z:D) (μ:Sto):Res Fl:=(Ds x y z μ).bind (kNx σ)
noncomputable def Sf (op:Operator) (σ:Sl) (x y old d:D) (μ:Sto):Res Fl:=(Vx op old d μ).bind (Se σ x y)
noncomputable def Vc (φ:Phi) (op:Operator) (e:Ex) (σ:Sl) (x y old:D) (μ:Sto):Res Fl:=(evE φ e σ μ).bind (Sf op σ x y old)
noncomputable def Vd (φ:Phi) (op:Operator) (e:Ex) (σ:Sl) (x y:D) (μ:Sto):Res Fl:=(ixL x y μ).bind (Vc φ op e σ x y)
noncomputable def W9 (φ:Phi) (op:Operator) (i e:Ex) (σ:Sl) (x:D) (μ:Sto):Res Fl:=(evE φ i σ μ).bind (Vd φ op e σ x)
theorem Zd {a b:Ex}:evE φ (.dix a b) σ μ=(evE φ a σ μ).bind (W8 φ b σ):=rfl
theorem Ve {b:Ex} {x:D}:W8 φ b σ x μ=(evE φ b σ μ).bind (Td x):=rfl
theorem Xa {op:Operator} {o i e:Ex}:evS φ (.augx op o i e) σ μ=(evE φ o σ μ).bind (W9 φ op i e σ):=rfl
theorem Vf {op:Operator} {i e:Ex} {x:D}:W9 φ op i e σ x μ=(evE φ i σ μ).bind (Vd φ op e σ x):=rfl
theorem Vg {op:Operator} {e:Ex} {x y:D}:Vd φ op e σ x y μ=(ixL x y μ).bind (Vc φ op e σ x y):=rfl
theorem Vh {op:Operator} {e:Ex} {x y old:D}:Vc φ op e σ x y old μ=(evE φ e σ μ).bind (Sf op σ x y old):=rfl
theorem Sg {x y:D} {i j:Int}:Sf .Add σ x y (.int i) (.int j) μ=Se σ x y (.int (i+j)) μ:=rfl
theorem Sh {x y:D} {i j:Int}:Sf .Sub σ x y (.int i) (.int j) μ=Se σ x y (.int (i-j)) μ:=rfl
theorem Vi {x y z:D}:Se σ x y z μ=(Ds x y z μ).bind (kNx σ):=rfl
end
section
variable {μ : Sto}
theorem Xb {α β:Type} (a:α) (f:α→Sto→Res β):(Res.ok a μ).bind f=f a μ:=rfl
theorem Xc {α β:Type} (a:α) (k:α→Res β):nz (some a) k=k a:=rfl
theorem aau (d:D):finD (.rt d) μ=.ok d μ:=rfl
theorem aav (σ:Sl):finD (.nx σ) μ=.ok .non μ:=rfl
theorem aaw {α β:Type} (f:α→β) (a:α) (l:List α):(a::l).map f=f a::l.map f:=rfl
theorem aax {α β:Type} (f:α→β):([]:List α).map f=[]:=rfl
theorem aay {α:Type} (a:α) (l m:List α):a::l++m=a::(l++m):=rfl
theorem aaz {α:Type} (m:List α):[]++m=m:=rfl
theorem aa0 {α:Type} (a:α) (l:List α):(a::l)[0]? = some a:=rfl
theorem aa1 {α:Type} (a:α) (l:List α) (i:Nat):(a::l)[i+1]? = l[i]?:=rfl
theorem aa2 {α:Type} (a b:α) (l:List α):(a::l).set 0 b=b::l:=rfl
theorem aa3 {α:Type} (a b:α) (l:List α) (i:Nat):(a::l).set (i+1) b=a::l.set i b:=rfl
theorem aa4 {α:Type} (a b:α):(some a).getD b=a:=rfl
theorem aa5 {op:Operator} {m:Mk} {i j:Int}:opD op m (.int i) (.int j) μ=opI op i j μ:=Oa
theorem aa6 {i j:Int}:opI .Add i j μ=.ok (.int (i+j)) μ:=op_add
theorem aa7 {i j:Int}:opI .Sub i j μ=.ok (.int (i-j)) μ:=op_sub
theorem aa8 {d:D} {b:Nat}:rh true b (.ok d μ)=.ok d μ:=Ef
end
end Lr
local macro_rules | `(tactic| simp! only [$ls,*]) => do
  let mut a := ls.getElems
  for s in "Lr.Yg Lr.Yh Lr.Yi Lr.Yj Lr.Yk Lr.Yl Lr.aao Lr.Ym Lr.Yn Lr.Yo Lr.V8 Lr.V9 Lr.Yp Lr.Yq Lr.Wa Lr.aap Lr.aaq Lr.Yr Lr.Ys Lr.Yt Lr.Wb Lr.Wc Lr.Ur Lr.aar Lr.aas Lr.Wd Lr.Us Lr.Yu Lr.Yv Lr.We Lr.Yw Lr.Wg Lr.Wh Lr.Yx Lr.Yy Lr.Wi Lr.aat Lr.Yz Lr.Wj Lr.Y0 Lr.Wk Lr.Y1 Lr.Wl Lr.Wm Lr.Ut Lr.Rk Lr.R6 Lr.Uu Lr.Wn Lr.Wo Lr.Y2 Lr.Y3 Lr.Wp Lr.Wq Lr.Wr Lr.Ws Lr.Y4 Lr.Y5 Lr.Wt Lr.Wu Lr.R7 Lr.Y6 Lr.Y7 Lr.Wv Lr.Ww Lr.Wx Lr.Wy Lr.Rl Lr.R8 Lr.R9 Lr.Rm Lr.Y8 Lr.Y9 Lr.Za Lr.Zb Lr.Wz Lr.W0 Lr.W1 Lr.bt_min Lr.bt_max Lr.ko Lr.oq Lr.Uv Lr.Uw Lr.Ux Lr.Zc Lr.Uy Lr.W2 Lr.W3 Lr.Uz Lr.W4 Lr.U0 Lr.U1 Lr.W5 Lr.U2 Lr.U3 Lr.Sa Lr.U4 Lr.U5 Lr.U6 Lr.U7 Lr.U8 Lr.U9 Lr.Va Lr.W6 Lr.W7 Lr.Vb Lr.Sb Lr.Sd Lr.Zd Lr.Ve Lr.Xa Lr.Vf Lr.Vg Lr.Vh Lr.Sg Lr.Sh Lr.Vi Lr.Xb Lr.Xc Lr.aau Lr.aav Lr.aaw Lr.aax Lr.aay Lr.aaz Lr.aa0 Lr.aa1 Lr.aa2 Lr.aa3 Lr.aa4 Lr.aa5 Lr.aa6 Lr.aa7 Lr.aa8 Nat.reduceSub decide_true decide_false Bool.not_true Bool.not_false".splitOn " " do
    a := a.push ⟨(← `(Lean.Parser.Tactic.simpLemma| $(Lean.mkIdent ((s.splitOn ".").foldl Lean.Name.mkStr .anonymous)):ident)).raw⟩
  `(tactic| simp only [$a,*])
namespace Lr
open Lp
open PySem
noncomputable def c9 (c:Int):Int:=((c % 10 ^ 60+1)*69621 % 2147483647)*((c % 10 ^ 60+1)*69621 % 2147483647) % 1000000007 / 7
noncomputable def nv (c most:Int):Int:=if c9 c % 8<6 then min most (c9 c / 8 % 13)else if c9 c % 8=6 then most-c9 c / 8 % 2 else c % (most+1)
noncomputable def Lf (cs:List Int):O:=.l (cs.reverse.map D.int)
@[simp] theorem Xd (cs:List Int):noR (Lf cs)=true:=rfl
section
variable {n : Nat} {μ ρ : Sto}
theorem Od (cs:List Int):ak GL (n+1) br [.loc 0] (Lf cs::ρ)=.ok (.int (cs.headD 0)) (Lf cs.tail::ρ):=by
 rw[aj D7,run_eq rfl]
 cases cs with
 | nil=>simp[D_law_next,p8,evS,evE,evC,i7,btD,seq1,fg,Lf,cpD]
 | cons c r=>simp[D_law_next,p8,evS,evE,evC,i7,btD,seq1,fg,Lf,cpD,jr,Lp.listOf,mtD,Aw,mtL,ma,putL]
theorem mr (hr:∀cs,kq (Lf cs::ρ)) (cs:List Int):uv (ak GL (n+1)) false br [.loc 0] (Lf cs::ρ)=.ok (.int (cs.headD 0)) (Lf cs.tail::ρ) :=
 ar (Od cs) rfl rfl (hr _)
theorem Oe (c:Int):ak GL (n+1) dz [.int c] μ=.ok (.int (c9 c)) μ:=by
 rw[aj D8,run_eq rfl]
 have h1:(0:Int)≤(c % 10 ^ 60+1)*69621 % 2147483647:=GO _ (by decide)
 have h2:(c % 10 ^ 60+1)*69621 % 2147483647<2147483647:=HB _ (by decide)
 have hm:CMul ((c % 10 ^ 60+1)*69621 % 2147483647) ((c % 10 ^ 60+1)*69621 % 2147483647):=.left (by lia) (by lia)
 have hm0:CMul (c % 10 ^ 60+1) 69621:=.right (by decide) (by decide)
 have e1:opI .Pow 10 60 μ=.ok (.int (10 ^ 60)) μ:=op_pow (by decide)
 simp! only[D_law_turn,e1,op_mod (show(0:Int)<10 ^ 60 by decide),op_mul hm0,op_mod (show(0:Int)<2147483647 by decide),op_mul hm,op_mod (show(0:Int)<1000000007 by decide),n8 (show(0:Int)<7 by decide) (by decide),c9]
theorem J2 (c:Int):0≤c9 c:=Int.ediv_nonneg (GO _ (by decide)) (by decide)
theorem jy (hr:kq μ) (c:Int):uv (ak GL (n+1)) false dz [.int c] μ=.ok (.int (c9 c)) μ:=ar (Oe c) rfl rfl hr
theorem Of (hr:kq μ) (c most:Int) (hm:0≤most):ak GL (n+2) di [.int c,.int most] μ=.ok (.int (nv c most)) μ:=by
 rw[aj D9,run_eq rfl]
 have f8:∀x:Int,opI .Mod x 8 μ=.ok (.int (x % 8)) μ:=fun x=>op_mod (by decide)
 by_cases h1:c9 c % 8<6
 ·simp! only[D_law_size,jy hr,f8,h1,n8 (show(0:Int)<8 by decide) (by decide),op_mod (show(0:Int)<13 by decide),nv,if_true]
 ·by_cases h2:c9 c % 8=6
  ·simp! only[D_law_size,jy hr,f8,h1,h2,n8 (show(0:Int)<8 by decide) (by decide),op_mod (show(0:Int)<2 by decide),nv,if_true,if_false,Int.reduceLT]
  ·simp! only[D_law_size,jy hr,f8,h1,h2,op_mod (show(0:Int)<most+1 by lia),nv,if_false]
theorem qo (hr:kq μ) (c most:Int) (hm:0≤most):uv (ak GL (n+2)) false di [.int c,.int most] μ=.ok (.int (nv c most)) μ :=
 ar (Of hr c most hm) rfl rfl hr
theorem kg {c most:Int} (hm:1≤most):0≤nv c most∧nv c most≤most:=by
 have h1:=J2 c
 have h3:0≤c % (most+1):=GO _ (by lia)
 have h4:c % (most+1)<most+1:=HB _ (by lia)
 unfold nv
 split
 ·lia
 ·split<;>lia
theorem Cv (c:Int):ak GL (n+1) ju [.int c] μ=.ok (.bl true) μ:=by
 rw[aj Bh,run_eq rfl]
 simp! only[D_law_whole,K6]
end
end Lr
namespace Lr
open Lp
open PySem
structure Lamp where
 tank:Int
 oil:Int
 away:List Int
structure Day where
 boat:Int
 most:Int
 price:Int
 length:Int
 wanted:Int
structure Book where
 store:Int
 oil:Int
 lamps:List Lamp
 days:List Day
noncomputable def cw (ns:List Int):D:=.tup (ns.map D.int)
noncomputable def g6 (l:Lamp):D:=.tup [.int l.tank,.int l.oil,cw l.away]
noncomputable def Cw (d:Day):D:=.tup [.int d.boat,.int d.most,.int d.price,.int d.length,.int d.wanted]
noncomputable def cf (b:Book):D:=.tup [.int b.store,.int b.oil,.tup (b.lamps.map g6),.tup (b.days.map Cw)]
theorem fj {k:Nat} (ns:List Int):D.pureN (k+1) (cw ns)=true:=by
 simp only[cw,ft,EG,AO]
 exact fun x _=>gz
theorem zx {k:Nat} (l:Lamp):D.pureN (k+2) (g6 l)=true:=by
 simp only[g6,ft,BC,EI,GD,HW,gz,fj]
theorem Cy {k:Nat} (l:Day):D.pureN (k+1) (Cw l)=true:=by
 simp only[Cw,ft,BC,EI,GD,HW,gz]
theorem G3 (b:Book):(cf b).pure=true:=by
 simp only[D.pure,cf,ft,BC,EI,GD,HW,gz,EG,AZ,AO]
 exact⟨fun l _=>zx l,fun l _=>Cy l⟩
theorem ph {b:Book} {μ:Sto}:ixD (cf b) (.int 2) μ=.ok (.tup (b.lamps.map g6)) μ:=rfl
theorem gm {b:Book} {μ:Sto}:ixD (cf b) (.int 3) μ=.ok (.tup (b.days.map Cw)) μ:=rfl
theorem Ro {b:Day} {μ:Sto}:ixD (Cw b) (.int 2) μ=.ok (.int b.price) μ:=rfl
theorem Rp {b:Day} {μ:Sto}:ixD (Cw b) (.int 3) μ=.ok (.int b.length) μ:=rfl
structure Wf (b:Book):Prop where
 store:0≤b.store∧b.store≤10 ^ 30
 oil:0≤b.oil∧b.oil≤10 ^ 30
 lamps:1≤b.lamps.length∧b.lamps.length≤8
 days:1≤b.days.length∧b.days.length≤16
 lamp:∀l∈b.lamps,(0≤l.tank∧l.tank≤10 ^ 30)∧(0≤l.oil∧l.oil≤l.tank)∧l.away.Pairwise (· < ·)∧∀a∈l.away,0≤a∧a<b.days.length
 day:∀d∈b.days,(0≤d.boat∧d.boat≤10 ^ 30)∧(0≤d.most∧d.most≤10 ^ 30)∧(0≤d.price∧d.price≤10 ^ 15)∧(1≤d.length∧d.length≤10 ^ 15)∧0≤d.wanted∧d.wanted≤b.lamps.length
noncomputable def Eg (turn:Int) (days:Nat):List Int:=((List.range days).filter fun k=>turn / 2 ^ (k+1) % 2=1).map fun(k:Nat)=>(k:Int)
noncomputable def uw (days:Nat) (cs:List Int):Lamp×List Int :=
 let tank:=nv (cs.headD 0) (10 ^ 30)
 (⟨tank,min tank (nv (cs.tail.headD 0) (10 ^ 30)),if c9 (cs.tail.tail.headD 0) % 2=1 then Eg (c9 (cs.tail.tail.headD 0)) days else []⟩,cs.tail.tail.tail)
noncomputable def J3 (lamps:Nat) (cs:List Int):Day×List Int :=
 (⟨nv (cs.headD 0) (10 ^ 30),nv (cs.tail.headD 0) (10 ^ 30),nv (cs.tail.tail.headD 0) (10 ^ 15),max 1 (nv (cs.tail.tail.tail.headD 0) (10 ^ 15)),c9 (cs.tail.tail.tail.tail.headD 0) % (lamps+1)⟩,cs.tail.tail.tail.tail.tail)
section
variable {n : Nat} {μ ρ : Sto}
theorem p30:opI .Pow 10 30 μ=.ok (.int (10 ^ 30)) μ:=op_pow (by decide)
theorem p15:opI .Pow 10 15 μ=.ok (.int (10 ^ 15)) μ:=op_pow (by decide)
theorem Og (hr:∀cs,kq (Lf cs::ρ)) (cs:List Int) (days:Nat) (hd:days≤100) :
  ak GL (n+3) nh [.loc 0,.int days] (Lf cs::ρ)=.ok (g6 (uw days cs).1) (Lf (uw days cs).2::ρ):=by
 rw[aj Ea,run_eq rfl]
 have hr':=hr
 have f2:∀(x:Int) μ,opI .Mod x 2 μ=.ok (.int (x % 2)) μ:=fun x μ=>op_mod (by decide)
 have m30:(0:Int)≤10 ^ 30:=by decide
 by_cases h1:c9 (cs.tail.tail.headD 0) % 2=1
 ·have hc:∀μ,h7 (ak GL (n+2)) .z (.one 1) ly gr
    [some (.int (c9 (cs.tail.tail.headD 0))),none] ((List.range days).map fun(k:Nat)=>D.int k,none) μ=.ok (.lst ((Eg (c9 (cs.tail.tail.headD 0)) days).map D.int)) μ:=fun μ=>by
   rw[h8 (en:=fun(k:Nat)=>D.int k) (g:=fun(k:Nat)=>D.int k) (p:=fun k=>decide (c9 (cs.tail.tail.headD 0) / 2 ^ (k+1) % 2=1))]
   ·simp only[mkL,Eg,BA];rfl
   ·intro k _
    simp! only[ka,ly,gr,op_shr (show(0:Int)≤(k:Int)+1 by lia),f2]
    have e:((k:Int)+1).toNat=k+1:=by lia
    rw[e]
    by_cases hk:c9 (cs.tail.tail.headD 0) / 2 ^ (k+1) % 2=1
    ·simp! only[gr,hk,if_true]
    ·simp! only[gr,hk,if_false,AR]
  simp! only[D_law_lamp,mr hr,jy (hr' _),qo (hr' _) _ _ m30,p30,f2,h1,ff (show days≤1000000 by lia),hc,bt_tuple bc,uw,if_true,g6,cw]
 ·simp! only[D_law_lamp,mr hr,jy (hr' _),qo (hr' _) _ _ m30,p30,f2,h1,uw,if_false,g6,cw]
theorem Rq (hr:∀cs,kq (Lf cs::ρ)) (cs:List Int) (lamps:Nat) :
  ak GL (n+3) pd [.loc 0,.int lamps] (Lf cs::ρ)=.ok (Cw (J3 lamps cs).1) (Lf (J3 lamps cs).2::ρ):=by
 rw[aj Gw,run_eq rfl]
 have hr':=hr
 have m30:(0:Int)≤10 ^ 30:=by decide
 have m15:(0:Int)≤10 ^ 15:=by decide
 simp! only[D_law_day,mr hr,jy (hr' _),qo (hr' _) _ _ m30,qo (hr' _) _ _ m15,p30,p15,op_mod (show(0:Int)<(lamps:Int)+1 by lia),J3,Cw]
theorem Eh (l:Lamp):(g6 l).pure=true:=zx l
theorem G4 (l:Day):(Cw l).pure=true:=Cy l
noncomputable def i4 (h:Int):Nat:=if h / 12 % 5=1 then(1+h / 60 % 8).toNat else(1+h % 3).toNat
noncomputable def qq (h:Int):Nat:=if h / 12 % 5=1 then(1+h / 480 % 16).toNat else(1+h / 3 % 4).toNat
theorem zy (h:Int):1≤i4 h∧i4 h≤8:=by
 unfold i4
 split<;>lia
theorem Cz (h:Int):1≤qq h∧qq h≤16:=by
 unfold qq
 split<;>lia
noncomputable def x6 (cs:List Int):Book×List Int :=
 let h:=c9 (cs.headD 0)
 let ls:=many (uw (qq h)) (i4 h) cs.tail.tail.tail
 let ds:=many (J3 (i4 h)) (qq h) ls.2
 (⟨nv (cs.tail.headD 0) (10 ^ 30),nv (cs.tail.tail.headD 0) (10 ^ 30),ls.1,ds.1⟩,ds.2)
theorem Oh (hr:∀cs,kq (Lf cs::ρ)) (cs:List Int) :
  ak GL (n+4) ni [.loc 0] (Lf cs::ρ)=.ok (cf (x6 cs).1) (Lf (x6 cs).2::ρ):=by
 rw[aj Eb,run_eq rfl]
 have hr':=hr
 have m30:(0:Int)≤10 ^ 30:=by decide
 have fm:∀(x y:Int) μ,0<y→opI .Mod x y μ=.ok (.int (x % y)) μ:=fun x y μ h=>op_mod h
 have fd:∀(x y:Int) μ,0<y→y<1073741824→opI .FloorDiv x y μ=.ok (.int (x / y)) μ:=fun x y μ h h2=>n8 h h2
 have L:=zy (c9 (cs.headD 0))
 have Y:=Cz (c9 (cs.headD 0))
 have cl:∀(k:Nat) (cs':List Int) (days:Nat),days≤16→h7 (ak GL (n+3)) .z (.one 2) .nil ja [some (.loc 0),some (.int days),none] ((List.range k).map fun(j:Nat)=>D.int j,none) (Lf cs'::ρ)
   = .ok (.lst ((many (uw days) k cs').1.map g6)) (Lf (many (uw days) k cs').2::ρ):=fun k cs' days hd=>by
  have e:=zw (m:=.z) (φ:=ak GL (n+3)) (tg:=.one 2) (cs:=.nil) (elt:=ja) (σ0:=[some (.loc 0),some (.int days),none]) (ds:=(List.range k).map fun(j:Nat)=>D.int j)
   (enS:=fun cs=>Lf cs::ρ) (en:=g6) (G:=uw days) (s:=cs') fun d _ s=>by
    simp! only[ka,ja,ar (Og (n:=n) hr s days (by lia)) (Eh _) rfl (hr' _)]
  simp only[AG,DF]at e
  exact e
 have cy:∀(k:Nat) (cs':List Int) (lamps:Nat),h7 (ak GL (n+3)) .z (.one 2) .nil jb [some (.loc 0),some (.int lamps),none] ((List.range k).map fun(j:Nat)=>D.int j,none) (Lf cs'::ρ)
   = .ok (.lst ((many (J3 lamps) k cs').1.map Cw)) (Lf (many (J3 lamps) k cs').2::ρ):=fun k cs' lamps=>by
  have e:=zw (m:=.z) (φ:=ak GL (n+3)) (tg:=.one 2) (cs:=.nil) (elt:=jb) (σ0:=[some (.loc 0),some (.int lamps),none]) (ds:=(List.range k).map fun(j:Nat)=>D.int j)
   (enS:=fun cs=>Lf cs::ρ) (en:=Cw) (G:=J3 lamps) (s:=cs') fun d _ s=>by
    simp! only[ka,jb,ar (Rq (n:=n) hr s lamps) (G4 _) rfl (hr' _)]
  simp only[AG,DF]at e
  exact e
 by_cases h1:c9 (cs.headD 0) / 12 % 5=1
 ·have e1:1+c9 (cs.headD 0) / 60 % 8=(i4 (c9 (cs.headD 0)):Int):=by unfold i4;rw[if_pos h1];lia
  have e2:1+c9 (cs.headD 0) / 480 % 16=(qq (c9 (cs.headD 0)):Int):=by unfold qq;rw[if_pos h1];lia
  simp! only[D_law_book,mr hr,jy (hr' _),qo (hr' _) _ _ m30,p30,fm _ _ _ (show(0:Int)<3 by decide),fm _ _ _ (show(0:Int)<4 by decide),fm _ _ _ (show(0:Int)<5 by decide),fm _ _ _ (show(0:Int)<8 by decide),fm _ _ _ (show(0:Int)<16 by decide),
   fd _ _ _ (show(0:Int)<3 by decide) (by decide),fd _ _ _ (show(0:Int)<12 by decide) (by decide),fd _ _ _ (show(0:Int)<60 by decide) (by decide),fd _ _ _ (show(0:Int)<480 by decide) (by decide),h1,e1,e2,ff (show i4 (c9 (cs.headD 0))≤1000000 by lia),ff (show qq (c9 (cs.headD 0))≤1000000 by lia),cl _ _ _ Y.2,cy,bt_tuple bc,x6,cf]
 ·have e1:1+c9 (cs.headD 0) % 3=(i4 (c9 (cs.headD 0)):Int):=by unfold i4;rw[if_neg h1];lia
  have e2:1+c9 (cs.headD 0) / 3 % 4=(qq (c9 (cs.headD 0)):Int):=by unfold qq;rw[if_neg h1];lia
  simp! only[D_law_book,mr hr,jy (hr' _),qo (hr' _) _ _ m30,p30,fm _ _ _ (show(0:Int)<3 by decide),fm _ _ _ (show(0:Int)<4 by decide),fm _ _ _ (show(0:Int)<5 by decide),
   fd _ _ _ (show(0:Int)<3 by decide) (by decide),fd _ _ _ (show(0:Int)<12 by decide) (by decide),h1,e1,e2,ff (show i4 (c9 (cs.headD 0))≤1000000 by lia),ff (show qq (c9 (cs.headD 0))≤1000000 by lia),cl _ _ _ Y.2,cy,bt_tuple bc,x6,cf]
theorem J4 (t:Int) (n:Nat):(Eg t n).Pairwise (· < ·)∧∀a∈Eg t n,0≤a∧a<n:=by
 unfold Eg
 constructor
 ·rw[List.pairwise_map]
  refine List.Pairwise.filter _ ?_
  exact FT.imp fun h=>by lia
 ·intro a ha
  obtain⟨k,hk,rfl⟩:=BI.mp ha
  have:=CQ.mp (GG.mp hk).1
  lia
theorem J5 (cs:List Int):Wf (x6 cs).1:=by
 have L:=zy (c9 (cs.headD 0))
 have Y:=Cz (c9 (cs.headD 0))
 have z30:(1:Int)≤10 ^ 30:=by decide
 have z15:(1:Int)≤10 ^ 15:=by decide
 have hd:(x6 cs).1.days.length=qq (c9 (cs.headD 0)):=xu _ _ _
 have hl:(x6 cs).1.lamps.length=i4 (c9 (cs.headD 0)):=xu _ _ _
 refine⟨kg z30,kg z30,by rw[hl];exact L,by rw[hd];exact Y,?_,?_⟩
 ·rw[hd]
  refine x5 (P:=fun l:Lamp=>(0≤l.tank∧l.tank≤10 ^ 30)∧(0≤l.oil∧l.oil≤l.tank)∧l.away.Pairwise (· < ·)∧∀a∈l.away,0≤a∧a<((qq (c9 (cs.headD 0)):Nat):Int)) (fun s=>?_) _ _
  have s1:=kg (c:=s.headD 0) z30
  have s2:=kg (c:=s.tail.headD 0) z30
  refine⟨s1,?_,?_⟩
  ·simp only[uw];lia
  ·simp only[uw]
   split
   ·exact J4 _ _
   ·exact⟨.nil,fun a h=>by simp at h⟩
 ·rw[hl]
  refine x5 (P:=fun d:Day=>(0≤d.boat∧d.boat≤10 ^ 30)∧(0≤d.most∧d.most≤10 ^ 30)∧(0≤d.price∧d.price≤10 ^ 15)∧(1≤d.length∧d.length≤10 ^ 15)∧0≤d.wanted∧d.wanted≤((i4 (c9 (cs.headD 0)):Nat):Int)) (fun s=>?_) _ _
  have s1:=kg (c:=s.tail.tail.tail.headD 0) z15
  have w1:0≤c9 (s.tail.tail.tail.tail.headD 0) % ((i4 (c9 (cs.headD 0)):Nat)+1:Int):=GO _ (by lia)
  have w2:c9 (s.tail.tail.tail.tail.headD 0) % ((i4 (c9 (cs.headD 0)):Nat)+1:Int)<(i4 (c9 (cs.headD 0)):Nat)+1:=HB _ (by lia)
  refine⟨kg z30,kg z30,kg z15,?_,?_⟩
  ·simp only[J3];lia
  ·simp only[J3];lia
end
section
variable {n : Nat} {μ : Sto}
theorem zz (ns:List Int):(ns.map D.int).all flat=true:=by
 rw[EG,AO]
 exact fun _ _=>rfl
theorem any_ints (ns:List Int) (k:Int):((ns.map D.int).any fun y=>deq y (.int k))=decide (k∈ns):=by
 rw[IY]
 induction ns with
 | nil=>rfl
 | cons a r ih =>
  simp only[CM,ih,Function.comp,deq,AJ]
  by_cases h:a=k
  ·simp[h]
  ·simp[h,Ne.symm h]
theorem x8 {ns:List Int} {k:Int}:cpD .notin (.int k) (cw ns) μ=.ok (.bl (!decide (k∈ns))) μ:=by
 simp only[cpD,cw,dk,flat,zz,and_self,if_true,any_ints]
theorem Ei {b:Book} {k:Nat} {l:Lamp} (hl:b.lamps[k]? = some l) (y:Int):ak GL (n+1) ng [cf b,.int k,.int y] μ=.ok (.bl (!decide (y∈l.away))) μ:=by
 rw[aj D6,run_eq rfl]
 simp! only[D_can_burn,ph,bz hl,g6,x8]
end
end Lr
namespace Lr
open Lp
open PySem
theorem z5 (ns:List Int):mkL .l (ns.map D.int).reverse []=.ok (.loc 0) [Lf ns]:=by
 have hall:(ns.map D.int).reverse.all (D.pureN 8)=true:=by
  rw[←List.map_reverse,EG,AO]
  exact fun _ _=>rfl
 simp only[mkL,hall,if_true,Lf,List.map_reverse,CI,List.nil_append]
theorem vj {μ:Sto} {ds:List D}:listOf μ (.lst ds)=some ds:=rfl
theorem ug {k:Nat} (ih:∀d:D,D.pureN k d=true→deq d d=true):∀ds:List D,ds.all (D.pureN k)=true→En ds ds=true
 | [],_=>by rw[En]
 | d::r,h=>by
  simp only[BC,AZ]at h
  rw[En,ih d h.1,ug ih r h.2];rfl
theorem sd:∀(k:Nat) (d:D),D.pureN k d=true→deq d d=true
 | 0,d,h=>by cases d<;>simp_all[D.pureN,deq]
 | k+1,d,h=>by
  cases d with
  | tup ds=>rw[deq];exact ug (sd k) ds h
  | lst ds=>rw[deq];exact ug (sd k) ds h
  | loc n=>simp[D.pureN]at h
  | _=>simp[deq]
theorem J6 (xs:List D) (k:Nat):cut xs none (some (k:Int))=xs.take k:=by
 simp only[cut,sIx]
 rw[if_neg (by lia)]
 simp[List.take_eq_take_iff]
theorem J7 (xs:List D) (k:Nat):cut xs (some (k:Int)) none=xs.drop k:=by
 simp only[cut,sIx]
 rw[if_neg (by lia)]
 by_cases h:k≤xs.length
 ·rw[CB,Nat.min_eq_left h,BY (by simp)]
 ·rw[CB,Nat.min_eq_right (by lia),List.drop_eq_nil_of_le (show xs.length≤k by lia)];simp
section
variable {n : Nat} {μ ρ : Sto} {m : Mk} {φ : Phi} {σ : Sl} {es : Exs}
theorem G5 {xs:List D} {k:Nat}:slD m (.tup xs) none (some (k:Int)) μ=.ok (.tup (xs.take k)) μ:=by rw[slD,J6]
theorem Oi {xs:List D} {k:Nat}:slD m (.tup xs) (some (k:Int)) none μ=.ok (.tup (xs.drop k)) μ:=by rw[slD,J7]
theorem J8 {xs:List D}:slD m (.tup xs) (some 1) none μ=.ok (.tup (xs.drop 1)) μ:=Oi (k:=1)
theorem fu {f:Nat} {ds:List D} {d:D} (h:φ f ds μ=.ok d (μ++ρ)) (hd:d.pure=true) (hr:kq μ):uv φ false f ds μ=.ok d μ:=by
 rw[uv,h]
 have e:(μ++ρ).take μ.length=μ:=by simp
 have hr':μ.all (ik μ.length)=true:=hr
 simp only[rh,AR,if_false,e,k6 _ 8 d hd,hr',and_self,if_true]
theorem jz {o:O}:(μ++[o])[μ.length]? = some o:=by simp
theorem pj {o o':O}:(μ++[o]).set μ.length o'=μ++[o']:=by simp
theorem J9 {ds:List D} (h:ds.all (D.pureN 8)=true):mkL .l ds μ=.ok (.loc μ.length) (μ++[.l ds]):=by simp only[mkL,h,if_true]
theorem nq {ds:List D}:fg (μ++[.l ds]) (.loc μ.length)=some ds:=by simp only[fg,jz]
theorem G6 {mt:Mt} {ds:List D} (h:∀d μ,jr mt d μ=(Lp.listOf μ d).isSome):kM φ mt es σ (.loc μ.length) (μ++[.l ds])=(i7 φ es σ (μ++[.l ds])).bind (mtD mt (.loc μ.length)):=by
 refine Ob ?_
 rw[h]
 simp only[Lp.listOf,jz];rfl
theorem Ls {ds:List D}:kM φ .append es σ (.loc μ.length) (μ++[.l ds])=(i7 φ es σ (μ++[.l ds])).bind (mtD .append (.loc μ.length)):=G6 fun _ _=>rfl
theorem Lu {ds:List D} {d:D} (hd:d.pure=true) (hl:ds.length<1000000):mtD .append (.loc μ.length) [d] (μ++[.l ds])=.ok .non (μ++[.l (ds++[d])]):=by
 have:=vy
 simp only[mtD,Aw,jz,ma,mtL,j5,fits,hd,putL,pj]
 rw[if_pos ⟨trivial,by lia⟩]
theorem mv {α:Type} {tg:Tg} {b:Sms} {xs:List α} {en:α→D} (I:Nat→Sl→Sto→Prop) (h0:I 0 σ μ) (st:∀(k:Nat) a σ μ,xs[k]? = some a→I k σ μ→∃σ' μ',fLp φ tg b (en a) σ μ=.ok (.nx σ') μ'∧I (k+1) σ' μ') :
  ∃σ' μ',qm φ tg b σ (xs.map en,none) μ=.ok (.nx σ') μ'∧I xs.length σ' μ':=by
 obtain⟨σ',μ',e,i⟩:=xp (f:=fLp φ tg b) I (ds:=xs.map en) (σ:=σ) (μ:=μ) 0 h0 fun j d σ μ' e i=>by
  rw[BS]at e
  cases ex:xs[j]? with
  | none=>rw[ex]at e;cases e
  | some a =>
   rw[ex]at e
   cases e
   obtain⟨σ',μ'',e',i'⟩:=st j a σ μ' ex (by simpa using i)
   exact⟨σ',μ'',e',by simpa using i'⟩
 exact⟨σ',μ',e,by simpa using i⟩
end
end Lr
namespace Lr
open Lp
open PySem
noncomputable def sq (b:Bool) (ds:List D):D:=match b with
 | true=>.lst ds
 | false=>.tup ds
end Lr
namespace Lr
open Lp
open PySem
section
variable {n : Nat} {μ ρ : Sto}
structure Span where
 lamp:Int
 start:Int
 fin:Int
noncomputable def eSpan (s:Span):D:=.tup [.int s.lamp,.int s.start,.int s.fin]
theorem mw {k:Nat} (s:Span):D.pureN (k+1) (eSpan s)=true:=by simp only[eSpan,ft,BC,EI,GD,gz]
end
end Lr
namespace Lr
open Lp
open PySem
theorem pk {b c:Nat} (h:b≤c):∀(k:Nat) (d:D),D.belowN b k d=true→D.belowN c k d=true
 | 0,d,e=>by cases d<;>simp_all[D.belowN];lia
 | k+1,d,e=>by
  cases d with
  | tup ds =>
   simp only[D.belowN,AO]at e ⊢
   exact fun x hx=>pk h k x (e x hx)
  | lst ds =>
   simp only[D.belowN,AO]at e ⊢
   exact fun x hx=>pk h k x (e x hx)
  | loc n=>simp_all[D.belowN];lia
  | _=>rfl
section
variable {n : Nat} {μ ρ : Sto} {φ : Phi} {es : Exs} {σ : Sl}
theorem G7 (hr:kq μ) (ds:List D):kq (μ++[.l ds]):=by
 unfold kq at hr ⊢
 rw[AO]at hr ⊢
 intro o ho
 rcases DH.mp ho with h | h
 ·have:=hr o h
  cases o with
  | r xs =>
   simp only[ik,AO]at this ⊢
   exact fun x hx=>pk (by simp) 8 x (this x hx)
  | _=>rfl
 ·simp only[EH]at h
  subst h;rfl
end
end Lr
namespace Lr
open Lp
open PySem
noncomputable def cov (ss:List Span) (t:Int):Nat:=ss.countP fun s=>decide (s.start≤t∧t<s.fin)
end Lr
namespace Lr
open Lp
open PySem
section
variable {n : Nat} {μ ρ : Sto} {φ : Phi} {σ : Sl}
theorem Rr {i:Nat} {k:Nat} {ds:List D} (h:σ[i]? = some (some (.loc k))) (h2:μ[k]? = some (.l ds)):evE φ (.frz i) σ μ=.ok (.lst ds) (μ.set k .dead):=by simp only[evE,h,h2]
end
end Lr
namespace Lr
open Lp
open PySem
noncomputable def encM (m:List (Int×Int)):List (D×D):=m.map fun p=>(D.int p.1,D.int p.2)
noncomputable def dh:List (Int×Int)→Int→Option Int
 | [],_=>none
 | p::r,k=>if p.1=k then some p.2 else dh r k
noncomputable def Al (m:List (Int×Int)) (k v:Int):List (Int×Int):=if(m.any fun p=>decide (p.1=k))=true then m.map (fun p=>if p.1=k then(p.1,v)else p)else m++[(k,v)]
theorem C0 (k:Int):∀m:List (Int×Int),Fh (.int k) (encM m)=(dh m k).map D.int
 | []=>rfl
 | p::r=>by
  have ih:=C0 k r
  simp only[encM,AT]at ih ⊢
  rw[Fh,dh,deq]
  by_cases h:p.1=k
  ·simp[h]
  ·simp only[h,decide_false,if_false,AR];exact ih
theorem Oj (k:Int) (m:List (Int×Int)):((encM m).any fun p=>deq p.1 (.int k))=m.any fun p=>decide (p.1=k):=by
 simp only[encM,IY]
 congr 1
theorem C1 (m:List (Int×Int)) (k v:Int):dput (.int k) (.int v) (encM m)=encM (Al m k v):=by
 unfold dput Al
 rw[Oj]
 split
 ·simp only[encM,BA]
  refine DL fun p _=>?_
  simp only[Function.comp,deq]
  by_cases h:p.1=k
  ·simp[h]
  ·simp[h]
 ·simp[encM]
theorem C2:∀(m:List (Int×Int)) (k:Int),(m.any fun p=>decide (p.1=k))=(dh m k).isSome
 | [],_=>rfl
 | p::r,k=>by
  rw[CM,dh,C2 r k]
  by_cases h:p.1=k<;>simp[h]
theorem C3 (k v k':Int):∀m:List (Int×Int),dh (m.map fun p=>if p.1=k then(p.1,v)else p) k'=if k'=k then(dh m k).map fun _=>v else dh m k'
 | []=>by simp[dh]
 | p::r=>by
  have ih:=C3 k v k' r
  simp only[AT,dh]
  by_cases h:p.1=k
  ·by_cases h':k'=k
   ·subst h';simp[h]
   ·have:¬p.1=k':=fun z=>h' (z.symm.trans h)
    simp only[h,if_true,ih,h',if_false]
    have h2:¬k=k':=fun z=>h' z.symm
    simp[h2]
  ·by_cases h':k'=k
   ·subst h';simp only[h,if_false,ih,if_true]
   ·simp only[h,if_false,ih,h']
theorem z6 (k v k':Int):∀m:List (Int×Int),dh (m++[(k,v)]) k'=match dh m k' with
  | some x=>some x
  | none=>if k=k' then some v else none
 | []=>by simp[dh]
 | p::r=>by
  have ih:=z6 k v k' r
  simp only[IB,dh]
  by_cases h:p.1=k'
  ·simp[h]
  ·simp only[h,if_false,ih]
theorem l8 (m:List (Int×Int)) (k v k':Int):dh (Al m k v) k'=if k'=k then some v else dh m k':=by
 unfold Al
 rw[C2]
 split
 ·rename_i h
  rw[C3]
  obtain⟨x,hx⟩:=DX.mp h
  simp[hx]
 ·rename_i h
  have hn:dh m k=none:=by simpa using h
  rw[z6]
  by_cases h':k'=k
  ·subst h';simp[hn]
  ·have h2:¬k=k':=fun z=>h' z.symm
   simp only[h',h2,if_false]
   cases dh m k'<;>rfl
theorem se (m:List (Int×Int)) (k v:Int):(Al m k v).length≤m.length+1:=by
 unfold Al
 split<;>simp
section
variable {n : Nat} {μ ρ : Sto} {φ : Phi} {σ : Sl}
theorem x9 {m:List (Int×Int)} {k x:Int}:mtD .get (.loc μ.length) [.int k,.int x] (μ++[.d (encM m)])=.ok (.int ((dh m k).getD x)) (μ++[.d (encM m)]):=by
 simp only[mtD,Ms,dictAt,jz,Iy,if_true,C0]
 cases dh m k<;>rfl
theorem G8 {es:Exs} {m:List (Int×Int)}:kM φ .get es σ (.loc μ.length) (μ++[.d (encM m)])=(i7 φ es σ (μ++[.d (encM m)])).bind (mtD .get (.loc μ.length)):=Ob (by simp only[jr,jz])
theorem set_dict {m:List (Int×Int)} {k v:Int} (h:m.length<1000000):Ds (.loc μ.length) (.int k) (.int v) (μ++[.d (encM m)])=.ok () (μ++[.d (encM (Al m k v))]):=by
 have:=vy
 have hl:(encM m).length<lim:=by simp only[encM,AG];lia
 simp only[Ds,jz,Iy,xq,hl,and_self,if_true,C1,pj]
noncomputable def bf (ss:List Span) (k:Int):Int:=(ss.map fun s=>if s.lamp=k then s.fin-s.start else 0).sum
theorem uh (F:D) (lamps:Nat) (ss:List Span) (hF:∀ν:Sto,kSeq F ν=.ok (ss.map eSpan,none) ν) (hn:ss.length≤1000) (hl:lamps≤1000):∃ρ,ak GL (n+1) cu [.int lamps,F] μ=.ok (cw ((List.range lamps).map fun(k:Nat)=>bf ss k)) (μ++ρ):=by
 rw[aj rl,run_eq rfl]
 obtain⟨σ',μ',el,m,⟨v3,v4,v5,rfl⟩,rfl,hm,hk⟩:=mv (φ:=ak GL n) (μ:=μ++[.d []]) (tg:=.many [3,4,5]) (b:=gf) (xs:=ss) (en:=eSpan)
  (σ:=[some (.int lamps),some (F),some (.loc μ.length),none,none,none])
  (fun j σ μ'=>∃m,(∃v3 v4 v5,σ=[some (.int lamps),some (F),some (.loc μ.length),v3,v4,v5])∧μ'=μ++[.d (encM m)]∧m.length≤j∧∀k,(dh m k).getD 0=bf (ss.take j) k)
  ⟨[],⟨none,none,none,rfl⟩,rfl,by simp,fun k=>by simp[dh,bf]⟩ (by
   rintro j s σ μ' hs ⟨m,⟨v3,v4,v5,rfl⟩,rfl,hm,hk⟩
   have hj:j<ss.length:=(AL.mp hs).1
   refine⟨[some (.int lamps),some (F),some (.loc μ.length),some (.int s.lamp),some (.int s.start),some (.int s.fin)],μ++[.d (encM (Al m s.lamp ((dh m s.lamp).getD 0+s.fin-s.start)))],?_,Al m s.lamp ((dh m s.lamp).getD 0+s.fin-s.start),⟨_,_,_,rfl⟩,rfl,?_,fun k=>?_⟩
   ·simp! only[fLp,gf,eSpan,G8,x9,set_dict (show m.length<1000000 by lia)]
   ·have:=se m s.lamp ((dh m s.lamp).getD 0+s.fin-s.start);lia
   ·have et:bf (ss.take (j+1)) k=bf (ss.take j) k+if s.lamp=k then s.fin-s.start else 0:=by
     rw[DG,hs]
     simp[bf,GI]
    rw[l8,et]
    by_cases h:k=s.lamp
    ·subst h
     have:=hk s.lamp
     simp only[if_true,FZ]
     lia
    ·have h2:¬s.lamp=k:=fun z=>h z.symm
     simp only[h,h2,if_false,hk k];lia)
 rw[BY (AH _)]at hk
 have hc:h7 (ak GL n) .z (.one 1) .nil gg [some (.loc μ.length),none] ((List.range lamps).map fun(k:Nat)=>D.int k,none) (μ++[.d (encM m)])=.ok (.lst (((List.range lamps).map fun(k:Nat)=>bf ss k).map D.int)) (μ++[.d (encM m)]):=by
  rw[comp_map (en:=fun(k:Nat)=>D.int k) (g:=fun(k:Nat)=>D.int (bf ss k)) fun k _=>by
   simp! only[ka,gg,G8,x9,hk]]
  rw[ko,BA];rfl
 refine⟨[.d (encM m)],?_⟩
 have d0:K7 false [] μ=.ok (.loc μ.length) (μ++[.d []]):=rfl
 simp! only[D_ticks_of_spans,d0,hF,el,ff (show lamps≤1000000 by lia),hc,bt_tuple bc,cw]
theorem vk (lamps:Nat) (ss:List Span) (hn:ss.length≤1000) (hl:lamps≤1000):∃ρ,ak GL (n+1) cu [.int lamps,.tup (ss.map eSpan)] μ=.ok (cw ((List.range lamps).map fun(k:Nat)=>bf ss k)) (μ++ρ):=uh _ lamps ss (fun _=>rfl) hn hl
end
end Lr
namespace Lr
open Lp
open PySem
noncomputable def Nb (a b:Span):Prop:=a.lamp<b.lamp∨(a.lamp=b.lamp∧a.start<b.start∧a.fin≤b.start)
structure Good (L:Int) (lo hi:Int) (s:Span):Prop where
 lamp:lo≤s.lamp∧s.lamp<hi
 start:0≤s.start
 run:s.start<s.fin
 fin:s.fin≤L
theorem Bl:∀{ss:List Span},ss.Pairwise Nb→∀p∈ss.zip (ss.drop 1),Nb p.1 p.2
 | [],_,p,hp=>by simp at hp
 | [a],_,p,hp=>by simp at hp
 | a::c::r,h,p,hp=>by
  rcases AJ.mp hp with rfl | hp
  ·exact(BR.mp h).1 c AQ
  ·exact Bl (BR.mp h).2 p hp
end Lr
namespace Lr
open Lp
open PySem
section
variable {n : Nat} {μ ρ : Sto} {φ : Phi} {σ : Sl}
theorem Lv (a b:Span):cpD .lt (eSpan a) (eSpan b) μ=.ok (.bl (lexLt [a.lamp,a.start,a.fin] [b.lamp,b.start,b.fin])) μ:=by
 have e:∀s:Span,gc [D.int s.lamp,.int s.start,.int s.fin]=some [s.lamp,s.start,s.fin]:=fun s=>ij [s.lamp,s.start,s.fin]
 simp only[cpD,eSpan,e]
theorem Vj {a b:Span} (h:Nb a b):lexLt [a.lamp,a.start,a.fin] [b.lamp,b.start,b.fin]=true:=by
 rcases h with h | ⟨h1,h2,h3⟩
 ·have:¬a.lamp=b.lamp:=by lia
  simp[Lp.lexLt,this,h]
 ·have:¬a.start=b.start:=by lia
  simp[Lp.lexLt,h1,this,h2]
theorem p5 (ss:List Span):(((ss.map eSpan).zip ((ss.map eSpan).drop 1)).map fun p=>D.tup [p.1,p.2])=(ss.zip (ss.drop 1)).map fun p:Span×Span=>D.tup [eSpan p.1,eSpan p.2]:=by
 rw[←List.map_drop,List.zip_map,BA];rfl
theorem G9 {ss:List Span} (h:ss.Pairwise Nb):ak GL (n+1) ua [.tup (ss.map eSpan)] μ=.ok (.bl true) μ:=by
 rw[aj Gx,run_eq rfl]
 have hz:rn (.tup (ss.map eSpan)) (.tup ((ss.map eSpan).drop 1)) μ=.ok (((ss.map eSpan).zip ((ss.map eSpan).drop 1)).map fun p=>.tup [p.1,p.2],none) μ:=rfl
 have hc:h7 (ak GL n) .z (.many [0,1]) .nil k5 [none,none] ((ss.zip (ss.drop 1)).map fun p:Span×Span=>D.tup [eSpan p.1,eSpan p.2],none) μ=.ok (.lst (((ss.zip (ss.drop 1)).map fun _=>true).map D.bl)) μ:=by
  rw[comp_map (g:=fun _=>D.bl true) fun p hp=>by
   have hlt:=Vj (Bl h p hp)
   simp! only[ka,k5,Lv,hlt]]
  rw[ko,BA];rfl
 have ha:((ss.zip (ss.drop 1)).map fun _=>true).all id=true:=by simp
 simp! only[D_rises,J8,hz,p5,hc,bt_all bc (gj _),ha]
theorem rp {s:Span}:ixD (eSpan s) (.int 0) μ=.ok (.int s.lamp) μ:=rfl
theorem ux {s:Span}:ixD (eSpan s) (.int 1) μ=.ok (.int s.start) μ:=rfl
theorem z7 {s:Span}:ixD (eSpan s) (.int 2) μ=.ok (.int s.fin) μ:=rfl
theorem Ka {a b:Span} (h:Nb a b):ak GL (n+1) cm [eSpan a,eSpan b] μ=.ok (.bl false) μ:=by
 rw[aj ig,run_eq rfl]
 rcases h with h | ⟨h1,h2,h3⟩
 ·have:¬a.lamp=b.lamp:=by lia
  simp! only[D_have_tick_in_common,rp,this]
 ·have:¬b.start<a.fin:=by lia
  simp! only[D_have_tick_in_common,rp,ux,z7,h1,this]
theorem z8 (hr:kq μ) {L:Int} {lamps:Nat} {ss:List Span} (h:ss.Pairwise Nb) (hg:∀s∈ss,Good L 0 lamps s):ak GL (n+2) eh [.int L,.int lamps,.tup (ss.map eSpan)] μ=.ok (.bl false) μ:=by
 rw[aj md,run_eq rfl]
 obtain⟨σ',el,v3,v4,v5,rfl⟩:=Oc (φ:=ak GL (n+1)) (μ:=μ) (tg:=.many [3,4,5]) (b:=az) (xs:=ss) (en:=eSpan) (σ:=[some (.int L),some (.int lamps),some (.tup (ss.map eSpan)),none,none,none])
  (fun _ σ=>∃v3 v4 v5,σ=[some (.int L),some (.int lamps),some (.tup (ss.map eSpan)),v3,v4,v5]) ⟨none,none,none,rfl⟩ (by
   rintro j s σ hs ⟨v3,v4,v5,rfl⟩
   obtain⟨⟨a1,a2⟩,b,c,d⟩:=hg s (BD hs)
   refine⟨[some (.int L),some (.int lamps),some (.tup (ss.map eSpan)),some (.int s.lamp),some (.int s.start),some (.int s.fin)],?_,_,_,_,rfl⟩
   simp! only[fLp,az,eSpan,a1,a2,b,c,d])
 have hz:rn (.tup (ss.map eSpan)) (.tup ((ss.map eSpan).drop 1)) μ=.ok (((ss.map eSpan).zip ((ss.map eSpan).drop 1)).map fun p=>.tup [p.1,p.2],none) μ:=rfl
 have hc:h7 (ak GL (n+1)) .z (.many [0,1]) .nil de [none,none] ((ss.zip (ss.drop 1)).map fun p:Span×Span=>D.tup [eSpan p.1,eSpan p.2],none) μ=.ok (.lst (((ss.zip (ss.drop 1)).map fun _=>false).map D.bl)) μ:=by
  rw[comp_map (g:=fun _=>D.bl false) fun p hp=>by
   simp! only[ka,de,ar (Ka (n:=n) (μ:=μ) (Bl h p hp)) rfl rfl hr]]
  rw[ko,BA];rfl
 have ha:((ss.zip (ss.drop 1)).map fun _=>false).any id=false:=by
  rw[FU]
  intro x hx
  obtain⟨_,_,rfl⟩:=BI.mp hx
  simp
 simp! only[D_has_span_fault,el,ar (G9 (n:=n) (μ:=μ) h) rfl rfl hr,J8,hz,p5,hc,bt_any bc (gj _),ha]
end
noncomputable def dlt (ss:List Span) (x:Int):Int:=(ss.map fun s=>(if s.start=x then 1 else 0)-(if s.fin=x then 1 else 0)).sum
theorem C4 {L lo hi:Int}:∀(ss:List Span) (x:Int),(∀s∈ss,Good L lo hi s)→dlt ss x=(cov ss x:Int)-(cov ss (x-1):Int)
 | [],x,_=>by simp[dlt,cov]
 | s::r,x,h=>by
  have ih:=C4 r x fun y hy=>h y (AK _ hy)
  have g:=(h s AQ).run
  have e1:(cov (s::r) x:Int)=cov r x+if s.start≤x∧x<s.fin then 1 else 0:=by
   simp only[cov,GA,decide_eq_true_eq];split<;>simp
  have e2:(cov (s::r) (x-1):Int)=cov r (x-1)+if s.start≤x-1∧x-1<s.fin then 1 else 0:=by
   simp only[cov,GA,decide_eq_true_eq];split<;>simp
  have e3:dlt (s::r) x=((if s.start=x then 1 else 0)-(if s.fin=x then 1 else 0))+dlt r x:=by simp[dlt]
  rw[e1,e2,e3,ih]
  clear e1 e2 e3 ih
  split<;>split<;>split<;>split<;>lia
end Lr
namespace Lr
open Lp
open PySem
theorem ya (m:List (Int×Int)) (k v:Int) (h:(m.map (·.1)).Nodup):((Al m k v).map (·.1)).Nodup:=by
 unfold Al
 split
 ·have e:(m.map fun p=>if p.1=k then(p.1,v)else p).map (·.1)=m.map (·.1):=by
   rw[BA]
   refine DL fun p _=>?_
   simp only[Function.comp]
   split<;>rfl
  rw[e];exact h
 ·rename_i hn
  rw[DI,List.nodup_append]
  refine⟨h,by simp,fun a ha b hb z=>hn ?_⟩
  simp only[AT,DN,EH]at hb
  obtain⟨p,hp,rfl⟩:=BI.mp ha
  rw[DP]
  exact⟨p,hp,by simp[z,hb]⟩
theorem C5:∀{m:List (Int×Int)},(m.map (·.1)).Nodup→∀p∈m,dh m p.1=some p.2
 | [],_,p,hp=>by simp at hp
 | q::r,h,p,hp=>by
  simp only[AT,FA]at h
  rw[dh]
  rcases AJ.mp hp with rfl | hp
  ·simp
  ·have:¬q.1=p.1:=fun z=>h.1 (by rw[z];exact BI.mpr ⟨p,hp,rfl⟩)
   rw[if_neg this]
   exact C5 h.2 p hp
theorem yb:∀{m:List (Int×Int)} {k v:Int},dh m k=some v→(k,v)∈m
 | [],_,_,h=>by simp[dh]at h
 | q::r,k,v,h=>by
  rw[dh]at h
  by_cases e:q.1=k
  ·rw[if_pos e]at h
   cases h
   subst e
   exact AQ
  ·rw[if_neg e]at h
   exact AK _ (yb h)
theorem ou {L lo hi x:Int}:∀{ss:List Span},(∀s∈ss,Good L lo hi s)→(x<0∨L≤x)→cov ss x=0:=fun {ss} h hx=>by
 unfold cov
 rw[List.countP_eq_zero]
 intro s hs
 obtain⟨_,b,c,d⟩:=h s hs
 simp only[decide_eq_true_eq]
 lia
theorem Rt {L lo hi c:Int} {ss:List Span} (h:∀s∈ss,Good L lo hi s) (hL:0<L) (hc:∀t,0≤t→t<L→(cov ss t:Int)=c) (x:Int):dlt ss x=if x=0 then c else if x=L then -c else 0:=by
 rw[C4 ss x h]
 by_cases h0:x=0
 ·subst h0
  rw[if_pos rfl,hc 0 (by lia) hL,ou h (.inl (by lia))];simp
 ·rw[if_neg h0]
  by_cases h1:x=L
  ·subst h1
   rw[if_pos rfl,ou h (.inr (Int.le_refl _)),hc (x-1) (by lia) (by lia)];simp
  ·rw[if_neg h1]
   by_cases h2:x<0
   ·rw[ou h (.inl h2),ou h (.inl (by lia))];simp
   ·by_cases h3:L<x
    ·rw[ou h (.inr (by lia)),ou h (.inr (by lia))];simp
    ·rw[hc x (by lia) (by lia),hc (x-1) (by lia) (by lia)];simp
section
variable {n : Nat} {μ ρ : Sto} {φ : Phi} {σ : Sl}
theorem C6 {L lo hi w:Int} {ss:List Span} (h:∀s∈ss,Good L lo hi s) (hL:0<L) (hn:ss.length≤1000) :
  ∃(m:List (Int×Int)) (ρ:Sto),(m.map (·.1)).Nodup∧(dh m 0).isSome=true∧(∀x,(dh m x).getD 0=(if x=L then w else if x=0 then -w else 0)+dlt ss x) ∧
   ak GL (n+1) cv [.int L,.int w,.tup (ss.map eSpan)] μ=.ok (.bl ((m.map fun p=>!decide (p.2=0)).any id)) (μ++ρ):=by
 rw[aj rm,run_eq rfl]
 have d0:K7 false [.int 0,.int (-w),.int L,.int w] μ=.ok (.loc μ.length) (μ++[.d (encM (Al [(0,-w)] L w))]):=by
  have:=C1 [(0,-w)] L w
  simp only[K7,xq,and_self,if_true]
  rw[←this];rfl
 obtain⟨σ',μ',el,m,⟨v4,v5,v6,rfl⟩,rfl,hm,hk,hs0,hv⟩:=mv (φ:=ak GL n) (μ:=μ++[.d (encM (Al [(0,-w)] L w))]) (tg:=.many [4,5,6]) (b:=gh) (xs:=ss) (en:=eSpan)
  (σ:=[some (.int L),some (.int w),some (.tup (ss.map eSpan)),some (.loc μ.length),none,none,none])
  (fun j σ μ'=>∃m,(∃v4 v5 v6,σ=[some (.int L),some (.int w),some (.tup (ss.map eSpan)),some (.loc μ.length),v4,v5,v6])∧μ'=μ++[.d (encM m)]∧m.length≤2+2*j∧(m.map (·.1)).Nodup∧(dh m 0).isSome=true ∧
   ∀x,(dh m x).getD 0=(if x=L then w else if x=0 then -w else 0)+dlt (ss.take j) x)
  ⟨Al [(0,-w)] L w,⟨none,none,none,rfl⟩,rfl,by have:=se [(0,-w)] L w;simpa using this,ya _ _ _ (by simp),by
   rw[l8,if_neg (by lia)];simp[dh],fun x=>by
   rw[l8]
   by_cases hx:x=L
   ·simp[hx,dlt]
   ·by_cases h0:x=0
    ·subst h0;simp[hx,dh,dlt]
    ·have:¬(0:Int)=x:=fun z=>h0 z.symm
     simp[hx,h0,dh,dlt,this]⟩ (by
   rintro j s σ μ' hs ⟨m,⟨v4,v5,v6,rfl⟩,rfl,hm,hk,hs0,hv⟩
   have hj:j<ss.length:=(AL.mp hs).1
   have g:=(h s (BD hs)).run
   generalize e1:Al m s.start ((dh m s.start).getD 0+1)=m1
   have l1:m1.length≤m.length+1:=by rw[←e1];exact se _ _ _
   generalize e2:Al m1 s.fin ((dh m1 s.fin).getD 0-1)=m2
   have l2:m2.length≤m1.length+1:=by rw[←e2];exact se _ _ _
   refine⟨[some (.int L),some (.int w),some (.tup (ss.map eSpan)),some (.loc μ.length),some (.int s.lamp),some (.int s.start),some (.int s.fin)],μ++[.d (encM m2)],?_,m2,⟨_,_,_,rfl⟩,rfl,by lia,?_,?_,fun x=>?_⟩
   ·simp! only[fLp,gh,eSpan,G8,x9,set_dict (show m.length<1000000 by lia),e1,set_dict (show m1.length<1000000 by lia),e2]
   ·rw[←e2];refine ya _ _ _ ?_
    rw[←e1];exact ya _ _ _ hk
   ·rw[←e2,l8]
    split
    ·rfl
    ·rw[←e1,l8]
     split
     ·rfl
     ·exact hs0
   ·have et:dlt (ss.take (j+1)) x=dlt (ss.take j) x+((if s.start=x then 1 else 0)-(if s.fin=x then 1 else 0)):=by
     rw[DG,hs]
     simp[dlt,GI]
    have q:∀y,(dh m1 y).getD 0=(dh m y).getD 0+if s.start=y then 1 else 0:=fun y=>by
     rw[←e1,l8]
     by_cases hy:y=s.start
     ·subst hy;simp
     ·have:¬s.start=y:=fun z=>hy z.symm
      simp[hy,this]
    have q2:(dh m2 x).getD 0=(dh m1 x).getD 0-if s.fin=x then 1 else 0:=by
     rw[←e2,l8]
     by_cases hy:x=s.fin
     ·subst hy;simp
     ·have:¬s.fin=x:=fun z=>hy z.symm
      simp[hy,this]
    rw[q2,q,hv x,et]
    lia)
 rw[BY (AH _)]at hv
 have kv:kVals (.loc μ.length) (μ++[.d (encM m)])=.ok (m.map (fun p=>D.int p.2),none) (μ++[.dead]):=by
  simp only[kVals,jz,pj,encM,BA];rfl
 have hcmp:h7 (ak GL n) .z (.one 0) .nil gi [none] (m.map (fun p=>D.int p.2),none) (μ++[.dead])=.ok (.lst ((m.map fun p=>!decide (p.2=0)).map D.bl)) (μ++[.dead]):=by
  rw[comp_map (en:=fun p:Int×Int=>D.int p.2) (g:=fun p=>D.bl (!decide (p.2=0))) fun p _=>by simp! only[ka,gi]]
  rw[ko,BA];rfl
 refine⟨m,[.dead],hk,hs0,hv,?_⟩
 simp! only[D_has_dark_fault,d0,el,kv,hcmp,bt_any bc (gj _)]
theorem Ol {L lo hi c w:Int} {ss:List Span} (h:∀s∈ss,Good L lo hi s) (hL:0<L) (hc:∀t,0≤t→t<L→(cov ss t:Int)=c) (hn:ss.length≤1000) :
  ∃ρ,ak GL (n+1) cv [.int L,.int w,.tup (ss.map eSpan)] μ=.ok (.bl (!decide (w=c))) (μ++ρ):=by
 obtain⟨m,ρ,hk,hs0,hv,ed⟩:=C6 (n:=n) (μ:=μ) (w:=w) h hL hn
 have hd:=Rt h hL hc
 have hany:(m.map fun p=>!decide (p.2=0)).any id=!decide (w=c):=by
  by_cases e:w=c
  ·have:∀p∈m,p.2=0:=fun p hp=>by
    have a:=C5 hk p hp
    have b:=hv p.1
    rw[a,hd]at b
    simp only[FZ]at b
    rw[b]
    split<;>split<;>(try split)<;>lia
   simp only[e,decide_true,Bool.not_true]
   rw[FU]
   intro x hx
   obtain⟨p,hp,rfl⟩:=BI.mp hx
   simp[this p hp]
  ·simp only[e,decide_false,Bool.not_false]
   rw[DP]
   obtain⟨v,hv0⟩:=DX.mp hs0
   have b:=hv 0
   rw[hv0,hd]at b
   simp only[FZ,if_true]at b
   rw[if_neg (by lia)]at b
   refine⟨true,BI.mpr ⟨(0,v),yb hv0,?_⟩,rfl⟩
   have:¬v=0:=by lia
   simp[this]
 exact⟨ρ,by rw[ed,hany]⟩
end
end Lr
namespace Lr
open Lp
open PySem
theorem C7 {N k a:Nat} (h:(List.range N)[k]? = some a):a=k∧k<N:=by
 obtain⟨h1,h2⟩:=AL.mp h
 simp at h1 h2
 lia
section
variable {n : Nat} {μ ρ : Sto} {φ : Phi}
theorem z9 {f:Nat} {ds:List D} {d:D} {μ':Sto} (h:φ f ds μ=.ok d (μ'++ρ)) (hl:μ'.length=μ.length) (hd:d.pure=true) (hr:kq μ'):uv φ false f ds μ=.ok d μ':=by
 rw[uv,h]
 have e:(μ'++ρ).take μ.length=μ':=by rw[←hl];simp
 have hr':μ'.all (ik μ.length)=true:=by rw[←hl];exact hr
 simp only[rh,AR,if_false,e,k6 _ 8 d hd,hr',and_self,if_true]
noncomputable def Om (s:Span):List Int:=[s.lamp,s.start,s.fin]
noncomputable def unS (r:List Int):Span:=⟨r.getD 0 0,r.getD 1 0,r.getD 2 0⟩
theorem vm:∀ss:List Span,rowsOf (ss.map eSpan)=some (ss.map Om)
 | []=>rfl
 | s::r=>by simp[eSpan,rowsOf,gc,vm r,Om]
end
end Lr
namespace Lr
open Lp
open PySem
section
variable {n : Nat} {μ ρ : Sto} {φ : Phi}
theorem Vk {cs:List Int}:kq [Lf cs]:=rfl
end
end Lr
namespace Lr
open Lp
open PySem
structure Tn where
 taken:Int
 bought:Int
 poured:List Int
 spans:List Span
noncomputable def eTn (t:Tn):D:=.tup [.int t.taken,.int t.bought,.tup (t.poured.map D.int),.tup (t.spans.map eSpan)]
theorem Ha {k:Nat} (t:Tn):D.pureN (k+3) (eTn t)=true:=by
 rw[eTn,ft]
 simp only[BC,gz,HW,ft,EI,GD,AZ]
 constructor
 ·rw[AO];intro x hx;obtain⟨i,_,rfl⟩:=BI.mp hx;exact gz
 ·rw[AO];intro x hx;obtain⟨i,_,rfl⟩:=BI.mp hx
  exact mw i
section
variable {n : Nat} {μ ρ : Sto} {φ : Phi}
theorem Aa {S:Type} {f:D→Sto→Res (List D)} {enS:S→Sto}:∀{ds:List D},(∀d∈ds,∀s,∃v s',f d (enS s)=.ok [D.int v] (enS s'))→∀s,∃(vs:List Int) (s':S),vs.length=ds.length∧mapR none f ds (enS s)=.ok (vs.map D.int) (enS s')
 | [],_,s=>⟨[],s,rfl,by simp[mapR]⟩
 | d::ds,h,s=>by
  obtain⟨v,s1,e1⟩:=h d AQ s
  obtain⟨vs,s2,hl,e2⟩:=Aa (ds:=ds) (fun x hx=>h x (AK _ hx)) s1
  refine⟨v::vs,s2,by simp[hl],?_⟩
  simp only[mapR,sj,if_true,e1,Res.bw,e2]
  rfl
theorem Hb {S α:Type} {m:Mk} {tg:Tg} {cs:Exs} {elt:Ex} {σ0:Sl} {en:α→D} {enS:S→Sto} {xs:List α} (h:∀a∈xs,∀s,∃v s',ka φ tg cs elt σ0 (en a) (enS s)=.ok [D.int v] (enS s')) (s:S) :
  ∃(vs:List Int) (s':S),vs.length=xs.length∧h7 φ m tg cs elt σ0 (xs.map en,none) (enS s)=mkL m (vs.map D.int) (enS s'):=by
 obtain⟨vs,s',hl,e⟩:=Aa (f:=ka φ tg cs elt σ0) (enS:=enS) (ds:=xs.map en) (fun d hd s=>by obtain⟨a,ha,rfl⟩:=BI.mp hd;exact h a ha s) s
 refine⟨vs,s',by simpa using hl,?_⟩
 rw[h7]
 show(mapR none _ (xs.map en) (enS s)).bind _=_
 rw[e];rfl
theorem Ru (h:ρ.all noR=true) (xs:List D):(ρ++[O.l xs]).all noR=true:=by rw[List.all_append,h];rfl
theorem Rv {xs:List D} {k:Nat} (h:k<xs.length):ixN xs.length (k:Int)=some k:=by simp[ixN,h]
theorem ui {x:D} {ns:List Int} {k:Nat} (h:fg μ x=some (ns.map D.int)) (hk:k<ns.length):ixD x (.int k) μ=.ok (.int (ns.getD k 0)) μ:=by
 refine Lq h ?_
 rw[BS,AC hk]
 simp[hk]
theorem mk3 {cs:List Int} {ds rs xs:List D} (h:xs.all (D.pureN 8)=true):mkL .l xs (Lf cs::.l ds::.l rs::ρ)=.ok (.loc (ρ.length+3)) (Lf cs::.l ds::.l rs::(ρ++[.l xs])):=by
 rw[J9 h];rfl
theorem Bm (xs:List Int):(xs.map D.int).all (D.pureN 8)=true:=by
 rw[AO];intro x hx;obtain⟨i,_,rfl⟩:=BI.mp hx;rfl
end
end Lr
namespace Lr
open Lp
open PySem
section
variable {n : Nat} {μ ρ : Sto} {φ : Phi}
theorem Lw {t:Tn}:ixD (eTn t) (.int 1) μ=.ok (.int t.bought) μ:=rfl
theorem Lx {t:Tn}:ixD (eTn t) (.int 3) μ=.ok (.tup (t.spans.map eSpan)) μ:=rfl
theorem Ab {α β:Type} {f:α→D} {g:β→D}:∀(xs:List α) (ys:List β),((xs.map f).zip (ys.map g)).map (fun p=>D.tup [p.1,p.2])=(xs.zip ys).map fun p=>D.tup [f p.1,g p.2]
 | [],_=>by simp
 | _::_,[]=>by simp
 | x::xs,y::ys=>by simp[Ab xs ys]
theorem uj {α β:Type} {f:α→D} {g:β→D} {xs:List α} {ys:List β}:rn (.tup (xs.map f)) (.tup (ys.map g)) μ=.ok ((xs.zip ys).map (fun p=>D.tup [f p.1,g p.2]),none) μ:=by
 simp only[rn,dy,fg,Ab]
noncomputable def Ej (rs:List Tn) (ds:List Day):Int:=((rs.zip ds).map fun p=>p.1.bought*p.2.price).sum
theorem Oo (b:Book) (rs:List Tn) (hd:∀d∈b.days,0≤d.price∧d.price≤10 ^ 15):ak GL (n+1) Ct [cf b,.tup (rs.map eTn)] μ=.ok (.int (Ej rs b.days)) μ:=by
 rw[aj Ri,run_eq rfl]
 have c:=comp_map (m:=.z) (μ:=μ) (φ:=ak GL n) (tg:=.many [0,1]) (cs:=.nil) (elt:=ud) (σ0:=[none,none]) (xs:=rs.zip b.days) (en:=fun p=>D.tup [eTn p.1,Cw p.2]) (g:=fun p=>D.int (p.1.bought*p.2.price)) (by
  rintro⟨t,d⟩ hp
  have o:=hd d (FB hp).2
  have hm:CMul t.bought d.price:=.right (by lia) (by lia)
  simp! only[ka,ud,oq,Lw,Ro,op_mul hm])
 have e:(rs.zip b.days).map (fun p=>D.int (p.1.bought*p.2.price))=((rs.zip b.days).map fun p=>p.1.bought*p.2.price).map D.int:=by rw[BA];rfl
 rw[e]at c
 simp! only[D_cost,gm,uj,c,bt_sum bc (ij _),Ej]
theorem Ze {xs ys:List D} (hy:ys.all D.pure=true) (hl:xs.length+ys.length≤1000000):mtD .extendT (.loc μ.length) [.tup ys] (μ++[.l xs])=.ok .non (μ++[.l (xs++ys)]):=by
 have:=vy
 have hf:ys.all (fits (.l xs))=true:=hy
 simp only[mtD,Aw,jz,ma,mtL,j5,hf,putL,pj]
 rw[if_pos ⟨trivial,by lia⟩]
theorem Oq {es:Exs} {σ:Sl} {ds:List D}:kM φ .extendT es σ (.loc μ.length) (μ++[.l ds])=(i7 φ es σ (μ++[.l ds])).bind (mtD .extendT (.loc μ.length)):=G6 fun _ _=>rfl
noncomputable def oy (rs:List Tn):List Span:=rs.flatMap (·.spans)
theorem yc:∀rs:List Tn,(∀t∈rs,t.spans.length≤16)→(oy rs).length≤16*rs.length
 | [],_=>by simp[oy]
 | t::r,h=>by
  have ih:=yc r fun x hx=>h x (AK _ hx)
  have:=h t AQ
  simp only[oy,List.flatMap_cons,CG,BJ]at ih ⊢
  lia
theorem Ac (rs:List Tn) (t:Tn):oy (rs++[t])=oy rs++t.spans:=by simp[oy]
theorem Ek (ss:List Span):(ss.map eSpan).all D.pure=true:=by
 rw[AO];intro x hx;obtain⟨i,_,rfl⟩:=BI.mp hx;exact mw i
theorem Kb (hr:kq μ) (b:Book) (rs:List Tn) (hl:b.lamps.length≤8) (h16:rs.length≤16) (hf:∀t∈rs,t.spans.length≤16):∃ρ,ak GL (n+2) pf [cf b,.tup (rs.map eTn)] μ=.ok (cw ((List.range b.lamps.length).map fun(k:Nat)=>bf (oy rs) k)) (μ++ρ):=by
 rw[aj Gz,run_eq rfl]
 have hall:=yc rs hf
 obtain⟨σ',μ',e,v3,v4,v5,v6,rfl,rfl⟩:=mv (φ:=ak GL (n+1)) (μ:=μ++[.l []]) (tg:=.many [3,4,5,6]) (b:=mq) (xs:=rs) (en:=eTn)
  (σ:=[some (cf b),some (.tup (rs.map eTn)),some (.loc μ.length),none,none,none,none])
  (fun j σ μ'=>∃v3 v4 v5 v6,σ=[some (cf b),some (.tup (rs.map eTn)),some (.loc μ.length),v3,v4,v5,v6]∧μ'=μ++[.l ((oy (rs.take j)).map eSpan)])
  ⟨none,none,none,none,rfl,rfl⟩ (by
   rintro j t σ μ' ht ⟨v3,v4,v5,v6,rfl,rfl⟩
   have hj:j<rs.length:=(AL.mp ht).1
   have e1:oy (rs.take (j+1))=oy (rs.take j)++t.spans:=by
    rw[DG,ht]
    exact Ac _ _
   have l1:=yc (rs.take j) fun x hx=>hf x (List.mem_of_mem_take hx)
   have l2:=hf t (BD ht)
   have l3:(rs.take j).length≤16:=by rw[EU];lia
   have ex:=Ze (μ:=μ) (xs:=(oy (rs.take j)).map eSpan) (ys:=t.spans.map eSpan) (Ek _) (by rw[AG,AG];lia)
   have bt:∀σ:Sl,gk (.many [3,4,5,6]) (eTn t) σ=some ((((σ.set 3 (some (.int t.taken))).set 4 (some (.int t.bought))).set 5 (some (.tup (t.poured.map D.int)))).set 6 (some (.tup (t.spans.map eSpan)))):=fun σ=>rfl
   refine⟨_,_,?_,some (.int t.taken),some (.int t.bought),some (.tup (t.poured.map D.int)),some (.tup (t.spans.map eSpan)),rfl,rfl⟩
   rw[e1,DI]
   simp! only[fLp,mq,bt,Oq,ex])
 rw[BY (AH _)]at e
 have e0:mkL .l [] μ=.ok (.loc μ.length) (μ++[.l []]):=J9 rfl
 have fz:evE (ak GL (n+1)) (.frz 2) [some (cf b),some (.tup (rs.map eTn)),some (.loc μ.length),v3,v4,v5,v6] (μ++[.l ((oy rs).map eSpan)])=.ok (.lst ((oy rs).map eSpan)) (μ++[.dead]):=by simp[evE]
 have hrd:kq (μ++[.dead]):=by
  unfold kq at hr ⊢
  rw[AO]at hr ⊢
  intro o ho
  rcases DH.mp ho with h | h
  ·have:=hr o h
   cases o with
   | r ds =>
    simp only[ik,AO]at this ⊢
    exact fun x hx=>pk (by simp) 8 x (this x hx)
   | _=>rfl
  ·rw[EH.mp h];rfl
 obtain⟨ρ1,et⟩:=uh (n:=n) (μ:=μ++[.dead]) (.lst ((oy rs).map eSpan)) b.lamps.length (oy rs) (fun _=>rfl) (by lia) (by lia)
 have kt:=fu et (fj _) hrd
 have ln:btD .len .z [.tup (b.lamps.map g6)] (μ++[.l ((oy rs).map eSpan)])=.ok (.int b.lamps.length) (μ++[.l ((oy rs).map eSpan)]):=by rw[bt_len dk,AG]
 refine⟨[.dead],?_⟩
 simp! only[D_burnt_3,e0,e,ph,ln,fz,kt]
noncomputable def TK (L:Nat) (ss:List Span):List Int:=(List.range L).map fun(k:Nat)=>bf ss k
theorem Hc (L:Nat) (ss:List Span):(TK L ss).length=L:=by simp[TK]
theorem Vl (L:Nat) (ss:List Span) {k:Nat} (h:k<L):(TK L ss).getD k 0=bf ss k:=by simp[TK,h]
theorem nr (ss:List Span) (s:Span) (k:Int):bf (ss++[s]) k=bf ss k+if s.lamp=k then s.fin-s.start else 0:=by simp[bf,GI]
theorem Ot (L:Nat) (ss:List Span) (s:Span) {K:Nat} (hK:(K:Int)=s.lamp) (hL:K<L):(TK L ss).set K ((TK L ss).getD K 0+s.fin-s.start)=TK L (ss++[s]):=by
 rw[Vl L ss hL]
 apply BU
 intro i
 by_cases hi:i<L
 ·by_cases h:K=i
  ·subst h
   simp[TK,hL,nr,hK]
   lia
  ·have h2:¬s.lamp=(i:Int):=by lia
   rw[CC h]
   simp[TK,hi,nr,h2]
 ·have l1:=Hc L (ss++[s])
  rw[AV (by rw[List.length_set,Hc];lia),AV (by lia)]
end
end Lr
namespace Lr
open Lp
open PySem
noncomputable def j0 (st:Int) (L:Nat) (H:Int×List Int) (t:Tn):Int×List Int:=(min (H.1+t.taken+t.bought-t.poured.sum) st,(List.range L).map fun(k:Nat)=>H.2.getD k 0+t.poured.getD k 0-bf t.spans k)
structure DayS (L:Nat) (mst:List Int) (aw:List (List Int)) (i:Nat) (H:Int×List Int) (t:Tn) (d:Day):Prop where
 tk:0≤t.taken∧t.taken≤d.boat
 bt:0≤t.bought∧t.bought≤d.most
 pl:t.poured.length=L
 p0:∀x∈t.poured,0≤x
 ps:t.poured.sum≤H.1+t.taken+t.bought
 tank:∀k:Nat,k<L→H.2.getD k 0+t.poured.getD k 0≤mst.getD k 0
 len:1≤d.length
 good:∀s∈t.spans,Good d.length 0 L s∧(i:Int)∉aw.getD s.lamp.toNat []
 nb:t.spans.Pairwise Nb
 few:t.spans.length≤16
 cov:∀x,0≤x→x<d.length→(cov t.spans x:Int)=d.wanted
 oil:∀k:Nat,k<L→bf t.spans k≤H.2.getD k 0+t.poured.getD k 0
 price:0≤d.price∧d.price≤10 ^ 15
theorem Hd {L:Nat} {f:Nat→Int} {k:Nat} (h:k<L):((List.range L).map f).getD k 0=f k:=by simp[h]
section
variable {n : Nat} {μ ρ : Sto} {φ : Phi}
theorem Ad {tg:Tg} {cs:Exs} {elt:Ex} {σ0:Sl} {L:Nat} {f:Nat→Int} (h:∀k,k<L→ka φ tg cs elt σ0 (.int k) μ=.ok [D.int (f k)] μ) :
  h7 φ .z tg cs elt σ0 ((List.range L).map (fun(k:Nat)=>D.int k),none) μ=.ok (.lst (((List.range L).map f).map D.int)) μ:=by
 rw[comp_map (en:=fun(k:Nat)=>D.int k) (g:=fun k=>D.int (f k)) fun a ha=>h a (by simpa using ha),ko,BA];rfl
end
end Lr
namespace Lr
open Lp
open PySem
noncomputable def held (b:Book) (rs:List Tn) (i:Nat):Int×List Int:=(rs.take i).foldl (j0 b.store b.lamps.length) (b.oil,b.lamps.map (·.oil))
noncomputable abbrev Zf (b:Book) (i:Nat) (H:Int×List Int) (t:Tn) (d:Day):Prop:=DayS b.lamps.length (b.lamps.map (·.tank)) (b.lamps.map (·.away)) i H t d
structure Kept (b:Book) (rs:List Tn):Prop where
 lamps:1≤b.lamps.length∧b.lamps.length≤8
 same:rs.length=b.days.length
 some:1≤rs.length
 few:rs.length≤16
 day:∀(i:Nat) t d,rs[i]? = Option.some t→b.days[i]? = Option.some d→Zf b i (held b rs i) t d
theorem Kc {st oil:Int} {L:Nat} {fi:List Int} (h:fi.length=L) (rs:List Tn):(rs.foldl (j0 st L) (oil,fi)).2.length=L:=by
 have gen:∀(rs:List Tn) (H:Int×List Int),H.2.length=L→(rs.foldl (j0 st L) H).2.length=L:=by
  intro rs
  induction rs with
  | nil=>intro H h;exact h
  | cons t r ih=>intro H _;exact ih _ (by simp[j0])
 exact gen rs _ h
end Lr
namespace Lr
open Lp
open PySem
noncomputable def c6 (H:Int×List Int):D:=.tup [.int H.1,cw H.2]
theorem mx {k:Nat} (H:Int×List Int):D.pureN (k+2) (c6 H)=true:=by
 rw[c6,ft]
 simp only[BC,gz,fj,EI,HR]
theorem Bn {L:Nat} {a c:List Int} {f:Int×Int→Int} (ha:a.length=L) (hc:c.length=L):(a.zip c).map f=(List.range L).map fun(k:Nat)=>f (a.getD k 0,c.getD k 0):=by
 apply BU
 intro i
 by_cases hi:i<L
 ·have hz:(a.zip c)[i]? = some (a.getD i 0,c.getD i 0):=by
   rw[CD]
   exact⟨by simp[show i<a.length by lia],by simp[show i<c.length by lia]⟩
  simp[hz,hi]
 ·rw[AV (by simp;lia),AV (by simp;lia)]
section
variable {n : Nat} {μ ρ : Sto} {φ : Phi}
theorem Kd (b:Book):ak GL (n+1) gp [cf b] μ=.ok (c6 (b.oil,b.lamps.map (·.oil))) μ:=by
 rw[aj ue,run_eq rfl]
 have c:=comp_map (m:=.z) (μ:=μ) (φ:=ak GL n) (tg:=.many [0,1,2]) (cs:=.nil) (elt:=gs) (σ0:=[none,none,none]) (xs:=b.lamps) (en:=g6) (g:=fun l=>D.int l.oil) (by
  intro l _
  have bt:gk (.many [0,1,2]) (g6 l) [none,none,none]=some [some (.int l.tank),some (.int l.oil),some (cw l.away)]:=rfl
  simp! only[ka,bt,gs])
 have e:b.lamps.map (fun l=>D.int l.oil)=(b.lamps.map (·.oil)).map D.int:=by rw[BA];rfl
 rw[e]at c
 have i1:ixD (cf b) (.int 1) μ=.ok (.int b.oil) μ:=rfl
 simp! only[D_held_at_first,i1,ph,c,bt_tuple bc,c6,cw]
theorem Ae (a c:List Int):ak GL (n+1) pe [cw a,cw c] μ=.ok (cw ((a.zip c).map fun p=>p.1+p.2)) μ:=by
 rw[aj Jz,run_eq rfl]
 have cc:=comp_map (m:=.z) (μ:=μ) (φ:=ak GL n) (tg:=.many [0,1]) (cs:=.nil) (elt:=oo) (σ0:=[none,none]) (xs:=a.zip c) (en:=fun p=>D.tup [.int p.1,.int p.2]) (g:=fun p=>D.int (p.1+p.2)) (by
  rintro⟨x,y⟩ _
  simp! only[ka,oo,oq])
 have e:(a.zip c).map (fun p=>D.int (p.1+p.2))=((a.zip c).map fun p=>p.1+p.2).map D.int:=by rw[BA];rfl
 rw[e]at cc
 have kz:rn (cw a) (cw c) μ=.ok ((a.zip c).map (fun p=>D.tup [.int p.1,.int p.2]),none) μ:=uj (f:=D.int) (g:=D.int)
 simp! only[D_filled,kz,cc,bt_tuple bc]
 rfl
theorem jm {i j:Nat} {H:Int×List Int} {σ:Sl}:gk (.many [i,j]) (c6 H) σ=some ((σ.set i (some (.int H.1))).set j (some (cw H.2))):=rfl
theorem f6 {i j k l:Nat} {t:Tn} {σ:Sl}:gk (.many [i,j,k,l]) (eTn t) σ=some ((((σ.set i (some (.int t.taken))).set j (some (.int t.bought))).set k (some (cw t.poured))).set l (some (.tup (t.spans.map eSpan)))):=rfl
theorem bq {i j k l m:Nat} {d:Day} {σ:Sl}:gk (.many [i,j,k,l,m]) (Cw d) σ=some (((((σ.set i (some (.int d.boat))).set j (some (.int d.most))).set k (some (.int d.price))).set l (some (.int d.length))).set m (some (.int d.wanted))):=rfl
theorem sum_ints (xs:List Int):btD .sum .z [cw xs] μ=.ok (.int xs.sum) μ:=bt_sum dk (ij _)
theorem C8 (xs:List Int):btD .len .z [cw xs] μ=.ok (.int xs.length) μ:=by rw[cw,bt_len dk,AG]
theorem He (hr:kq μ) (b:Book) {H:Int×List Int} {t:Tn} (hH:H.2.length=b.lamps.length) (hp:t.poured.length=b.lamps.length) (hL:b.lamps.length≤8) (hs:t.spans.length≤1000):ak GL (n+2) i8 [cf b,c6 H,eTn t] μ=.ok (c6 (j0 b.store b.lamps.length H t)) μ:=by
 rw[aj xm,run_eq rfl]
 obtain⟨ρ1,et⟩:=vk (n:=n) (μ:=μ) b.lamps.length t.spans (by lia) (by lia)
 have kt:=fu et (fj _) hr
 have kf:=ar (Ae (n:=n) (μ:=μ) H.2 t.poured) (fj _) rfl hr
 rw[Bn hH hp]at kf
 have cc:=comp_map (m:=.z) (μ:=μ) (φ:=ak GL (n+1)) (tg:=.many [0,1]) (cs:=.nil) (elt:=ir) (σ0:=[none,none]) (xs:=((List.range b.lamps.length).map fun(k:Nat)=>H.2.getD k 0+t.poured.getD k 0).zip ((List.range b.lamps.length).map fun(k:Nat)=>bf t.spans k)) (en:=fun p=>D.tup [.int p.1,.int p.2]) (g:=fun p=>D.int (p.1-p.2)) (by
  rintro⟨x,y⟩ _
  simp! only[ka,ir,oq])
 have e:(((List.range b.lamps.length).map fun(k:Nat)=>H.2.getD k 0+t.poured.getD k 0).zip ((List.range b.lamps.length).map fun(k:Nat)=>bf t.spans k)).map (fun p=>D.int (p.1-p.2))=(j0 b.store b.lamps.length H t).2.map D.int:=by
  rw[show(fun p:Int×Int=>D.int (p.1-p.2))=D.int∘(fun p:Int×Int=>p.1-p.2)from rfl,←BA,Bn (L:=b.lamps.length) (by simp) (by simp)]
  congr 1
  refine DL fun k hk=>?_
  have hk:k<b.lamps.length:=by simpa using hk
  show((List.range b.lamps.length).map fun(k:Nat)=>H.2.getD k 0+t.poured.getD k 0).getD k 0-((List.range b.lamps.length).map fun(k:Nat)=>bf t.spans k).getD k 0=_
  rw[Hd hk,Hd hk]
 rw[e]at cc
 have kz:rn (cw ((List.range b.lamps.length).map fun(k:Nat)=>H.2.getD k 0+t.poured.getD k 0)) (cw ((List.range b.lamps.length).map fun(k:Nat)=>bf t.spans k)) μ=.ok (_,none) μ:=uj (f:=D.int) (g:=D.int)
 have i0:ixD (cf b) (.int 0) μ=.ok (.int b.store) μ:=rfl
 have ln:btD .len .z [cw H.2] μ=.ok (.int b.lamps.length) μ:=by rw[C8,hH]
 simp! only[D_held_behind,jm,f6,sum_ints,ln,kt,kf,kz,cc,bt_tuple bc,i0]
 rfl
theorem Af (b:Book) (rs:List Tn) {i:Nat} {t:Tn} (ht:rs[i]? = some t):held b rs (i+1)=j0 b.store b.lamps.length (held b rs i) t:=by
 unfold held
 rw[DG,ht,List.foldl_append]
 rfl
theorem Bo (b:Book) (rs:List Tn) (i:Nat):(held b rs i).2.length=b.lamps.length:=Kc (by simp) _
noncomputable def evs (b:Book) (rs:List Tn):List (Int×List Int):=(List.range rs.length).map fun i=>held b rs (i+1)
end
end Lr
namespace Lr
open Lp
open PySem
noncomputable def k7 (L:Int) (lamps:Nat) (ss:List Span):Prop:=(∀s∈ss,Good L 0 lamps s)∧ss.Pairwise Nb
theorem Ke {a b c:Span} (hb:b.start<b.fin) (h1:Nb a b) (h2:Nb b c):Nb a c:=by
 unfold Nb at *;omega
theorem Hf:∀{ss:List Span},(∀s∈ss,s.start<s.fin)→(∀p∈ss.zip (ss.drop 1),Nb p.1 p.2)→ss.Pairwise Nb
 | [],_,_=>.nil
 | [a],_,_=>by simp
 | a::b::r,h,g=>by
  have ih:=Hf (ss:=b::r) (fun s hs=>h s (AK _ hs)) (fun p hp=>g p (AK _ hp))
  have g0:Nb a b:=g (a,b) AQ
  refine BR.mpr ⟨fun x hx=>?_,ih⟩
  rcases AJ.mp hx with rfl | hx
  ·exact g0
  ·exact Ke (h b (by simp)) g0 ((BR.mp ih).1 x hx)
theorem Xe {a b:Span}:lexLt [a.lamp,a.start,a.fin] [b.lamp,b.start,b.fin]=true↔(a.lamp<b.lamp∨(a.lamp=b.lamp∧(a.start<b.start∨(a.start=b.start∧a.fin<b.fin)))):=by
 simp only[Lp.lexLt]
 split
 ·rename_i h;simp only[h]
  split
  ·rename_i h;simp only[h]
   split
   ·rename_i h;simp[h]
   ·simp
  ·simp;omega
 ·simp;omega
noncomputable def Ag (a b:Span):Prop:=lexLt [a.lamp,a.start,a.fin] [b.lamp,b.start,b.fin]=false∨(a.lamp=b.lamp∧a.start<b.fin∧b.start<a.fin)
theorem Ah {a b:Span} (ha:a.start<a.fin) (hb:b.start<b.fin):Ag a b↔¬Nb a b:=by
 unfold Ag Nb
 rw[←Bool.not_eq_true,Xe]
 omega
theorem k8 {α:Type} {φ:Phi} {μ:Sto} {tg:Tg} {b:Sms} {en:α→D} {v:D} (I:Sl→Prop) (P:α→Prop):∀{xs:List α} {σ:Sl},I σ→(∀a∈xs,∀σ,I σ→(¬P a→∃σ',fLp φ tg b (en a) σ μ=.ok (.nx σ') μ∧I σ')∧(P a→fLp φ tg b (en a) σ μ=.ok (.rt v) μ)) →
  ((∀a∈xs,¬P a)→∃σ',qm φ tg b σ (xs.map en,none) μ=.ok (.nx σ') μ∧I σ')∧((¬∀a∈xs,¬P a)→qm φ tg b σ (xs.map en,none) μ=.ok (.rt v) μ)
 | [],σ,h,_=>⟨fun _=>⟨σ,by simp[qm,jt],h⟩,fun e=>by simp at e⟩
 | a::r,σ,h,st=>by
  have s:=st a AQ σ h
  have kl:∀σ,qm φ tg b σ ((a::r).map en,none) μ=(fLp φ tg b (en a) σ μ).bind fun fl μ1=>match fl with
   | .nx σ1=>qm φ tg b σ1 (r.map en,none) μ1
   | .ct σ1=>qm φ tg b σ1 (r.map en,none) μ1
   | .bk σ1=>.ok (.nx σ1) μ1
   | .rt v=>.ok (.rt v) μ1:=fun σ=>by
    simp only[qm,AT,jt]
    rw[if_pos (show gd none μ from trivial)]
    all_goals congr 1
  by_cases p:P a
  ·exact⟨fun q=>absurd p (q a AQ),fun _=>by rw[kl,s.2 p];rfl⟩
  ·obtain⟨σ1,e1,i1⟩:=s.1 p
   have ih:=k8 I P (xs:=r) (σ:=σ1) i1 fun x hx=>st x (AK _ hx)
   refine⟨fun q=>?_,fun q=>?_⟩
   ·rw[kl,e1];exact ih.1 fun x hx=>q x (AK _ hx)
   ·rw[kl,e1]
    refine ih.2 fun z=>q fun x hx=>?_
    rcases AJ.mp hx with rfl | hx
    ·exact p
    ·exact z x hx
section
variable {n : Nat} {μ ρ : Sto} {φ : Phi} {σ : Sl}
theorem Ai (a b:Span):cpD .ge (eSpan a) (eSpan b) μ=.ok (.bl (!lexLt [a.lamp,a.start,a.fin] [b.lamp,b.start,b.fin])) μ:=by
 have e:∀s:Span,gc [D.int s.lamp,.int s.start,.int s.fin]=some [s.lamp,s.start,s.fin]:=fun s=>ij [s.lamp,s.start,s.fin]
 simp only[cpD,eSpan,e]
theorem Hg (ss:List Span):ak GL (n+1) ua [.tup (ss.map eSpan)] μ=.ok (.bl (((ss.zip (ss.drop 1)).map fun p:Span×Span=>lexLt [p.1.lamp,p.1.start,p.1.fin] [p.2.lamp,p.2.start,p.2.fin]).all id)) μ:=by
 rw[aj Gx,run_eq rfl]
 have hz:rn (.tup (ss.map eSpan)) (.tup ((ss.map eSpan).drop 1)) μ=.ok (((ss.map eSpan).zip ((ss.map eSpan).drop 1)).map fun p=>.tup [p.1,p.2],none) μ:=rfl
 have hc:h7 (ak GL n) .z (.many [0,1]) .nil k5 [none,none] ((ss.zip (ss.drop 1)).map fun p:Span×Span=>D.tup [eSpan p.1,eSpan p.2],none) μ=.ok (.lst (((ss.zip (ss.drop 1)).map fun p:Span×Span=>lexLt [p.1.lamp,p.1.start,p.1.fin] [p.2.lamp,p.2.start,p.2.fin]).map D.bl)) μ:=by
  rw[comp_map (g:=fun p:Span×Span=>D.bl (lexLt [p.1.lamp,p.1.start,p.1.fin] [p.2.lamp,p.2.start,p.2.fin])) fun p hp=>by
   simp! only[ka,k5,Lv]]
  rw[ko,BA];rfl
 simp! only[D_rises,J8,hz,p5,hc,bt_all bc (gj _)]
theorem El (a b:Span):ak GL (n+1) cm [eSpan a,eSpan b] μ=.ok (.bl (decide (a.lamp=b.lamp∧b.start<a.fin))) μ:=by
 rw[aj ig,run_eq rfl]
 by_cases h:a.lamp=b.lamp
 ·simp! only[D_have_tick_in_common,rp,ux,z7,h,true_and]
 ·simp! only[D_have_tick_in_common,rp,h,false_and]
theorem yd (hr:kq μ) {L:Int} {lamps:Nat} {ss:List Span} (h:¬k7 L lamps ss):ak GL (n+2) eh [.int L,.int lamps,.tup (ss.map eSpan)] μ=.ok (.bl true) μ:=by
 rw[aj md,run_eq rfl]
 have lp:=k8 (φ:=ak GL (n+1)) (μ:=μ) (tg:=.many [3,4,5]) (b:=az) (xs:=ss) (en:=eSpan) (v:=.bl true) (σ:=[some (.int L),some (.int lamps),some (.tup (ss.map eSpan)),none,none,none])
  (fun σ=>∃v3 v4 v5,σ=[some (.int L),some (.int lamps),some (.tup (ss.map eSpan)),v3,v4,v5]) (fun s=>¬Good L 0 lamps s) ⟨none,none,none,rfl⟩ (by
   rintro s hs σ ⟨v3,v4,v5,rfl⟩
   refine⟨fun q=>?_,fun q=>?_⟩
   ·obtain⟨⟨a1,a2⟩,b,c,d⟩:=BM.mp q
    refine⟨[some (.int L),some (.int lamps),some (.tup (ss.map eSpan)),some (.int s.lamp),some (.int s.start),some (.int s.fin)],?_,_,_,_,rfl⟩
    simp! only[fLp,az,eSpan,a1,a2,b,c,d]
   ·by_cases a1:0≤s.lamp
    ·by_cases a2:s.lamp<lamps
     ·by_cases b:0≤s.start
      ·by_cases c:s.start<s.fin
       ·have d:¬s.fin≤L:=fun d=>q ⟨⟨a1,a2⟩,b,c,d⟩
        simp! only[fLp,az,eSpan,a1,a2,b,c,d]
       ·simp! only[fLp,az,eSpan,a1,a2,b,c]
      ·simp! only[fLp,az,eSpan,a1,a2,b]
     ·simp! only[fLp,az,eSpan,a1,a2]
    ·simp! only[fLp,az,eSpan,a1])
 by_cases hg:∀s∈ss,¬¬Good L 0 lamps s
 ·obtain⟨σ',el,v3,v4,v5,rfl⟩:=lp.1 hg
  have hz:rn (.tup (ss.map eSpan)) (.tup ((ss.map eSpan).drop 1)) μ=.ok (((ss.map eSpan).zip ((ss.map eSpan).drop 1)).map fun p=>.tup [p.1,p.2],none) μ:=rfl
  have hc:h7 (ak GL (n+1)) .z (.many [0,1]) .nil de [none,none] ((ss.zip (ss.drop 1)).map fun p:Span×Span=>D.tup [eSpan p.1,eSpan p.2],none) μ=.ok (.lst (((ss.zip (ss.drop 1)).map fun p=>decide (p.1.lamp=p.2.lamp∧p.2.start<p.1.fin)).map D.bl)) μ:=by
   rw[comp_map (g:=fun p:Span×Span=>D.bl (decide (p.1.lamp=p.2.lamp∧p.2.start<p.1.fin))) fun p hp=>by
    simp! only[ka,de,ar (El (n:=n) (μ:=μ) p.1 p.2) rfl rfl hr]]
   rw[ko,BA];rfl
  have kr:=ar (Hg (n:=n) (μ:=μ) ss) rfl rfl hr
  have ba:=bt_any (μ:=μ) (m:=.z) (bc (μ:=μ)) (gj ((ss.zip (ss.drop 1)).map fun p=>decide (p.1.lamp=p.2.lamp∧p.2.start<p.1.fin)))
  have hq:((ss.zip (ss.drop 1)).map fun p:Span×Span=>lexLt [p.1.lamp,p.1.start,p.1.fin] [p.2.lamp,p.2.start,p.2.fin]).all id=false∨((ss.zip (ss.drop 1)).map fun p=>decide (p.1.lamp=p.2.lamp∧p.2.start<p.1.fin)).any id=true:=by
   obtain⟨p,hp,hn⟩:∃p∈ss.zip (ss.drop 1),¬Nb p.1 p.2:=BX fun q=>h ⟨fun s hs=>BM.mp (hg s hs),Hf (fun s hs=>(BM.mp (hg s hs)).run) fun p hp=>BX fun z=>q ⟨p,hp,z⟩⟩
   have r1:=(BM.mp (hg p.1 (FB hp).1)).run
   by_cases hl:lexLt [p.1.lamp,p.1.start,p.1.fin] [p.2.lamp,p.2.start,p.2.fin]=true
   ·refine .inr (DP.mpr ⟨true,BI.mpr ⟨p,hp,decide_eq_true ?_⟩,rfl⟩)
    rw[Xe]at hl
    unfold Nb at hn
    omega
   ·exact .inl (List.all_eq_false.mpr ⟨false,BI.mpr ⟨p,hp,by simpa using hl⟩,by simp⟩)
  generalize ((ss.zip (ss.drop 1)).map fun p:Span×Span=>lexLt [p.1.lamp,p.1.start,p.1.fin] [p.2.lamp,p.2.start,p.2.fin]).all id=r at *
  cases r with
  | false=>simp! only[D_has_span_fault,el,kr]
  | true =>
   have hq':=hq.resolve_left (by decide)
   rw[hq']at ba
   simp! only[D_has_span_fault,el,kr,J8,hz,p5,hc,ba]
 ·simp! only[D_has_span_fault,lp.2 hg]
theorem oz {L:Int} {lamps:Nat} {ss:List Span} (hn:ss.length≤1000) :
  (k7 L lamps ss→ak GL (n+1) fb [.int L,.int lamps,.tup (ss.map eSpan)] μ=.ok (.bl false) μ)∧(¬k7 L lamps ss→ak GL (n+1) fb [.int L,.int lamps,.tup (ss.map eSpan)] μ=.ok (.bl true) μ):=by
 rw[aj ur,run_eq rfl]
 have lp:=k8 (φ:=ak GL n) (μ:=μ) (tg:=.one 3) (b:=bh) (xs:=List.range ss.length) (en:=fun(k:Nat)=>D.int k) (v:=.bl true) (σ:=[some (.int L),some (.int lamps),some (.tup (ss.map eSpan)),none,none,none,none,none])
  (fun σ=>∃v3 v4 v5 v6 v7,σ=[some (.int L),some (.int lamps),some (.tup (ss.map eSpan)),v3,v4,v5,v6,v7]) (fun k=>¬(Good L 0 lamps (ss.getD k ⟨0,0,0⟩)∧∀o∈ss.take k,¬Ag o (ss.getD k ⟨0,0,0⟩))) ⟨none,none,none,none,none,rfl⟩ (by
   rintro k hk σ ⟨v3,v4,v5,v6,v7,rfl⟩
   have hk':k<ss.length:=CQ.mp hk
   have i1:ixD (.tup (ss.map eSpan)) (.int k) μ=.ok (eSpan (ss.getD k ⟨0,0,0⟩)) μ:=bz (by simp[hk'])
   generalize ss.getD k ⟨0,0,0⟩=c at *
   have ub:∀σ:Sl,gk (.many [4,5,6]) (eSpan c) σ=some (((σ.set 4 (some (.int c.lamp))).set 5 (some (.int c.start))).set 6 (some (.int c.fin))):=fun _=>rfl
   have li:=k8 (φ:=ak GL n) (μ:=μ) (tg:=.one 7) (b:=cj) (xs:=ss.take k) (en:=eSpan) (v:=.bl true) (σ:=[some (.int L),some (.int lamps),some (.tup (ss.map eSpan)),some (.int k),some (.int c.lamp),some (.int c.start),some (.int c.fin),v7])
    (fun σ=>∃v7,σ=[some (.int L),some (.int lamps),some (.tup (ss.map eSpan)),some (.int k),some (.int c.lamp),some (.int c.start),some (.int c.fin),v7]) (fun o=>Ag o c) ⟨v7,rfl⟩ (by
     rintro o ho σ ⟨v7,rfl⟩
     refine⟨fun q=>⟨[some (.int L),some (.int lamps),some (.tup (ss.map eSpan)),some (.int k),some (.int c.lamp),some (.int c.start),some (.int c.fin),some (eSpan o)],?_,_,rfl⟩,fun q=>?_⟩
     ·unfold Ag at q
      have q1:lexLt [o.lamp,o.start,o.fin] [c.lamp,c.start,c.fin]=true:=by
       rw[←Bool.not_eq_false];exact fun z=>q (.inl z)
      by_cases a:o.lamp=c.lamp
      ·have da:decide (o.lamp=c.lamp)=true:=decide_eq_true a
       by_cases b:o.start<c.fin
       ·have d:¬c.start<o.fin:=fun d=>q (.inr ⟨a,b,d⟩)
        simp! only[fLp,cj,i1,Ai,q1,rp,ux,z7,da,b,d]
       ·simp! only[fLp,cj,i1,Ai,q1,rp,ux,da,b]
      ·simp! only[fLp,cj,i1,Ai,q1,rp,a]
     ·by_cases q1:lexLt [o.lamp,o.start,o.fin] [c.lamp,c.start,c.fin]=false
      ·simp! only[fLp,cj,i1,Ai,q1]
      ·obtain⟨a,b,d⟩:=Or.resolve_left q q1
       rw[Bool.not_eq_false]at q1
       have da:decide (o.lamp=c.lamp)=true:=decide_eq_true a
       simp! only[fLp,cj,i1,Ai,q1,rp,ux,z7,da,b,d])
   rw[List.map_take]at li
   have ks:kSeq (.tup ((ss.map eSpan).take k)) μ=.ok ((ss.map eSpan).take k,none) μ:=rfl
   refine⟨fun q=>?_,fun q=>?_⟩
   ·obtain⟨⟨⟨a1,a2⟩,b,c',d⟩,hcl⟩:=BM.mp q
    obtain⟨σ',el,v7',rfl⟩:=li.1 hcl
    refine⟨_,?_,some (.int k),some (.int c.lamp),some (.int c.start),some (.int c.fin),v7',rfl⟩
    simp! only[fLp,bh,i1,ub,a1,a2,b,c',d,G5,ks,el]
   ·by_cases a1:0≤c.lamp
    ·by_cases a2:c.lamp<lamps
     ·by_cases b:0≤c.start
      ·by_cases c':c.start<c.fin
       ·by_cases d:c.fin≤L
        ·have hcl:¬∀o∈ss.take k,¬Ag o c:=fun z=>q ⟨⟨⟨a1,a2⟩,b,c',d⟩,z⟩
         simp! only[fLp,bh,i1,ub,a1,a2,b,c',d,G5,ks,li.2 hcl]
        ·simp! only[fLp,bh,i1,ub,a1,a2,b,c',d]
       ·simp! only[fLp,bh,i1,ub,a1,a2,b,c']
      ·simp! only[fLp,bh,i1,ub,a1,a2,b]
     ·simp! only[fLp,bh,i1,ub,a1,a2]
    ·simp! only[fLp,bh,i1,ub,a1])
 have key:k7 L lamps ss↔∀k∈List.range ss.length,¬¬(Good L 0 lamps (ss.getD k ⟨0,0,0⟩)∧∀o∈ss.take k,¬Ag o (ss.getD k ⟨0,0,0⟩)):=by
  refine⟨fun h k hk=>not_not_intro ?_,fun h=>?_⟩
  ·have hk':k<ss.length:=CQ.mp hk
   have e:ss.getD k ⟨0,0,0⟩=ss[k]:=by simp[hk']
   rw[e]
   refine⟨h.1 _ (BQ hk'),fun o ho=>?_⟩
   obtain⟨i,hi,rfl⟩:=CV.mp ho
   have hi':i<k:=by simp at hi;omega
   rw[HP,Ah (h.1 _ (BQ _)).run (h.1 _ (BQ hk')).run]
   exact not_not_intro (DT.mp h.2 i k (by omega) hk' hi')
  ·have g:∀k (hk:k<ss.length),Good L 0 lamps ss[k]∧∀o∈ss.take k,¬Ag o ss[k]:=fun k hk=>by
    have e:ss.getD k ⟨0,0,0⟩=ss[k]:=by simp[hk]
    rw[←e]
    exact BM.mp (h k (CQ.mpr hk))
   have g1:∀s∈ss,Good L 0 lamps s:=fun s hs=>by
    obtain⟨i,hi,rfl⟩:=CV.mp hs
    exact(g i hi).1
   refine⟨g1,DT.mpr fun i j hi hj hij=>?_⟩
   have q:=(g j hj).2 ss[i] (CV.mpr ⟨i,by simp;omega,by rw[HP]⟩)
   rw[Ah (g1 _ (BQ hi)).run (g1 _ (BQ hj)).run]at q
   exact BM.mp q
 refine⟨fun h=>?_,fun h=>?_⟩
 ·obtain⟨σ',el,v3,v4,v5,v6,v7,rfl⟩:=lp.1 (key.mp h)
  simp! only[D_law_span_bad,bt_len dk,AG,ff (show ss.length≤1000000 by omega),el]
 ·simp! only[D_law_span_bad,bt_len dk,AG,ff (show ss.length≤1000000 by omega),lp.2 fun z=>h (key.mpr z)]
end
end Lr
namespace Lr
open Lp
open PySem
noncomputable def Lit (L w:Int) (ss:List Span):Prop:=∀t,0≤t→t<L→(cov ss t:Int)=w
theorem Ly {L lo hi w:Int} {ss:List Span} (h:∀s∈ss,Good L lo hi s) (h0:(cov ss 0:Int)=w) (hz:∀t,0<t→t<L→dlt ss t=0∨(cov ss t:Int)=w):Lit L w ss:=by
 have gen:∀k:Nat,(k:Int)<L→(cov ss k:Int)=w:=by
  intro k
  induction k with
  | zero=>intro _;exact h0
  | succ k ih =>
   intro hk
   rcases hz ((k+1:Nat):Int) (by omega) hk with q | q
   ·have e:=C4 ss ((k+1:Nat):Int) h
    rw[q,show(((k+1:Nat):Int)-1)=k by omega,ih (by omega)]at e
    omega
   ·exact q
 intro t t0 t1
 have:=gen t.toNat (by omega)
 rwa [Int.toNat_of_nonneg t0]at this
theorem Kf {ss:List Span} {t:Int} (h:∀s∈ss,s.start≠t∧s.fin≠t):dlt ss t=0:=by
 induction ss with
 | nil=>rfl
 | cons s r ih =>
  have:=ih fun x hx=>h x (AK _ hx)
  have g:=h s AQ
  simp only[dlt,AT,HX]at this ⊢
  rw[this,if_neg g.1,if_neg g.2];rfl
theorem Hh (x y:Int):∀l:List Int,y∈insI x l↔y=x∨y∈l
 | []=>by simp[insI]
 | z::r=>by
  rw[insI]
  split
  ·simp
  ·simp only[AJ,Hh x y r]
   exact or_left_comm
theorem C9 (y:Int):∀l:List Int,y∈sortI l↔y∈l
 | []=>by simp[sortI]
 | x::r=>by rw[sortI,Hh,C9 y r,AJ]
theorem Ou (y:Int) (l:List Int):y∈B5 l↔y∈l:=by
 have gen:∀(l σ:List Int),y∈l.foldl (fun σ k=>if σ.any (·==k)then σ else σ++[k]) σ↔y∈σ∨y∈l:=by
  intro l
  induction l with
  | nil=>intro σ;simp
  | cons x r ih =>
   intro σ
   rw[List.foldl_cons,ih]
   by_cases h:(σ.any (·==x))=true
   ·rw[if_pos h]
    have hx:x∈σ:=by simpa using h
    simp only[AJ]
    constructor
    ·rintro(q | q)
     ·exact .inl q
     ·exact .inr (.inr q)
    ·rintro(q | rfl | q)
     ·exact .inl q
     ·exact .inl hx
     ·exact .inr q
   ·rw[if_neg h]
    simp only[DH,AJ,BH,or_false,or_assoc]
 rw[B5,gen];simp
section
variable {n : Nat} {μ ρ : Sto} {φ : Phi} {σ : Sl}
theorem Kg {L lo hi w:Int} {ss:List Span} (h:∀s∈ss,Good L lo hi s) (hL:0<L) (hn:ss.length≤1000) (hw:Lit L w ss) :
  ∃ρ,ak GL (n+1) cv [.int L,.int w,.tup (ss.map eSpan)] μ=.ok (.bl false) (μ++ρ):=by
 have e:=Ol (n:=n) (μ:=μ) (w:=w) h hL hw hn
 rwa [decide_eq_true rfl]at e
theorem Kh {L lo hi w:Int} {ss:List Span} (h:∀s∈ss,Good L lo hi s) (hL:0<L) (hn:ss.length≤1000) (hw:¬Lit L w ss) :
  ∃ρ,ak GL (n+1) cv [.int L,.int w,.tup (ss.map eSpan)] μ=.ok (.bl true) (μ++ρ):=by
 obtain⟨m,ρ,hk,hs0,hv,ed⟩:=C6 (n:=n) (μ:=μ) (w:=w) h hL hn
 refine⟨ρ,?_⟩
 rw[ed]
 cases q:(m.map fun p=>!decide (p.2=0)).any id with
 | true=>rfl
 | false =>
  refine absurd ?_ hw
  have z:∀x,(dh m x).getD 0=0:=fun x=>by
   cases e:dh m x with
   | none=>rfl
   | some v =>
    have:=FU.mp q (!decide (v=0)) (BI.mpr ⟨(x,v),yb e,rfl⟩)
    simpa using this
  refine Ly h ?_ fun t t0 t1=>.inl ?_
  ·have a:=hv 0
   rw[z,if_neg (by omega),if_pos rfl,C4 ss 0 h,ou (x:=0-1) h (.inl (by omega))]at a
   omega
  ·have a:=hv t
   rw[z,if_neg (by omega),if_neg (by omega)]at a
   omega
theorem Hi {xs ys:List D} (h:xs.length+ys.length≤1000000):opD .Add .z (.lst xs) (.lst ys) μ=.ok (.lst (xs++ys)) μ:=by
 simp only[opD,Lp.listOf,lim,ko]
 rw[if_pos (by omega)]
theorem Bp {L lo hi w:Int} {ss:List Span} (h:∀s∈ss,Good L lo hi s) (hL:0<L) (hn:ss.length≤31) :
  (Lit L w ss→ak GL (n+1) k4 [.int L,.int w,.tup (ss.map eSpan)] μ=.ok (.bl false) μ)∧(¬Lit L w ss→ak GL (n+1) k4 [.int L,.int w,.tup (ss.map eSpan)] μ=.ok (.bl true) μ):=by
 rw[aj Ec,run_eq rfl]
 have c1:h7 (ak GL n) .z (.one 0) .nil l5 [none] (ss.map eSpan,none) μ=.ok (.lst ((ss.map (·.start)).map D.int)) μ:=by
  rw[comp_map (g:=fun s:Span=>D.int s.start) fun s _=>by simp! only[ka,l5,ux]]
  rw[ko,BA];rfl
 have c2:h7 (ak GL n) .z (.one 0) .nil l6 [none] (ss.map eSpan,none) μ=.ok (.lst ((ss.map (·.fin)).map D.int)) μ:=by
  rw[comp_map (g:=fun s:Span=>D.int s.fin) fun s _=>by simp! only[ka,l6,z7]]
  rw[ko,BA];rfl
 have a1:opD .Add .z (.lst [.int 0]) (.lst ((ss.map (·.start)).map D.int)) μ=.ok (.lst ((0::ss.map (·.start)).map D.int)) μ:=Hi (by simp;omega)
 have a2:opD .Add .z (.lst ((0::ss.map (·.start)).map D.int)) (.lst ((ss.map (·.fin)).map D.int)) μ=.ok (.lst ((0::ss.map (·.start)++ss.map (·.fin)).map D.int)) μ:=by
  rw[Hi (by simp;omega),←DI]
 have mp:∀p,p∈sortI (B5 (0::ss.map (·.start)++ss.map (·.fin)))↔(p=0∨∃s∈ss,s.start=p∨s.fin=p):=fun p=>by
  rw[C9,Ou]
  simp only[IB,AJ,DH,BI]
  constructor
  ·rintro(q | ⟨s,hs,q⟩ | ⟨s,hs,q⟩)
   ·exact .inl q
   ·exact .inr ⟨s,hs,.inl q⟩
   ·exact .inr ⟨s,hs,.inr q⟩
  ·rintro(q | ⟨s,hs,q | q⟩)
   ·exact .inl q
   ·exact .inr (.inl ⟨s,hs,q⟩)
   ·exact .inr (.inr ⟨s,hs,q⟩)
 have bs:btD .sortedSet .z [.lst ((0::ss.map (·.start)++ss.map (·.fin)).map D.int)] μ=.ok (.lst ((sortI (B5 (0::ss.map (·.start)++ss.map (·.fin)))).map D.int)) μ:=by
  simp only[btD,j5,K4,K3,fg,Go,ij]
  rw[if_pos (by simp;omega),ko]
 generalize sortI (B5 (0::ss.map (·.start)++ss.map (·.fin)))=ps at *
 generalize 0::ss.map (·.start)=q0 at *
 have lp:=k8 (φ:=ak GL n) (μ:=μ) (tg:=.one 4) (b:=gx) (xs:=ps) (en:=D.int) (v:=.bl true) (σ:=[some (.int L),some (.int w),some (.tup (ss.map eSpan)),some (.lst (ps.map D.int)),none])
  (fun σ=>∃v4,σ=[some (.int L),some (.int w),some (.tup (ss.map eSpan)),some (.lst (ps.map D.int)),v4]) (fun p=>p<L∧¬(cov ss p:Int)=w) ⟨none,rfl⟩ (by
   rintro p hp σ ⟨v4,rfl⟩
   have hc:h7 (ak GL n) .z (.one 1) gu gv [some (.int p),none] (ss.map eSpan,none) μ=.ok (.lst ((ss.filter fun s=>decide (s.start≤p∧p<s.fin)).map eSpan)) μ:=by
    rw[h8 (g:=eSpan) (p:=fun s:Span=>decide (s.start≤p∧p<s.fin)) fun s _=>by
     by_cases h1:s.start≤p
     ·by_cases h2:p<s.fin
      ·simp! only[ka,gu,gv,ux,z7,h1,h2,and_self,if_true]
      ·simp! only[ka,gu,gv,ux,z7,h1,h2,and_false,if_false,AR]
     ·simp! only[ka,gu,gv,ux,h1,false_and,if_false,AR]]
    rw[ko]
   have hl:btD .len .z [.lst ((ss.filter fun s=>decide (s.start≤p∧p<s.fin)).map eSpan)] μ=.ok (.int (cov ss p)) μ:=by
    rw[bt_len bc,AG,←List.countP_eq_length_filter];rfl
   by_cases q1:p<L
   ·by_cases q2:(cov ss p:Int)=w
    ·exact⟨fun _=>⟨[some (.int L),some (.int w),some (.tup (ss.map eSpan)),some (.lst (ps.map D.int)),some (.int p)],by simp! only[fLp,gx,q1,hc,hl,q2],_,rfl⟩,fun z=>absurd q2 z.2⟩
    ·exact⟨fun z=>absurd ⟨q1,q2⟩ z,fun _=>by simp! only[fLp,gx,q1,hc,hl,q2]⟩
   ·exact⟨fun _=>⟨[some (.int L),some (.int w),some (.tup (ss.map eSpan)),some (.lst (ps.map D.int)),some (.int p)],by simp! only[fLp,gx,q1],_,rfl⟩,fun z=>absurd z.1 q1⟩)
 have key:Lit L w ss↔∀p∈ps,¬(p<L∧¬(cov ss p:Int)=w):=by
  refine⟨fun hw p hp q=>q.2 (hw p ?_ q.1),fun g=>Ly h ?_ fun t t0 t1=>?_⟩
  ·rcases(mp p).mp hp with rfl | ⟨s,hs,e | e⟩
   ·omega
   ·have:=(h s hs).start;omega
   ·have:=(h s hs).start;have:=(h s hs).run;omega
  ·exact BM.mp fun z=>g 0 ((mp 0).mpr (.inl rfl)) ⟨hL,z⟩
  ·by_cases q:t∈ps
   ·exact .inr (BM.mp fun z=>g t q ⟨t1,z⟩)
   ·exact .inl (Kf fun s hs=>⟨fun e=>q ((mp t).mpr (.inr ⟨s,hs,.inl e⟩)),fun e=>q ((mp t).mpr (.inr ⟨s,hs,.inr e⟩))⟩)
 have ml:mkL .z [D.int 0] μ=.ok (.lst [.int 0]) μ:=ko
 refine⟨fun hw=>?_,fun hw=>?_⟩
 ·obtain⟨σ',el,v4,rfl⟩:=lp.1 (key.mp hw)
  simp! only[D_law_dark,ml,c1,c2,a1,a2,bs,el]
 ·simp! only[D_law_dark,ml,c1,c2,a1,a2,bs,lp.2 fun z=>hw (key.mpr z)]
end
end Lr
namespace Lr
open Lp
open PySem
noncomputable def qr (L:Nat) (a c:List Int):List Int:=(List.range L).map fun(k:Nat)=>a.getD k 0+c.getD k 0
noncomputable def Hj (b:Book) (i:Nat) (ss:List Span):Prop:=∀s∈ss,¬(i:Int)∈(b.lamps.map (·.away)).getD s.lamp.toNat []
noncomputable def Ov (L:Nat) (lv:List Int) (ss:List Span):Prop:=∀k∈List.range L,¬lv.getD k 0<bf ss k
noncomputable def Hk (b:Book) (lv:List Int):Prop:=∀k∈List.range b.lamps.length,¬(b.lamps.map (·.tank)).getD k 0<lv.getD k 0
open Classical in
noncomputable def vn (b:Book) (i:Nat) (lv:List Int) (ss:List Span) (d:Day):Option Str :=
 if ¬k7 d.length b.lamps.length ss then some (Str.ofString "span")else if ¬Hj b i ss then some (Str.ofString "away")else if ¬Ov b.lamps.length lv ss then some (Str.ofString "oil")
 else if ¬Lit d.length d.wanted ss then some (Str.ofString "dark")else none
open Classical in
noncomputable def Ia (b:Book) (i:Nat) (H:Int×List Int) (t:Tn) (d:Day):Option Str :=
 if ¬(0≤t.taken∧t.taken≤d.boat)then some (Str.ofString "boat")else if ¬(0≤t.bought∧t.bought≤d.most)then some (Str.ofString "market")
 else if ¬((∀x∈t.poured,¬x<0)∧¬H.1+t.taken+t.bought<t.poured.sum)then some (Str.ofString "pour")else if ¬Hk b (qr b.lamps.length H.2 t.poured)then some (Str.ofString "tank")
 else vn b i (qr b.lamps.length H.2 t.poured) t.spans d
noncomputable def eW:Option Str→D
 | none=>.non
 | some w=>.str w
noncomputable def eL:Option Str→D
 | none=>.str (Str.ofString "")
 | some w=>.str w
theorem Hl (w:Option Str):(eW w).pure=true:=by cases w<;>rfl
theorem Ow (w:Option Str):(eL w).pure=true:=by cases w<;>rfl
theorem Hm {α:Type} {xs:List α} {p:α→Prop} [DecidablePred p] (h:∀x∈xs,¬p x):(xs.map fun x=>decide (p x)).any id=false:=by
 rw[FU]
 intro y hy
 obtain⟨x,hx,rfl⟩:=BI.mp hy
 simp[h x hx]
theorem Bq {α:Type} {xs:List α} {p:α→Prop} [DecidablePred p] (h:¬∀x∈xs,¬p x):(xs.map fun x=>decide (p x)).any id=true:=by
 rw[DP]
 obtain⟨x,hx,q⟩:∃x∈xs,p x:=BX fun z=>h fun x hx q=>z ⟨x,hx,q⟩
 exact⟨true,BI.mpr ⟨x,hx,decide_eq_true q⟩,rfl⟩
theorem Hn {α:Type} {xs:List α} {p:α→Prop} [DecidablePred p] (h:∀x∈xs,¬p x):xs.filter (fun x=>decide (p x))=[]:=by
 rw[List.filter_eq_nil_iff]
 intro x hx
 simp[h x hx]
theorem Br {α:Type} {xs:List α} {p:α→Prop} [DecidablePred p] (h:¬∀x∈xs,¬p x):(0:Int)<((xs.filter fun x=>decide (p x)).length:Nat):=by
 obtain⟨x,hx,q⟩:∃x∈xs,p x:=BX fun z=>h fun x hx q=>z ⟨x,hx,q⟩
 have:0<(xs.filter fun x=>decide (p x)).length:=List.length_pos_of_mem (GG.mpr ⟨hx,decide_eq_true q⟩)
 omega
theorem Xf {β:Type} {L:Nat} {a c:List Int} {f:Int×Int→β} (ha:a.length=L) (hc:c.length=L):(a.zip c).map f=(List.range L).map fun(k:Nat)=>f (a.getD k 0,c.getD k 0):=by
 apply BU
 intro i
 by_cases hi:i<L
 ·have hz:(a.zip c)[i]? = some (a.getD i 0,c.getD i 0):=by
   rw[CD]
   exact⟨by simp[show i<a.length by omega],by simp[show i<c.length by omega]⟩
  simp[hz,hi]
 ·rw[AV (by simp;omega),AV (by simp;omega)]
section
variable {n : Nat} {μ ρ : Sto} {φ : Phi} {σ : Sl}
theorem Ho {b:Book} {L:Int} {s:Span} (g:Good L 0 b.lamps.length s):∃(K:Nat) (l:Lamp),(K:Int)=s.lamp∧b.lamps[K]? = some l∧l.away=(b.lamps.map (·.away)).getD s.lamp.toNat []:=by
 have gl:=g.lamp
 obtain⟨K,hK⟩:∃K:Nat,(K:Int)=s.lamp:=⟨s.lamp.toNat,by omega⟩
 have hK2:K<b.lamps.length:=by omega
 exact⟨K,b.lamps[K],hK,AC hK2,by rw[←hK,CB];simp[hK2]⟩
theorem Hq (hr:kq μ) {b:Book} {i:Nat} {lv:List Int} {ss:List Span} {d:Day} (hd:b.days[i]? = some d) (hlv:lv.length=b.lamps.length) (hL:b.lamps.length≤8) (hs:ss.length≤31) (h1:1≤d.length) :
  ak GL (n+3) i9 [cf b,.int i,cw lv,.tup (ss.map eSpan)] μ=.ok (eW (vn b i lv ss d)) μ:=by
 rw[aj xn,run_eq rfl]
 have ln:btD .len .z [cw lv] μ=.ok (.int b.lamps.length) μ:=by rw[C8,hlv]
 unfold vn
 by_cases sp:k7 d.length b.lamps.length ss
 ·rw[if_neg (not_not_intro sp)]
  have k1:=ar (z8 (n:=n) hr (L:=d.length) (lamps:=b.lamps.length) sp.2 sp.1) rfl rfl hr
  have c1:=comp_map (m:=.z) (μ:=μ) (φ:=ak GL (n+2)) (tg:=.many [2,3,4]) (cs:=.nil) (elt:=iu) (σ0:=[some (cf b),some (.int i),none,none,none]) (xs:=ss) (en:=eSpan) (g:=fun s=>D.bl (decide ((i:Int)∈(b.lamps.map (·.away)).getD s.lamp.toNat []))) (by
   intro s hs
   obtain⟨K,l,hK,hl,ea⟩:=Ho (sp.1 s hs)
   have kb:=ar (Ei (n:=n+1) (μ:=μ) (b:=b) (k:=K) (l:=l) hl (i:Int)) rfl rfl hr
   have bt:gk (.many [2,3,4]) (eSpan s) [some (cf b),some (.int i),none,none,none]=some [some (cf b),some (.int i),some (.int K),some (.int s.start),some (.int s.fin)]:=by rw[hK];rfl
   rw[ea]at kb
   simp! only[ka,bt,iu,kb,Bool.not_not])
  rw[show(fun s:Span=>D.bl (decide ((i:Int)∈(b.lamps.map (·.away)).getD s.lamp.toNat [])))=D.bl∘(fun s:Span=>decide ((i:Int)∈(b.lamps.map (·.away)).getD s.lamp.toNat []))from rfl,←BA]at c1
  have b1:=bt_any (μ:=μ) (m:=.z) (bc (μ:=μ)) (gj (ss.map fun s=>decide ((i:Int)∈(b.lamps.map (·.away)).getD s.lamp.toNat [])))
  by_cases aw:Hj b i ss
  ·rw[if_neg (not_not_intro aw)]
   rw[Hm aw]at b1
   obtain⟨ρ1,et⟩:=vk (n:=n+1) (μ:=μ) b.lamps.length ss (by omega) (by omega)
   have kt:=fu et (fj _) hr
   have c2:=comp_map (m:=.z) (μ:=μ) (φ:=ak GL (n+2)) (tg:=.many [0,1]) (cs:=.nil) (elt:=iy) (σ0:=[none,none]) (xs:=((List.range b.lamps.length).map fun(k:Nat)=>bf ss k).zip lv) (en:=fun p=>D.tup [.int p.1,.int p.2]) (g:=fun p=>D.bl (decide (p.2<p.1))) (by
    rintro⟨x,y⟩ hp
    simp! only[ka,iy,oq])
   have e2:(((List.range b.lamps.length).map fun(k:Nat)=>bf ss k).zip lv).map (fun p=>D.bl (decide (p.2<p.1)))=((List.range b.lamps.length).map fun(k:Nat)=>decide (lv.getD k 0<bf ss k)).map D.bl:=by
    rw[Xf (L:=b.lamps.length) (by simp) hlv,BA]
    refine DL fun k hk=>?_
    show D.bl (decide (lv.getD k 0<((List.range b.lamps.length).map fun(k:Nat)=>bf ss k).getD k 0))=_
    rw[Hd (CQ.mp hk)];rfl
   rw[e2]at c2
   have kz:rn (cw ((List.range b.lamps.length).map fun(k:Nat)=>bf ss k)) (cw lv) μ=.ok (_,none) μ:=uj (f:=D.int) (g:=D.int)
   have b2:=bt_any (μ:=μ) (m:=.z) (bc (μ:=μ)) (gj ((List.range b.lamps.length).map fun(k:Nat)=>decide (lv.getD k 0<bf ss k)))
   by_cases ol:Ov b.lamps.length lv ss
   ·rw[if_neg (not_not_intro ol)]
    rw[Hm ol]at b2
    by_cases lt:Lit d.length d.wanted ss
    ·rw[if_neg (not_not_intro lt)]
     obtain⟨ρ2,ed⟩:=Kg (n:=n+1) (μ:=μ) (lo:=0) (hi:=b.lamps.length) (w:=d.wanted) sp.1 (by omega) (by omega) lt
     have kd:=fu ed rfl hr
     simp! only[D_night_fault,gm,bz hd,bq,ln,k1,c1,b1,kt,kz,c2,b2,kd,eW]
    ·rw[if_pos lt]
     obtain⟨ρ2,ed⟩:=Kh (n:=n+1) (μ:=μ) (lo:=0) (hi:=b.lamps.length) (w:=d.wanted) sp.1 (by omega) (by omega) lt
     have kd:=fu ed rfl hr
     simp! only[D_night_fault,gm,bz hd,bq,ln,k1,c1,b1,kt,kz,c2,b2,kd,eW]
   ·rw[if_pos ol]
    rw[Bq ol]at b2
    simp! only[D_night_fault,gm,bz hd,bq,ln,k1,c1,b1,kt,kz,c2,b2,eW]
  ·rw[if_pos aw]
   rw[Bq aw]at b1
   simp! only[D_night_fault,gm,bz hd,bq,ln,k1,c1,b1,eW]
 ·rw[if_pos sp]
  have k1:=ar (yd (n:=n) hr sp) rfl rfl hr
  simp! only[D_night_fault,gm,bz hd,bq,ln,k1,eW]
theorem Ki {ps:List Int} (h:1≤ps.length):∃mn:Int,(mn<0↔¬∀x∈ps,¬x<0)∧btD .min1 .z [cw ps] μ=.ok (.int mn) μ:=by
 cases ps with
 | nil=>simp at h
 | cons x r =>
  refine⟨Fi x r,⟨fun q z=>?_,fun q=>BX fun z=>q fun y hy=>?_⟩,?_⟩
  ·rcases(t6 r x).2.2 with e | e
   ·exact z x AQ (by omega)
   ·exact z _ (AK _ e) q
  ·have a:=(t6 r x).1
   rcases AJ.mp hy with rfl | hy
   ·omega
   ·have:=(t6 r x).2.1 y hy;omega
  ·simp only[btD,j5,P9,K3,cw,fg,Go,ij]
theorem p6 (L:Nat) (a c:List Int):(qr L a c).length=L:=by simp[qr]
theorem Ox (hr:kq μ) {b:Book} {i:Nat} {H:Int×List Int} {t:Tn} {d:Day} (hd:b.days[i]? = some d) (hH:H.2.length=b.lamps.length) (hp:t.poured.length=b.lamps.length) (hL1:1≤b.lamps.length) (hL:b.lamps.length≤8) (hs:t.spans.length≤31) (h1:1≤d.length) :
  ak GL (n+4) lq [cf b,.int i,c6 H,eTn t] μ=.ok (eW (Ia b i H t d)) μ:=by
 rw[aj Bi,run_eq rfl]
 have kn:=ar (Hq (n:=n) (ss:=t.spans) hr hd (p6 b.lamps.length H.2 t.poured) hL hs h1) (Hl _) rfl hr
 have kf:=ar (Ae (n:=n+2) (μ:=μ) H.2 t.poured) (fj _) rfl hr
 rw[Bn hH hp,show((List.range b.lamps.length).map fun(k:Nat)=>H.2.getD k 0+t.poured.getD k 0)=qr b.lamps.length H.2 t.poured from rfl]at kf
 obtain⟨mn,hmn,em⟩:=Ki (μ:=μ) (ps:=t.poured) (by omega)
 unfold Ia
 generalize hlv:qr b.lamps.length H.2 t.poured=lv at *
 have hll:lv.length=b.lamps.length:=by rw[←hlv];exact p6 _ _ _
 have c1:=comp_map (m:=.z) (μ:=μ) (φ:=ak GL (n+3)) (tg:=.many [0,1]) (cs:=.nil) (elt:=kj) (σ0:=[none,none]) (xs:=lv.zip b.lamps) (en:=fun p=>D.tup [.int p.1,g6 p.2]) (g:=fun p=>D.bl (decide (p.2.tank<p.1))) (by
  rintro⟨x,l⟩ _
  have il:∀ν:Sto,ixD (g6 l) (.int 0) ν=.ok (.int l.tank) ν:=fun _=>rfl
  simp! only[ka,kj,oq,il])
 have e1:(lv.zip b.lamps).map (fun p=>D.bl (decide (p.2.tank<p.1)))=((List.range b.lamps.length).map fun(k:Nat)=>decide ((b.lamps.map (·.tank)).getD k 0<lv.getD k 0)).map D.bl:=by
  have z:=Xf (L:=b.lamps.length) (a:=lv) (c:=b.lamps.map (·.tank)) (f:=fun p=>D.bl (decide (p.2<p.1))) hll (by simp)
  rw[List.zip_map_right,BA]at z
  rw[BA]
  exact z
 rw[e1]at c1
 have kz:rn (cw lv) (.tup (b.lamps.map g6)) μ=.ok (_,none) μ:=uj (f:=D.int) (g:=g6)
 have b1:=bt_any (μ:=μ) (m:=.z) (bc (μ:=μ)) (gj ((List.range b.lamps.length).map fun(k:Nat)=>decide ((b.lamps.map (·.tank)).getD k 0<lv.getD k 0)))
 by_cases q1:0≤t.taken∧t.taken≤d.boat
 ·rw[if_neg (not_not_intro q1)]
  by_cases q2:0≤t.bought∧t.bought≤d.most
  ·rw[if_neg (not_not_intro q2)]
   by_cases q3:∀x∈t.poured,¬x<0
   ·have nm:¬mn<0:=fun z=>hmn.mp z q3
    by_cases q4:H.1+t.taken+t.bought<t.poured.sum
    ·rw[if_pos fun z=>z.2 q4]
     simp! only[D_day_fault,gm,bz hd,bq,jm,f6,q1.1,q1.2,q2.1,q2.2,em,nm,sum_ints,q4,eW]
    ·rw[if_neg (not_not_intro ⟨q3,q4⟩)]
     by_cases q5:Hk b lv
     ·rw[if_neg (not_not_intro q5)]
      rw[Hm q5]at b1
      simp! only[D_day_fault,gm,bz hd,bq,jm,f6,q1.1,q1.2,q2.1,q2.2,em,nm,sum_ints,q4,kf,ph,kz,c1,b1,kn]
     ·rw[if_pos q5]
      rw[Bq q5]at b1
      simp! only[D_day_fault,gm,bz hd,bq,jm,f6,q1.1,q1.2,q2.1,q2.2,em,nm,sum_ints,q4,kf,ph,kz,c1,b1,eW]
   ·have nm:mn<0:=hmn.mpr q3
    rw[if_pos fun z=>q3 z.1]
    simp! only[D_day_fault,gm,bz hd,bq,jm,f6,q1.1,q1.2,q2.1,q2.2,em,nm,eW]
  ·rw[if_pos q2]
   by_cases z:0≤t.bought
   ·have z2:¬t.bought≤d.most:=fun y=>q2 ⟨z,y⟩
    simp! only[D_day_fault,gm,bz hd,bq,jm,f6,q1.1,q1.2,z,z2,eW]
   ·simp! only[D_day_fault,gm,bz hd,bq,jm,f6,q1.1,q1.2,z,eW]
 ·rw[if_pos q1]
  by_cases z:0≤t.taken
  ·have z2:¬t.taken≤d.boat:=fun y=>q1 ⟨z,y⟩
   simp! only[D_day_fault,gm,bz hd,bq,jm,f6,z,z2,eW]
  ·simp! only[D_day_fault,gm,bz hd,bq,jm,f6,z,eW]
end
end Lr
namespace Lr
open Lp
open PySem
theorem Hr (ss:List Span) (k:Int):((ss.filter fun s=>decide (s.lamp=k)).map fun s=>s.fin-s.start).sum=bf ss k:=by
 unfold bf
 induction ss with
 | nil=>rfl
 | cons s r ih =>
  by_cases h:s.lamp=k
  ·rw[List.filter_cons_of_pos (by simpa using h),AT,HX,AT,HX,ih,if_pos h]
  ·rw[List.filter_cons_of_neg (by simpa using h),AT,HX,ih,if_neg h,Int.zero_add]
section
variable {n : Nat} {μ ρ : Sto} {φ : Phi} {σ : Sl}
theorem vo {ns:List Int} {k:Int}:cpD .in_ (.int k) (cw ns) μ=.ok (.bl (decide (k∈ns))) μ:=by
 simp only[cpD,cw,dk,flat,zz,and_self,if_true,any_ints]
theorem Kj (hr:kq μ) {b:Book} {i:Nat} {H:Int×List Int} {t:Tn} {d:Day} {T:D} (hT:fg μ T=some (H.2.map D.int)) (hd:b.days[i]? = some d) (hH:H.2.length=b.lamps.length) (hp:t.poured.length=b.lamps.length) (hL:b.lamps.length≤8) (hs:t.spans.length≤31) (h1:1≤d.length) :
  ak GL (n+2) nj [cf b,.int i,.int H.1,T,eTn t] μ=.ok (eL (Ia b i H t d)) μ:=by
 rw[aj Ed,run_eq rfl]
 unfold Ia vn
 have lT:btD .len .z [T] μ=.ok (.int b.lamps.length) μ:=by rw[bt_len hT,AG,hH]
 have ks0:kSeq (cw t.poured) μ=.ok (t.poured.map D.int,none) μ:=rfl
 have c0:h7 (ak GL (n+1)) .z (.one 0) jc jd [none] (t.poured.map D.int,none) μ=.ok (.lst ((t.poured.filter fun x=>decide (x<0)).map D.int)) μ:=by
  rw[h8 (g:=D.int) (p:=fun x:Int=>decide (x<0)) fun x _=>by
   by_cases h:x<0
   ·simp! only[ka,jc,jd,h,if_true]
   ·simp! only[ka,jc,jd,h,if_false,AR]]
  rw[ko]
 by_cases q1:0≤t.taken∧t.taken≤d.boat
 ·rw[if_neg (not_not_intro q1)]
  have a1:¬t.taken<0:=by omega
  have a2:¬d.boat<t.taken:=by omega
  by_cases q2:0≤t.bought∧t.bought≤d.most
  ·rw[if_neg (not_not_intro q2)]
   have a3:¬t.bought<0:=by omega
   have a4:¬d.most<t.bought:=by omega
   by_cases q3:∀x∈t.poured,¬x<0
   ·rw[Hn q3]at c0
    have l0:btD .len .z [.lst (([]:List Int).map D.int)] μ=.ok (.int 0) μ:=rfl
    have z0:¬(0:Int)<0:=by decide
    simp only[DN]at c0 l0
    by_cases q4:H.1+t.taken+t.bought<t.poured.sum
    ·rw[if_pos fun z=>z.2 q4]
     simp! only[D_law_word,gm,bz hd,bq,f6,a1,a2,a3,a4,ks0,c0,l0,z0,sum_ints,q4,eL]
    ·rw[if_neg (not_not_intro ⟨q3,q4⟩)]
     have c1:h7 (ak GL (n+1)) .z (.one 2) .nil l7 [some T,some (cw t.poured),none] ((List.range b.lamps.length).map fun(k:Nat)=>D.int k,none) μ=.ok (.lst ((qr b.lamps.length H.2 t.poured).map D.int)) μ:=by
      refine Ad (f:=fun k=>H.2.getD k 0+t.poured.getD k 0) fun k hk=>?_
      simp! only[ka,l7,ui hT (show k<H.2.length by omega),ui (x:=cw t.poured) (μ:=μ) rfl (show k<t.poured.length by omega)]
     generalize hlv:qr b.lamps.length H.2 t.poured=lv at *
     have hll:lv.length=b.lamps.length:=by rw[←hlv];exact p6 _ _ _
     have lf:btD .len .z [.lst (lv.map D.int)] μ=.ok (.int b.lamps.length) μ:=by rw[bt_len bc,AG,hll]
     have il:∀k,k<b.lamps.length→ixD (.lst (lv.map D.int)) (.int k) μ=.ok (.int (lv.getD k 0)) μ:=fun k hk=>ui rfl (by omega)
     have kr:=ff (μ:=μ) (show b.lamps.length≤1000000 by omega)
     have c2:h7 (ak GL (n+1)) .z (.one 2) je jf [some (.lst (lv.map D.int)),some (cf b),none] ((List.range b.lamps.length).map fun(k:Nat)=>D.int k,none) μ=.ok (.lst (((List.range b.lamps.length).filter fun(k:Nat)=>decide ((b.lamps.map (·.tank)).getD k 0<lv.getD k 0)).map fun(k:Nat)=>D.int k)) μ:=by
      rw[h8 (g:=fun(k:Nat)=>D.int k) (p:=fun(k:Nat)=>decide ((b.lamps.map (·.tank)).getD k 0<lv.getD k 0)) fun k hk=>by
       have hk':k<b.lamps.length:=CQ.mp hk
       obtain⟨l,hl⟩:∃l,b.lamps[k]? = some l:=⟨_,AC hk'⟩
       have et:(b.lamps.map (·.tank)).getD k 0=l.tank:=by simp[hl]
       have i0:∀ν:Sto,ixD (g6 l) (.int 0) ν=.ok (.int l.tank) ν:=fun _=>rfl
       rw[et]
       by_cases h:l.tank<lv.getD k 0
       ·simp! only[ka,je,jf,il k hk',ph,bz hl,i0,h,if_true]
       ·simp! only[ka,je,jf,il k hk',ph,bz hl,i0,h,if_false,AR]]
      rw[ko]
     by_cases q5:Hk b lv
     ·rw[if_neg (not_not_intro q5)]
      rw[Hn q5,DN]at c2
      by_cases sp:k7 d.length b.lamps.length t.spans
      ·rw[if_neg (not_not_intro sp)]
       have k1:=ar ((oz (n:=n) (μ:=μ) (L:=d.length) (lamps:=b.lamps.length) (ss:=t.spans) (by omega)).1 sp) rfl rfl hr
       have c3:h7 (ak GL (n+1)) .z (.one 2) jg jh [some (.int i),some (cf b),none] (t.spans.map eSpan,none) μ=.ok (.lst ((t.spans.filter fun s=>decide ((i:Int)∈(b.lamps.map (·.away)).getD s.lamp.toNat [])).map eSpan)) μ:=by
        rw[h8 (g:=eSpan) (p:=fun s:Span=>decide ((i:Int)∈(b.lamps.map (·.away)).getD s.lamp.toNat [])) fun s hs=>by
         obtain⟨K,l,hK,hl,ea⟩:=Ho (sp.1 s hs)
         have ix:ixD (.tup (b.lamps.map g6)) (.int s.lamp) μ=.ok (g6 l) μ:=by rw[←hK];exact bz hl
         have i2:∀ν:Sto,ixD (g6 l) (.int 2) ν=.ok (cw l.away) ν:=fun _=>rfl
         rw[←ea]
         by_cases h:(i:Int)∈l.away
         ·simp! only[ka,jg,jh,ph,rp,ix,i2,vo,h,if_true]
         ·simp! only[ka,jg,jh,ph,rp,ix,i2,vo,h,if_false,AR]]
        rw[ko]
       by_cases aw:Hj b i t.spans
       ·rw[if_neg (not_not_intro aw)]
        rw[Hn aw,DN]at c3
        have lp:=k8 (φ:=ak GL (n+1)) (μ:=μ) (tg:=.one 15) (b:=jl) (xs:=List.range b.lamps.length) (en:=fun(k:Nat)=>D.int k) (v:=.str (Str.ofString "oil"))
         (σ:=[some (cf b),some (.int i),some (.int H.1),some T,some (eTn t),some (.int d.boat),some (.int d.most),some (.int d.price),some (.int d.length),some (.int d.wanted),some (.int t.taken),some (.int t.bought),some (cw t.poured),some (.tup (t.spans.map eSpan)),some (.lst (lv.map D.int)),none])
         (fun σ=>∃v,σ=[some (cf b),some (.int i),some (.int H.1),some T,some (eTn t),some (.int d.boat),some (.int d.most),some (.int d.price),some (.int d.length),some (.int d.wanted),some (.int t.taken),some (.int t.bought),some (cw t.poured),some (.tup (t.spans.map eSpan)),some (.lst (lv.map D.int)),v])
         (fun k=>lv.getD k 0<bf t.spans k) ⟨none,rfl⟩ (by
          rintro k hk σ ⟨v,rfl⟩
          have hk':k<b.lamps.length:=CQ.mp hk
          have c4:h7 (ak GL (n+1)) .z (.one 1) ji jk [some (.int k),none] (t.spans.map eSpan,none) μ=.ok (.lst (((t.spans.filter fun s=>decide (s.lamp=(k:Int))).map fun s=>s.fin-s.start).map D.int)) μ:=by
           rw[h8 (g:=fun s:Span=>D.int (s.fin-s.start)) (p:=fun s:Span=>decide (s.lamp=(k:Int))) fun s _=>by
            by_cases q:s.lamp=(k:Int)
            ·simp! only[ka,ji,jk,rp,ux,z7,q,if_true]
            ·simp! only[ka,ji,jk,rp,q,if_false,AR]]
           rw[ko,BA];rfl
          have b4:=bt_sum (μ:=μ) (m:=.z) (bc (μ:=μ)) (ij ((t.spans.filter fun s=>decide (s.lamp=(k:Int))).map fun s=>s.fin-s.start))
          rw[Hr]at b4
          by_cases q:lv.getD k 0<bf t.spans k
          ·refine⟨fun z=>absurd q z,fun _=>?_⟩
           simp! only[fLp,jl,c4,b4,il k hk',q]
          ·refine⟨fun _=>⟨_,?_,some (.int k),rfl⟩,fun z=>absurd z q⟩
           simp! only[fLp,jl,c4,b4,il k hk',q])
        by_cases ol:Ov b.lamps.length lv t.spans
        ·rw[if_neg (not_not_intro ol)]
         obtain⟨σ',el,v,rfl⟩:=lp.1 ol
         have kd:=Bp (n:=n) (μ:=μ) (lo:=0) (hi:=b.lamps.length) (w:=d.wanted) sp.1 (by omega) hs
         by_cases lt:Lit d.length d.wanted t.spans
         ·rw[if_neg (not_not_intro lt)]
          simp! only[D_law_word,gm,bz hd,bq,f6,a1,a2,a3,a4,ks0,c0,l0,z0,sum_ints,q4,lT,kr,c1,lf,c2,k1,c3,el,ar (kd.1 lt) rfl rfl hr,eL]
         ·rw[if_pos lt]
          simp! only[D_law_word,gm,bz hd,bq,f6,a1,a2,a3,a4,ks0,c0,l0,z0,sum_ints,q4,lT,kr,c1,lf,c2,k1,c3,el,ar (kd.2 lt) rfl rfl hr,eL]
        ·rw[if_pos ol]
         simp! only[D_law_word,gm,bz hd,bq,f6,a1,a2,a3,a4,ks0,c0,l0,z0,sum_ints,q4,lT,kr,c1,lf,c2,k1,c3,lp.2 ol,eL]
       ·rw[if_pos aw]
        have l3:=bt_len (μ:=μ) (m:=.z) (bc (μ:=μ) (ds:=(t.spans.filter fun s=>decide ((i:Int)∈(b.lamps.map (·.away)).getD s.lamp.toNat [])).map eSpan))
        rw[AG]at l3
        simp! only[D_law_word,gm,bz hd,bq,f6,a1,a2,a3,a4,ks0,c0,l0,z0,sum_ints,q4,lT,kr,c1,lf,c2,k1,c3,l3,Br aw,eL]
      ·rw[if_pos sp]
       have k1:=ar ((oz (n:=n) (μ:=μ) (L:=d.length) (lamps:=b.lamps.length) (ss:=t.spans) (by omega)).2 sp) rfl rfl hr
       simp! only[D_law_word,gm,bz hd,bq,f6,a1,a2,a3,a4,ks0,c0,l0,z0,sum_ints,q4,lT,kr,c1,lf,c2,k1,eL]
     ·rw[if_pos q5]
      have l2:=bt_len (μ:=μ) (m:=.z) (bc (μ:=μ) (ds:=((List.range b.lamps.length).filter fun(k:Nat)=>decide ((b.lamps.map (·.tank)).getD k 0<lv.getD k 0)).map fun(k:Nat)=>D.int k))
      rw[AG]at l2
      simp! only[D_law_word,gm,bz hd,bq,f6,a1,a2,a3,a4,ks0,c0,l0,z0,sum_ints,q4,lT,kr,c1,lf,c2,l2,Br q5,eL]
   ·rw[if_pos fun z=>q3 z.1]
    have l0:=bt_len (μ:=μ) (m:=.z) (bc (μ:=μ) (ds:=(t.poured.filter fun x=>decide (x<0)).map D.int))
    rw[AG]at l0
    simp! only[D_law_word,gm,bz hd,bq,f6,a1,a2,a3,a4,ks0,c0,l0,Br q3,eL]
  ·rw[if_pos q2]
   by_cases z:t.bought<0
   ·simp! only[D_law_word,gm,bz hd,bq,f6,a1,a2,z,eL]
   ·have z2:d.most<t.bought:=BX fun y=>q2 ⟨by omega,by omega⟩
    simp! only[D_law_word,gm,bz hd,bq,f6,a1,a2,z,z2,eL]
 ·rw[if_pos q1]
  by_cases z:t.taken<0
  ·simp! only[D_law_word,gm,bz hd,bq,f6,z,eL]
  ·have z2:d.boat<t.taken:=BX fun y=>q1 ⟨by omega,by omega⟩
   simp! only[D_law_word,gm,bz hd,bq,f6,z,z2,eL]
end
end Lr
namespace Lr
open Lp
open PySem
structure Shape (b:Book) (rs:List Tn):Prop where
 lamps:1≤b.lamps.length∧b.lamps.length≤8
 same:rs.length=b.days.length
 few:rs.length≤16
 turn:∀t∈rs,t.poured.length=b.lamps.length∧t.spans.length≤31
 len:∀d∈b.days,1≤d.length
noncomputable def wordAt (b:Book) (rs:List Tn) (i:Nat):Option Str:=match rs[i]?,b.days[i]? with
 | some t,some d=>Ia b i (held b rs i) t d
 | _,_=>none
theorem p7 {b:Book} {rs:List Tn} {i:Nat} {t:Tn} {d:Day} (h1:rs[i]? = some t) (h2:b.days[i]? = some d):wordAt b rs i=Ia b i (held b rs i) t d:=by rw[wordAt,h1,h2]
theorem Oy {b:Book} {i:Nat} {H:Int×List Int} {t:Tn} {d:Day} {w:Str} (h:Ia b i H t d=some w):¬w=Str.ofString "":=by
 unfold Ia vn at h
 repeat' split at h
 all_goals first
  | (cases h;done)
  | (rw[←BL h];decide)
section
variable {n : Nat} {μ ρ : Sto} {φ : Phi} {σ : Sl}
theorem qu {α:Type} {tg:Tg} {b:Sms} {en:α→D} {xs:List α} (I:Nat→Sl→Sto→Prop) (W:Nat→Prop) (R:Nat→D→Sto→Prop) (h0:I 0 σ μ)
  (st:∀(k:Nat) a σ μ,xs[k]? = some a→I k σ μ→(¬W k→∃σ' μ',fLp φ tg b (en a) σ μ=.ok (.nx σ') μ'∧I (k+1) σ' μ')∧(W k→∃v μ',fLp φ tg b (en a) σ μ=.ok (.rt v) μ'∧R k v μ')) :
  ((∀k,k<xs.length→¬W k)→∃σ' μ',qm φ tg b σ (xs.map en,none) μ=.ok (.nx σ') μ'∧I xs.length σ' μ') ∧
  (∀k,k<xs.length→W k→(∀j,j<k→¬W j)→∃v μ',qm φ tg b σ (xs.map en,none) μ=.ok (.rt v) μ'∧R k v μ'):=by
 refine⟨fun h=>mv I h0 fun k a σ μ e i=>(st k a σ μ e i).1 (h k (AL.mp e).1),fun k hk hw hn=>?_⟩
 obtain⟨fl,μ',e,v,rfl,r⟩:=zt (g:=none) (f:=fLp φ tg b) (ds:=xs.map en) (σ:=σ) (μ:=μ) (fun j σ μ=>j≤k∧I j σ μ) (fun fl μ'=>∃v,fl=.rt v∧R k v μ') 0 (fun _ _ _ _=>trivial) ⟨CP _,h0⟩ (by
  rintro j d σ μ e ⟨hj,i⟩
  rw[Nat.zero_add]at hj i ⊢
  rw[BS]at e
  cases ex:xs[j]? with
  | none=>rw[ex]at e;cases e
  | some a =>
   rw[ex]at e
   cases e
   have s:=st j a σ μ ex i
   by_cases q:j=k
   ·subst q
    obtain⟨v,μ',e,r⟩:=s.2 hw
    exact⟨.rt v,μ',e,v,rfl,r⟩
   ·obtain⟨σ',μ',e,i'⟩:=s.1 (hn j (by omega))
    exact⟨.nx σ',μ',e,by omega,i'⟩) (by
  rintro σ μ ⟨h,_⟩
  rw[Nat.zero_add,AG]at h
  omega)
 exact⟨v,μ',e,r⟩
theorem uk (hr:kq μ) {b:Book} {rs:List Tn} (S:Shape b rs) :
  ((∀k,k<rs.length→wordAt b rs k=none)→ak GL (n+5) qj [cf b,.tup (rs.map eTn)] μ=.ok .non μ) ∧
  (∀k w,k<rs.length→wordAt b rs k=some w→(∀j,j<k→wordAt b rs j=none)→ak GL (n+5) qj [cf b,.tup (rs.map eTn)] μ=.ok (.tup [.int k,.str w]) μ):=by
 rw[aj N8,run_eq rfl]
 have k0:=ar (Kd (n:=n+3) (μ:=μ) b) (mx _) rfl hr
 have ke:kEnum (.tup (rs.map eTn)) μ=.ok (((List.range rs.length).zip rs).map (fun p:Nat×Tn=>D.tup [.int p.1,eTn p.2]),none) μ:=by
  simp only[kEnum,dy,AG]
  congr 2
  apply BU
  intro i
  by_cases hi:i<rs.length
  ·simp[CD,hi]
  ·simp[hi]
 have lp:=qu (φ:=ak GL (n+4)) (μ:=μ) (tg:=.many [3,4]) (b:=nk) (xs:=(List.range rs.length).zip rs) (en:=fun p:Nat×Tn=>D.tup [.int p.1,eTn p.2])
  (σ:=[some (cf b),some (.tup (rs.map eTn)),some (c6 (held b rs 0)),none,none,none])
  (fun j σ μ'=>μ'=μ∧∃v3 v4 v5,σ=[some (cf b),some (.tup (rs.map eTn)),some (c6 (held b rs j)),v3,v4,v5]) (fun k=>¬wordAt b rs k=none) (fun k v μ'=>μ'=μ∧∃w,wordAt b rs k=some w∧v=.tup [.int k,.str w]) ⟨rfl,none,none,none,rfl⟩ (by
   rintro j ⟨k,t⟩ σ μ' hj ⟨rfl,v3,v4,v5,rfl⟩
   rw[CD]at hj
   obtain⟨h1,h2⟩:=hj
   obtain⟨rfl,hk3⟩:=C7 h1
   have h2:rs[k]? = some t:=h2
   have hd:b.days[k]? = some (b.days[k]'(by rw[←S.same];exact hk3)):=AC _
   have ht:=S.turn t (BD h2)
   have kd:=ar (Ox (n:=n) hr hd (Bo b rs k) ht.1 S.lamps.1 S.lamps.2 ht.2 (S.len _ (BD hd))) (Hl _) rfl hr
   have kb:=ar (He (n:=n+2) hr b (Bo b rs k) ht.1 S.lamps.2 (by omega)) (mx _) rfl hr
   rw[←Af b rs h2]at kb
   rw[←p7 h2 hd]at kd
   refine⟨fun q=>?_,fun q=>?_⟩
   ·rw[BM.mp q,eW]at kd
    have nn:cpD .isnot .non .non μ'=.ok (.bl false) μ':=rfl
    refine⟨_,μ',?_,rfl,some (.int k),some (eTn t),some .non,rfl⟩
    simp! only[fLp,nk,oq,kd,nn,kb]
   ·obtain⟨w,hw⟩:=ET.mp q
    rw[hw,eW]at kd
    have nn:cpD .isnot (.str w) .non μ'=.ok (.bl true) μ':=rfl
    refine⟨_,μ',?_,rfl,w,hw,rfl⟩
    simp! only[fLp,nk,oq,kd,nn])
 have e0:c6 (b.oil,b.lamps.map (·.oil))=c6 (held b rs 0):=rfl
 rw[e0]at k0
 have ll:((List.range rs.length).zip rs).length=rs.length:=by simp
 rw[ll]at lp
 refine⟨fun h=>?_,fun k w hk hw hn=>?_⟩
 ·obtain⟨σ',μ',e,rfl,v3,v4,v5,rfl⟩:=lp.1 fun k hk=>not_not_intro (h k hk)
  simp! only[D_fault,k0,ke,e]
 ·obtain⟨v,μ',e,rfl,w',hw',rfl⟩:=lp.2 k hk (by rw[hw];simp) fun j hj=>not_not_intro (hn j hj)
  rw[hw]at hw'
  cases hw'
  simp! only[D_fault,k0,ke,e]
theorem Hs (hr:kq μ) {b:Book} {rs:List Tn} (S:Shape b rs) :
  ((∀k,k<rs.length→wordAt b rs k=none)→ak GL (n+6) uc [cf b,.tup (rs.map eTn)] μ=.ok (.bl true) μ) ∧
  (∀k w,k<rs.length→wordAt b rs k=some w→(∀j,j<k→wordAt b rs j=none)→ak GL (n+6) uc [cf b,.tup (rs.map eTn)] μ=.ok (.bl false) μ):=by
 rw[aj N9,run_eq rfl]
 refine⟨fun h=>?_,fun k w hk hw hn=>?_⟩
 ·have nn:cpD .is .non .non μ=.ok (.bl true) μ:=rfl
  simp! only[D_keeps,ar ((uk (n:=n) hr S).1 h) rfl rfl hr,nn]
 ·have nn:cpD .is (.tup [.int k,.str w]) .non μ=.ok (.bl false) μ:=rfl
  simp! only[D_keeps,ar ((uk (n:=n) hr S).2 k w hk hw hn) rfl rfl hr,nn]
theorem Kk (hr:kq μ) (hρ:ρ.all noR=true):kq (μ++ρ):=by
 unfold kq at hr ⊢
 rw[AO]at hr ⊢
 intro o ho
 rcases DH.mp ho with h | h
 ·have:=hr o h
  cases o with
  | r xs =>
   simp only[ik,AO]at this ⊢
   exact fun x hx=>pk (by simp) 8 x (this x hx)
  | _=>rfl
 ·exact vh _ o (AO.mp hρ o h)
theorem Aj {xs:List Int} {k:Nat} {v:Int} (hk:k<xs.length):Ds (.loc μ.length) (.int k) (.int v) (μ++[.l (xs.map D.int)])=.ok () (μ++[.l ((xs.set k v).map D.int)]):=by
 have e:ixN (xs.map D.int).length (k:Int)=some k:=Rv (by simpa using hk)
 simp only[Ds,jz,ma,e,fits,xq,if_true,putL,pj,Res.bw,List.map_set]
theorem Rw {k:Nat} {ds:List D} {d:D} (h:μ[k]? = some (.l ds)) (hd:d.pure=true) (hl:ds.length<1000000):mtD .append (.loc k) [d] μ=.ok .non (μ.set k (.l (ds++[d]))):=by
 have:ds.length<lim:=by unfold lim;omega
 simp only[mtD,Aw,h,ma,mtL,j5,fits,hd,this,and_self,if_true,putL]
theorem Vm {k:Nat} {ds:List D} {es:Exs} (h:μ[k]? = some (.l ds)):kM φ .append es σ (.loc k) μ=(i7 φ es σ μ).bind (mtD .append (.loc k)):=Ob (by simp only[jr,Lp.listOf,h];rfl)
noncomputable def uy (L:Nat) (lv:List Int) (ss:List Span):List Int:=(List.range L).map fun(k:Nat)=>lv.getD k 0-bf ss k
theorem Ht {L:Nat} {lv:List Int} {ss:List Span} {s:Span} {K:Nat} (hK:(K:Int)=s.lamp) (hL:K<L):(uy L lv ss).set K ((uy L lv ss).getD K 0-(s.fin-s.start))=uy L lv (ss++[s]):=by
 apply BU
 intro i
 by_cases hi:i<L
 ·by_cases h:i=K
  ·subst h
   simp only[uy,nr,List.getElem?_set_self',Hd hL]
   simp[hi,hK]
   omega
  ·have h':¬s.lamp=(i:Int):=by omega
   rw[CC (fun z=>h z.symm)]
   simp[uy,nr,hi,h']
 ·rw[AV (by simp[uy];omega),AV (by simp[uy];omega)]
theorem Kl (L:Nat) (lv:List Int) (h:lv.length=L):uy L lv []=lv:=by
 apply BU
 intro i
 by_cases hi:i<L
 ·simp[uy,bf,hi,h]
 ·rw[AV (by simp[uy];omega),AV (by omega)]
end
end Lr
namespace Lr
open Lp
open PySem
theorem Hu {b:Book} {i:Nat} {H:Int×List Int} {t:Tn} {d:Day} (h:Ia b i H t d=none):k7 d.length b.lamps.length t.spans:=by
 refine BX fun z=>?_
 unfold Ia vn at h
 rw[if_pos z]at h
 repeat' split at h
 all_goals cases h
theorem Hv (st:Int) (L:Nat) (H:Int×List Int) (t:Tn):(j0 st L H t).2=uy L (qr L H.2 t.poured) t.spans:=by
 unfold j0 uy qr
 refine DL fun k hk=>?_
 rw[Hd (CQ.mp hk)]
section
variable {n : Nat} {μ ρ : Sto} {φ : Phi} {σ : Sl}
theorem Km (hr:kq μ) {b:Book} {rs:List Tn} (S:Shape b rs) :
  ((∀k,k<rs.length→wordAt b rs k=none)→∃ρ,ak GL (n+3) ie [cf b,.tup (rs.map eTn)] μ=.ok (.tup [.non,.lst ((evs b rs).map c6)]) (μ++ρ)) ∧
  (∀k w,k<rs.length→wordAt b rs k=some w→(∀j,j<k→wordAt b rs j=none)→∃(hs:List (Int×List Int)) (ρ:Sto),ak GL (n+3) ie [cf b,.tup (rs.map eTn)] μ=.ok (.tup [.tup [.int k,.str w],.lst (hs.map c6)]) (μ++ρ)):=by
 rw[aj zr,run_eq rfl]
 have c0:=comp_map (m:=.l) (μ:=μ) (φ:=ak GL (n+2)) (tg:=.one 0) (cs:=.nil) (elt:=jv) (σ0:=[none]) (xs:=b.lamps) (en:=g6) (g:=fun l=>D.int l.oil) (by
  intro l _
  have i1:∀ν:Sto,ixD (g6 l) (.int 1) ν=.ok (.int l.oil) ν:=fun _=>rfl
  simp! only[ka,jv,i1])
 rw[show b.lamps.map (fun l=>D.int l.oil)=(b.lamps.map (·.oil)).map D.int by rw[BA];rfl,J9 (Bm _)]at c0
 have hν:kq (μ++[O.l ((b.lamps.map (·.oil)).map D.int)]):=G7 hr _
 have hq0:∀x:O,(μ++[O.l ((b.lamps.map (·.oil)).map D.int)]++[x])[μ.length]? = some (.l ((held b rs 0).2.map D.int)):=fun x=>by simp[held]
 have m1:mkL .l [] (μ++[O.l ((b.lamps.map (·.oil)).map D.int)])=.ok (.loc (μ++[O.l ((b.lamps.map (·.oil)).map D.int)]).length) (μ++[O.l ((b.lamps.map (·.oil)).map D.int)]++[.l []]):=J9 rfl
 have e0:∀ρ:Sto,∃ρ':Sto,μ++[O.l ((b.lamps.map (·.oil)).map D.int)]++ρ=μ++ρ':=fun ρ=>⟨_,FO _ _ _⟩
 generalize μ++[O.l ((b.lamps.map (·.oil)).map D.int)]=ν at *
 have lp:=qu (φ:=ak GL (n+2)) (μ:=ν++[.l []]) (tg:=.one 5) (b:=gy) (xs:=List.range rs.length) (en:=fun(k:Nat)=>D.int k)
  (σ:=[some (cf b),some (.tup (rs.map eTn)),some (.int b.oil),some (.loc μ.length),some (.loc ν.length),none,none,none,none,none,none,none,none,none])
  (fun j σ μ'=>∃(ρ:Sto) (q:Nat) (v:Nat→Option D),ρ.all noR=true∧(∀x:O,(ν++x::ρ)[q]? = some (.l ((held b rs j).2.map D.int)))∧μ'=ν++O.l (((List.range j).map fun i=>held b rs (i+1)).map c6)::ρ ∧
   σ=[some (cf b),some (.tup (rs.map eTn)),some (.int (held b rs j).1),some (.loc q),some (.loc ν.length),v 5,v 6,v 7,v 8,v 9,v 10,v 11,v 12,v 13])
  (fun k=>¬wordAt b rs k=none) (fun k v μ'=>∃(w:Str) (hs:List (Int×List Int)) (ρ:Sto),wordAt b rs k=some w∧v=.tup [.tup [.int k,.str w],.lst (hs.map c6)]∧μ'=ν++ρ)
  ⟨[],μ.length,fun _=>none,rfl,hq0,rfl,rfl⟩ (by
   rintro j k σ μ' hj ⟨ρ,q,v,hρ,hq,rfl,rfl⟩
   obtain⟨rfl,hk⟩:=C7 hj
   have h2:rs[k]? = some rs[k]:=AC hk
   obtain⟨d,hd⟩:∃d,b.days[k]? = some d:=⟨_,AC (by rw[←S.same];exact hk)⟩
   generalize rs[k]=t at *
   have ht:=S.turn t (BD h2)
   have h1:=S.len _ (BD hd)
   have H:=Bo b rs k
   have hx:=hq (.l (((List.range k).map fun i=>held b rs (i+1)).map c6))
   have hS:kq (ν++O.l (((List.range k).map fun i=>held b rs (i+1)).map c6)::ρ):=Kk hν (by rw[BC,hρ];rfl)
   have hT:fg (ν++O.l (((List.range k).map fun i=>held b rs (i+1)).map c6)::ρ) (.loc q)=some ((held b rs k).2.map D.int):=by simp only[fg,hx]
   have kw:=ar (Kj (n:=n) hS hT hd H ht.1 S.lamps.2 ht.2 h1) (Ow _) rfl hS
   rw[←p7 h2 hd]at kw
   have hh:(ν++O.l (((List.range k).map fun i=>held b rs (i+1)).map c6)::ρ)[ν.length]? = some (.l (((List.range k).map fun i=>held b rs (i+1)).map c6)):=by simp
   have hsl:∀o:O,(ν++O.l (((List.range k).map fun i=>held b rs (i+1)).map c6)::ρ).set ν.length o=ν++o::ρ:=fun o=>by simp
   have hql:∀y:O,(ν++O.l (((List.range k).map fun i=>held b rs (i+1)).map c6)::ρ++[y]).set ν.length=fun o=>ν++o::(ρ++[y]):=fun y=>by funext o;simp
   have hhl:∀y:O,(ν++O.l (((List.range k).map fun i=>held b rs (i+1)).map c6)::ρ++[y])[ν.length]? = some (.l (((List.range k).map fun i=>held b rs (i+1)).map c6)):=fun y=>by simp
   have hnw:∀x y:O,(ν++x::(ρ++[y]))[(ν++O.l (((List.range k).map fun i=>held b rs (i+1)).map c6)::ρ).length]? = some y:=fun x y=>by
    rw[show ν++x::(ρ++[y])=(ν++x::ρ)++[y]by simp,show(ν++O.l (((List.range k).map fun i=>held b rs (i+1)).map c6)::ρ).length=(ν++x::ρ).length by simp]
    exact jz
   generalize ehs:(List.range k).map (fun i=>held b rs (i+1))=hs at *
   refine⟨fun z=>?_,fun z=>?_⟩
   ·have hw:=BM.mp z
    have sp:=Hu (by rw[←p7 h2 hd];exact hw)
    rw[hw,eL]at kw
    have ne0:cpD .ne (.str (Str.ofString "")) (.str (Str.ofString "")) (ν++O.l (hs.map c6)::ρ)=.ok (.bl false) (ν++O.l (hs.map c6)::ρ):=by rw[J1 rfl rfl];simp[deq]
    generalize eN:ν++O.l (hs.map c6)::ρ=N at *
    have lT:btD .len .z [.loc q] N=.ok (.int b.lamps.length) N:=by rw[bt_len hT,AG,H]
    generalize hHH:held b rs k=HH at *
    have c1:=comp_map (m:=.l) (μ:=N) (φ:=ak GL (n+2)) (tg:=.one 2) (cs:=.nil) (elt:=jw) (σ0:=[some (.loc q),some (cw t.poured),none]) (xs:=List.range b.lamps.length) (en:=fun(k:Nat)=>D.int k) (g:=fun k=>D.int (HH.2.getD k 0+t.poured.getD k 0)) (by
     intro j hj
     have hj':j<b.lamps.length:=CQ.mp hj
     simp! only[ka,jw,ui hT (show j<HH.2.length by omega),ui (x:=cw t.poured) (μ:=N) rfl (show j<t.poured.length by omega)])
    rw[show(List.range b.lamps.length).map (fun k=>D.int (HH.2.getD k 0+t.poured.getD k 0))=(qr b.lamps.length HH.2 t.poured).map D.int by rw[qr,BA];rfl,J9 (Bm _)]at c1
    have hll:=p6 b.lamps.length HH.2 t.poured
    have hst:=Hv b.store b.lamps.length HH t
    have hst1:(j0 b.store b.lamps.length HH t).1=min b.store (HH.1+t.taken+t.bought-t.poured.sum):=Int.min_comm _ _
    generalize qr b.lamps.length HH.2 t.poured=lv at *
    obtain⟨σ2,μ2,e2,rfl,a,b',c',rfl⟩:=mv (φ:=ak GL (n+2)) (μ:=N++[.l (lv.map D.int)]) (tg:=.many [11,12,13]) (b:=jx) (xs:=t.spans) (en:=eSpan)
     (σ:=[some (cf b),some (.tup (rs.map eTn)),some (.int (min b.store (HH.1+t.taken+t.bought-t.poured.sum))),some (.loc N.length),some (.loc ν.length),some (.int k),some (.str (Str.ofString "")),some (.int t.taken),some (.int t.bought),some (cw t.poured),some (.tup (t.spans.map eSpan)),v 11,v 12,v 13])
     (fun j σ μ'=>μ'=N++[.l ((uy b.lamps.length lv (t.spans.take j)).map D.int)]∧∃a b' c',σ=[some (cf b),some (.tup (rs.map eTn)),some (.int (min b.store (HH.1+t.taken+t.bought-t.poured.sum))),some (.loc N.length),some (.loc ν.length),some (.int k),some (.str (Str.ofString "")),some (.int t.taken),some (.int t.bought),some (cw t.poured),some (.tup (t.spans.map eSpan)),a,b',c'])
     ⟨by rw[List.take_zero,Kl _ _ hll],_,_,_,rfl⟩ (by
      rintro j s σ μ' hs ⟨rfl,a,b',c',rfl⟩
      have g:=(sp.1 s (BD hs)).lamp
      obtain⟨K,hK⟩:∃K:Nat,(K:Int)=s.lamp:=⟨s.lamp.toNat,by omega⟩
      have hK2:K<(uy b.lamps.length lv (t.spans.take j)).length:=by simp[uy];omega
      have ub:∀σ:Sl,gk (.many [11,12,13]) (eSpan s) σ=some (((σ.set 11 (some (.int s.lamp))).set 12 (some (.int s.start))).set 13 (some (.int s.fin))):=fun _=>rfl
      have i1:ixD (.loc N.length) (.int s.lamp) (N++[.l ((uy b.lamps.length lv (t.spans.take j)).map D.int)])=.ok (.int ((uy b.lamps.length lv (t.spans.take j)).getD K 0)) (N++[.l ((uy b.lamps.length lv (t.spans.take j)).map D.int)]):=by
       rw[←hK];exact ui nq hK2
      have i2:Ds (.loc N.length) (.int s.lamp) (.int ((uy b.lamps.length lv (t.spans.take j)).getD K 0-(s.fin-s.start))) (N++[.l ((uy b.lamps.length lv (t.spans.take j)).map D.int)])=.ok () (N++[.l ((uy b.lamps.length lv (t.spans.take (j+1))).map D.int)]):=by
       have et:t.spans.take (j+1)=t.spans.take j++[s]:=by rw[DG,hs];rfl
       rw[et,←Ht hK (by omega),←hK]
       exact Aj hK2
      refine⟨_,_,?_,rfl,some (.int s.lamp),some (.int s.start),some (.int s.fin),rfl⟩
      simp! only[fLp,ub,jx,i1,i2])
    rw[BY (AH _),←hst]at e2
    have e3:=Af b rs h2
    have hnx:held b rs (k+1)=j0 b.store b.lamps.length HH t:=by rw[e3,hHH]
    have ap:=Rw (μ:=N++[.l ((j0 b.store b.lamps.length HH t).2.map D.int)]) (d:=c6 (j0 b.store b.lamps.length HH t)) (hhl _) (mx _) (by rw[AG,←ehs,AG,DF];have:=S.few;omega)
    rw[hql]at ap
    have ap':mtD .append (.loc ν.length) [.tup [.int (min b.store (HH.1+t.taken+t.bought-t.poured.sum)),.tup ((j0 b.store b.lamps.length HH t).2.map D.int)]] (N++[.l ((j0 b.store b.lamps.length HH t).2.map D.int)])=.ok .non (ν++O.l (hs.map c6++[c6 (j0 b.store b.lamps.length HH t)])::(ρ++[.l ((j0 b.store b.lamps.length HH t).2.map D.int)])):=by
     rw[←hst1];exact ap
    have km:∀(es:Exs) (σ:Sl),kM (ak GL (n+2)) .append es σ (.loc ν.length) (N++[.l ((j0 b.store b.lamps.length HH t).2.map D.int)])=_:=fun es σ=>Vm (hhl _)
    have i0:∀μ:Sto,ixD (cf b) (.int 0) μ=.ok (.int b.store) μ:=fun _=>rfl
    have bt:=bt_tuple (m:=.z) (nq (μ:=N) (ds:=(j0 b.store b.lamps.length HH t).2.map D.int))
    refine⟨[some (cf b),some (.tup (rs.map eTn)),some (.int (min b.store (HH.1+t.taken+t.bought-t.poured.sum))),some (.loc N.length),some (.loc ν.length),some (.int k),some (.str (Str.ofString "")),some (.int t.taken),some (.int t.bought),some (cw t.poured),some (.tup (t.spans.map eSpan)),a,b',c'],ν++O.l (hs.map c6++[c6 (j0 b.store b.lamps.length HH t)])::(ρ++[.l ((j0 b.store b.lamps.length HH t).2.map D.int)]),?_,ρ++[.l ((j0 b.store b.lamps.length HH t).2.map D.int)],N.length,fun i=>[none,none,none,none,none,some (.int k),some (.str (Str.ofString "")),some (.int t.taken),some (.int t.bought),some (cw t.poured),some (.tup (t.spans.map eSpan)),a,b',c'].getD i none,Ru hρ _,?_,?_,?_⟩
    ·simp! only[fLp,gy,bz h2,kw,ne0,f6,i0,sum_ints,lT,ff (show b.lamps.length≤1000000 by have:=S.lamps;omega),c1,e2,km,bt,ap']
    ·intro x;rw[hnx];exact hnw x _
    ·rw[List.range_succ,DI,DI,ehs,←hnx];rfl
    ·rw[hnx,hst1];rfl
   ·obtain⟨w,hw⟩:=ET.mp z
    rw[hw,eL]at kw
    have ne1:cpD .ne (.str w) (.str (Str.ofString "")) (ν++O.l (hs.map c6)::ρ)=.ok (.bl true) (ν++O.l (hs.map c6)::ρ):=by
     have:=Oy (by rw[←p7 h2 hd];exact hw)
     rw[J1 rfl rfl];simp[deq,this]
    have fz:evE (ak GL (n+2)) (.frz 4) [some (cf b),some (.tup (rs.map eTn)),some (.int (held b rs k).1),some (.loc q),some (.loc ν.length),some (.int k),some (.str w),v 7,v 8,v 9,v 10,v 11,v 12,v 13] (ν++O.l (hs.map c6)::ρ)=.ok (.lst (hs.map c6)) (ν++.dead::ρ):=by
     rw[Rr rfl hh,hsl]
    refine⟨_,_,?_,w,hs,.dead::ρ,hw,rfl,rfl⟩
    simp! only[fLp,gy,bz h2,kw,ne1,fz])
 rw[DF]at lp
 refine⟨fun h=>?_,fun k w hk hw hn=>?_⟩
 ·obtain⟨σ',μ',e,ρ,q,v,hρ,hq,rfl,rfl⟩:=lp.1 fun k hk=>not_not_intro (h k hk)
  have hh:(ν++O.l (((List.range rs.length).map fun i=>held b rs (i+1)).map c6)::ρ)[ν.length]? = some (.l (((List.range rs.length).map fun i=>held b rs (i+1)).map c6)):=by simp
  have fz:evE (ak GL (n+2)) (.frz 4) [some (cf b),some (.tup (rs.map eTn)),some (.int (held b rs rs.length).1),some (.loc q),some (.loc ν.length),v 5,v 6,v 7,v 8,v 9,v 10,v 11,v 12,v 13] (ν++O.l (((List.range rs.length).map fun i=>held b rs (i+1)).map c6)::ρ)=.ok (.lst ((evs b rs).map c6)) (ν++.dead::ρ):=by
   rw[Rr rfl hh];simp[evs]
  obtain⟨ρ',er⟩:=e0 (.dead::ρ)
  refine⟨ρ',?_⟩
  rw[←er]
  have i1:ixD (cf b) (.int 1) μ=.ok (.int b.oil) μ:=rfl
  simp! only[D_law_walk_2,i1,ph,c0,m1,bt_len dk,AG,ff (show rs.length≤1000000 by have:=S.few;omega),e,fz]
 ·obtain⟨v,μ',e,w',hs,ρ,hw',rfl,rfl⟩:=lp.2 k hk (by rw[hw];simp) fun j hj=>not_not_intro (hn j hj)
  rw[hw]at hw'
  cases hw'
  obtain⟨ρ',er⟩:=e0 ρ
  refine⟨hs,ρ',?_⟩
  rw[←er]
  have i1:ixD (cf b) (.int 1) μ=.ok (.int b.oil) μ:=rfl
  simp! only[D_law_walk_2,i1,ph,c0,m1,bt_len dk,AG,ff (show rs.length≤1000000 by have:=S.few;omega),e]
end
end Lr
namespace Lr
open Lp
open PySem
theorem ye {W:Nat→Prop}:∀{n:Nat},(¬∀k,k<n→¬W k)→∃k,k<n∧W k∧∀j,j<k→¬W j
 | 0,h=>absurd (fun k hk=>absurd hk (Nat.not_lt_zero k)) h
 | n+1,h=>by
  by_cases q:∀k,k<n→¬W k
  ·refine⟨n,EV n,BM.mp fun z=>h fun k hk=>?_,q⟩
   by_cases e:k=n
   ·subst e;exact z
   ·exact q k (by omega)
  ·obtain⟨k,hk,a,b⟩:=ye q
   exact⟨k,by omega,a,b⟩
section
variable {n : Nat} {μ ρ : Sto} {φ : Phi} {σ : Sl}
theorem Rx {cs:List Int} (h:ρ.all noR=true):kq (Lf cs::ρ):=by
 unfold kq
 rw[AO]
 intro o ho
 refine vh _ o ?_
 rcases AJ.mp ho with rfl | ho
 ·rfl
 ·exact AO.mp h o ho
theorem Hw (a b t:Int):∃v:Int,∀ν:Sto,ixD (.lst [.int a,.int b]) (.int (t % 2)) ν=.ok (.int v) ν:=by
 have h:t % 2=0∨t % 2=1:=by omega
 rcases h with h | h
 ·rw[h];exact⟨a,fun _=>rfl⟩
 ·rw[h];exact⟨b,fun _=>rfl⟩
theorem Oz (a b c t:Int):∃v:Int,∀ν:Sto,ixD (.lst [.int a,.int b,.int c]) (.int (t % 3)) ν=.ok (.int v) ν:=by
 have h:t % 3=0∨t % 3=1∨t % 3=2:=by omega
 rcases h with h | h | h
 ·rw[h];exact⟨a,fun _=>rfl⟩
 ·rw[h];exact⟨b,fun _=>rfl⟩
 ·rw[h];exact⟨c,fun _=>rfl⟩
theorem Ak (hr:∀cs,kq (Lf cs::ρ)) (cs:List Int) (bd:Int):∃v:Int,ak GL (n+2) ic [.loc 0,.int bd] (Lf cs::ρ)=.ok (.int v) (Lf cs.tail::ρ):=by
 rw[aj Gy,run_eq rfl]
 have k1:=mr (n:=n) hr cs
 have k2:=jy (n:=n) (hr cs.tail) (cs.headD 0)
 generalize cs.headD 0=c at *
 generalize c9 c=t at *
 generalize hM:Lf cs.tail::ρ=M at *
 have p59:opI .Pow 10 59 M=.ok (.int (10 ^ 59)) M:=op_pow (by decide)
 have m59:opI .Mult 2 (10 ^ 59) M=.ok (.int (2*10 ^ 59)) M:=op_mul (.left (by decide) (by decide))
 have d59:opI .Mod c (2*10 ^ 59) M=.ok (.int (c % (2*10 ^ 59))) M:=op_mod (by decide)
 have m9:opI .Mod t 9 M=.ok (.int (t % 9)) M:=op_mod (by decide)
 have d9:opI .FloorDiv t 9 M=.ok (.int (t / 9)) M:=n8 (by decide) (by decide)
 have m13:opI .Mod (t / 9) 13 M=.ok (.int (t / 9 % 13)) M:=op_mod (by decide)
 have m3:opI .Mod (t / 9) 3 M=.ok (.int (t / 9 % 3)) M:=op_mod (by decide)
 have m2:opI .Mod t 2 M=.ok (.int (t % 2)) M:=op_mod (by decide)
 by_cases q1:t % 9=8
 ·exact⟨c % (2*10 ^ 59)-10 ^ 59,by simp! only[D_law_any,k1,k2,m9,q1,p59,m59,d59]⟩
 ·by_cases q2:t % 9<6
  ·exact⟨min bd (t / 9 % 13),by simp! only[D_law_any,k1,k2,m9,q1,q2,d9,m13,bt_min]⟩
  ·obtain⟨v,hv⟩:=Hw bd (bd+1-t / 9 % 3) t
   exact⟨v,by simp! only[D_law_any,k1,k2,m9,q1,q2,d9,m3,m2,ko,hv]⟩
theorem Kn (ss:List Span) (hl:ss.length<64):∃ss':List Span,ss'.length=ss.length∧∀μ,btD .sorted .l [.loc (List.length μ)] (μ++[.l (ss.map eSpan)])=mkL .l (ss'.map eSpan) (μ++[.l (ss.map eSpan)]):=by
 refine⟨(uo (ss.map Om)).map unS,?_,fun μ=>?_⟩
 ·rw[AG,(Srt.nc (ss.map Om)).length_eq,AG]
 ·have hne:((ss.map Om).all fun r=>!r.isEmpty)=true:=by rw[EG,AO];intro x _;rfl
  have e:((uo (ss.map Om)).map fun r=>D.tup (r.map D.int))=((uo (ss.map Om)).map unS).map eSpan:=by
   rw[BA]
   refine DL fun r hr=>?_
   obtain⟨s,_,rfl⟩:=BI.mp ((Srt.nc _).mem_iff.mp hr)
   rfl
  simp only[btD,j5,Fj,Lp.listOf,jz,AG,hl,if_true,Av,vm,hne,e]
theorem Bs (ss:List Span):(ss.map eSpan).all (D.pureN 8)=true:=by
 rw[AO];intro x hx;obtain⟨s,_,rfl⟩:=BI.mp hx;exact mw s
theorem Bu (hρ:ρ.all noR=true) (cs:List Int) (L:Int) (lamps:Nat) (hl:1≤lamps):∃(ss:List Span) (cs':List Int) (ρ':Sto),ss.length≤4∧ak GL (n+3) gq [.loc 0,.int L,.int lamps] (Lf cs::ρ)=.ok (.tup (ss.map eSpan)) (Lf cs'::ρ++ρ'):=by
 rw[aj uf,run_eq rfl]
 have hR:∀(xs:List D) (cs:List Int),kq (Lf cs::(ρ++[.l xs])):=fun xs cs=>Rx (Ru hρ xs)
 have m0:mkL .l [] (Lf cs::ρ)=.ok (.loc (ρ.length+1)) (Lf cs::(ρ++[.l []])):=J9 rfl
 have k1:=mr (n:=n+1) (hR []) cs
 have k2:=jy (n:=n+1) (hR [] cs.tail) (cs.headD 0)
 generalize c9 (cs.headD 0)=t at *
 generalize cs.headD 0=c0 at *
 have m5:∀M:Sto,opI .Mod t 5 M=.ok (.int (t % 5)) M:=fun M=>op_mod (by decide)
 have d5:∀M:Sto,opI .FloorDiv t 5 M=.ok (.int (t / 5)) M:=fun M=>n8 (by decide) (by decide)
 have m4:∀M:Sto,opI .Mod (t / 5) 4 M=.ok (.int (t / 5 % 4)) M:=fun M=>op_mod (by decide)
 have kr:∀M:Sto,kRng (.int (t % 5)) M=.ok ((List.range (t % 5).toNat).map fun(i:Nat)=>D.int i,none) M:=fun M=>G2 (by omega)
 obtain⟨σ',μ',e,cs1,ss,v,hss,rfl,rfl⟩:=mv (φ:=ak GL (n+2)) (μ:=Lf cs.tail::(ρ++[.l []])) (tg:=.one 5) (b:=fc) (xs:=List.range (t % 5).toNat) (en:=fun(k:Nat)=>D.int k)
  (σ:=[some (.loc 0),some (.int L),some (.int lamps),some (.loc (ρ.length+1)),some (.int t),none,none,none,none])
  (fun j σ μ'=>∃(cs1:List Int) (ss:List Span) (v:Nat→Option D),ss.length=j∧σ=[some (.loc 0),some (.int L),some (.int lamps),some (.loc (ρ.length+1)),some (.int t),v 5,v 6,v 7,v 8]∧μ'=Lf cs1::(ρ++[.l (ss.map eSpan)]))
  ⟨cs.tail,[],fun _=>none,rfl,rfl,rfl⟩ (by
   rintro j k σ μ' hj ⟨cs1,ss,v,hss,rfl,rfl⟩
   have hj2:=(C7 hj).2
   have j1:=mr (n:=n+1) (hR (ss.map eSpan)) cs1
   have j2:=jy (n:=n+1) (hR (ss.map eSpan) cs1.tail) (cs1.headD 0)
   generalize c9 (cs1.headD 0)=c at *
   generalize cs1.headD 0=c1 at *
   obtain⟨st,a1⟩:=Ak (n:=n) (hR (ss.map eSpan)) cs1.tail (L-1)
   have j3:=ar a1 rfl rfl (hR (ss.map eSpan) _)
   obtain⟨en,a2⟩:=Ak (n:=n) (hR (ss.map eSpan)) cs1.tail.tail L
   have j4:=ar a2 rfl rfl (hR (ss.map eSpan) _)
   obtain⟨fi,hfi⟩:=Oz (st+1+c / 144 % 12) L en (c / 16)
   obtain⟨la,hla⟩:=Hw (-1) lamps (c / 72)
   have ml:∀M:Sto,opI .Mod c (lamps:Int) M=.ok (.int (c % lamps)) M:=fun M=>op_mod (by omega)
   have d8:∀M:Sto,opI .FloorDiv c 8 M=.ok (.int (c / 8)) M:=fun M=>n8 (by decide) (by decide)
   have m9:∀M:Sto,opI .Mod (c / 8) 9 M=.ok (.int (c / 8 % 9)) M:=fun M=>op_mod (by decide)
   have d72:∀M:Sto,opI .FloorDiv c 72 M=.ok (.int (c / 72)) M:=fun M=>n8 (by decide) (by decide)
   have m2:∀M:Sto,opI .Mod (c / 72) 2 M=.ok (.int (c / 72 % 2)) M:=fun M=>op_mod (by decide)
   have d144:∀M:Sto,opI .FloorDiv c 144 M=.ok (.int (c / 144)) M:=fun M=>n8 (by decide) (by decide)
   have m12:∀M:Sto,opI .Mod (c / 144) 12 M=.ok (.int (c / 144 % 12)) M:=fun M=>op_mod (by decide)
   have d16:∀M:Sto,opI .FloorDiv c 16 M=.ok (.int (c / 16)) M:=fun M=>n8 (by decide) (by decide)
   have m3:∀M:Sto,opI .Mod (c / 16) 3 M=.ok (.int (c / 16 % 3)) M:=fun M=>op_mod (by decide)
   have km:∀(es:Exs) (σ:Sl),kM (ak GL (n+2)) .append es σ (.loc (ρ.length+1)) (Lf cs1.tail.tail::(ρ++[.l (ss.map eSpan)]))=(i7 (ak GL (n+2)) es σ (Lf cs1.tail.tail::(ρ++[.l (ss.map eSpan)]))).bind (mtD .append (.loc (ρ.length+1))):=fun es σ=>Ls (μ:=Lf cs1.tail.tail::ρ)
   have ap:∀lm:Int,mtD .append (.loc (ρ.length+1)) [.tup [.int lm,.int st,.int fi]] (Lf cs1.tail.tail.tail::(ρ++[.l (ss.map eSpan)]))=.ok .non (Lf cs1.tail.tail.tail::(ρ++[.l ((ss++[Span.mk lm st fi]).map eSpan)])):=fun lm=>by
    have:=Lu (μ:=Lf cs1.tail.tail.tail::ρ) (ds:=ss.map eSpan) (d:=eSpan (Span.mk lm st fi)) (mw _) (by rw[AG];omega)
    rw[DI]
    exact this
   by_cases q:c / 8 % 9=1
   ·refine⟨[some (.loc 0),some (.int L),some (.int lamps),some (.loc (ρ.length+1)),some (.int t),some (.int k),some (.int c),some (.int la),some (.int st)],_,?_,cs1.tail.tail.tail,ss++[Span.mk la st fi],fun i=>[none,none,none,none,none,some (.int k),some (.int c),some (.int la),some (.int st)].getD i none,by simp[hss],rfl,rfl⟩
    simp! only[fLp,fc,j1,j2,ml,d8,m9,q,d72,m2,ko,hla,j3,km,d144,m12,j4,d16,m3,hfi,ap]
   ·refine⟨[some (.loc 0),some (.int L),some (.int lamps),some (.loc (ρ.length+1)),some (.int t),some (.int k),some (.int c),some (.int (c % lamps)),some (.int st)],_,?_,cs1.tail.tail.tail,ss++[Span.mk (c % lamps) st fi],fun i=>[none,none,none,none,none,some (.int k),some (.int c),some (.int (c % lamps)),some (.int st)].getD i none,by simp[hss],rfl,rfl⟩
    simp! only[fLp,fc,j1,j2,ml,d8,m9,q,ko,j3,km,d144,m12,j4,d16,m3,hfi,ap])
 rw[DF]at hss
 have h4:ss.length≤4:=by omega
 by_cases q:0<t / 5 % 4
 ·obtain⟨ss',hl',es⟩:=Kn ss (by omega)
  have es':=es (Lf cs1::ρ)
  rw[J9 (Bs _)]at es'
  have es2:btD .sorted .l [.loc (ρ.length+1)] (Lf cs1::(ρ++[.l (ss.map eSpan)]))=.ok (.loc (ρ.length+2)) (Lf cs1::(ρ++[.l (ss.map eSpan),.l (ss'.map eSpan)])):=by
   have:Lf cs1::ρ++[.l (ss.map eSpan)]++[.l (ss'.map eSpan)]=Lf cs1::(ρ++[.l (ss.map eSpan),.l (ss'.map eSpan)]):=by simp
   rw[this,show(Lf cs1::ρ++[O.l (ss.map eSpan)]).length=ρ.length+2 by simp]at es'
   exact es'
  have bt:btD .tuple .z [.loc (ρ.length+2)] (Lf cs1::(ρ++[.l (ss.map eSpan),.l (ss'.map eSpan)]))=.ok (.tup (ss'.map eSpan)) (Lf cs1::(ρ++[.l (ss.map eSpan),.l (ss'.map eSpan)])):=bt_tuple (by
   have:(Lf cs1::(ρ++[.l (ss.map eSpan),.l (ss'.map eSpan)]))[ρ.length+2]? = some (.l (ss'.map eSpan)):=by simp
   simp only[fg,this])
  refine⟨ss',cs1,[.l (ss.map eSpan),.l (ss'.map eSpan)],by omega,?_⟩
  simp! only[D_law_any_spans,m0,k1,k2,m5,kr,e,d5,m4,q,es2,bt]
 ·have bt:btD .tuple .z [.loc (ρ.length+1)] (Lf cs1::(ρ++[.l (ss.map eSpan)]))=.ok (.tup (ss.map eSpan)) (Lf cs1::(ρ++[.l (ss.map eSpan)])):=bt_tuple (nq (μ:=Lf cs1::ρ))
  refine⟨ss,cs1,[.l (ss.map eSpan)],h4,?_⟩
  simp! only[D_law_any_spans,m0,k1,k2,m5,kr,e,d5,m4,q,bt]
theorem Em (cs:List Int) (b:Book) (hL:1≤b.lamps.length∧b.lamps.length≤8) (hD:b.days.length≤16):∃(rs:List Tn) (cs':List Int) (ρ':Sto),rs.length=b.days.length∧(∀t∈rs,t.poured.length=b.lamps.length∧t.spans.length≤4) ∧
  ak GL (n+4) ia [.loc 0,cf b] [Lf cs]=.ok (.tup (rs.map eTn)) ([Lf cs']++ρ'):=by
 rw[aj uu,run_eq rfl]
 have m0:mkL .l [] [Lf cs]=.ok (.loc 1) [Lf cs,.l []]:=J9 rfl
 obtain⟨σ',μ',e,cs1,rs,v,hrl,hrs,rfl,rfl⟩:=mv (φ:=ak GL (n+3)) (μ:=[Lf cs,.l []]) (tg:=.many [3,4,5,6,7]) (b:=g9) (xs:=b.days) (en:=Cw)
  (σ:=[some (.loc 0),some (cf b),some (.loc 1),none,none,none,none,none,none,none,none])
  (fun j σ μ'=>∃(cs1:List Int) (rs:List Tn) (v:Nat→Option D),rs.length=j∧(∀t∈rs,t.poured.length=b.lamps.length∧t.spans.length≤4)∧σ=[some (.loc 0),some (cf b),some (.loc 1),v 3,v 4,v 5,v 6,v 7,v 8,v 9,v 10]∧μ'=[Lf cs1,.l (rs.map eTn)])
  ⟨cs,[],fun _=>none,rfl,by simp,rfl,rfl⟩ (by
   rintro j d σ μ' hj ⟨cs1,rs,v,hrl,hrs,rfl,rfl⟩
   have hj2:j<b.days.length:=(AL.mp hj).1
   have hR:∀cs:List Int,kq [Lf cs,.l (rs.map eTn)]:=fun cs=>Rx rfl
   obtain⟨tk,a1⟩:=Ak (n:=n+1) hR cs1 d.boat
   have k1:=ar a1 rfl rfl (hR _)
   obtain⟨bo,a2⟩:=Ak (n:=n+1) hR cs1.tail d.most
   have k2:=ar a2 rfl rfl (hR _)
   obtain⟨ps,cs2,hps,c1⟩:=Hb (S:=List Int) (m:=.z) (φ:=ak GL (n+3)) (tg:=.one 1) (cs:=.nil) (elt:=g8) (σ0:=[some (.loc 0),none]) (xs:=b.lamps) (en:=g6) (enS:=fun cs=>[Lf cs,.l (rs.map eTn)]) (by
    intro l _ cs
    obtain⟨x,ax⟩:=Ak (n:=n+1) hR cs l.tank
    have kx:=ar ax rfl rfl (hR _)
    have il:∀ν:Sto,ixD (g6 l) (.int 0) ν=.ok (.int l.tank) ν:=fun _=>rfl
    refine⟨x,cs.tail,?_⟩
    simp! only[ka,g8,il,kx]) cs1.tail.tail
   rw[ko]at c1
   obtain⟨ss,cs3,ρ',h4,a3⟩:=Bu (n:=n) (ρ:=[.l (rs.map eTn)]) rfl cs2 d.length b.lamps.length hL.1
   have k3:=z9 (μ:=[Lf cs2,.l (rs.map eTn)]) (μ':=[Lf cs3,.l (rs.map eTn)]) a3 rfl (by
    simp only[D.pure,ft,EG,AO]
    exact fun s _=>mw s) (hR _)
   have ln:∀M:Sto,btD .len .z [.tup (b.lamps.map g6)] M=.ok (.int b.lamps.length) M:=fun M=>by rw[bt_len dk,AG]
   have km:∀(es:Exs) (σ:Sl),kM (ak GL (n+3)) .append es σ (.loc 1) [Lf cs2,.l (rs.map eTn)]=(i7 (ak GL (n+3)) es σ [Lf cs2,.l (rs.map eTn)]).bind (mtD .append (.loc 1)):=fun es σ=>Ls (μ:=[Lf cs2])
   have ap:mtD .append (.loc 1) [.tup [.int tk,.int bo,.tup (ps.map D.int),.tup (ss.map eSpan)]] [Lf cs3,.l (rs.map eTn)]=.ok .non [Lf cs3,.l ((rs++[Tn.mk tk bo ps ss]).map eTn)]:=by
    have:=Lu (μ:=[Lf cs3]) (ds:=rs.map eTn) (d:=eTn (Tn.mk tk bo ps ss)) (Ha _) (by rw[AG];omega)
    rw[DI]
    exact this
   have bt:∀M:Sto,btD .tuple .z [.lst (ps.map D.int)] M=.ok (.tup (ps.map D.int)) M:=fun M=>bt_tuple bc
   refine⟨[some (.loc 0),some (cf b),some (.loc 1),some (.int d.boat),some (.int d.most),some (.int d.price),some (.int d.length),some (.int d.wanted),some (.int tk),some (.int bo),some (.tup (ps.map D.int))],[Lf cs3,.l ((rs++[Tn.mk tk bo ps ss]).map eTn)],?_,cs3,rs++[Tn.mk tk bo ps ss],fun i=>[none,none,none,some (.int d.boat),some (.int d.most),some (.int d.price),some (.int d.length),some (.int d.wanted),some (.int tk),some (.int bo),some (.tup (ps.map D.int))].getD i none,by simp[hrl],?_,rfl,rfl⟩
   ·simp! only[fLp,bq,g9,k1,k2,ph,c1,bt,km,ln,k3,ap]
   ·intro t ht
    rcases DH.mp ht with h | h
    ·exact hrs t h
    ·simp only[EH]at h
     subst h
     exact⟨hps,h4⟩)
 have bt:btD .tuple .z [.loc 1] [Lf cs1,.l (rs.map eTn)]=.ok (.tup (rs.map eTn)) [Lf cs1,.l (rs.map eTn)]:=bt_tuple (nq (μ:=[Lf cs1]))
 refine⟨rs,cs1,[.l (rs.map eTn)],hrl,hrs,?_⟩
 simp! only[D_law_any_rota,m0,gm,e,bt]
theorem O0 (hr:kq μ) {b:Book} {rs:List Tn} (S:Shape b rs) (hf:∀t∈rs,t.spans.length≤16) (hp:∀d∈b.days,0≤d.price∧d.price≤10 ^ 15):∃ρ:Sto,ak GL (n+3) fk [cf b,.tup (rs.map eTn)] μ=.ok (.bl true) (μ++ρ):=by
 rw[aj qk,run_eq rfl]
 have same:=S.same
 have few:=S.few
 have hL:=S.lamps
 have kc:=ar (Oo (n:=n+1) (μ:=μ) b rs hp) rfl rfl hr
 have c0:=Ad (μ:=μ) (φ:=ak GL (n+2)) (tg:=.one 2) (cs:=.nil) (elt:=f9) (σ0:=[some (.tup (rs.map eTn)),some (cf b),none]) (L:=rs.length) (f:=fun k=>((rs[k]?).map (·.bought)).getD 0*((b.days[k]?).map (·.price)).getD 0) (by
  intro k hk
  have h1:rs[k]? = some rs[k]:=AC hk
  have h2:b.days[k]? = some (b.days[k]'(by omega)):=AC _
  have o:=hp _ (BD h2)
  rw[h1,h2]
  generalize rs[k]=t at *
  generalize b.days[k]'(by omega)=d at *
  have hm:CMul t.bought d.price:=.right (by omega) (by omega)
  simp! only[ka,f9,bz h1,gm,bz h2,Lw,Ro,op_mul hm,GH])
 have ec:((List.range rs.length).map fun k=>((rs[k]?).map (·.bought)).getD 0*((b.days[k]?).map (·.price)).getD 0).sum=Ej rs b.days:=by
  unfold Ej
  congr 1
  apply BU
  intro i
  by_cases hi:i<rs.length
  ·have hz:(rs.zip b.days)[i]? = some (rs[i],b.days[i]'(by omega)):=by
    rw[CD]
    exact⟨AC hi,AC _⟩
   simp[hz,hi,show i<b.days.length by omega]
  ·rw[AV (by simp;omega),AV (by simp;omega)]
 have sm:=bt_sum (μ:=μ) (m:=.z) (bc (μ:=μ)) (ij ((List.range rs.length).map fun k=>((rs[k]?).map (·.bought)).getD 0*((b.days[k]?).map (·.price)).getD 0))
 rw[ec]at sm
 have kw:=ar (Cv (n:=n+1) (μ:=μ) (Ej rs b.days)) rfl rfl hr
 have lr:btD .len .z [.tup (rs.map eTn)] μ=.ok (.int rs.length) μ:=by rw[bt_len dk,AG]
 have lr':∀M:Sto,btD .len .z [.tup (rs.map eTn)] M=.ok (.int rs.length) M:=fun M=>by rw[bt_len dk,AG]
 have ll:btD .len .z [.tup (b.lamps.map g6)] μ=.ok (.int b.lamps.length) μ:=by rw[bt_len dk,AG]
 have c1:=comp_map (m:=.l) (μ:=μ) (φ:=ak GL (n+2)) (tg:=.one 0) (cs:=.nil) (elt:=gb) (σ0:=[none]) (xs:=List.range b.lamps.length) (en:=fun(k:Nat)=>D.int k) (g:=fun _=>D.int 0) (by
  intro k _
  simp! only[ka,gb])
 have ez:(List.range b.lamps.length).map (fun _=>D.int 0)=(TK b.lamps.length []).map D.int:=by rw[TK,BA];rfl
 rw[ez,J9 (Bm _)]at c1
 generalize hC:Ej rs b.days=C at *
 have inner:∀(ss0 ss:List Span) (k:Nat) (v:Nat→Option D),(∀s∈ss,0≤s.lamp∧s.lamp<b.lamps.length)→∃w7 w8 w9,qm (ak GL (n+2)) (.many [7,8,9]) dr [some (cf b),some (.tup (rs.map eTn)),some (.int C),some (.int C),some (.int b.lamps.length),some (.loc μ.length),some (.int k),v 7,v 8,v 9] (ss.map eSpan,none) (μ++[.l ((TK b.lamps.length ss0).map D.int)]) =
   .ok (.nx [some (cf b),some (.tup (rs.map eTn)),some (.int C),some (.int C),some (.int b.lamps.length),some (.loc μ.length),some (.int k),w7,w8,w9]) (μ++[.l ((TK b.lamps.length (ss0++ss)).map D.int)]):=by
  intro ss0 ss k v hss
  obtain⟨σ',μ',e,w7,w8,w9,rfl,rfl⟩:=mv (φ:=ak GL (n+2)) (μ:=μ++[.l ((TK b.lamps.length ss0).map D.int)]) (tg:=.many [7,8,9]) (b:=dr) (xs:=ss) (en:=eSpan)
   (σ:=[some (cf b),some (.tup (rs.map eTn)),some (.int C),some (.int C),some (.int b.lamps.length),some (.loc μ.length),some (.int k),v 7,v 8,v 9])
   (fun j σ μ'=>∃w7 w8 w9,σ=[some (cf b),some (.tup (rs.map eTn)),some (.int C),some (.int C),some (.int b.lamps.length),some (.loc μ.length),some (.int k),w7,w8,w9]∧μ'=μ++[.l ((TK b.lamps.length (ss0++ss.take j)).map D.int)])
   ⟨_,_,_,rfl,by simp⟩ (by
    rintro j s σ μ' hs ⟨w7,w8,w9,rfl,rfl⟩
    have hs2:=hss s (BD hs)
    obtain⟨K,hK⟩:∃K:Nat,(K:Int)=s.lamp:=⟨s.lamp.toNat,by omega⟩
    have hK2:K<b.lamps.length:=by omega
    have hK3:K<(TK b.lamps.length (ss0++ss.take j)).length:=by rw[Hc];exact hK2
    have i0:=ui (nq (μ:=μ) (ds:=(TK b.lamps.length (ss0++ss.take j)).map D.int)) hK3
    have e1:ss0++ss.take (j+1)=ss0++ss.take j++[s]:=by rw[DG,hs,FO];rfl
    have bt:∀σ:Sl,gk (.many [7,8,9]) (eSpan s) σ=some (((σ.set 7 (some (.int K))).set 8 (some (.int s.start))).set 9 (some (.int s.fin))):=fun σ=>by rw[hK];rfl
    refine⟨_,_,?_,some (.int K),some (.int s.start),some (.int s.fin),rfl,rfl⟩
    rw[e1,←Ot b.lamps.length (ss0++ss.take j) s hK hK2]
    simp! only[fLp,dr,bt,i0,Aj hK3])
  rw[BY (AH _)]at e
  exact⟨w7,w8,w9,e⟩
 have lp:=qu (φ:=ak GL (n+2)) (μ:=μ++[.l ((TK b.lamps.length []).map D.int)]) (tg:=.one 6) (b:=du) (xs:=List.range rs.length) (en:=fun(k:Nat)=>D.int k)
  (σ:=[some (cf b),some (.tup (rs.map eTn)),some (.int C),some (.int C),some (.int b.lamps.length),some (.loc μ.length),none,none,none,none])
  (fun j σ μ'=>μ'=μ++[.l ((TK b.lamps.length (oy (rs.take j))).map D.int)]∧∃v:Nat→Option D,σ=[some (cf b),some (.tup (rs.map eTn)),some (.int C),some (.int C),some (.int b.lamps.length),some (.loc μ.length),v 6,v 7,v 8,v 9])
  (fun k=>¬∀t d,rs[k]? = some t→b.days[k]? = some d→k7 d.length b.lamps.length t.spans) (fun k v μ'=>v=.bl true∧∃ρ:Sto,μ'=μ++ρ) ⟨rfl,fun _=>none,rfl⟩ (by
   rintro j k σ μ' hj ⟨rfl,v,rfl⟩
   obtain⟨rfl,hk⟩:=C7 hj
   have h1:rs[k]? = some rs[k]:=AC hk
   obtain⟨d,h2⟩:∃d,b.days[k]? = some d:=⟨_,AC (show k<b.days.length by omega)⟩
   have hf':=hf _ (BD h1)
   have e1:oy (rs.take (k+1))=oy (rs.take k)++rs[k].spans:=by rw[DG,h1,←Ac];rfl
   generalize rs[k]=t at *
   have H:kq (μ++[.l ((TK b.lamps.length (oy (rs.take k))).map D.int)]):=G7 hr _
   have sb:=oz (n:=n+1) (μ:=μ++[.l ((TK b.lamps.length (oy (rs.take k))).map D.int)]) (L:=d.length) (lamps:=b.lamps.length) (ss:=t.spans) (by omega)
   refine⟨fun q=>?_,fun q=>?_⟩
   ·have sp:=BM.mp q t d h1 h2
    obtain⟨w7,w8,w9,ei⟩:=inner (oy (rs.take k)) t.spans k v fun s hs=>(sp.1 s hs).lamp
    rw[←e1]at ei
    refine⟨_,_,?_,rfl,fun i=>[none,none,none,none,none,none,some (.int k),w7,w8,w9].getD i none,rfl⟩
    simp! only[fLp,du,gm,bz h2,Rp,bz h1,Lx,ar (sb.1 sp) rfl rfl H,ei]
    rfl
   ·have sp:¬k7 d.length b.lamps.length t.spans:=fun z=>q fun t' d' h1' h2'=>by
     rw[h1]at h1';rw[h2]at h2'
     cases h1';cases h2'
     exact z
    refine⟨.bl true,μ++[.l ((TK b.lamps.length (oy (rs.take k))).map D.int)],?_,rfl,_,rfl⟩
    simp! only[fLp,du,gm,bz h2,Rp,bz h1,Lx,ar (sb.2 sp) rfl rfl H])
 rw[DF]at lp
 have kr:=ff (μ:=μ) (show b.lamps.length≤1000000 by omega)
 have kr2:∀M:Sto,kRng (.int rs.length) M=.ok ((List.range rs.length).map fun(i:Nat)=>D.int i,none) M:=fun M=>ff (by omega)
 by_cases h:∀k,k<rs.length→¬¬∀t d,rs[k]? = some t→b.days[k]? = some d→k7 d.length b.lamps.length t.spans
 ·obtain⟨σ',μ',e,rfl,v,rfl⟩:=lp.1 h
  rw[BY (AH _)]at e
  have H:kq (μ++[.l ((TK b.lamps.length (oy rs)).map D.int)]):=G7 hr _
  obtain⟨ρ1,eb⟩:=Kb (n:=n) H b rs hL.2 few hf
  have kb:=fu eb (fj _) H
  have bt:=bt_tuple (m:=.z) (nq (μ:=μ) (ds:=(TK b.lamps.length (oy rs)).map D.int))
  have eq:∀M:Sto,cpD .eq (cw ((List.range b.lamps.length).map fun(k:Nat)=>bf (oy rs) k)) (.tup ((TK b.lamps.length (oy rs)).map D.int)) M=.ok (.bl true) M:=fun M=>by
   rw[show(D.tup ((TK b.lamps.length (oy rs)).map D.int))=cw ((List.range b.lamps.length).map fun(k:Nat)=>bf (oy rs) k)from rfl,Rn (fj _) (fj _),sd 8 _ (fj _)]
  refine⟨[.l ((TK b.lamps.length (oy rs)).map D.int)],?_⟩
  simp! only[D_law_sums_good_3,kc,lr,kr2,c0,sm,kw,ph,ll,kr,c1,lr',e,kb,bt,eq]
 ·obtain⟨k,hk,hw,hn⟩:∃k,k<rs.length∧(¬∀t d,rs[k]? = some t→b.days[k]? = some d→k7 d.length b.lamps.length t.spans)∧∀j,j<k→¬¬∀t d,rs[j]? = some t→b.days[j]? = some d→k7 d.length b.lamps.length t.spans:=ye h
  obtain⟨w,μ',e,rfl,ρ,rfl⟩:=lp.2 k hk hw hn
  refine⟨ρ,?_⟩
  simp! only[D_law_sums_good_3,kc,lr,kr2,c0,sm,kw,ph,ll,kr,c1,lr',e]
theorem Hx:ak GL (n+2) eu [.non,.non] μ=.ok (.bl true) μ:=by
 rw[aj me,run_eq rfl]
 have nn:cpD .is .non .non μ=.ok (.bl true) μ:=rfl
 simp! only[D_law_same_fault,nn]
theorem Hy (hr:kq μ) (k:Nat) (w:Str):ak GL (n+2) eu [.tup [.int k,.str w],.tup [.int k,.str w]] μ=.ok (.bl true) μ:=by
 rw[aj me,run_eq rfl]
 have nn:cpD .is (.tup [.int k,.str w]) .non μ=.ok (.bl false) μ:=rfl
 have it:K6 .tuple (.tup [.int k,.str w]) μ=.ok (.bl true) μ:=rfl
 have l2:btD .len .z [.tup [.int k,.str w]] μ=.ok (.int 2) μ:=rfl
 have i0:ixD (.tup [.int k,.str w]) (.int 0) μ=.ok (.int k) μ:=rfl
 have i1:ixD (.tup [.int k,.str w]) (.int 1) μ=.ok (.str w) μ:=rfl
 have is:K6 .str (.str w) μ=.ok (.bl true) μ:=rfl
 have eq:cpD .eq (.tup [.int k,.str w]) (.tup [.int k,.str w]) μ=.ok (.bl true) μ:=by rw[Rn rfl rfl,sd 8 _ rfl]
 simp! only[D_law_same_fault,nn,it,l2,i0,ar (Cv (n:=n) (μ:=μ) k) rfl rfl hr,i1,is,eq]
end
theorem Vn (ns:List Int):∃μ',ak GL 8 om [.lst (ns.map D.int)] []=.ok (.bl true) μ':=by
 rw[aj Bj,run_eq rfl]
 have hb:=J5 ns
 have eb:=ar (Oh (n:=3) (ρ:=[]) (fun _=>rfl) ns) (G3 _) rfl rfl
 generalize (x6 ns).1=b at hb eb
 generalize (x6 ns).2=cs at eb
 obtain⟨rs,cs',ρ',hrl,hrs,er⟩:=Em (n:=3) cs b hb.lamps hb.days.2
 have pr:(D.tup (rs.map eTn)).pure=true:=by
  rw[D.pure,ft,AO];intro x hx;obtain⟨i,_,rfl⟩:=BI.mp hx;exact Ha i
 have kr:=z9 (μ':=[Lf cs']) er rfl pr rfl
 have H:kq [Lf cs']:=Vk
 have S:Shape b rs:=⟨hb.lamps,hrl,by rw[hrl];exact hb.days.2,fun t ht=>⟨(hrs t ht).1,CN (hrs t ht).2 (by decide)⟩,fun d hd=>(hb.day d hd).2.2.2.1.1⟩
 obtain⟨ρ1,es⟩:=O0 (n:=4) H S (fun t ht=>CN (hrs t ht).2 (by decide)) fun d hd=>(hb.day d hd).2.2.1
 have ks:=fu es rfl H
 have F:=uk (n:=2) H S
 have P:=Hs (n:=1) H S
 have W:=Km (n:=4) H S
 have ib:∀(x:Bool) (M:Sto),K6 .bool (.bl x) M=.ok (.bl true) M:=fun _ _=>rfl
 refine⟨[Lf cs'],?_⟩
 by_cases h:∀k,k<rs.length→¬¬wordAt b rs k=none
 ·have h':∀k,k<rs.length→wordAt b rs k=none:=fun k hk=>BM.mp (h k hk)
  obtain⟨ρ2,ew⟩:=W.1 h'
  have phs:(D.tup [.non,.lst ((evs b rs).map c6)]).pure=true:=by
   rw[D.pure,ft]
   have:D.pureN 7 (.lst ((evs b rs).map c6))=true:=by
    rw[Cu,AO];intro x hx;obtain⟨i,_,rfl⟩:=BI.mp hx;exact mx i
   simp only[BC,G1,this,EI,HR]
  have kw:=fu ew phs H
  have i0:∀ν:Sto,ixD (.tup [.non,.lst ((evs b rs).map c6)]) (.int 0) ν=.ok .non ν:=fun _=>rfl
  have nn:∀ν:Sto,cpD .is .non .non ν=.ok (.bl true) ν:=fun _=>rfl
  have bb:∀ν:Sto,cpD .eq (.bl true) (.bl true) ν=.ok (.bl true) ν:=fun _=>rfl
  simp! only[D_law_k09_4,vi vj,z5,eb,kr,kw,i0,ar (P.1 h') rfl rfl H,ks,ar (F.1 h') rfl rfl H,ar (Hx (n:=5) (μ:=[Lf cs'])) rfl rfl H,ib,nn,bb]
 ·obtain⟨k,hk,hw,hn⟩:=ye h
  obtain⟨w,hw⟩:=ET.mp hw
  have hn':∀j,j<k→wordAt b rs j=none:=fun j hj=>BM.mp (hn j hj)
  obtain⟨hs,ρ2,ew⟩:=W.2 k w hk hw hn'
  have phs:(D.tup [.tup [.int k,.str w],.lst (hs.map c6)]).pure=true:=by
   rw[D.pure,ft]
   have:D.pureN 7 (.lst (hs.map c6))=true:=by
    rw[Cu,AO];intro x hx;obtain⟨i,_,rfl⟩:=BI.mp hx;exact mx i
   simp only[BC,ft,gz,G0,this,EI,HR]
  have kw:=fu ew phs H
  have i0:∀ν:Sto,ixD (.tup [.tup [.int k,.str w],.lst (hs.map c6)]) (.int 0) ν=.ok (.tup [.int k,.str w]) ν:=fun _=>rfl
  have nn:∀ν:Sto,cpD .is (.tup [.int k,.str w]) .non ν=.ok (.bl false) ν:=fun _=>rfl
  have bb:∀ν:Sto,cpD .eq (.bl false) (.bl false) ν=.ok (.bl true) ν:=fun _=>rfl
  simp! only[D_law_k09_4,vi vj,z5,eb,kr,kw,i0,ar (P.2 k w hk hw hn') rfl rfl H,ks,ar (F.2 k w hk hw hn') rfl rfl H,ar (Hy (n:=5) (μ:=[Lf cs']) H k w) rfl rfl H,ib,nn,bb]
end Lr
namespace Lp.Law
open PySem PySem.Spec PyProof.Rows L2 Lp
noncomputable def top (i:Nat):Stmt:=PySem.Challenge.pw_lamprota_k09_any_rota.main.body.getD i (.Pass ⟨0,0,0,0⟩)
noncomputable def e0:Ent:=⟨ua,"rises",top 1,["things"],["things"],D_rises⟩
noncomputable def e1:Ent:=⟨ng,"can_burn",top 2,["book","lamp","day","tank","oil","away"],["book","lamp","day"],D_can_burn⟩
noncomputable def e2:Ent:=⟨cu,"ticks_of_spans",top 4,["lamps","spans","ticks","lamp","start","end"],["lamps","spans"],D_ticks_of_spans⟩
noncomputable def e3:Ent:=⟨cm,"have_tick_in_common",top 5,["one","other"],["one","other"],D_have_tick_in_common⟩
noncomputable def e4:Ent:=⟨eh,"has_span_fault",top 6,["length","lamps","spans","lamp","start","end"],["length","lamps","spans"],D_has_span_fault⟩
noncomputable def e5:Ent:=⟨cv,"has_dark_fault",top 7,["length","wanted","spans","changes","lamp","start","end"],["length","wanted","spans"],D_has_dark_fault⟩
noncomputable def e6:Ent:=⟨gp,"held_at_first",top 8,["book"],["book"],D_held_at_first⟩
noncomputable def e7:Ent:=⟨pe,"filled",top 9,["tanks","poured"],["tanks","poured"],D_filled⟩
noncomputable def e8:Ent:=⟨i8,"held_behind",top 10,["book","held","turn","store","tanks","taken","bought","poured","spans","left","ticks"],["book","held","turn"],D_held_behind⟩
noncomputable def e9:Ent:=⟨lq,"day_fault",top 11,["book","day","held","turn","boat","most","price","length","wanted","store","tanks","taken","bought","poured","spans","levels"],["book","day","held","turn"],D_day_fault⟩
noncomputable def e10:Ent:=⟨i9,"night_fault",top 12,["book","day","levels","spans","boat","most","price","length","wanted","ticks"],["book","day","levels","spans"],D_night_fault⟩
noncomputable def e11:Ent:=⟨qj,"fault",top 13,["book","rota","held","day","turn","word"],["book","rota"],D_fault⟩
noncomputable def e12:Ent:=⟨uc,"keeps",top 14,["book","rota"],["book","rota"],D_keeps⟩
noncomputable def e13:Ent:=⟨Ct,"cost",top 15,["book","rota"],["book","rota"],D_cost⟩
noncomputable def e14:Ent:=⟨pf,"burnt",top 16,["book","rota","all_spans","taken","bought","poured","spans"],["book","rota"],D_burnt_3⟩
noncomputable def e15:Ent:=⟨br,"_law_next",top 18,["left"],["left"],D_law_next⟩
noncomputable def e16:Ent:=⟨dz,"_law_turn",top 19,["cell","stir"],["cell"],D_law_turn⟩
noncomputable def e17:Ent:=⟨di,"_law_size",top 20,["cell","most","turn"],["cell","most"],D_law_size⟩
noncomputable def e18:Ent:=⟨ju,"_law_whole",top 21,["found"],["found"],D_law_whole⟩
noncomputable def e19:Ent:=⟨nh,"_law_lamp",top 22,["left","days","tank","oil","turn","away"],["left","days"],D_law_lamp⟩
noncomputable def e20:Ent:=⟨pd,"_law_day",top 23,["left","lamps","boat","most","price","length"],["left","lamps"],D_law_day⟩
noncomputable def e21:Ent:=⟨ni,"_law_book",top 24,["left","head","lamps","days","store","oil","made"],["left"],D_law_book⟩
noncomputable def e22:Ent:=⟨fb,"_law_span_bad",top 25,["length","lamps","spans","k","lamp","start","end","other"],["length","lamps","spans"],D_law_span_bad⟩
noncomputable def e23:Ent:=⟨k4,"_law_dark",top 26,["length","wanted","spans","points","point"],["length","wanted","spans"],D_law_dark⟩
noncomputable def e24:Ent:=⟨nj,"_law_word",top 27,["book","number","here","tanks","part","boat","most","price","length","wanted","taken","bought","poured","spans","full","k"],["book","number","here","tanks","part"],D_law_word⟩
noncomputable def e25:Ent:=⟨ie,"_law_walk",top 28,["book","rota","here","tanks","heard","number","word","taken","bought","poured","spans","lamp","start","end"],["book","rota"],D_law_walk_2⟩
noncomputable def e26:Ent:=⟨eu,"_law_same_fault",top 29,["found","due"],["found","due"],D_law_same_fault⟩
noncomputable def e27:Ent:=⟨ic,"_law_any",top 30,["left","bound","cell","turn"],["left","bound"],D_law_any⟩
noncomputable def e28:Ent:=⟨gq,"_law_any_spans",top 31,["left","length","lamps","spans","turn","k","cell","lamp","start"],["left","length","lamps"],D_law_any_spans⟩
noncomputable def e29:Ent:=⟨ia,"_law_any_rota",top 32,["left","book","rota","boat","most","price","length","wanted","taken","bought","poured"],["left","book"],D_law_any_rota⟩
noncomputable def e30:Ent:=⟨fk,"_law_sums_good",top 33,["book","rota","found","due","lamps","ticks","day","lamp","start","end"],["book","rota"],D_law_sums_good_3⟩
noncomputable def e31:Ent:=⟨om,"law",top 34,["script","left","book","rota","due","heard"],["script"],D_law_k09_4⟩
noncomputable def ents:List Ent:=[e0,e1,e2,e3,e4,e5,e6,e7,e8,e9,e10,e11,e12,e13,e14,e15,e16,e17,e18,e19,e20,e21,e22,e23,e24,e25,e26,e27,e28,e29,e30,e31]
noncomputable def nu:List Str:=["zip","all","range","tuple","any","sum","len","min","enumerate","isinstance","int","bool","max","sorted","set","str","list","reversed"]
theorem arS {k:Nat} {Q:List Value→Prop} (h:∀a us,us.length=k→Q (a::us)):∀us:List Value,us.length=k+1→Q us
 | [],e=>nomatch e
 | a::us,e=>h a us (Nat.succ.inj e)
theorem ar0 {Q:List Value→Prop} (h:∀(_:Unit),Q []):∀us:List Value,us.length=0→Q us
 | [],_=>h ()
theorem ar1 {Q:List Value→Prop} (h:∀(a0:Value),Q [a0]):∀us:List Value,us.length=1→Q us:=arS fun a0=>ar0 (Q:=fun us=>Q (a0::us)) (fun _=>h a0)
theorem ar2 {Q:List Value→Prop} (h:∀(a0 a1:Value),Q [a0,a1]):∀us:List Value,us.length=2→Q us:=arS fun a0=>ar1 (Q:=fun us=>Q (a0::us)) (h a0)
theorem ar3 {Q:List Value→Prop} (h:∀(a0 a1 a2:Value),Q [a0,a1,a2]):∀us:List Value,us.length=3→Q us:=arS fun a0=>ar2 (Q:=fun us=>Q (a0::us)) (h a0)
theorem ar4 {Q:List Value→Prop} (h:∀(a0 a1 a2 a3:Value),Q [a0,a1,a2,a3]):∀us:List Value,us.length=4→Q us:=arS fun a0=>ar3 (Q:=fun us=>Q (a0::us)) (h a0)
theorem ar5 {Q:List Value→Prop} (h:∀(a0 a1 a2 a3 a4:Value),Q [a0,a1,a2,a3,a4]):∀us:List Value,us.length=5→Q us:=arS fun a0=>ar4 (Q:=fun us=>Q (a0::us)) (h a0)
section
variable {P : Program} {w : World} {K : PySem.W.Frag} {mg : Str → Option Value} {base : Heap}
theorem dv0 (B:∀(j:Nat) x,nu[j]? = some x→mg x=none):Derived GL P w K mg base ents e0:=⟨⟨rfl,rfl,rfl,by decide +kernel,rfl,by decide +kernel,by decide +kernel⟩,rfl,rfl,rfl,fun n fa cdv A outer s H E hu C =>
 (ay (bu (Nf (B 1 _ rfl) (ae (eg ["one","other"] (t4 (B 0 _ rfl) (aa 0) (Ue (aa 0) (Ud ah) Uc)) (fun _ _ _ _=>⟨(dq (ag 0 (ag 1 dn))),cg,(qg (aa 0) (qf hu .lt (aa 1)))⟩)) ai))) bx)⟩
theorem dv1 (B:∀(j:Nat) x,nu[j]? = some x→mg x=none):Derived GL P w K mg base ents e1:=⟨⟨rfl,rfl,rfl,by decide +kernel,rfl,by decide +kernel,by decide +kernel⟩,rfl,rfl,rfl,fun n fa cdv A outer s H E hu C =>
 (ay (tw (dq (ag 3 (ag 4 (ag 5 dn)))) (d7 (d7 (aa 0) ah) (aa 1))) (ay (bu (qg (aa 2) (qf hu .notin (aa 5)))) bx))⟩
theorem dv2 (B:∀(j:Nat) x,nu[j]? = some x→mg x=none):Derived GL P w K mg base ents e2:=⟨⟨rfl,rfl,rfl,by decide +kernel,rfl,by decide +kernel,by decide +kernel⟩,rfl,rfl,rfl,fun n fa cdv A outer s H E hu C =>
 (ay (cb 2 (Q6 false)) (ay (oi (gn (aa 1)) (dq (ag 3 (ag 4 (ag 5 dn)))) (ay (zf hu (aa 2) (aa 3) (av (av (wo hu (aa 2) (aa 3) ah) (aa 5)) (aa 4))) bx)) (ay (bu (ef (B 3 _ rfl) (ae (eg ["ticks","lamp"] (j7 (B 2 _ rfl) (aa 0)) (fun _ _ _ _=>⟨(cq 1),cg,(wo hu (aa 0) (aa 1) ah)⟩)) ai))) bx)))⟩
theorem dv3 (B:∀(j:Nat) x,nu[j]? = some x→mg x=none):Derived GL P w K mg base ents e3:=⟨⟨rfl,rfl,rfl,by decide +kernel,rfl,by decide +kernel,by decide +kernel⟩,rfl,rfl,rfl,fun n fa cdv A outer s H E hu C =>
 (ay (bu (Fy (qg (d7 (aa 0) ah) (qf hu .eq (d7 (aa 1) ah))) (Cf (qg (d7 (aa 1) ah) (qf hu .lt (d7 (aa 0) ah)))))) bx)⟩
theorem dv4 (B:∀(j:Nat) x,nu[j]? = some x→mg x=none):Derived GL P w K mg base ents e4:=⟨⟨rfl,rfl,rfl,by decide +kernel,rfl,by decide +kernel,by decide +kernel⟩,rfl,rfl,rfl,fun n fa cdv A outer s H E hu C =>
 (ay (oi (gn (aa 2)) (dq (ag 3 (ag 4 (ag 5 dn)))) (ay (mj (o6 (Fz (Cg (bp ah (Lg hu .le (aa 3) (dj hu .lt (aa 1)))) (A4 (bp ah (Lg hu .le (aa 4) (Lg hu .lt (aa 5) (dj hu .le (aa 0))))))))) (ay (bu Hz) bx) bx) bx)) (ay (bu (Yf (Nc (au (C 0 _ rfl) (ae (aa 2) ai))) (Ub (tu (B 4 _ rfl) (ae (eg ["one","other"] (t4 (B 0 _ rfl) (aa 2) (Ue (aa 2) (Ud ah) Uc)) (fun _ _ _ _=>⟨(dq (ag 0 (ag 1 dn))),cg,(au (C 3 _ rfl) (ae (aa 0) (ae (aa 1) ai)))⟩)) ai))))) bx))⟩
theorem dv5 (B:∀(j:Nat) x,nu[j]? = some x→mg x=none):Derived GL P w K mg base ents e5:=⟨⟨rfl,rfl,rfl,by decide +kernel,rfl,by decide +kernel,by decide +kernel⟩,rfl,rfl,rfl,fun n fa cdv A outer s H E hu C =>
 (ay (cb 3 (Q7 1 0 1)) (ay (oi (gn (aa 2)) (dq (ag 4 (ag 5 (ag 6 dn)))) (ay (zf hu (aa 3) (aa 5) (av (wo hu (aa 3) (aa 5) ah) ah)) (ay (zf hu (aa 3) (aa 6) (av (wo hu (aa 3) (aa 6) ah) ah)) bx))) (ay (bu (tu (B 4 _ rfl) (ae (eg ["change"] (Nx (aa 3)) (fun _ _ _ _=>⟨(cq 0),cg,(qg (aa 0) (qf hu .ne ah))⟩)) ai))) bx)))⟩
theorem dv6 (B:∀(j:Nat) x,nu[j]? = some x→mg x=none):Derived GL P w K mg base ents e6:=⟨⟨rfl,rfl,rfl,by decide +kernel,rfl,by decide +kernel,by decide +kernel⟩,rfl,rfl,rfl,fun n fa cdv A outer s H E hu C =>
 (ay (bu (qe (ae (d7 (aa 0) ah) (ae (ef (B 3 _ rfl) (ae (eg ["tank","oil","away"] (gn (d7 (aa 0) ah)) (fun _ _ _ _=>⟨(dq (ag 0 (ag 1 (ag 2 dn)))),cg,(aa 1)⟩)) ai)) ai)))) bx)⟩
theorem dv7 (B:∀(j:Nat) x,nu[j]? = some x→mg x=none):Derived GL P w K mg base ents e7:=⟨⟨rfl,rfl,rfl,by decide +kernel,rfl,by decide +kernel,by decide +kernel⟩,rfl,rfl,rfl,fun n fa cdv A outer s H E hu C =>
 (ay (bu (ef (B 3 _ rfl) (ae (eg ["level","much"] (t4 (B 0 _ rfl) (aa 0) (aa 1)) (fun _ _ _ _=>⟨(dq (ag 0 (ag 1 dn))),cg,(av (aa 0) (aa 1))⟩)) ai))) bx)⟩
theorem dv8 (B:∀(j:Nat) x,nu[j]? = some x→mg x=none):Derived GL P w K mg base ents e8:=⟨⟨rfl,rfl,rfl,by decide +kernel,rfl,by decide +kernel,by decide +kernel⟩,rfl,rfl,rfl,fun n fa cdv A outer s H E hu C =>
 (ay (tw (dq (ag 3 (ag 4 dn))) (aa 1)) (ay (tw (dq (ag 5 (ag 6 (ag 7 (ag 8 dn))))) (aa 2)) (ay (cb 9 (av (av (av (aa 3) (aa 5)) (aa 6)) (oh (B 5 _ rfl) (ae (aa 7) ai)))) (ay (cb 10 (au (C 2 _ rfl) (ae (dm (B 6 _ rfl) (ae (aa 4) ai)) (ae (aa 8) ai)))) (ay (bu (qe (ae (tq (B 7 _ rfl) (ae (aa 9) (ae (d7 (aa 0) ah) ai))) (ae (ef (B 3 _ rfl) (ae (eg ["level","burns"] (t4 (B 0 _ rfl) (au (C 7 _ rfl) (ae (aa 4) (ae (aa 7) ai))) (aa 10)) (fun _ _ _ _=>⟨(dq (ag 0 (ag 1 dn))),cg,(av (aa 0) (aa 1))⟩)) ai)) ai)))) bx)))))⟩
theorem dv9 (B:∀(j:Nat) x,nu[j]? = some x→mg x=none):Derived GL P w K mg base ents e9:=⟨⟨rfl,rfl,rfl,by decide +kernel,rfl,by decide +kernel,by decide +kernel⟩,rfl,rfl,rfl,fun n fa cdv A outer s H E hu C =>
 (ay (tw (dq (ag 4 (ag 5 (ag 6 (ag 7 (ag 8 dn)))))) (d7 (d7 (aa 0) ah) (aa 1))) (ay (tw (dq (ag 9 (ag 10 dn))) (aa 2)) (ay (tw (dq (ag 11 (ag 12 (ag 13 (ag 14 dn))))) (aa 3)) (ay (mj (o6 (bp ah (Lg hu .le (aa 11) (dj hu .le (aa 4))))) (ay (bu mh) bx) bx) (ay (mj (o6 (bp ah (Lg hu .le (aa 12) (dj hu .le (aa 5))))) (ay (bu mh) bx) bx) (ay (mj (Fz (we (bp (Jp (B 7 _ rfl) (ae (aa 13) ai)) (dj hu .lt ah)) (rf (bp (oh (B 5 _ rfl) (ae (aa 13) ai)) (dj hu .gt (av (av (aa 9) (aa 11)) (aa 12))))))) (ay (bu mh) bx) bx) (ay (cb 15 (au (C 7 _ rfl) (ae (aa 10) (ae (aa 13) ai)))) (ay (mj (iq (tu (B 4 _ rfl) (ae (eg ["level","lamp"] (t4 (B 0 _ rfl) (aa 15) (d7 (aa 0) ah)) (fun _ _ _ _=>⟨(dq (ag 0 (ag 1 dn))),cg,(qg (aa 0) (qf hu .gt (d7 (aa 1) ah)))⟩)) ai))) (ay (bu mh) bx) bx) (ay (bu (au (C 10 _ rfl) (ae (aa 0) (ae (aa 1) (ae (aa 15) (ae (aa 14) ai)))))) bx)))))))))⟩
theorem Zg (B:∀(j:Nat) x,nu[j]? = some x→mg x=none):Derived GL P w K mg base ents e10:=⟨⟨rfl,rfl,rfl,by decide +kernel,rfl,by decide +kernel,by decide +kernel⟩,rfl,rfl,rfl,fun n fa cdv A outer s H E hu C =>
 (ay (tw (dq (ag 4 (ag 5 (ag 6 (ag 7 (ag 8 dn)))))) (d7 (d7 (aa 0) ah) (aa 1))) (ay (mj (iq (au (C 4 _ rfl) (ae (aa 7) (ae (dm (B 6 _ rfl) (ae (aa 2) ai)) (ae (aa 3) ai))))) (ay (bu mh) bx) bx) (ay (mj (iq (tu (B 4 _ rfl) (ae (eg ["book","day","lamp","start","end"] (gn (aa 3)) (fun _ _ _ _=>⟨(dq (ag 2 (ag 3 (ag 4 dn)))),cg,(Nc (au (C 1 _ rfl) (ae (aa 0) (ae (aa 2) (ae (aa 1) ai)))))⟩)) ai))) (ay (bu mh) bx) bx) (ay (cb 9 (au (C 2 _ rfl) (ae (dm (B 6 _ rfl) (ae (aa 2) ai)) (ae (aa 3) ai)))) (ay (mj (iq (tu (B 4 _ rfl) (ae (eg ["burns","level"] (t4 (B 0 _ rfl) (aa 9) (aa 2)) (fun _ _ _ _=>⟨(dq (ag 0 (ag 1 dn))),cg,(qg (aa 0) (qf hu .gt (aa 1)))⟩)) ai))) (ay (bu mh) bx) bx) (ay (mj (iq (au (C 5 _ rfl) (ae (aa 7) (ae (aa 8) (ae (aa 3) ai))))) (ay (bu mh) bx) bx) (ay (bu zc) bx)))))))⟩
theorem Zh (B:∀(j:Nat) x,nu[j]? = some x→mg x=none):Derived GL P w K mg base ents e11:=⟨⟨rfl,rfl,rfl,by decide +kernel,rfl,by decide +kernel,by decide +kernel⟩,rfl,rfl,rfl,fun n fa cdv A outer s H E hu C =>
 (ay (cb 2 (au (C 6 _ rfl) (ae (aa 0) ai))) (ay (oi (Nu (B 8 _ rfl) (aa 1)) (dq (ag 3 (ag 4 dn))) (ay (cb 5 (au (C 9 _ rfl) (ae (aa 0) (ae (aa 3) (ae (aa 2) (ae (aa 4) ai)))))) (ay (mj (bp (aa 5) (dj hu .isnot zc)) (ay (bu (qe (ae (aa 3) (ae (aa 5) ai)))) bx) bx) (ay (cb 2 (au (C 8 _ rfl) (ae (aa 0) (ae (aa 2) (ae (aa 4) ai))))) bx)))) (ay (bu zc) bx)))⟩
theorem Zi (B:∀(j:Nat) x,nu[j]? = some x→mg x=none):Derived GL P w K mg base ents e12:=⟨⟨rfl,rfl,rfl,by decide +kernel,rfl,by decide +kernel,by decide +kernel⟩,rfl,rfl,rfl,fun n fa cdv A outer s H E hu C =>
 (ay (bu (qg (au (C 11 _ rfl) (ae (aa 0) (ae (aa 1) ai))) (qf hu .is zc))) bx)⟩
theorem Zj (B:∀(j:Nat) x,nu[j]? = some x→mg x=none):Derived GL P w K mg base ents e13:=⟨⟨rfl,rfl,rfl,by decide +kernel,rfl,by decide +kernel,by decide +kernel⟩,rfl,rfl,rfl,fun n fa cdv A outer s H E hu C =>
 (ay (bu (oh (B 5 _ rfl) (ae (eg ["turn","day"] (t4 (B 0 _ rfl) (aa 1) (d7 (aa 0) ah)) (fun _ _ _ _=>⟨(dq (ag 0 (ag 1 dn))),cg,(av (d7 (aa 0) ah) (d7 (aa 1) ah))⟩)) ai))) bx)⟩
theorem Zk (B:∀(j:Nat) x,nu[j]? = some x→mg x=none):Derived GL P w K mg base ents e14:=⟨⟨rfl,rfl,rfl,by decide +kernel,rfl,by decide +kernel,by decide +kernel⟩,rfl,rfl,rfl,fun n fa cdv A outer s H E hu C =>
 (ay (cb 2 (zd ai)) (ay (oi (gn (aa 1)) (dq (ag 3 (ag 4 (ag 5 (ag 6 dn))))) (ay (R3 (zl (aa 2) (ae (aa 6) ai))) bx)) (ay (bu (au (C 2 _ rfl) (ae (dm (B 6 _ rfl) (ae (d7 (aa 0) ah) ai)) (ae (Na 2) ai)))) bx)))⟩
theorem Zl (B:∀(j:Nat) x,nu[j]? = some x→mg x=none):Derived GL P w K mg base ents e15:=⟨⟨rfl,rfl,rfl,by decide +kernel,rfl,by decide +kernel,by decide +kernel⟩,rfl,rfl,rfl,fun n fa cdv A outer s H E hu C =>
 (ay (mj (bp (dm (B 6 _ rfl) (ae (aa 0) ai)) (dj hu .gt ah)) (ay (bu (Jm (aa 0))) bx) bx) (ay (bu ah) bx))⟩
theorem Zm (B:∀(j:Nat) x,nu[j]? = some x→mg x=none):Derived GL P w K mg base ents e16:=⟨⟨rfl,rfl,rfl,by decide +kernel,rfl,by decide +kernel,by decide +kernel⟩,rfl,rfl,rfl,fun n fa cdv A outer s H E hu C =>
 (ay (cb 1 (av (av (av (av (aa 0) (av ah ah)) ah) ah) ah)) (ay (bu (av (av (av (aa 1) (aa 1)) ah) ah)) bx))⟩
theorem Zn (B:∀(j:Nat) x,nu[j]? = some x→mg x=none):Derived GL P w K mg base ents e17:=⟨⟨rfl,rfl,rfl,by decide +kernel,rfl,by decide +kernel,by decide +kernel⟩,rfl,rfl,rfl,fun n fa cdv A outer s H E hu C =>
 (ay (cb 2 (au (C 16 _ rfl) (ae (aa 0) ai))) (ay (mj (bp (av (aa 2) ah) (dj hu .lt ah)) (ay (bu (tq (B 7 _ rfl) (ae (aa 1) (ae (av (av (aa 2) ah) ah) ai)))) bx) bx) (ay (mj (bp (av (aa 2) ah) (dj hu .eq ah)) (ay (bu (av (aa 1) (av (av (aa 2) ah) ah))) bx) bx) (ay (bu (av (aa 0) (av (aa 1) ah))) bx))))⟩
theorem Zo (B:∀(j:Nat) x,nu[j]? = some x→mg x=none):Derived GL P w K mg base ents e18:=⟨⟨rfl,rfl,rfl,by decide +kernel,rfl,by decide +kernel,by decide +kernel⟩,rfl,rfl,rfl,fun n fa cdv A outer s H E hu C =>
 (ay (bu (Fy (F0 (aa 0) (B 9 _ rfl) (B 10 _ rfl)) (Cf (Nc (F0 (aa 0) (B 9 _ rfl) (B 11 _ rfl)))))) bx)⟩
theorem Zp (B:∀(j:Nat) x,nu[j]? = some x→mg x=none):Derived GL P w K mg base ents e19:=⟨⟨rfl,rfl,rfl,by decide +kernel,rfl,by decide +kernel,by decide +kernel⟩,rfl,rfl,rfl,fun n fa cdv A outer s H E hu C =>
 (ay (cb 2 (au (C 17 _ rfl) (ae (au (C 15 _ rfl) (ae (aa 0) ai)) (ae (av ah ah) ai)))) (ay (cb 3 (tq (B 7 _ rfl) (ae (aa 2) (ae (au (C 17 _ rfl) (ae (au (C 15 _ rfl) (ae (aa 0) ai)) (ae (av ah ah) ai))) ai)))) (ay (cb 4 (au (C 16 _ rfl) (ae (au (C 15 _ rfl) (ae (aa 0) ai)) ai))) (ay (cb 5 (qe ai)) (ay (mj (bp (av (aa 4) ah) (dj hu .eq ah)) (ay (cb 5 (ef (B 3 _ rfl) (ae (eg ["turn","day"] (j7 (B 2 _ rfl) (aa 1)) (fun _ _ _ _=>⟨(cq 1),(mz (bp (av (av (aa 0) (av (aa 1) ah)) ah) (dj hu .eq ah)) cg),(aa 1)⟩)) ai))) bx) bx) (ay (bu (qe (ae (aa 2) (ae (aa 3) (ae (aa 5) ai))))) bx))))))⟩
theorem Zq (B:∀(j:Nat) x,nu[j]? = some x→mg x=none):Derived GL P w K mg base ents e20:=⟨⟨rfl,rfl,rfl,by decide +kernel,rfl,by decide +kernel,by decide +kernel⟩,rfl,rfl,rfl,fun n fa cdv A outer s H E hu C =>
 (ay (cb 2 (au (C 17 _ rfl) (ae (au (C 15 _ rfl) (ae (aa 0) ai)) (ae (av ah ah) ai)))) (ay (cb 3 (au (C 17 _ rfl) (ae (au (C 15 _ rfl) (ae (aa 0) ai)) (ae (av ah ah) ai)))) (ay (cb 4 (au (C 17 _ rfl) (ae (au (C 15 _ rfl) (ae (aa 0) ai)) (ae (av ah ah) ai)))) (ay (cb 5 (Nd (B 12 _ rfl) (ae ah (ae (au (C 17 _ rfl) (ae (au (C 15 _ rfl) (ae (aa 0) ai)) (ae (av ah ah) ai))) ai)))) (ay (bu (qe (ae (aa 2) (ae (aa 3) (ae (aa 4) (ae (aa 5) (ae (av (au (C 16 _ rfl) (ae (au (C 15 _ rfl) (ae (aa 0) ai)) ai)) (av (aa 1) ah)) ai))))))) bx)))))⟩
theorem Zr (B:∀(j:Nat) x,nu[j]? = some x→mg x=none):Derived GL P w K mg base ents e21:=⟨⟨rfl,rfl,rfl,by decide +kernel,rfl,by decide +kernel,by decide +kernel⟩,rfl,rfl,rfl,fun n fa cdv A outer s H E hu C =>
 (ay (cb 1 (au (C 16 _ rfl) (ae (au (C 15 _ rfl) (ae (aa 0) ai)) ai))) (ay (cb 2 (av ah (av (aa 1) ah))) (ay (cb 3 (av ah (av (av (aa 1) ah) ah))) (ay (mj (bp (av (av (aa 1) ah) ah) (dj hu .eq ah)) (ay (cb 2 (av ah (av (av (aa 1) ah) ah))) (ay (cb 3 (av ah (av (av (aa 1) ah) ah))) bx)) bx) (ay (cb 4 (au (C 17 _ rfl) (ae (au (C 15 _ rfl) (ae (aa 0) ai)) (ae (av ah ah) ai)))) (ay (cb 5 (au (C 17 _ rfl) (ae (au (C 15 _ rfl) (ae (aa 0) ai)) (ae (av ah ah) ai)))) (ay (ze 6 ["left","days","k"] (j7 (B 2 _ rfl) (aa 2)) (fun _ _ _ _=>⟨(cq 2),cg,(au (C 19 _ rfl) (ae (aa 0) (ae (aa 1) ai)))⟩)) (ay (bu (qe (ae (aa 4) (ae (aa 5) (ae (ef (B 3 _ rfl) (ae (aa 6) ai)) (ae (ef (B 3 _ rfl) (ae (eg ["left","lamps","k"] (j7 (B 2 _ rfl) (aa 3)) (fun _ _ _ _=>⟨(cq 2),cg,(au (C 20 _ rfl) (ae (aa 0) (ae (aa 1) ai)))⟩)) ai)) ai)))))) bx))))))))⟩
theorem Zs (B:∀(j:Nat) x,nu[j]? = some x→mg x=none):Derived GL P w K mg base ents e22:=⟨⟨rfl,rfl,rfl,by decide +kernel,rfl,by decide +kernel,by decide +kernel⟩,rfl,rfl,rfl,fun n fa cdv A outer s H E hu C =>
 (ay (oi (j7 (B 2 _ rfl) (dm (B 6 _ rfl) (ae (aa 2) ai))) (cq 3) (ay (tw (dq (ag 4 (ag 5 (ag 6 dn)))) (d7 (aa 2) (aa 3))) (ay (mj (Fz (we (o6 (bp ah (Lg hu .le (aa 4) (dj hu .lt (aa 1))))) (rf (o6 (bp ah (Lg hu .le (aa 5) (Lg hu .lt (aa 6) (dj hu .le (aa 0))))))))) (ay (bu Hz) bx) bx) (ay (oi (gn (Ue (aa 2) Uc (Ud (aa 3)))) (cq 7) (ay (mj (Fz (we (bp (aa 7) (dj hu .ge (d7 (aa 2) (aa 3)))) (rf (Fz (Cg (bp (d7 (aa 7) ah) (dj hu .eq (aa 4))) (Cg (bp (d7 (aa 7) ah) (dj hu .lt (aa 6))) (A4 (bp (aa 5) (dj hu .lt (d7 (aa 7) ah)))))))))) (ay (bu Hz) bx) bx) bx)) bx)))) (ay (bu Hz) bx))⟩
theorem Zt (B:∀(j:Nat) x,nu[j]? = some x→mg x=none):Derived GL P w K mg base ents e23:=⟨⟨rfl,rfl,rfl,by decide +kernel,rfl,by decide +kernel,by decide +kernel⟩,rfl,rfl,rfl,fun n fa cdv A outer s H E hu C =>
 (ay (cb 3 (Bg (B 13 _ rfl) (B 14 _ rfl) (av (av (zd (ae ah ai)) (eg ["span"] (gn (aa 2)) (fun _ _ _ _=>⟨(cq 0),cg,(d7 (aa 0) ah)⟩))) (eg ["span"] (gn (aa 2)) (fun _ _ _ _=>⟨(cq 0),cg,(d7 (aa 0) ah)⟩))))) (ay (oi (gn (aa 3)) (cq 4) (ay (mj (bp (aa 4) (dj hu .lt (aa 0))) (ay (mj (bp (dm (B 6 _ rfl) (ae (eg ["point","span"] (gn (aa 2)) (fun _ _ _ _=>⟨(cq 1),(mz (Fz (Cg (bp (d7 (aa 1) ah) (dj hu .le (aa 0))) (A4 (bp (aa 0) (dj hu .lt (d7 (aa 1) ah)))))) cg),(aa 1)⟩)) ai)) (dj hu .ne (aa 1))) (ay (bu Hz) bx) bx) bx) bx) bx)) (ay (bu Hz) bx)))⟩
theorem Zu (B:∀(j:Nat) x,nu[j]? = some x→mg x=none):Derived GL P w K mg base ents e24:=⟨⟨rfl,rfl,rfl,by decide +kernel,rfl,by decide +kernel,by decide +kernel⟩,rfl,rfl,rfl,fun n fa cdv A outer s H E hu C =>
 (ay (tw (dq (ag 5 (ag 6 (ag 7 (ag 8 (ag 9 dn)))))) (d7 (d7 (aa 0) ah) (aa 1))) (ay (tw (dq (ag 10 (ag 11 (ag 12 (ag 13 dn))))) (aa 4)) (ay (mj (Fz (we (bp (aa 10) (dj hu .lt ah)) (rf (bp (aa 10) (dj hu .gt (aa 5)))))) (ay (bu mh) bx) bx) (ay (mj (Fz (we (bp (aa 11) (dj hu .lt ah)) (rf (bp (aa 11) (dj hu .gt (aa 6)))))) (ay (bu mh) bx) bx) (ay (mj (Fz (we (bp (dm (B 6 _ rfl) (ae (eg ["much"] (gn (aa 12)) (fun _ _ _ _=>⟨(cq 0),(mz (bp (aa 0) (dj hu .lt ah)) cg),(aa 0)⟩)) ai)) (dj hu .gt ah)) (rf (bp (oh (B 5 _ rfl) (ae (aa 12) ai)) (dj hu .gt (av (av (aa 2) (aa 10)) (aa 11))))))) (ay (bu mh) bx) bx) (ay (cb 14 (eg ["tanks","poured","k"] (j7 (B 2 _ rfl) (dm (B 6 _ rfl) (ae (aa 3) ai))) (fun _ _ _ _=>⟨(cq 2),cg,(av (d7 (aa 0) (aa 2)) (d7 (aa 1) (aa 2)))⟩))) (ay (mj (bp (dm (B 6 _ rfl) (ae (eg ["full","book","k"] (j7 (B 2 _ rfl) (dm (B 6 _ rfl) (ae (aa 14) ai))) (fun _ _ _ _=>⟨(cq 2),(mz (bp (d7 (aa 0) (aa 2)) (dj hu .gt (d7 (d7 (d7 (aa 1) ah) (aa 2)) ah))) cg),(aa 2)⟩)) ai)) (dj hu .gt ah)) (ay (bu mh) bx) bx) (ay (mj (iq (au (C 22 _ rfl) (ae (aa 8) (ae (dm (B 6 _ rfl) (ae (aa 3) ai)) (ae (aa 13) ai))))) (ay (bu mh) bx) bx) (ay (mj (bp (dm (B 6 _ rfl) (ae (eg ["number","book","span"] (gn (aa 13)) (fun _ _ _ _=>⟨(cq 2),(mz (bp (aa 0) (dj hu .in_ (d7 (d7 (d7 (aa 1) ah) (d7 (aa 2) ah)) ah))) cg),(aa 2)⟩)) ai)) (dj hu .gt ah)) (ay (bu mh) bx) bx) (ay (oi (j7 (B 2 _ rfl) (dm (B 6 _ rfl) (ae (aa 14) ai))) (cq 15) (ay (mj (bp (oh (B 5 _ rfl) (ae (eg ["k","span"] (gn (aa 13)) (fun _ _ _ _=>⟨(cq 1),(mz (bp (d7 (aa 1) ah) (dj hu .eq (aa 0))) cg),(av (d7 (aa 1) ah) (d7 (aa 1) ah))⟩)) ai)) (dj hu .gt (d7 (aa 14) (aa 15)))) (ay (bu mh) bx) bx) bx)) (ay (mj (iq (au (C 23 _ rfl) (ae (aa 8) (ae (aa 9) (ae (aa 13) ai))))) (ay (bu mh) bx) bx) (ay (bu mh) bx))))))))))))⟩
theorem Zv (B:∀(j:Nat) x,nu[j]? = some x→mg x=none):Derived GL P w K mg base ents e25:=⟨⟨rfl,rfl,rfl,by decide +kernel,rfl,by decide +kernel,by decide +kernel⟩,rfl,rfl,rfl,fun n fa cdv A outer s H E hu C =>
 (ay (cb 2 (d7 (aa 0) ah)) (ay (cb 3 (eg ["lamp"] (gn (d7 (aa 0) ah)) (fun _ _ _ _=>⟨(cq 0),cg,(d7 (aa 0) ah)⟩))) (ay (cb 4 (zd ai)) (ay (oi (j7 (B 2 _ rfl) (dm (B 6 _ rfl) (ae (aa 1) ai))) (cq 5) (ay (cb 6 (au (C 24 _ rfl) (ae (aa 0) (ae (aa 5) (ae (aa 2) (ae (aa 3) (ae (d7 (aa 1) (aa 5)) ai))))))) (ay (mj (bp (aa 6) (dj hu .ne mh)) (ay (bu (qe (ae (qe (ae (aa 5) (ae (aa 6) ai))) (ae (Na 4) ai)))) bx) bx) (ay (tw (dq (ag 7 (ag 8 (ag 9 (ag 10 dn))))) (d7 (aa 1) (aa 5))) (ay (cb 2 (tq (B 7 _ rfl) (ae (d7 (aa 0) ah) (ae (av (av (av (aa 2) (aa 7)) (aa 8)) (oh (B 5 _ rfl) (ae (aa 9) ai))) ai)))) (ay (cb 3 (eg ["tanks","poured","k"] (j7 (B 2 _ rfl) (dm (B 6 _ rfl) (ae (aa 3) ai))) (fun _ _ _ _=>⟨(cq 2),cg,(av (d7 (aa 0) (aa 2)) (d7 (aa 1) (aa 2)))⟩))) (ay (oi (gn (aa 10)) (dq (ag 11 (ag 12 (ag 13 dn)))) (ay (zf hu (aa 3) (aa 11) (av (d7 (aa 3) (aa 11)) (av (aa 13) (aa 12)))) bx)) (ay (R3 (oj (aa 4) (ae (qe (ae (aa 2) (ae (ef (B 3 _ rfl) (ae (aa 3) ai)) ai))) ai))) bx)))))))) (ay (bu (qe (ae zc (ae (Na 4) ai)))) bx)))))⟩
theorem Zw (B:∀(j:Nat) x,nu[j]? = some x→mg x=none):Derived GL P w K mg base ents e26:=⟨⟨rfl,rfl,rfl,by decide +kernel,rfl,by decide +kernel,by decide +kernel⟩,rfl,rfl,rfl,fun n fa cdv A outer s H E hu C =>
 (ay (mj (bp (aa 1) (dj hu .is zc)) (ay (bu (qg (aa 0) (qf hu .is zc))) bx) bx) (ay (mj (Fz (we (o6 (iq (F0 (aa 0) (B 9 _ rfl) (B 3 _ rfl)))) (we (bp (dm (B 6 _ rfl) (ae (aa 0) ai)) (dj hu .ne ah)) (rf (o6 (iq (au (C 18 _ rfl) (ae (d7 (aa 0) ah) ai)))))))) (ay (bu Hz) bx) bx) (ay (bu (Fy (F0 (d7 (aa 0) ah) (B 9 _ rfl) (B 15 _ rfl)) (Cf (qg (aa 0) (qf hu .eq (aa 1)))))) bx)))⟩
theorem Zx (B:∀(j:Nat) x,nu[j]? = some x→mg x=none):Derived GL P w K mg base ents e27:=⟨⟨rfl,rfl,rfl,by decide +kernel,rfl,by decide +kernel,by decide +kernel⟩,rfl,rfl,rfl,fun n fa cdv A outer s H E hu C =>
 (ay (cb 2 (au (C 15 _ rfl) (ae (aa 0) ai))) (ay (cb 3 (au (C 16 _ rfl) (ae (aa 2) ai))) (ay (mj (bp (av (aa 3) ah) (dj hu .eq ah)) (ay (bu (av (av (aa 2) (av ah (av ah ah))) (av ah ah))) bx) bx) (ay (mj (bp (av (aa 3) ah) (dj hu .lt ah)) (ay (bu (tq (B 7 _ rfl) (ae (aa 1) (ae (av (av (aa 3) ah) ah) ai)))) bx) bx) (ay (bu (d7 (zd (ae (aa 1) (ae (av (av (aa 1) ah) (av (av (aa 3) ah) ah)) ai))) (av (aa 3) ah))) bx)))))⟩
theorem Zy (B:∀(j:Nat) x,nu[j]? = some x→mg x=none):Derived GL P w K mg base ents e28:=⟨⟨rfl,rfl,rfl,by decide +kernel,rfl,by decide +kernel,by decide +kernel⟩,rfl,rfl,rfl,fun n fa cdv A outer s H E hu C =>
 (ay (cb 3 (zd ai)) (ay (cb 4 (au (C 16 _ rfl) (ae (au (C 15 _ rfl) (ae (aa 0) ai)) ai))) (ay (oi (j7 (B 2 _ rfl) (av (aa 4) ah)) (cq 5) (ay (cb 6 (au (C 16 _ rfl) (ae (au (C 15 _ rfl) (ae (aa 0) ai)) ai))) (ay (cb 7 (av (aa 6) (aa 2))) (ay (mj (bp (av (av (aa 6) ah) ah) (dj hu .eq ah)) (ay (cb 7 (d7 (zd (ae (Ua ah) (ae (aa 2) ai))) (av (av (aa 6) ah) ah))) bx) bx) (ay (cb 8 (au (C 27 _ rfl) (ae (aa 0) (ae (av (aa 1) ah) ai)))) (ay (R3 (oj (aa 3) (ae (qe (ae (aa 7) (ae (aa 8) (ae (d7 (zd (ae (av (av (aa 8) ah) (av (av (aa 6) ah) ah)) (ae (aa 1) (ae (au (C 27 _ rfl) (ae (aa 0) (ae (aa 1) ai))) ai)))) (av (av (aa 6) ah) ah)) ai)))) ai))) bx)))))) (ay (mj (bp (av (av (aa 4) ah) ah) (dj hu .gt ah)) (ay (cb 3 (Dy (B 13 _ rfl) (ae (aa 3) ai))) bx) bx) (ay (bu (ef (B 3 _ rfl) (ae (aa 3) ai))) bx)))))⟩
theorem Zz (B:∀(j:Nat) x,nu[j]? = some x→mg x=none):Derived GL P w K mg base ents e29:=⟨⟨rfl,rfl,rfl,by decide +kernel,rfl,by decide +kernel,by decide +kernel⟩,rfl,rfl,rfl,fun n fa cdv A outer s H E hu C =>
 (ay (cb 2 (zd ai)) (ay (oi (gn (d7 (aa 1) ah)) (dq (ag 3 (ag 4 (ag 5 (ag 6 (ag 7 dn)))))) (ay (cb 8 (au (C 27 _ rfl) (ae (aa 0) (ae (aa 3) ai)))) (ay (cb 9 (au (C 27 _ rfl) (ae (aa 0) (ae (aa 4) ai)))) (ay (cb 10 (ef (B 3 _ rfl) (ae (eg ["left","lamp"] (gn (d7 (aa 1) ah)) (fun _ _ _ _=>⟨(cq 1),cg,(au (C 27 _ rfl) (ae (aa 0) (ae (d7 (aa 1) ah) ai)))⟩)) ai))) (ay (R3 (oj (aa 2) (ae (qe (ae (aa 8) (ae (aa 9) (ae (aa 10) (ae (au (C 28 _ rfl) (ae (aa 0) (ae (aa 6) (ae (dm (B 6 _ rfl) (ae (d7 (aa 1) ah) ai)) ai)))) ai))))) ai))) bx))))) (ay (bu (ef (B 3 _ rfl) (ae (aa 2) ai))) bx)))⟩
theorem Z0 (B:∀(j:Nat) x,nu[j]? = some x→mg x=none):Derived GL P w K mg base ents e30:=⟨⟨rfl,rfl,rfl,by decide +kernel,rfl,by decide +kernel,by decide +kernel⟩,rfl,rfl,rfl,fun n fa cdv A outer s H E hu C =>
 (ay (cb 2 (au (C 13 _ rfl) (ae (aa 0) (ae (aa 1) ai)))) (ay (cb 3 (oh (B 5 _ rfl) (ae (eg ["rota","book","k"] (j7 (B 2 _ rfl) (dm (B 6 _ rfl) (ae (aa 1) ai))) (fun _ _ _ _=>⟨(cq 2),cg,(av (d7 (d7 (aa 0) (aa 2)) ah) (d7 (d7 (d7 (aa 1) ah) (aa 2)) ah))⟩)) ai))) (ay (mj (Fz (we (o6 (iq (au (C 18 _ rfl) (ae (aa 2) ai)))) (rf (bp (aa 2) (dj hu .ne (aa 3)))))) (ay (bu Hz) bx) bx) (ay (cb 4 (dm (B 6 _ rfl) (ae (d7 (aa 0) ah) ai))) (ay (ze 5 ["lamp"] (j7 (B 2 _ rfl) (aa 4)) (fun _ _ _ _=>⟨(cq 0),cg,ah⟩)) (ay (oi (j7 (B 2 _ rfl) (dm (B 6 _ rfl) (ae (aa 1) ai))) (cq 6) (ay (mj (iq (au (C 22 _ rfl) (ae (d7 (d7 (d7 (aa 0) ah) (aa 6)) ah) (ae (aa 4) (ae (d7 (d7 (aa 1) (aa 6)) ah) ai))))) (ay (bu Hz) bx) bx) (ay (oi (gn (d7 (d7 (aa 1) (aa 6)) ah)) (dq (ag 7 (ag 8 (ag 9 dn)))) (ay (zf hu (aa 5) (aa 7) (av (av (d7 (aa 5) (aa 7)) (aa 9)) (aa 8))) bx)) bx))) (ay (bu (qg (au (C 14 _ rfl) (ae (aa 0) (ae (aa 1) ai))) (qf hu .eq (ef (B 3 _ rfl) (ae (aa 5) ai))))) bx)))))))⟩
theorem Z1 (B:∀(j:Nat) x,nu[j]? = some x→mg x=none):Derived GL P w K mg base ents e31:=⟨⟨rfl,rfl,rfl,by decide +kernel,rfl,by decide +kernel,by decide +kernel⟩,rfl,rfl,rfl,fun n fa cdv A outer s H E hu C =>
 (ay (cb 1 (F6 (B 16 _ rfl) (B 17 _ rfl) (aa 0))) (ay (cb 2 (au (C 21 _ rfl) (ae (aa 1) ai))) (ay (cb 3 (au (C 29 _ rfl) (ae (aa 1) (ae (aa 2) ai)))) (ay (cb 4 (d7 (au (C 25 _ rfl) (ae (aa 2) (ae (aa 3) ai))) ah)) (ay (cb 5 (au (C 12 _ rfl) (ae (aa 2) (ae (aa 3) ai)))) (ay (mj (o6 (iq (au (C 30 _ rfl) (ae (aa 2) (ae (aa 3) ai))))) (ay (bu Hz) bx) bx) (ay (bu (Fy (au (C 26 _ rfl) (ae (au (C 11 _ rfl) (ae (aa 2) (ae (aa 3) ai))) (ae (aa 4) ai))) (Fy (F0 (aa 5) (B 9 _ rfl) (B 11 _ rfl)) (Cf (qg (aa 5) (qf hu .eq (qg (aa 4) (qf hu .is zc)))))))) bx)))))))⟩
theorem dvs (B:∀(j:Nat) x,nu[j]? = some x→mg x=none):∀(j:Nat) e,ents[j]? = some e→Derived GL P w K mg base ents e
 | 0,_,h=>by
  have h':some e0=some _:=h
  cases h'
  exact dv0 B
 | 1,_,h=>by
  have h':some e1=some _:=h
  cases h'
  exact dv1 B
 | 2,_,h=>by
  have h':some e2=some _:=h
  cases h'
  exact dv2 B
 | 3,_,h=>by
  have h':some e3=some _:=h
  cases h'
  exact dv3 B
 | 4,_,h=>by
  have h':some e4=some _:=h
  cases h'
  exact dv4 B
 | 5,_,h=>by
  have h':some e5=some _:=h
  cases h'
  exact dv5 B
 | 6,_,h=>by
  have h':some e6=some _:=h
  cases h'
  exact dv6 B
 | 7,_,h=>by
  have h':some e7=some _:=h
  cases h'
  exact dv7 B
 | 8,_,h=>by
  have h':some e8=some _:=h
  cases h'
  exact dv8 B
 | 9,_,h=>by
  have h':some e9=some _:=h
  cases h'
  exact dv9 B
 | 10,_,h=>by
  have h':some e10=some _:=h
  cases h'
  exact Zg B
 | 11,_,h=>by
  have h':some e11=some _:=h
  cases h'
  exact Zh B
 | 12,_,h=>by
  have h':some e12=some _:=h
  cases h'
  exact Zi B
 | 13,_,h=>by
  have h':some e13=some _:=h
  cases h'
  exact Zj B
 | 14,_,h=>by
  have h':some e14=some _:=h
  cases h'
  exact Zk B
 | 15,_,h=>by
  have h':some e15=some _:=h
  cases h'
  exact Zl B
 | 16,_,h=>by
  have h':some e16=some _:=h
  cases h'
  exact Zm B
 | 17,_,h=>by
  have h':some e17=some _:=h
  cases h'
  exact Zn B
 | 18,_,h=>by
  have h':some e18=some _:=h
  cases h'
  exact Zo B
 | 19,_,h=>by
  have h':some e19=some _:=h
  cases h'
  exact Zp B
 | 20,_,h=>by
  have h':some e20=some _:=h
  cases h'
  exact Zq B
 | 21,_,h=>by
  have h':some e21=some _:=h
  cases h'
  exact Zr B
 | 22,_,h=>by
  have h':some e22=some _:=h
  cases h'
  exact Zs B
 | 23,_,h=>by
  have h':some e23=some _:=h
  cases h'
  exact Zt B
 | 24,_,h=>by
  have h':some e24=some _:=h
  cases h'
  exact Zu B
 | 25,_,h=>by
  have h':some e25=some _:=h
  cases h'
  exact Zv B
 | 26,_,h=>by
  have h':some e26=some _:=h
  cases h'
  exact Zw B
 | 27,_,h=>by
  have h':some e27=some _:=h
  cases h'
  exact Zx B
 | 28,_,h=>by
  have h':some e28=some _:=h
  cases h'
  exact Zy B
 | 29,_,h=>by
  have h':some e29=some _:=h
  cases h'
  exact Zz B
 | 30,_,h=>by
  have h':some e30=some _:=h
  cases h'
  exact Z0 B
 | 31,_,h=>by
  have h':some e31=some _:=h
  cases h'
  exact Z1 B
 | n+32,_,h=>by
  have h':(none:Option Ent)=some _:=h
  cases h'
theorem mk0 {h:Heap} {f:Addr} {oc:Value} {od an:Option Addr} {sl:Array (Option Value)} {kV dc pm cd ct:Value} (X:K.In h) (G:h.Ns mainGlobals mg) (a:PySem.W.nsIn K mainGlobals "rises"=some (some (.ref f))) (l:K.lookup f=some ⟨oc,od,.func (PySem.W.fnOf "rises" "rises" (a9 (top 1)) (a8 (top 1)) (ao (top 1)) .none kV dc pm an cd ct),sl⟩) (c:PySem.W.codeIn K cd "rises"=true) (k:PySem.W.keepIn K (.ref f)=true):ModOf K mg e0 :=
 c7 (e:=e0) X G a l c k fun _ _ _ _ _ _=>ar1 fun _=>rfl
theorem mk1 {h:Heap} {f:Addr} {oc:Value} {od an:Option Addr} {sl:Array (Option Value)} {kV dc pm cd ct:Value} (X:K.In h) (G:h.Ns mainGlobals mg) (a:PySem.W.nsIn K mainGlobals "can_burn"=some (some (.ref f))) (l:K.lookup f=some ⟨oc,od,.func (PySem.W.fnOf "can_burn" "can_burn" (a9 (top 2)) (a8 (top 2)) (ao (top 2)) .none kV dc pm an cd ct),sl⟩) (c:PySem.W.codeIn K cd "can_burn"=true) (k:PySem.W.keepIn K (.ref f)=true):ModOf K mg e1 :=
 c7 (e:=e1) X G a l c k fun _ _ _ _ _ _=>ar3 fun _ _ _=>rfl
theorem mk2 {h:Heap} {f:Addr} {oc:Value} {od an:Option Addr} {sl:Array (Option Value)} {kV dc pm cd ct:Value} (X:K.In h) (G:h.Ns mainGlobals mg) (a:PySem.W.nsIn K mainGlobals "ticks_of_spans"=some (some (.ref f))) (l:K.lookup f=some ⟨oc,od,.func (PySem.W.fnOf "ticks_of_spans" "ticks_of_spans" (a9 (top 4)) (a8 (top 4)) (ao (top 4)) .none kV dc pm an cd ct),sl⟩) (c:PySem.W.codeIn K cd "ticks_of_spans"=true) (k:PySem.W.keepIn K (.ref f)=true):ModOf K mg e2 :=
 c7 (e:=e2) X G a l c k fun _ _ _ _ _ _=>ar2 fun _ _=>rfl
theorem mk3 {h:Heap} {f:Addr} {oc:Value} {od an:Option Addr} {sl:Array (Option Value)} {kV dc pm cd ct:Value} (X:K.In h) (G:h.Ns mainGlobals mg) (a:PySem.W.nsIn K mainGlobals "have_tick_in_common"=some (some (.ref f))) (l:K.lookup f=some ⟨oc,od,.func (PySem.W.fnOf "have_tick_in_common" "have_tick_in_common" (a9 (top 5)) (a8 (top 5)) (ao (top 5)) .none kV dc pm an cd ct),sl⟩) (c:PySem.W.codeIn K cd "have_tick_in_common"=true) (k:PySem.W.keepIn K (.ref f)=true):ModOf K mg e3 :=
 c7 (e:=e3) X G a l c k fun _ _ _ _ _ _=>ar2 fun _ _=>rfl
theorem mk4 {h:Heap} {f:Addr} {oc:Value} {od an:Option Addr} {sl:Array (Option Value)} {kV dc pm cd ct:Value} (X:K.In h) (G:h.Ns mainGlobals mg) (a:PySem.W.nsIn K mainGlobals "has_span_fault"=some (some (.ref f))) (l:K.lookup f=some ⟨oc,od,.func (PySem.W.fnOf "has_span_fault" "has_span_fault" (a9 (top 6)) (a8 (top 6)) (ao (top 6)) .none kV dc pm an cd ct),sl⟩) (c:PySem.W.codeIn K cd "has_span_fault"=true) (k:PySem.W.keepIn K (.ref f)=true):ModOf K mg e4 :=
 c7 (e:=e4) X G a l c k fun _ _ _ _ _ _=>ar3 fun _ _ _=>rfl
theorem mk5 {h:Heap} {f:Addr} {oc:Value} {od an:Option Addr} {sl:Array (Option Value)} {kV dc pm cd ct:Value} (X:K.In h) (G:h.Ns mainGlobals mg) (a:PySem.W.nsIn K mainGlobals "has_dark_fault"=some (some (.ref f))) (l:K.lookup f=some ⟨oc,od,.func (PySem.W.fnOf "has_dark_fault" "has_dark_fault" (a9 (top 7)) (a8 (top 7)) (ao (top 7)) .none kV dc pm an cd ct),sl⟩) (c:PySem.W.codeIn K cd "has_dark_fault"=true) (k:PySem.W.keepIn K (.ref f)=true):ModOf K mg e5 :=
 c7 (e:=e5) X G a l c k fun _ _ _ _ _ _=>ar3 fun _ _ _=>rfl
theorem mk6 {h:Heap} {f:Addr} {oc:Value} {od an:Option Addr} {sl:Array (Option Value)} {kV dc pm cd ct:Value} (X:K.In h) (G:h.Ns mainGlobals mg) (a:PySem.W.nsIn K mainGlobals "held_at_first"=some (some (.ref f))) (l:K.lookup f=some ⟨oc,od,.func (PySem.W.fnOf "held_at_first" "held_at_first" (a9 (top 8)) (a8 (top 8)) (ao (top 8)) .none kV dc pm an cd ct),sl⟩) (c:PySem.W.codeIn K cd "held_at_first"=true) (k:PySem.W.keepIn K (.ref f)=true):ModOf K mg e6 :=
 c7 (e:=e6) X G a l c k fun _ _ _ _ _ _=>ar1 fun _=>rfl
theorem mk7 {h:Heap} {f:Addr} {oc:Value} {od an:Option Addr} {sl:Array (Option Value)} {kV dc pm cd ct:Value} (X:K.In h) (G:h.Ns mainGlobals mg) (a:PySem.W.nsIn K mainGlobals "filled"=some (some (.ref f))) (l:K.lookup f=some ⟨oc,od,.func (PySem.W.fnOf "filled" "filled" (a9 (top 9)) (a8 (top 9)) (ao (top 9)) .none kV dc pm an cd ct),sl⟩) (c:PySem.W.codeIn K cd "filled"=true) (k:PySem.W.keepIn K (.ref f)=true):ModOf K mg e7 :=
 c7 (e:=e7) X G a l c k fun _ _ _ _ _ _=>ar2 fun _ _=>rfl
theorem mk8 {h:Heap} {f:Addr} {oc:Value} {od an:Option Addr} {sl:Array (Option Value)} {kV dc pm cd ct:Value} (X:K.In h) (G:h.Ns mainGlobals mg) (a:PySem.W.nsIn K mainGlobals "held_behind"=some (some (.ref f))) (l:K.lookup f=some ⟨oc,od,.func (PySem.W.fnOf "held_behind" "held_behind" (a9 (top 10)) (a8 (top 10)) (ao (top 10)) .none kV dc pm an cd ct),sl⟩) (c:PySem.W.codeIn K cd "held_behind"=true) (k:PySem.W.keepIn K (.ref f)=true):ModOf K mg e8 :=
 c7 (e:=e8) X G a l c k fun _ _ _ _ _ _=>ar3 fun _ _ _=>rfl
theorem mk9 {h:Heap} {f:Addr} {oc:Value} {od an:Option Addr} {sl:Array (Option Value)} {kV dc pm cd ct:Value} (X:K.In h) (G:h.Ns mainGlobals mg) (a:PySem.W.nsIn K mainGlobals "day_fault"=some (some (.ref f))) (l:K.lookup f=some ⟨oc,od,.func (PySem.W.fnOf "day_fault" "day_fault" (a9 (top 11)) (a8 (top 11)) (ao (top 11)) .none kV dc pm an cd ct),sl⟩) (c:PySem.W.codeIn K cd "day_fault"=true) (k:PySem.W.keepIn K (.ref f)=true):ModOf K mg e9 :=
 c7 (e:=e9) X G a l c k fun _ _ _ _ _ _=>ar4 fun _ _ _ _=>rfl
theorem Z2 {h:Heap} {f:Addr} {oc:Value} {od an:Option Addr} {sl:Array (Option Value)} {kV dc pm cd ct:Value} (X:K.In h) (G:h.Ns mainGlobals mg) (a:PySem.W.nsIn K mainGlobals "night_fault"=some (some (.ref f))) (l:K.lookup f=some ⟨oc,od,.func (PySem.W.fnOf "night_fault" "night_fault" (a9 (top 12)) (a8 (top 12)) (ao (top 12)) .none kV dc pm an cd ct),sl⟩) (c:PySem.W.codeIn K cd "night_fault"=true) (k:PySem.W.keepIn K (.ref f)=true):ModOf K mg e10 :=
 c7 (e:=e10) X G a l c k fun _ _ _ _ _ _=>ar4 fun _ _ _ _=>rfl
theorem Z3 {h:Heap} {f:Addr} {oc:Value} {od an:Option Addr} {sl:Array (Option Value)} {kV dc pm cd ct:Value} (X:K.In h) (G:h.Ns mainGlobals mg) (a:PySem.W.nsIn K mainGlobals "fault"=some (some (.ref f))) (l:K.lookup f=some ⟨oc,od,.func (PySem.W.fnOf "fault" "fault" (a9 (top 13)) (a8 (top 13)) (ao (top 13)) .none kV dc pm an cd ct),sl⟩) (c:PySem.W.codeIn K cd "fault"=true) (k:PySem.W.keepIn K (.ref f)=true):ModOf K mg e11 :=
 c7 (e:=e11) X G a l c k fun _ _ _ _ _ _=>ar2 fun _ _=>rfl
theorem Z4 {h:Heap} {f:Addr} {oc:Value} {od an:Option Addr} {sl:Array (Option Value)} {kV dc pm cd ct:Value} (X:K.In h) (G:h.Ns mainGlobals mg) (a:PySem.W.nsIn K mainGlobals "keeps"=some (some (.ref f))) (l:K.lookup f=some ⟨oc,od,.func (PySem.W.fnOf "keeps" "keeps" (a9 (top 14)) (a8 (top 14)) (ao (top 14)) .none kV dc pm an cd ct),sl⟩) (c:PySem.W.codeIn K cd "keeps"=true) (k:PySem.W.keepIn K (.ref f)=true):ModOf K mg e12 :=
 c7 (e:=e12) X G a l c k fun _ _ _ _ _ _=>ar2 fun _ _=>rfl
theorem Z5 {h:Heap} {f:Addr} {oc:Value} {od an:Option Addr} {sl:Array (Option Value)} {kV dc pm cd ct:Value} (X:K.In h) (G:h.Ns mainGlobals mg) (a:PySem.W.nsIn K mainGlobals "cost"=some (some (.ref f))) (l:K.lookup f=some ⟨oc,od,.func (PySem.W.fnOf "cost" "cost" (a9 (top 15)) (a8 (top 15)) (ao (top 15)) .none kV dc pm an cd ct),sl⟩) (c:PySem.W.codeIn K cd "cost"=true) (k:PySem.W.keepIn K (.ref f)=true):ModOf K mg e13 :=
 c7 (e:=e13) X G a l c k fun _ _ _ _ _ _=>ar2 fun _ _=>rfl
theorem Z6 {h:Heap} {f:Addr} {oc:Value} {od an:Option Addr} {sl:Array (Option Value)} {kV dc pm cd ct:Value} (X:K.In h) (G:h.Ns mainGlobals mg) (a:PySem.W.nsIn K mainGlobals "burnt"=some (some (.ref f))) (l:K.lookup f=some ⟨oc,od,.func (PySem.W.fnOf "burnt" "burnt" (a9 (top 16)) (a8 (top 16)) (ao (top 16)) .none kV dc pm an cd ct),sl⟩) (c:PySem.W.codeIn K cd "burnt"=true) (k:PySem.W.keepIn K (.ref f)=true):ModOf K mg e14 :=
 c7 (e:=e14) X G a l c k fun _ _ _ _ _ _=>ar2 fun _ _=>rfl
theorem Z7 {h:Heap} {f:Addr} {oc:Value} {od an:Option Addr} {sl:Array (Option Value)} {kV dc pm cd ct:Value} (X:K.In h) (G:h.Ns mainGlobals mg) (a:PySem.W.nsIn K mainGlobals "_law_next"=some (some (.ref f))) (l:K.lookup f=some ⟨oc,od,.func (PySem.W.fnOf "_law_next" "_law_next" (a9 (top 18)) (a8 (top 18)) (ao (top 18)) .none kV dc pm an cd ct),sl⟩) (c:PySem.W.codeIn K cd "_law_next"=true) (k:PySem.W.keepIn K (.ref f)=true):ModOf K mg e15 :=
 c7 (e:=e15) X G a l c k fun _ _ _ _ _ _=>ar1 fun _=>rfl
theorem Z8 {h:Heap} {f:Addr} {oc:Value} {od an:Option Addr} {sl:Array (Option Value)} {kV dc pm cd ct:Value} (X:K.In h) (G:h.Ns mainGlobals mg) (a:PySem.W.nsIn K mainGlobals "_law_turn"=some (some (.ref f))) (l:K.lookup f=some ⟨oc,od,.func (PySem.W.fnOf "_law_turn" "_law_turn" (a9 (top 19)) (a8 (top 19)) (ao (top 19)) .none kV dc pm an cd ct),sl⟩) (c:PySem.W.codeIn K cd "_law_turn"=true) (k:PySem.W.keepIn K (.ref f)=true):ModOf K mg e16 :=
 c7 (e:=e16) X G a l c k fun _ _ _ _ _ _=>ar1 fun _=>rfl
theorem Z9 {h:Heap} {f:Addr} {oc:Value} {od an:Option Addr} {sl:Array (Option Value)} {kV dc pm cd ct:Value} (X:K.In h) (G:h.Ns mainGlobals mg) (a:PySem.W.nsIn K mainGlobals "_law_size"=some (some (.ref f))) (l:K.lookup f=some ⟨oc,od,.func (PySem.W.fnOf "_law_size" "_law_size" (a9 (top 20)) (a8 (top 20)) (ao (top 20)) .none kV dc pm an cd ct),sl⟩) (c:PySem.W.codeIn K cd "_law_size"=true) (k:PySem.W.keepIn K (.ref f)=true):ModOf K mg e17 :=
 c7 (e:=e17) X G a l c k fun _ _ _ _ _ _=>ar2 fun _ _=>rfl
theorem aaa {h:Heap} {f:Addr} {oc:Value} {od an:Option Addr} {sl:Array (Option Value)} {kV dc pm cd ct:Value} (X:K.In h) (G:h.Ns mainGlobals mg) (a:PySem.W.nsIn K mainGlobals "_law_whole"=some (some (.ref f))) (l:K.lookup f=some ⟨oc,od,.func (PySem.W.fnOf "_law_whole" "_law_whole" (a9 (top 21)) (a8 (top 21)) (ao (top 21)) .none kV dc pm an cd ct),sl⟩) (c:PySem.W.codeIn K cd "_law_whole"=true) (k:PySem.W.keepIn K (.ref f)=true):ModOf K mg e18 :=
 c7 (e:=e18) X G a l c k fun _ _ _ _ _ _=>ar1 fun _=>rfl
theorem aab {h:Heap} {f:Addr} {oc:Value} {od an:Option Addr} {sl:Array (Option Value)} {kV dc pm cd ct:Value} (X:K.In h) (G:h.Ns mainGlobals mg) (a:PySem.W.nsIn K mainGlobals "_law_lamp"=some (some (.ref f))) (l:K.lookup f=some ⟨oc,od,.func (PySem.W.fnOf "_law_lamp" "_law_lamp" (a9 (top 22)) (a8 (top 22)) (ao (top 22)) .none kV dc pm an cd ct),sl⟩) (c:PySem.W.codeIn K cd "_law_lamp"=true) (k:PySem.W.keepIn K (.ref f)=true):ModOf K mg e19 :=
 c7 (e:=e19) X G a l c k fun _ _ _ _ _ _=>ar2 fun _ _=>rfl
theorem aac {h:Heap} {f:Addr} {oc:Value} {od an:Option Addr} {sl:Array (Option Value)} {kV dc pm cd ct:Value} (X:K.In h) (G:h.Ns mainGlobals mg) (a:PySem.W.nsIn K mainGlobals "_law_day"=some (some (.ref f))) (l:K.lookup f=some ⟨oc,od,.func (PySem.W.fnOf "_law_day" "_law_day" (a9 (top 23)) (a8 (top 23)) (ao (top 23)) .none kV dc pm an cd ct),sl⟩) (c:PySem.W.codeIn K cd "_law_day"=true) (k:PySem.W.keepIn K (.ref f)=true):ModOf K mg e20 :=
 c7 (e:=e20) X G a l c k fun _ _ _ _ _ _=>ar2 fun _ _=>rfl
theorem aad {h:Heap} {f:Addr} {oc:Value} {od an:Option Addr} {sl:Array (Option Value)} {kV dc pm cd ct:Value} (X:K.In h) (G:h.Ns mainGlobals mg) (a:PySem.W.nsIn K mainGlobals "_law_book"=some (some (.ref f))) (l:K.lookup f=some ⟨oc,od,.func (PySem.W.fnOf "_law_book" "_law_book" (a9 (top 24)) (a8 (top 24)) (ao (top 24)) .none kV dc pm an cd ct),sl⟩) (c:PySem.W.codeIn K cd "_law_book"=true) (k:PySem.W.keepIn K (.ref f)=true):ModOf K mg e21 :=
 c7 (e:=e21) X G a l c k fun _ _ _ _ _ _=>ar1 fun _=>rfl
theorem aae {h:Heap} {f:Addr} {oc:Value} {od an:Option Addr} {sl:Array (Option Value)} {kV dc pm cd ct:Value} (X:K.In h) (G:h.Ns mainGlobals mg) (a:PySem.W.nsIn K mainGlobals "_law_span_bad"=some (some (.ref f))) (l:K.lookup f=some ⟨oc,od,.func (PySem.W.fnOf "_law_span_bad" "_law_span_bad" (a9 (top 25)) (a8 (top 25)) (ao (top 25)) .none kV dc pm an cd ct),sl⟩) (c:PySem.W.codeIn K cd "_law_span_bad"=true) (k:PySem.W.keepIn K (.ref f)=true):ModOf K mg e22 :=
 c7 (e:=e22) X G a l c k fun _ _ _ _ _ _=>ar3 fun _ _ _=>rfl
theorem aaf {h:Heap} {f:Addr} {oc:Value} {od an:Option Addr} {sl:Array (Option Value)} {kV dc pm cd ct:Value} (X:K.In h) (G:h.Ns mainGlobals mg) (a:PySem.W.nsIn K mainGlobals "_law_dark"=some (some (.ref f))) (l:K.lookup f=some ⟨oc,od,.func (PySem.W.fnOf "_law_dark" "_law_dark" (a9 (top 26)) (a8 (top 26)) (ao (top 26)) .none kV dc pm an cd ct),sl⟩) (c:PySem.W.codeIn K cd "_law_dark"=true) (k:PySem.W.keepIn K (.ref f)=true):ModOf K mg e23 :=
 c7 (e:=e23) X G a l c k fun _ _ _ _ _ _=>ar3 fun _ _ _=>rfl
theorem aag {h:Heap} {f:Addr} {oc:Value} {od an:Option Addr} {sl:Array (Option Value)} {kV dc pm cd ct:Value} (X:K.In h) (G:h.Ns mainGlobals mg) (a:PySem.W.nsIn K mainGlobals "_law_word"=some (some (.ref f))) (l:K.lookup f=some ⟨oc,od,.func (PySem.W.fnOf "_law_word" "_law_word" (a9 (top 27)) (a8 (top 27)) (ao (top 27)) .none kV dc pm an cd ct),sl⟩) (c:PySem.W.codeIn K cd "_law_word"=true) (k:PySem.W.keepIn K (.ref f)=true):ModOf K mg e24 :=
 c7 (e:=e24) X G a l c k fun _ _ _ _ _ _=>ar5 fun _ _ _ _ _=>rfl
theorem aah {h:Heap} {f:Addr} {oc:Value} {od an:Option Addr} {sl:Array (Option Value)} {kV dc pm cd ct:Value} (X:K.In h) (G:h.Ns mainGlobals mg) (a:PySem.W.nsIn K mainGlobals "_law_walk"=some (some (.ref f))) (l:K.lookup f=some ⟨oc,od,.func (PySem.W.fnOf "_law_walk" "_law_walk" (a9 (top 28)) (a8 (top 28)) (ao (top 28)) .none kV dc pm an cd ct),sl⟩) (c:PySem.W.codeIn K cd "_law_walk"=true) (k:PySem.W.keepIn K (.ref f)=true):ModOf K mg e25 :=
 c7 (e:=e25) X G a l c k fun _ _ _ _ _ _=>ar2 fun _ _=>rfl
theorem aai {h:Heap} {f:Addr} {oc:Value} {od an:Option Addr} {sl:Array (Option Value)} {kV dc pm cd ct:Value} (X:K.In h) (G:h.Ns mainGlobals mg) (a:PySem.W.nsIn K mainGlobals "_law_same_fault"=some (some (.ref f))) (l:K.lookup f=some ⟨oc,od,.func (PySem.W.fnOf "_law_same_fault" "_law_same_fault" (a9 (top 29)) (a8 (top 29)) (ao (top 29)) .none kV dc pm an cd ct),sl⟩) (c:PySem.W.codeIn K cd "_law_same_fault"=true) (k:PySem.W.keepIn K (.ref f)=true):ModOf K mg e26 :=
 c7 (e:=e26) X G a l c k fun _ _ _ _ _ _=>ar2 fun _ _=>rfl
theorem aaj {h:Heap} {f:Addr} {oc:Value} {od an:Option Addr} {sl:Array (Option Value)} {kV dc pm cd ct:Value} (X:K.In h) (G:h.Ns mainGlobals mg) (a:PySem.W.nsIn K mainGlobals "_law_any"=some (some (.ref f))) (l:K.lookup f=some ⟨oc,od,.func (PySem.W.fnOf "_law_any" "_law_any" (a9 (top 30)) (a8 (top 30)) (ao (top 30)) .none kV dc pm an cd ct),sl⟩) (c:PySem.W.codeIn K cd "_law_any"=true) (k:PySem.W.keepIn K (.ref f)=true):ModOf K mg e27 :=
 c7 (e:=e27) X G a l c k fun _ _ _ _ _ _=>ar2 fun _ _=>rfl
theorem aak {h:Heap} {f:Addr} {oc:Value} {od an:Option Addr} {sl:Array (Option Value)} {kV dc pm cd ct:Value} (X:K.In h) (G:h.Ns mainGlobals mg) (a:PySem.W.nsIn K mainGlobals "_law_any_spans"=some (some (.ref f))) (l:K.lookup f=some ⟨oc,od,.func (PySem.W.fnOf "_law_any_spans" "_law_any_spans" (a9 (top 31)) (a8 (top 31)) (ao (top 31)) .none kV dc pm an cd ct),sl⟩) (c:PySem.W.codeIn K cd "_law_any_spans"=true) (k:PySem.W.keepIn K (.ref f)=true):ModOf K mg e28 :=
 c7 (e:=e28) X G a l c k fun _ _ _ _ _ _=>ar3 fun _ _ _=>rfl
theorem aal {h:Heap} {f:Addr} {oc:Value} {od an:Option Addr} {sl:Array (Option Value)} {kV dc pm cd ct:Value} (X:K.In h) (G:h.Ns mainGlobals mg) (a:PySem.W.nsIn K mainGlobals "_law_any_rota"=some (some (.ref f))) (l:K.lookup f=some ⟨oc,od,.func (PySem.W.fnOf "_law_any_rota" "_law_any_rota" (a9 (top 32)) (a8 (top 32)) (ao (top 32)) .none kV dc pm an cd ct),sl⟩) (c:PySem.W.codeIn K cd "_law_any_rota"=true) (k:PySem.W.keepIn K (.ref f)=true):ModOf K mg e29 :=
 c7 (e:=e29) X G a l c k fun _ _ _ _ _ _=>ar2 fun _ _=>rfl
theorem aam {h:Heap} {f:Addr} {oc:Value} {od an:Option Addr} {sl:Array (Option Value)} {kV dc pm cd ct:Value} (X:K.In h) (G:h.Ns mainGlobals mg) (a:PySem.W.nsIn K mainGlobals "_law_sums_good"=some (some (.ref f))) (l:K.lookup f=some ⟨oc,od,.func (PySem.W.fnOf "_law_sums_good" "_law_sums_good" (a9 (top 33)) (a8 (top 33)) (ao (top 33)) .none kV dc pm an cd ct),sl⟩) (c:PySem.W.codeIn K cd "_law_sums_good"=true) (k:PySem.W.keepIn K (.ref f)=true):ModOf K mg e30 :=
 c7 (e:=e30) X G a l c k fun _ _ _ _ _ _=>ar2 fun _ _=>rfl
theorem aan {h:Heap} {f:Addr} {oc:Value} {od an:Option Addr} {sl:Array (Option Value)} {kV dc pm cd ct:Value} (X:K.In h) (G:h.Ns mainGlobals mg) (a:PySem.W.nsIn K mainGlobals "law"=some (some (.ref f))) (l:K.lookup f=some ⟨oc,od,.func (PySem.W.fnOf "law" "law" (a9 (top 34)) (a8 (top 34)) (ao (top 34)) .none kV dc pm an cd ct),sl⟩) (c:PySem.W.codeIn K cd "law"=true) (k:PySem.W.keepIn K (.ref f)=true):ModOf K mg e31 :=
 c7 (e:=e31) X G a l c k fun _ _ _ _ _ _=>ar1 fun _=>rfl
end
theorem mods {K:PySem.W.Frag} {mg:Str→Option Value} (m0:ModOf K mg e0) (m1:ModOf K mg e1) (m2:ModOf K mg e2) (m3:ModOf K mg e3) (m4:ModOf K mg e4) (m5:ModOf K mg e5) (m6:ModOf K mg e6) (m7:ModOf K mg e7) (m8:ModOf K mg e8) (m9:ModOf K mg e9) (m10:ModOf K mg e10) (m11:ModOf K mg e11) (m12:ModOf K mg e12) (m13:ModOf K mg e13) (m14:ModOf K mg e14) (m15:ModOf K mg e15) (m16:ModOf K mg e16) (m17:ModOf K mg e17) (m18:ModOf K mg e18) (m19:ModOf K mg e19) (m20:ModOf K mg e20) (m21:ModOf K mg e21) (m22:ModOf K mg e22) (m23:ModOf K mg e23) (m24:ModOf K mg e24) (m25:ModOf K mg e25) (m26:ModOf K mg e26) (m27:ModOf K mg e27) (m28:ModOf K mg e28) (m29:ModOf K mg e29) (m30:ModOf K mg e30) (m31:ModOf K mg e31):∀(j:Nat) e,ents[j]? = some e→ModOf K mg e
 | 0,_,h=>by
  have h':some e0=some _:=h
  cases h'
  exact m0
 | 1,_,h=>by
  have h':some e1=some _:=h
  cases h'
  exact m1
 | 2,_,h=>by
  have h':some e2=some _:=h
  cases h'
  exact m2
 | 3,_,h=>by
  have h':some e3=some _:=h
  cases h'
  exact m3
 | 4,_,h=>by
  have h':some e4=some _:=h
  cases h'
  exact m4
 | 5,_,h=>by
  have h':some e5=some _:=h
  cases h'
  exact m5
 | 6,_,h=>by
  have h':some e6=some _:=h
  cases h'
  exact m6
 | 7,_,h=>by
  have h':some e7=some _:=h
  cases h'
  exact m7
 | 8,_,h=>by
  have h':some e8=some _:=h
  cases h'
  exact m8
 | 9,_,h=>by
  have h':some e9=some _:=h
  cases h'
  exact m9
 | 10,_,h=>by
  have h':some e10=some _:=h
  cases h'
  exact m10
 | 11,_,h=>by
  have h':some e11=some _:=h
  cases h'
  exact m11
 | 12,_,h=>by
  have h':some e12=some _:=h
  cases h'
  exact m12
 | 13,_,h=>by
  have h':some e13=some _:=h
  cases h'
  exact m13
 | 14,_,h=>by
  have h':some e14=some _:=h
  cases h'
  exact m14
 | 15,_,h=>by
  have h':some e15=some _:=h
  cases h'
  exact m15
 | 16,_,h=>by
  have h':some e16=some _:=h
  cases h'
  exact m16
 | 17,_,h=>by
  have h':some e17=some _:=h
  cases h'
  exact m17
 | 18,_,h=>by
  have h':some e18=some _:=h
  cases h'
  exact m18
 | 19,_,h=>by
  have h':some e19=some _:=h
  cases h'
  exact m19
 | 20,_,h=>by
  have h':some e20=some _:=h
  cases h'
  exact m20
 | 21,_,h=>by
  have h':some e21=some _:=h
  cases h'
  exact m21
 | 22,_,h=>by
  have h':some e22=some _:=h
  cases h'
  exact m22
 | 23,_,h=>by
  have h':some e23=some _:=h
  cases h'
  exact m23
 | 24,_,h=>by
  have h':some e24=some _:=h
  cases h'
  exact m24
 | 25,_,h=>by
  have h':some e25=some _:=h
  cases h'
  exact m25
 | 26,_,h=>by
  have h':some e26=some _:=h
  cases h'
  exact m26
 | 27,_,h=>by
  have h':some e27=some _:=h
  cases h'
  exact m27
 | 28,_,h=>by
  have h':some e28=some _:=h
  cases h'
  exact m28
 | 29,_,h=>by
  have h':some e29=some _:=h
  cases h'
  exact m29
 | 30,_,h=>by
  have h':some e30=some _:=h
  cases h'
  exact m30
 | 31,_,h=>by
  have h':some e31=some _:=h
  cases h'
  exact m31
 | n+32,_,h=>by
  have h':(none:Option Ent)=some _:=h
  cases h'
theorem nob {mg:Str→Option Value} (b0:mg "zip"=none) (b1:mg "all"=none) (b2:mg "range"=none) (b3:mg "tuple"=none) (b4:mg "any"=none) (b5:mg "sum"=none) (b6:mg "len"=none) (b7:mg "min"=none) (b8:mg "enumerate"=none) (b9:mg "isinstance"=none) (b10:mg "int"=none) (b11:mg "bool"=none) (b12:mg "max"=none) (b13:mg "sorted"=none) (b14:mg "set"=none) (b15:mg "str"=none) (b16:mg "list"=none) (b17:mg "reversed"=none):∀(j:Nat) x,nu[j]? = some x→mg x=none
 | 0,_,h=>by
  have h':some ("zip":Str)=some _:=h
  cases h'
  exact b0
 | 1,_,h=>by
  have h':some ("all":Str)=some _:=h
  cases h'
  exact b1
 | 2,_,h=>by
  have h':some ("range":Str)=some _:=h
  cases h'
  exact b2
 | 3,_,h=>by
  have h':some ("tuple":Str)=some _:=h
  cases h'
  exact b3
 | 4,_,h=>by
  have h':some ("any":Str)=some _:=h
  cases h'
  exact b4
 | 5,_,h=>by
  have h':some ("sum":Str)=some _:=h
  cases h'
  exact b5
 | 6,_,h=>by
  have h':some ("len":Str)=some _:=h
  cases h'
  exact b6
 | 7,_,h=>by
  have h':some ("min":Str)=some _:=h
  cases h'
  exact b7
 | 8,_,h=>by
  have h':some ("enumerate":Str)=some _:=h
  cases h'
  exact b8
 | 9,_,h=>by
  have h':some ("isinstance":Str)=some _:=h
  cases h'
  exact b9
 | 10,_,h=>by
  have h':some ("int":Str)=some _:=h
  cases h'
  exact b10
 | 11,_,h=>by
  have h':some ("bool":Str)=some _:=h
  cases h'
  exact b11
 | 12,_,h=>by
  have h':some ("max":Str)=some _:=h
  cases h'
  exact b12
 | 13,_,h=>by
  have h':some ("sorted":Str)=some _:=h
  cases h'
  exact b13
 | 14,_,h=>by
  have h':some ("set":Str)=some _:=h
  cases h'
  exact b14
 | 15,_,h=>by
  have h':some ("str":Str)=some _:=h
  cases h'
  exact b15
 | 16,_,h=>by
  have h':some ("list":Str)=some _:=h
  cases h'
  exact b16
 | 17,_,h=>by
  have h':some ("reversed":Str)=some _:=h
  cases h'
  exact b17
 | n+18,_,h=>by
  have h':(none:Option Str)=some _:=h
  cases h'
end Lp.Law
theorem PySem.W.Fast.tw9573889847530308382:True:=trivial
theorem PySem.W.Fast.tw4471099725951528599:True:=trivial
theorem PySem.W.Fast.tw13425860900061066223:True:=trivial
theorem PySem.W.Fast.tw10965902766524049766:True:=trivial
theorem PySem.W.Fast.tw5636864972592669785:True:=trivial
theorem PySem.W.Fast.tw11899677828570484795:True:=trivial
theorem PySem.W.Fast.tw5607082622253746439:True:=trivial
theorem PySem.W.Fast.tw5817220135311116263:True:=trivial
theorem PySem.W.Fast.tw13604188083871925601:True:=trivial
theorem PySem.W.Fast.tw14925459456472731876:True:=trivial
theorem PySem.W.Fast.tw8689364261825343608:True:=trivial
theorem PySem.W.Fast.tw6340029386594242561:True:=trivial
theorem PySem.W.Fast.tw14848791142778939732:True:=trivial
theorem PySem.W.Fast.tw10698026847748920744:True:=trivial
theorem PySem.W.Fast.tw370538922342496559:True:=trivial
theorem PySem.W.Fast.tw17577986177041172610:True:=trivial
theorem PySem.W.Fast.tw1671314690229016582:True:=trivial
theorem PySem.W.Fast.tw8831987509578409251:True:=trivial
theorem PySem.W.Fast.tw13622046189864040054:True:=trivial
theorem PySem.W.Fast.tw8600211241820593192:True:=trivial
theorem PySem.W.Fast.tw10755865946599523876:True:=trivial
theorem PySem.W.Fast.tw7741927772935603656:True:=trivial
theorem PySem.W.Fast.tw12162211989567548413:True:=trivial
theorem PySem.W.Fast.tw1861068807202352472:True:=trivial
theorem PySem.W.Fast.tw18128401939138528809:True:=trivial
theorem PySem.W.Fast.tw7349525661932277150:True:=trivial
theorem PySem.W.Fast.tw8051038725793448246:True:=trivial
theorem PySem.W.Fast.tw1043869366654698972:True:=trivial
theorem PySem.W.Fast.tw994532281006412694:True:=trivial
theorem PySem.W.Fast.tw10118300436698569786:True:=trivial
theorem PySem.W.Fast.tw15199572529016772164:True:=trivial
theorem PySem.W.Fast.tw15818110807281347655:True:=trivial
theorem PySem.W.Fast.tw8886530486481663161:True:=trivial
theorem PySem.W.Fast.tw10037407085977169901:True:=trivial
theorem PySem.W.Fast.tw287484975819834696:True:=trivial
theorem PySem.W.Fast.tw17478770804100785475:True:=trivial
theorem PySem.W.Fast.tw6275232555562225411:True:=trivial
theorem PySem.W.Fast.tw9689733852384196733:True:=trivial
theorem PySem.W.Fast.tw11084394660176283986:True:=trivial
theorem PySem.W.Fast.tw4167301602341648486:True:=trivial
theorem PySem.W.Fast.tw6469560813354450649:True:=trivial
theorem PySem.W.Fast.tw8174817536239290187:True:=trivial
theorem PySem.W.Fast.tw9833633868098752588:True:=trivial
theorem PySem.W.Fast.tw12952998807768863790:True:=trivial
theorem PySem.W.Fast.tw2863632230184098249:True:=trivial
theorem PySem.W.Fast.tw15798138586852626547:True:=trivial
theorem PySem.W.Fast.tw9563805825102912098:True:=trivial
theorem PySem.W.Fast.tw17239882625180007038:True:=trivial
theorem PySem.W.Fast.tw2863453054678270998:True:=trivial
theorem PySem.W.Fast.tw2308875763360050827:True:=trivial
theorem PySem.W.Fast.tw1066846797126616845:True:=trivial
theorem PySem.W.Fast.tw15362396817456921834:True:=trivial
theorem PySem.W.Fast.tw2116281434923654628:True:=trivial
theorem PySem.W.Fast.tw16610613284775636610:True:=trivial
theorem PySem.W.Fast.tw5047438709265753014:True:=trivial
theorem PySem.W.Fast.tw4021047644557148842:True:=trivial
theorem PySem.W.Fast.tw12911958459513849654:True:=trivial
theorem PySem.W.Fast.tw12940535845728844090:True:=trivial
theorem PySem.W.Fast.tw15397732222488991932:True:=trivial
theorem PySem.W.Fast.tw5701020860279454253:True:=trivial
theorem PySem.W.Fast.tw6706415984731281699:True:=trivial
theorem PySem.W.Fast.tw6707116867361001874:True:=trivial
theorem PySem.W.Fast.tw10427279984561756697:True:=trivial
open PySem PySem.W PyProof.Rows
set_option maxRecDepth 100000 in
set_option maxHeartbeats 0 in
theorem PySem.Challenge.cw_lamprota_k09_any_rota_holds : PySem.Challenge.rw_lamprota_k09_any_rota.Holds := by
 w_on;o_law;k_head;(case hw=>w_witness2)
 k_fill
 refine Lp.Jk (l:=PySem.Challenge.rw_lamprota_k09_any_rota) (n:=8) ⟨rfl,by decide,by decide⟩ rfl rfl (fun w h Y=>PySem.W.kIn_of Y) ?F
 case F =>
  intro w mg fa h KX G hmg
  have m0:Lp.ModOf (L2.KOf KX) mg Lp.Law.e0:=by
   dsimp only[L2.KOf]
   refine' Lp.Law.mk0 KX G ?a ?l ?c ?k
   (case a=>k_is);(case l=>k_is);(case c=>k_is);(case k=>k_is)
  have m1:Lp.ModOf (L2.KOf KX) mg Lp.Law.e1:=by
   dsimp only[L2.KOf]
   refine' Lp.Law.mk1 KX G ?a ?l ?c ?k
   (case a=>k_is);(case l=>k_is);(case c=>k_is);(case k=>k_is)
  have m2:Lp.ModOf (L2.KOf KX) mg Lp.Law.e2:=by
   dsimp only[L2.KOf]
   refine' Lp.Law.mk2 KX G ?a ?l ?c ?k
   (case a=>k_is);(case l=>k_is);(case c=>k_is);(case k=>k_is)
  have m3:Lp.ModOf (L2.KOf KX) mg Lp.Law.e3:=by
   dsimp only[L2.KOf]
   refine' Lp.Law.mk3 KX G ?a ?l ?c ?k
   (case a=>k_is);(case l=>k_is);(case c=>k_is);(case k=>k_is)
  have m4:Lp.ModOf (L2.KOf KX) mg Lp.Law.e4:=by
   dsimp only[L2.KOf]
   refine' Lp.Law.mk4 KX G ?a ?l ?c ?k
   (case a=>k_is);(case l=>k_is);(case c=>k_is);(case k=>k_is)
  have m5:Lp.ModOf (L2.KOf KX) mg Lp.Law.e5:=by
   dsimp only[L2.KOf]
   refine' Lp.Law.mk5 KX G ?a ?l ?c ?k
   (case a=>k_is);(case l=>k_is);(case c=>k_is);(case k=>k_is)
  have m6:Lp.ModOf (L2.KOf KX) mg Lp.Law.e6:=by
   dsimp only[L2.KOf]
   refine' Lp.Law.mk6 KX G ?a ?l ?c ?k
   (case a=>k_is);(case l=>k_is);(case c=>k_is);(case k=>k_is)
  have m7:Lp.ModOf (L2.KOf KX) mg Lp.Law.e7:=by
   dsimp only[L2.KOf]
   refine' Lp.Law.mk7 KX G ?a ?l ?c ?k
   (case a=>k_is);(case l=>k_is);(case c=>k_is);(case k=>k_is)
  have m8:Lp.ModOf (L2.KOf KX) mg Lp.Law.e8:=by
   dsimp only[L2.KOf]
   refine' Lp.Law.mk8 KX G ?a ?l ?c ?k
   (case a=>k_is);(case l=>k_is);(case c=>k_is);(case k=>k_is)
  have m9:Lp.ModOf (L2.KOf KX) mg Lp.Law.e9:=by
   dsimp only[L2.KOf]
   refine' Lp.Law.mk9 KX G ?a ?l ?c ?k
   (case a=>k_is);(case l=>k_is);(case c=>k_is);(case k=>k_is)
  have m10:Lp.ModOf (L2.KOf KX) mg Lp.Law.e10:=by
   dsimp only[L2.KOf]
   refine' Lp.Law.Z2 KX G ?a ?l ?c ?k
   (case a=>k_is);(case l=>k_is);(case c=>k_is);(case k=>k_is)
  have m11:Lp.ModOf (L2.KOf KX) mg Lp.Law.e11:=by
   dsimp only[L2.KOf]
   refine' Lp.Law.Z3 KX G ?a ?l ?c ?k
   (case a=>k_is);(case l=>k_is);(case c=>k_is);(case k=>k_is)
  have m12:Lp.ModOf (L2.KOf KX) mg Lp.Law.e12:=by
   dsimp only[L2.KOf]
   refine' Lp.Law.Z4 KX G ?a ?l ?c ?k
   (case a=>k_is);(case l=>k_is);(case c=>k_is);(case k=>k_is)
  have m13:Lp.ModOf (L2.KOf KX) mg Lp.Law.e13:=by
   dsimp only[L2.KOf]
   refine' Lp.Law.Z5 KX G ?a ?l ?c ?k
   (case a=>k_is);(case l=>k_is);(case c=>k_is);(case k=>k_is)
  have m14:Lp.ModOf (L2.KOf KX) mg Lp.Law.e14:=by
   dsimp only[L2.KOf]
   refine' Lp.Law.Z6 KX G ?a ?l ?c ?k
   (case a=>k_is);(case l=>k_is);(case c=>k_is);(case k=>k_is)
  have m15:Lp.ModOf (L2.KOf KX) mg Lp.Law.e15:=by
   dsimp only[L2.KOf]
   refine' Lp.Law.Z7 KX G ?a ?l ?c ?k
   (case a=>k_is);(case l=>k_is);(case c=>k_is);(case k=>k_is)
  have m16:Lp.ModOf (L2.KOf KX) mg Lp.Law.e16:=by
   dsimp only[L2.KOf]
   refine' Lp.Law.Z8 KX G ?a ?l ?c ?k
   (case a=>k_is);(case l=>k_is);(case c=>k_is);(case k=>k_is)
  have m17:Lp.ModOf (L2.KOf KX) mg Lp.Law.e17:=by
   dsimp only[L2.KOf]
   refine' Lp.Law.Z9 KX G ?a ?l ?c ?k
   (case a=>k_is);(case l=>k_is);(case c=>k_is);(case k=>k_is)
  have m18:Lp.ModOf (L2.KOf KX) mg Lp.Law.e18:=by
   dsimp only[L2.KOf]
   refine' Lp.Law.aaa KX G ?a ?l ?c ?k
   (case a=>k_is);(case l=>k_is);(case c=>k_is);(case k=>k_is)
  have m19:Lp.ModOf (L2.KOf KX) mg Lp.Law.e19:=by
   dsimp only[L2.KOf]
   refine' Lp.Law.aab KX G ?a ?l ?c ?k
   (case a=>k_is);(case l=>k_is);(case c=>k_is);(case k=>k_is)
  have m20:Lp.ModOf (L2.KOf KX) mg Lp.Law.e20:=by
   dsimp only[L2.KOf]
   refine' Lp.Law.aac KX G ?a ?l ?c ?k
   (case a=>k_is);(case l=>k_is);(case c=>k_is);(case k=>k_is)
  have m21:Lp.ModOf (L2.KOf KX) mg Lp.Law.e21:=by
   dsimp only[L2.KOf]
   refine' Lp.Law.aad KX G ?a ?l ?c ?k
   (case a=>k_is);(case l=>k_is);(case c=>k_is);(case k=>k_is)
  have m22:Lp.ModOf (L2.KOf KX) mg Lp.Law.e22:=by
   dsimp only[L2.KOf]
   refine' Lp.Law.aae KX G ?a ?l ?c ?k
   (case a=>k_is);(case l=>k_is);(case c=>k_is);(case k=>k_is)
  have m23:Lp.ModOf (L2.KOf KX) mg Lp.Law.e23:=by
   dsimp only[L2.KOf]
   refine' Lp.Law.aaf KX G ?a ?l ?c ?k
   (case a=>k_is);(case l=>k_is);(case c=>k_is);(case k=>k_is)
  have m24:Lp.ModOf (L2.KOf KX) mg Lp.Law.e24:=by
   dsimp only[L2.KOf]
   refine' Lp.Law.aag KX G ?a ?l ?c ?k
   (case a=>k_is);(case l=>k_is);(case c=>k_is);(case k=>k_is)
  have m25:Lp.ModOf (L2.KOf KX) mg Lp.Law.e25:=by
   dsimp only[L2.KOf]
   refine' Lp.Law.aah KX G ?a ?l ?c ?k
   (case a=>k_is);(case l=>k_is);(case c=>k_is);(case k=>k_is)
  have m26:Lp.ModOf (L2.KOf KX) mg Lp.Law.e26:=by
   dsimp only[L2.KOf]
   refine' Lp.Law.aai KX G ?a ?l ?c ?k
   (case a=>k_is);(case l=>k_is);(case c=>k_is);(case k=>k_is)
  have m27:Lp.ModOf (L2.KOf KX) mg Lp.Law.e27:=by
   dsimp only[L2.KOf]
   refine' Lp.Law.aaj KX G ?a ?l ?c ?k
   (case a=>k_is);(case l=>k_is);(case c=>k_is);(case k=>k_is)
  have m28:Lp.ModOf (L2.KOf KX) mg Lp.Law.e28:=by
   dsimp only[L2.KOf]
   refine' Lp.Law.aak KX G ?a ?l ?c ?k
   (case a=>k_is);(case l=>k_is);(case c=>k_is);(case k=>k_is)
  have m29:Lp.ModOf (L2.KOf KX) mg Lp.Law.e29:=by
   dsimp only[L2.KOf]
   refine' Lp.Law.aal KX G ?a ?l ?c ?k
   (case a=>k_is);(case l=>k_is);(case c=>k_is);(case k=>k_is)
  have m30:Lp.ModOf (L2.KOf KX) mg Lp.Law.e30:=by
   dsimp only[L2.KOf]
   refine' Lp.Law.aam KX G ?a ?l ?c ?k
   (case a=>k_is);(case l=>k_is);(case c=>k_is);(case k=>k_is)
  have m31:Lp.ModOf (L2.KOf KX) mg Lp.Law.e31:=by
   dsimp only[L2.KOf]
   refine' Lp.Law.aan KX G ?a ?l ?c ?k
   (case a=>k_is);(case l=>k_is);(case c=>k_is);(case k=>k_is)
  have b0:mg "zip"=none:=by
   refine' AY KX G ?z
   (case z=>k_is)
  have b1:mg "all"=none:=by
   refine' AY KX G ?z
   (case z=>k_is)
  have b2:mg "range"=none:=by
   refine' AY KX G ?z
   (case z=>k_is)
  have b3:mg "tuple"=none:=by
   refine' AY KX G ?z
   (case z=>k_is)
  have b4:mg "any"=none:=by
   refine' AY KX G ?z
   (case z=>k_is)
  have b5:mg "sum"=none:=by
   refine' AY KX G ?z
   (case z=>k_is)
  have b6:mg "len"=none:=by
   refine' AY KX G ?z
   (case z=>k_is)
  have b7:mg "min"=none:=by
   refine' AY KX G ?z
   (case z=>k_is)
  have b8:mg "enumerate"=none:=by
   refine' AY KX G ?z
   (case z=>k_is)
  have b9:mg "isinstance"=none:=by
   refine' AY KX G ?z
   (case z=>k_is)
  have b10:mg "int"=none:=by
   refine' AY KX G ?z
   (case z=>k_is)
  have b11:mg "bool"=none:=by
   refine' AY KX G ?z
   (case z=>k_is)
  have b12:mg "max"=none:=by
   refine' AY KX G ?z
   (case z=>k_is)
  have b13:mg "sorted"=none:=by
   refine' AY KX G ?z
   (case z=>k_is)
  have b14:mg "set"=none:=by
   refine' AY KX G ?z
   (case z=>k_is)
  have b15:mg "str"=none:=by
   refine' AY KX G ?z
   (case z=>k_is)
  have b16:mg "list"=none:=by
   refine' AY KX G ?z
   (case z=>k_is)
  have b17:mg "reversed"=none:=by
   refine' AY KX G ?z
   (case z=>k_is)
  exact Lp.M9 (T:=Lp.GL) (es:=Lp.Law.ents) (n:=8) (j:=31) (e:=Lp.Law.e31) (Lp.Law.mods m0 m1 m2 m3 m4 m5 m6 m7 m8 m9 m10 m11 m12 m13 m14 m15 m16 m17 m18 m19 m20 m21 m22 m23 m24 m25 m26 m27 m28 m29 m30 m31) (fun base=>Lp.Law.dvs (Lp.Law.nob b0 b1 b2 b3 b4 b5 b6 b7 b8 b9 b10 b11 b12 b13 b14 b15 b16 b17)) rfl hmg rfl (fun ns hn=>Lr.Vn ns)
#print axioms PySem.Challenge.cw_lamprota_k09_any_rota_holds
